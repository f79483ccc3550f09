/-
  Proved: for every op of 64 bits and every a and b of 32 deadlatchlaw01.AluPlays returns true (what any operation makes of any two words is the document's, bit by bit), and its arguments read as before; no condition.
-/
import Derived.Test.YtijfdgkicfllaaaRows
import Derived.Test.YtijfdgkicfllaaaRef3
import Derived.WalkKit
import Derived.ProofKit
import Derived.OpenShut
namespace Go.Proofs.Ytijfdgkicfllaaa.aluPlays
open Go.ChangeShapes Go.WideShapes Go.ChangeAt Go.RowKit
set_option linter.unusedVariables false

theorem own : ownKnob Try.prog.godebug = none := by kernel_rfl

theorem isN_one (op : Int) : ((isN op : Int) == 1) = (decide (3 ≤ op) && decide (op ≤ 12)) := by
  unfold isN
  by_cases h : 3 ≤ op ∧ op ≤ 12
  · rw [if_pos h]; simp [h.1, h.2]
  · rw [if_neg h]
    by_cases h1 : 3 ≤ op
    · have h2 : ¬ op ≤ 12 := fun h2 => h ⟨h1, h2⟩
      simp [h2]
    · simp [h1]

set_option maxHeartbeats 1000000 in

theorem walk (a0 : Int) (a1 : Int) (a2 : Int) (w0 : (Lit.int .i64 a0).wf = true) (w1 : (Lit.int .u32 a1).wf = true) (w2 : (Lit.int .u32 a2).wf = true) (w : World) :
    Calls Try.prog 3 #[.int .i64 a0, .int .u32 a1, .int .u32 a2] w fun e w' => e = .returned (.bool true) ∧ Gr w w' := by
  have u1 := u32_of_wf w1
  have u2 := u32_of_wf w2
  clear w0 w1 w2
  have s0 : (doI 4 0 a1 == doI 4 0 a1) = true := beq_self_eq_true _
  obtain ⟨m, rfl, hm⟩ := u32_nat u1
  obtain ⟨n, rfl, hn⟩ := u32_nat u2
  by_cases h : 3 ≤ a0 ∧ a0 ≤ 12
  · have hi : (decide (3 ≤ a0) && decide (a0 ≤ 12)) = true := by simp [h.1, h.2]
    have h1 : ((isN a0 : Int) == 1) = true := by rw [isN_one, hi]
    obtain ⟨h3, h12⟩ := h
    go_enter Try.func3, Try.ntmps3
    go_wp2_with (first | (go_at_call 8; refine (awake_calls _).mono ?_; rintro e wa ⟨rfl, hga⟩) | (go_at_call 9; refine (do_yes a0 m n h3 h12 hm hn _).mono ?_; rintro e wb ⟨rfl, hgb⟩) | (go_at_call 10; refine (ref_do a0 m n hm hn _).mono ?_; rintro e wc ⟨rfl, hgc⟩) | (go_at_call 11; refine (is_calls a0 _).mono ?_; rw [hi]; rintro e wd ⟨rfl, rfl⟩) | (go_at_call 12; refine (minus_calls m hm _).mono ?_; rintro e wd ⟨rfl, rfl⟩) | (go_at_call 13; refine (minus_ref m hm _).mono ?_; rintro e we ⟨rfl, hge⟩))
    go_ret
    exact ⟨rfl, by repeat (first | assumption | exact Gr.refl _ | (refine grown_trans ?_ (by assumption)))⟩
  · have hi : (decide (3 ≤ a0) && decide (a0 ≤ 12)) = false := by
      by_cases h3 : 3 ≤ a0
      · have h2 : ¬ a0 ≤ 12 := fun h2 => h ⟨h3, h2⟩
        simp [h2]
      · simp [h3]
    have h1 : ((isN a0 : Int) == 1) = false := by rw [isN_one, hi]
    have hz : doF a0 m n = 0 := by
      unfold doF
      rw [if_neg (by omega), if_neg (by omega), if_neg (by omega), if_neg (by omega), if_neg (by omega), if_neg (by omega), if_neg (by omega), if_neg (by omega), if_neg (by omega), if_neg (by omega)]
    have hor : a0 < 3 ∨ 12 < a0 := by omega
    have HZ := hide hz
    clear hz h
    go_enter Try.func3, Try.ntmps3
    go_wp2_with (first | (go_at_call 8; refine (awake_calls _).mono ?_; rintro e wa ⟨rfl, hga⟩) | (go_at_call 9; refine (do_no a0 m n hor _).mono ?_; rintro e wb ⟨rfl, rfl⟩) | (go_at_call 10; refine (ref_do a0 m n hm hn _).mono ?_; rw [HZ.out]; rintro e wc ⟨rfl, hgc⟩) | (go_at_call 11; refine (is_calls a0 _).mono ?_; rw [hi]; rintro e wd ⟨rfl, rfl⟩) | (go_at_call 12; refine (minus_calls m hm _).mono ?_; rintro e wd ⟨rfl, rfl⟩) | (go_at_call 13; refine (minus_ref m hm _).mono ?_; rintro e we ⟨rfl, hge⟩))
    go_ret
    exact ⟨rfl, by repeat (first | assumption | exact Gr.refl _ | (refine grown_trans ?_ (by assumption)))⟩

set_option maxRecDepth 100000 in
theorem lifted (os : Os) (started : os.Started) (H : Type) (enc : TypeId × Value → H) :
    ReturnsInHanded {} Try.checked os 3 .any (Rows.aluPlaysSpec.pre6 enc Try.prog Try.f3 Rows.aluPlaysRow.domain false) (Rows.aluPlaysSpec.post enc Try.prog Try.f3 false true false false) := by
  refine returnsInHanded_of_change (C := Try.checked) own started (by kernel_rfl) Try.func3
    (ChangeSpec.witness6 (enc := enc) (C := Try.checked) false ⟨#[], #[.int .i64 0, .int .u32 0, .int .u32 0], []⟩ 8 (by kernel_rfl) (by kernel_rfl) (by kernel_rfl) (by kernel_rfl)) ?_
  intro W base args ds gs before hval0 hW hcnd _
  have hval : ∀ (j : Nat) t v, Try.f3.params[j]? = some t → args[j]? = some v → Value.okWide Try.prog W .any base t v := hval0
  have hW' := hW
  obtain ⟨p, q, hA0, hV, rfl, hfz, hnd⟩ := hW
  have hA : DataW.TrodAll enc Try.prog W 0 (fun _ => true) true Try.f3.params.toList args.toList ds p := hA0
  rw [Try.params3] at hA hval
  obtain ⟨v0, vs0, d0, ds0, p0, q0, hargs, rfl, rfl, h0, r0⟩ := trodAll_cons hA
  obtain ⟨v1, vs1, d1, ds1, p1, q1, rfl, rfl, rfl, h1, r1⟩ := trodAll_cons r0
  obtain ⟨v2, vs2, d2, ds2, p2, q2, rfl, rfl, rfl, h2, r2⟩ := trodAll_cons r1
  obtain ⟨rfl, rfl, rfl⟩ := trodAll_nil r2
  obtain rfl : args = #[v0, v1, v2] := by cases args; simp_all
  obtain ⟨rfl, rfl⟩ := trodVars_none hV
  obtain ⟨a0, rfl, rfl, rfl, w0⟩ := open_int Try.underlying3 (hval 0 3 v0 rfl rfl) h0
  obtain ⟨a1, rfl, rfl, rfl, w1⟩ := open_int Try.underlying22 (hval 1 22 v1 rfl rfl) h1
  obtain ⟨a2, rfl, rfl, rfl, w2⟩ := open_int Try.underlying22 (hval 2 22 v2 rfl rfl) h2
  clear hA0 hval0
  simp only [List.append_nil] at hW'
  refine (walk a0 a1 a2 w0 w1 w2 W).mono fun e W' ⟨he, hg⟩ => ?_
  subst he
  exact ⟨_, rfl, post_of_same (pa := []) (pv := []) hW' (fun _ _ _ => (trodAll_cons_mk (shut_bool Try.underlying4 _) trodAll_mk0)) (fun sp _ => (trodAll_cons_mk (shut_int Try.underlying3 w0) (trodAll_cons_mk (shut_int Try.underlying22 w1) (trodAll_cons_mk (shut_int Try.underlying22 w2) trodAll_mk0)))) (fun _ _ => rfl) rfl
    (hg.1.frame _) hg.1.2.1 (ok_one (by kernel_rfl) rfl (okWide_bool_mk Try.underlying4 _))⟩

theorem over : Rows.aluPlaysRow.holds Try.pinned (OpenSpec.ofChange Rows.aluPlaysSpec) :=
  OpenClaim.holds_of_wide 3 Try.f3 rfl rfl rfl rfl rfl rfl rfl ⟨rfl, rfl, rfl, rfl, rfl⟩ rfl rfl rfl rfl rfl (by kernel_rfl) Try.func3 (by kernel_rfl)
    (of_decide_eq_true (by kernel_rfl)) (by unfold Func.isWrapper; first | (rw [if_pos (by decide +kernel)]; kernel_rfl) | (rw [if_neg (by decide +kernel)]; exact ⟨rfl, rfl⟩))
    (fun os started H enc _ => lifted os started H enc)

end Go.Proofs.Ytijfdgkicfllaaa.aluPlays

namespace Go.Proofs.Ytijfdgkicfllaaa
theorem aluPlays_holds : Rows.AluPlaysSaid := aluPlays.over
end Go.Proofs.Ytijfdgkicfllaaa
