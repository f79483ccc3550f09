/-
  Proved: for every number of 8 bits, every slice of entries and every entry deadlatchlaw05.BufKeeps returns true (a buffer is a value: what is made of it leaves it as it was), and its arguments read as before; no condition.
-/
import Derived.Test.YtiogacfejchimaaRows
import Derived.Test.YtiogacfejchimaaKeepW
import Derived.Test.YtiogacfejchimaaOpen
import Derived.WalkKit
import Derived.ProofKit
import Derived.OpenShut
import Derived.ShutString
import Derived.ChangeOld
import Derived.Below
namespace Go.Proofs.Ytiogacfejchimaa.bufKeeps
open Go.ChangeShapes Go.WideShapes Go.ChangeAt Go.RowKit
set_option linter.unusedVariables false

theorem own : ownKnob Try.prog.godebug = none := by kernel_rfl
theorem laidOut : laidOutB Try.prog = true := by kernel_rfl

set_option maxHeartbeats 400000 in
theorem many (rm : Int) (ad : Option Addr) (cap : Nat) (x : Ent) (n : Nat) (hn : 300 < n) (hm : n ≤ maxLen) (w : World) :
    Calls Try.prog 6 #[.int .u8 rm, .slice ad n cap, .agg #[.int .i64 x.a, .int .u32 x.v]] w fun e w' => e = .returned (.bool true) ∧ Gr w w' := by
  unfold maxLen at hm
  go_enter Try.func6, Try.ntmps6
  go_wp2_with (fail)
  refine (awake_calls _).mono ?_
  rintro e w1 ⟨rfl, g1⟩
  go_wp2_with (fail)
  refine (awake_calls _).mono ?_
  rintro e w2 ⟨rfl, g2⟩
  go_wp2_with (fail)
  go_ret
  exact ⟨rfl, (((Gr.refl w).alloc _ _).trans g1).trans g2⟩

theorem walk (a0 : Int) (w0 : (Lit.int .u8 a0).wf = true) (ad : Option Addr) (cap : Nat) (l : List Ent) (x : Ent) (w : World) (he : EntsAt w ad l) (hm : l.length ≤ maxLen) :
    Calls Try.prog 6 #[.int .u8 a0, .slice ad l.length cap, .agg #[.int .i64 x.a, .int .u32 x.v]] w fun e w' => e = .returned (.bool true) ∧ Gr w w' := by
  have hb := bounds_u8 w0
  obtain ⟨k, rfl⟩ : ∃ k : Nat, a0 = k := ⟨a0.toNat, by omega⟩
  by_cases h : l.length ≤ 300
  · exact keeps_few k (by omega) ad cap l h x w he
  · exact many k ad cap x l.length (by omega) hm w

set_option maxRecDepth 100000 in
theorem lifted (os : Os) (started : os.Started) (H : Type) (enc : TypeId × Value → H) :
    ReturnsInHanded {} Try.checked os 6 .any (Rows.bufKeepsSpec.pre6 enc Try.prog Try.f6 Rows.bufKeepsRow.domain false) (Rows.bufKeepsSpec.post enc Try.prog Try.f6 false true false false) := by
  refine returnsInHanded_of_change (C := Try.checked) own started (by kernel_rfl) Try.func6
    (ChangeSpec.witness6 (enc := enc) (C := Try.checked) false ⟨#[], #[.int .u8 0, .slice none 0 0, .agg #[.int .i64 0, .int .u32 0]], []⟩ 8 (by kernel_rfl) (by kernel_rfl) (by kernel_rfl) (by kernel_rfl)) ?_
  intro W base args ds gs before hval0 hW hcnd _
  have hval : ∀ (j : Nat) t v, Try.f6.params[j]? = some t → args[j]? = some v → Value.okWide Try.prog W .any base t v := hval0
  have hW' := hW
  obtain ⟨p, q, hA0, hV, rfl, hfz, hnd⟩ := hW
  have hA : DataW.TrodAll enc Try.prog W 0 (fun _ => true) true Try.f6.params.toList args.toList ds p := hA0
  rw [Try.params6] at hA hval
  obtain ⟨v0, vs0, d0, ds0, p0, q0, hargs, rfl, rfl, h0, r0⟩ := trodAll_cons hA
  obtain ⟨v1, vs1, d1, ds1, p1, q1, rfl, rfl, rfl, h1, r1⟩ := trodAll_cons r0
  obtain ⟨v2, vs2, d2, ds2, p2, q2, rfl, rfl, rfl, h2, r2⟩ := trodAll_cons r1
  obtain ⟨rfl, rfl, rfl⟩ := trodAll_nil r2
  obtain rfl : args = #[v0, v1, v2] := by cases args; simp_all
  obtain ⟨rfl, rfl⟩ := trodVars_none hV
  obtain ⟨a0, rfl, rfl, rfl, w0⟩ := open_int Try.underlying5 (hval 0 5 v0 rfl rfl) h0
  have k1 := h1
  have lt1 : ∀ x ∈ p1, x.block < W.heap.size := by obtain ⟨m, hm⟩ := k1; exact DataW.trod_lt m _ _ _ hm
  obtain ⟨aa1, la1, ca1, rfl⟩ := okWide_slice Try.underlying34 (hval 1 34 v1 rfl rfl)
  obtain ⟨ad1, cap1, l1, hv1, he1, hm1⟩ : ∃ a cap l, Value.slice aa1 la1 ca1 = .slice a (l : List Ent).length cap ∧ EntsAt W a l ∧ l.length ≤ maxLen := by
    obtain ⟨fuel, hf⟩ := h1
    exact open_ents hf
  rw [hv1] at k1 hW' ⊢
  have k2 := h2
  have lt2 : ∀ x ∈ p2, x.block < W.heap.size := by obtain ⟨m, hm⟩ := k2; exact DataW.trod_lt m _ _ _ hm
  obtain ⟨x2, rfl⟩ := open_entval (hval 2 26 v2 rfl rfl) h2
  clear hA0 hval0
  refine (walk a0 w0 ad1 cap1 l1 x2 W he1 hm1).mono fun e W' ⟨hee, bel⟩ => ?_
  subst hee
  exact ⟨_, rfl, _, _, _, [], _, [], hW', trodAll_mk1 (shut_bool Try.underlying4 _), (trodAll_cons_mk (shut_int Try.underlying5 w0) (trodAll_cons_mk (Below.trod laidOut (by kernel_rfl) (of_decide_eq_true (by kernel_rfl)) k1 bel lt1) (trodAll_cons_mk (Below.trod laidOut (by kernel_rfl) (of_decide_eq_true (by kernel_rfl)) k2 bel lt2) trodAll_mk0))), rfl, bel.frame _, fun h => by cases h⟩

theorem over : Rows.bufKeepsRow.holds Try.pinned (OpenSpec.ofChange Rows.bufKeepsSpec) :=
  OpenClaim.holds_of_wide 6 Try.f6 rfl rfl rfl rfl rfl rfl rfl ⟨rfl, rfl, rfl, rfl, rfl⟩ rfl rfl rfl rfl rfl (by kernel_rfl) Try.func6 (by kernel_rfl)
    (of_decide_eq_true (by kernel_rfl)) (by unfold Func.isWrapper; first | (rw [if_pos (by decide +kernel)]; kernel_rfl) | (rw [if_neg (by decide +kernel)]; exact ⟨rfl, rfl⟩))
    (fun os started H enc _ => lifted os started H enc)

end Go.Proofs.Ytiogacfejchimaa.bufKeeps

namespace Go.Proofs.Ytiogacfejchimaa
theorem bufKeeps_holds : Rows.BufKeepsSaid := bufKeeps.over
end Go.Proofs.Ytiogacfejchimaa
