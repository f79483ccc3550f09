/-
  Proved: for every a and b of 32 bits deadlatchlaw01.AluOrder returns true (of two words just one is less, or they are the same; what is moved up by one is added to itself), and its arguments read as before; no condition.
-/
import Derived.Test.YtijfdgkicfllaaaRows
import Derived.Test.YtijfdgkicfllaaaDo
import Derived.WalkKit
import Derived.ProofKit
import Derived.OpenShut
namespace Go.Proofs.Ytijfdgkicfllaaa.aluOrder
open Go.ChangeShapes Go.WideShapes Go.ChangeAt Go.RowKit
set_option linter.unusedVariables false

theorem own : ownKnob Try.prog.godebug = none := by kernel_rfl

theorem m_one (a b : Int) (ha : U32 a) (hb : U32 b) : ((doI 11 a b + doI 11 b a + doI 12 a b) % 4294967296 == 1) = true := by
  obtain ⟨m, rfl, hm⟩ := u32_nat ha
  obtain ⟨n, rfl, hn⟩ := u32_nat hb
  rw [beq_iff_eq, doI_nat 11 m n hm hn, doI_nat 11 n m hn hm, doI_nat 12 m n hm hn]
  have e1 : doF 11 m n = if m < n then 1 else 0 := rfl
  have e2 : doF 11 n m = if n < m then 1 else 0 := rfl
  have e3 : doF 12 m n = if m = n then 1 else 0 := rfl
  rw [e1, e2, e3]
  split <;> split <;> split <;> omega
theorem m_up (a : Int) (ha : U32 a) : (doI 9 a 1 == doI 3 a a) = true := by
  obtain ⟨m, rfl, hm⟩ := u32_nat ha
  have h1 : doI 9 m 1 = doF 9 m 1 := doI_nat 9 m 1 hm (by omega)
  rw [beq_iff_eq, h1, doI_nat 3 m m hm hm]
  have e1 : doF 9 m 1 = (m * 2 ^ 1) % 4294967296 := rfl
  have e2 : doF 3 m m = (m + m) % 4294967296 := rfl
  rw [e1, e2]
  omega
theorem m_down (a : Int) (ha : U32 a) : (doI 10 (doI 9 a 1) 1 == doI 6 a 2147483647) = true := by
  obtain ⟨m, rfl, hm⟩ := u32_nat ha
  have h1 : doI 9 m 1 = doF 9 m 1 := doI_nat 9 m 1 hm (by omega)
  have h2 : doI 10 (doF 9 m 1) 1 = doF 10 (doF 9 m 1) 1 := doI_nat 10 _ 1 (doF_lt _ _ _ hm (by omega)) (by omega)
  have h3 : doI 6 m 2147483647 = doF 6 m 2147483647 := doI_nat 6 m 2147483647 hm (by omega)
  rw [beq_iff_eq, h1, h2, h3]
  have e1 : doF 9 m 1 = (m * 2 ^ 1) % 4294967296 := rfl
  have e2 : doF 10 (doF 9 m 1) 1 = doF 9 m 1 / 2 ^ 1 := rfl
  have e3 : doF 6 m 2147483647 = m &&& 2147483647 := rfl
  have e4 : m &&& 2147483647 = m % 2147483648 := Nat.and_two_pow_sub_one_eq_mod m 31
  rw [e2, e1, e3, e4]
  omega

set_option maxHeartbeats 1000000 in

theorem walk (a0 : Int) (a1 : Int) (w0 : (Lit.int .u32 a0).wf = true) (w1 : (Lit.int .u32 a1).wf = true) (w : World) :
    Calls Try.prog 6 #[.int .u32 a0, .int .u32 a1] w fun e w' => e = .returned (.bool true) ∧ Gr w w' := by
  have u0 := u32_of_wf w0
  have u1 := u32_of_wf w1
  have u2 : U32 1 := ⟨by omega, by omega⟩
  have u3 : U32 2147483647 := ⟨by omega, by omega⟩
  have e1 := m_one a0 a1 u0 u1
  have e2 := m_up a0 u0
  have e3 := m_down a0 u0
  clear w0 w1
  go_enter Try.func6, Try.ntmps6
  go_wp2_with (first | (go_at_call 8; refine (awake_calls _).mono ?_; rintro e wa ⟨rfl, hga⟩) | (go_at_call 15; refine (doI_calls _ _ _ (by omega) (by omega) (by first | exact u0 | exact u1 | exact u32_doI _ _ _) (by first | exact u0 | exact u1 | exact u2 | exact u3 | exact u32_doI _ _ _) _).mono ?_; rintro e wa ⟨rfl, hga⟩))
  go_ret
  exact ⟨rfl, by repeat (first | assumption | exact Gr.refl _ | (refine grown_trans ?_ (by assumption)))⟩

set_option maxRecDepth 100000 in
theorem lifted (os : Os) (started : os.Started) (H : Type) (enc : TypeId × Value → H) :
    ReturnsInHanded {} Try.checked os 6 .any (Rows.aluOrderSpec.pre6 enc Try.prog Try.f6 Rows.aluOrderRow.domain false) (Rows.aluOrderSpec.post enc Try.prog Try.f6 false true false false) := by
  refine returnsInHanded_of_change (C := Try.checked) own started (by kernel_rfl) Try.func6
    (ChangeSpec.witness6 (enc := enc) (C := Try.checked) false ⟨#[], #[.int .u32 0, .int .u32 0], []⟩ 8 (by kernel_rfl) (by kernel_rfl) (by kernel_rfl) (by kernel_rfl)) ?_
  intro W base args ds gs before hval0 hW hcnd _
  have hval : ∀ (j : Nat) t v, Try.f6.params[j]? = some t → args[j]? = some v → Value.okWide Try.prog W .any base t v := hval0
  have hW' := hW
  obtain ⟨p, q, hA0, hV, rfl, hfz, hnd⟩ := hW
  have hA : DataW.TrodAll enc Try.prog W 0 (fun _ => true) true Try.f6.params.toList args.toList ds p := hA0
  rw [Try.params6] at hA hval
  obtain ⟨v0, vs0, d0, ds0, p0, q0, hargs, rfl, rfl, h0, r0⟩ := trodAll_cons hA
  obtain ⟨v1, vs1, d1, ds1, p1, q1, rfl, rfl, rfl, h1, r1⟩ := trodAll_cons r0
  obtain ⟨rfl, rfl, rfl⟩ := trodAll_nil r1
  obtain rfl : args = #[v0, v1] := by cases args; simp_all
  obtain ⟨rfl, rfl⟩ := trodVars_none hV
  obtain ⟨a0, rfl, rfl, rfl, w0⟩ := open_int Try.underlying22 (hval 0 22 v0 rfl rfl) h0
  obtain ⟨a1, rfl, rfl, rfl, w1⟩ := open_int Try.underlying22 (hval 1 22 v1 rfl rfl) h1
  clear hA0 hval0
  simp only [List.append_nil] at hW'
  refine (walk a0 a1 w0 w1 W).mono fun e W' ⟨he, hg⟩ => ?_
  subst he
  exact ⟨_, rfl, post_of_same (pa := []) (pv := []) hW' (fun _ _ _ => (trodAll_cons_mk (shut_bool Try.underlying4 _) trodAll_mk0)) (fun sp _ => (trodAll_cons_mk (shut_int Try.underlying22 w0) (trodAll_cons_mk (shut_int Try.underlying22 w1) trodAll_mk0))) (fun _ _ => rfl) rfl
    (hg.1.frame _) hg.1.2.1 (ok_one (by kernel_rfl) rfl (okWide_bool_mk Try.underlying4 _))⟩

theorem over : Rows.aluOrderRow.holds Try.pinned (OpenSpec.ofChange Rows.aluOrderSpec) :=
  OpenClaim.holds_of_wide 6 Try.f6 rfl rfl rfl rfl rfl rfl rfl ⟨rfl, rfl, rfl, rfl, rfl⟩ rfl rfl rfl rfl rfl (by kernel_rfl) Try.func6 (by kernel_rfl)
    (of_decide_eq_true (by kernel_rfl)) (by unfold Func.isWrapper; first | (rw [if_pos (by decide +kernel)]; kernel_rfl) | (rw [if_neg (by decide +kernel)]; exact ⟨rfl, rfl⟩))
    (fun os started H enc _ => lifted os started H enc)

end Go.Proofs.Ytijfdgkicfllaaa.aluOrder

namespace Go.Proofs.Ytijfdgkicfllaaa
theorem aluOrder_holds : Rows.AluOrderSaid := aluOrder.over
end Go.Proofs.Ytijfdgkicfllaaa
