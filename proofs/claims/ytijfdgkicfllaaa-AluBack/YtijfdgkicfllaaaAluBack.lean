/-
  Proved: for every a, b and c of 32 bits deadlatchlaw01.AluBack returns true (what is added is taken away again, products of sums are sums of products), and its arguments read as before; no condition.
-/
import Derived.Test.YtijfdgkicfllaaaRows
import Derived.Test.YtijfdgkicfllaaaDo
import Derived.WalkKit
import Derived.ProofKit
import Derived.OpenShut
namespace Go.Proofs.Ytijfdgkicfllaaa.aluBack
open Go.ChangeShapes Go.WideShapes Go.ChangeAt Go.RowKit
set_option linter.unusedVariables false

theorem own : ownKnob Try.prog.godebug = none := by kernel_rfl

theorem m_add_sub (a b : Int) (ha : U32 a) (hb : U32 b) : (doI 4 (doI 3 a b) b == a) = true := by
  obtain ⟨m, rfl, hm⟩ := u32_nat ha
  obtain ⟨n, rfl, hn⟩ := u32_nat hb
  rw [beq_iff_eq, doI_nat 3 m n hm hn, doI_nat 4 _ n (doF_lt _ _ _ hm hn) hn]
  simp [doF]
  omega
theorem m_add_sub' (a b : Int) (ha : U32 a) (hb : U32 b) : (doI 4 (doI 3 a b) a == b) = true := by
  obtain ⟨m, rfl, hm⟩ := u32_nat ha
  obtain ⟨n, rfl, hn⟩ := u32_nat hb
  rw [beq_iff_eq, doI_nat 3 m n hm hn, doI_nat 4 _ m (doF_lt _ _ _ hm hn) hm]
  simp [doF]
  omega
theorem m_minus (a : Int) (ha : U32 a) : (doI 3 a (doI 4 0 a) == 0) = true := by
  obtain ⟨m, rfl, hm⟩ := u32_nat ha
  have h0 : doI 4 0 m = doF 4 0 m := doI_nat 4 0 m (by omega) hm
  rw [beq_iff_eq, h0, doI_nat 3 m _ hm (doF_lt _ _ _ (by omega) hm)]
  simp [doF]
  omega
theorem m_mul (a b c : Int) (ha : U32 a) (hb : U32 b) (hc : U32 c) : (doI 5 (doI 3 a b) c == doI 3 (doI 5 a c) (doI 5 b c)) = true := by
  obtain ⟨m, rfl, hm⟩ := u32_nat ha
  obtain ⟨n, rfl, hn⟩ := u32_nat hb
  obtain ⟨k, rfl, hk⟩ := u32_nat hc
  rw [beq_iff_eq, doI_nat 3 m n hm hn, doI_nat 5 m k hm hk, doI_nat 5 n k hn hk, doI_nat 5 _ k (doF_lt _ _ _ hm hn) hk, doI_nat 3 _ _ (doF_lt _ _ _ hm hk) (doF_lt _ _ _ hn hk)]
  have h : (m + n) % 4294967296 * k % 4294967296 = (m * k % 4294967296 + n * k % 4294967296) % 4294967296 := by
    rw [Nat.mod_mul_mod, Nat.add_mul, Nat.add_mod]
  have h' : doF 5 (doF 3 m n) k = doF 3 (doF 5 m k) (doF 5 n k) := h
  rw [h']
theorem m_xor (a b : Int) (ha : U32 a) (hb : U32 b) : (doI 8 (doI 8 a b) b == a) = true := by
  obtain ⟨m, rfl, hm⟩ := u32_nat ha
  obtain ⟨n, rfl, hn⟩ := u32_nat hb
  rw [beq_iff_eq, doI_nat 8 m n hm hn, doI_nat 8 _ n (doF_lt _ _ _ hm hn) hn]
  have h : doF 8 (doF 8 m n) n = m := by
    show (m ^^^ n) ^^^ n = m
    rw [Nat.xor_assoc, Nat.xor_self, Nat.xor_zero]
  rw [h]

set_option maxHeartbeats 1000000 in

theorem walk (a0 : Int) (a1 : Int) (a2 : Int) (w0 : (Lit.int .u32 a0).wf = true) (w1 : (Lit.int .u32 a1).wf = true) (w2 : (Lit.int .u32 a2).wf = true) (w : World) :
    Calls Try.prog 5 #[.int .u32 a0, .int .u32 a1, .int .u32 a2] w fun e w' => e = .returned (.bool true) ∧ Gr w w' := by
  have u0 := u32_of_wf w0
  have u1 := u32_of_wf w1
  have u2 := u32_of_wf w2
  have e1 := m_add_sub a0 a1 u0 u1
  have e2 := m_add_sub' a0 a1 u0 u1
  have e3 := m_minus a0 u0
  have e4 := m_mul a0 a1 a2 u0 u1 u2
  have e5 := m_xor a0 a1 u0 u1
  clear w0 w1 w2
  go_enter Try.func5, Try.ntmps5
  go_wp2_with (first | (go_at_call 8; refine (awake_calls _).mono ?_; rintro e wa ⟨rfl, hga⟩) | (go_at_call 15; refine (doI_calls _ _ _ (by omega) (by omega) (by first | exact u0 | exact u1 | exact u32_doI _ _ _) (by first | exact u0 | exact u1 | exact u2 | exact u32_doI _ _ _) _).mono ?_; rintro e wa ⟨rfl, hga⟩) | (go_at_call 12; refine (minusI_calls _ u0 _).mono ?_; rintro e wb ⟨rfl, rfl⟩))
  go_ret
  exact ⟨rfl, by repeat (first | assumption | exact Gr.refl _ | (refine grown_trans ?_ (by assumption)))⟩

set_option maxRecDepth 100000 in
theorem lifted (os : Os) (started : os.Started) (H : Type) (enc : TypeId × Value → H) :
    ReturnsInHanded {} Try.checked os 5 .any (Rows.aluBackSpec.pre6 enc Try.prog Try.f5 Rows.aluBackRow.domain false) (Rows.aluBackSpec.post enc Try.prog Try.f5 false true false false) := by
  refine returnsInHanded_of_change (C := Try.checked) own started (by kernel_rfl) Try.func5
    (ChangeSpec.witness6 (enc := enc) (C := Try.checked) false ⟨#[], #[.int .u32 0, .int .u32 0, .int .u32 0], []⟩ 8 (by kernel_rfl) (by kernel_rfl) (by kernel_rfl) (by kernel_rfl)) ?_
  intro W base args ds gs before hval0 hW hcnd _
  have hval : ∀ (j : Nat) t v, Try.f5.params[j]? = some t → args[j]? = some v → Value.okWide Try.prog W .any base t v := hval0
  have hW' := hW
  obtain ⟨p, q, hA0, hV, rfl, hfz, hnd⟩ := hW
  have hA : DataW.TrodAll enc Try.prog W 0 (fun _ => true) true Try.f5.params.toList args.toList ds p := hA0
  rw [Try.params5] at hA hval
  obtain ⟨v0, vs0, d0, ds0, p0, q0, hargs, rfl, rfl, h0, r0⟩ := trodAll_cons hA
  obtain ⟨v1, vs1, d1, ds1, p1, q1, rfl, rfl, rfl, h1, r1⟩ := trodAll_cons r0
  obtain ⟨v2, vs2, d2, ds2, p2, q2, rfl, rfl, rfl, h2, r2⟩ := trodAll_cons r1
  obtain ⟨rfl, rfl, rfl⟩ := trodAll_nil r2
  obtain rfl : args = #[v0, v1, v2] := by cases args; simp_all
  obtain ⟨rfl, rfl⟩ := trodVars_none hV
  obtain ⟨a0, rfl, rfl, rfl, w0⟩ := open_int Try.underlying22 (hval 0 22 v0 rfl rfl) h0
  obtain ⟨a1, rfl, rfl, rfl, w1⟩ := open_int Try.underlying22 (hval 1 22 v1 rfl rfl) h1
  obtain ⟨a2, rfl, rfl, rfl, w2⟩ := open_int Try.underlying22 (hval 2 22 v2 rfl rfl) h2
  clear hA0 hval0
  simp only [List.append_nil] at hW'
  refine (walk a0 a1 a2 w0 w1 w2 W).mono fun e W' ⟨he, hg⟩ => ?_
  subst he
  exact ⟨_, rfl, post_of_same (pa := []) (pv := []) hW' (fun _ _ _ => (trodAll_cons_mk (shut_bool Try.underlying4 _) trodAll_mk0)) (fun sp _ => (trodAll_cons_mk (shut_int Try.underlying22 w0) (trodAll_cons_mk (shut_int Try.underlying22 w1) (trodAll_cons_mk (shut_int Try.underlying22 w2) trodAll_mk0)))) (fun _ _ => rfl) rfl
    (hg.1.frame _) hg.1.2.1 (ok_one (by kernel_rfl) rfl (okWide_bool_mk Try.underlying4 _))⟩

theorem over : Rows.aluBackRow.holds Try.pinned (OpenSpec.ofChange Rows.aluBackSpec) :=
  OpenClaim.holds_of_wide 5 Try.f5 rfl rfl rfl rfl rfl rfl rfl ⟨rfl, rfl, rfl, rfl, rfl⟩ rfl rfl rfl rfl rfl (by kernel_rfl) Try.func5 (by kernel_rfl)
    (of_decide_eq_true (by kernel_rfl)) (by unfold Func.isWrapper; first | (rw [if_pos (by decide +kernel)]; kernel_rfl) | (rw [if_neg (by decide +kernel)]; exact ⟨rfl, rfl⟩))
    (fun os started H enc _ => lifted os started H enc)

end Go.Proofs.Ytijfdgkicfllaaa.aluBack

namespace Go.Proofs.Ytijfdgkicfllaaa
theorem aluBack_holds : Rows.AluBackSaid := aluBack.over
end Go.Proofs.Ytijfdgkicfllaaa
