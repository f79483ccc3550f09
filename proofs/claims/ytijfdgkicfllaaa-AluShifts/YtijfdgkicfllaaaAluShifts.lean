/-
  Proved: for every a of 32 bits, by of 8 and more of 16 deadlatchlaw01.AluShifts returns true (what is moved up is multiplied by 2 as often, moved down divided), and its arguments read as before; no condition.
-/
import Derived.Test.YtijfdgkicfllaaaRows
import Derived.Test.YtijfdgkicfllaaaDo
import Derived.WalkKit
import Derived.ProofKit
import Derived.OpenShut
namespace Go.Proofs.Ytijfdgkicfllaaa.aluShifts
open Go.ChangeShapes Go.WideShapes Go.ChangeAt Go.RowKit
set_option linter.unusedVariables false

theorem own : ownKnob Try.prog.godebug = none := by kernel_rfl

/-- a word that was doubled so often -/
def upF (m k : Nat) : Int := ((m * 2 ^ k % 4294967296 : Nat) : Int)
/-- a word that was halved so often -/
def dnF (m k : Nat) : Int := ((m / 2 ^ k : Nat) : Int)
theorem u32_up (m k : Nat) : U32 (upF m k) := by unfold U32 upF; omega
theorem dn_bd (m k : Nat) : 0 ≤ dnF m k := by unfold dnF; exact Int.natCast_nonneg _
theorem up_step (m k : Nat) : doI 5 (upF m k) 2 = upF m (k + 1) := by
  unfold upF
  have h := doI_nat 5 (m * 2 ^ k % 4294967296) 2 (by omega) (by omega)
  have e : doF 5 (m * 2 ^ k % 4294967296) 2 = m * 2 ^ (k + 1) % 4294967296 := by
    show (m * 2 ^ k % 4294967296) * 2 % 4294967296 = _
    rw [Nat.mod_mul_mod, Nat.pow_succ, Nat.mul_assoc]
  rw [e] at h
  exact h
theorem dn_step (m k : Nat) (h : m < 4294967296) : (dnF m k).tdiv 2 % 4294967296 = dnF m (k + 1) := by
  unfold dnF
  have h1 : m / 2 ^ k ≤ m := Nat.div_le_self _ _
  rw [Nat.pow_succ, ← Nat.div_div_eq_div_mul]
  generalize m / 2 ^ k = x at *
  rw [Int.tdiv_eq_ediv_of_nonneg (by omega)]
  omega
theorem up_zero (m : Nat) (h : m < 4294967296) : upF m 0 = m := by
  unfold upF
  rw [Nat.pow_zero, Nat.mul_one, Nat.mod_eq_of_lt h]
theorem dn_zero (m : Nat) : dnF m 0 = m := by
  unfold dnF
  rw [Nat.pow_zero, Nat.div_one]

theorem far (m p q : Nat) (hm : m < 4294967296) (hp : p ≤ 255) (hq : q ≤ 65535) (op : Int) : doI op m ((p : Int) % 32 + 32 * q) = doF op m (p % 32 + 32 * q) := by
  have h := doI_nat op m (p % 32 + 32 * q) hm (by omega)
  have e : ((p % 32 + 32 * q : Nat) : Int) = (p : Int) % 32 + 32 * q := by omega
  rw [e] at h
  exact h
theorem m_up (m p q k : Nat) (hm : m < 4294967296) (hp : p ≤ 255) (hq : q ≤ 65535) (hk : k = p % 32) : (doI 9 m ((p : Int) % 32 + 32 * q) == upF m k) = true := by
  rw [beq_iff_eq, far m p q hm hp hq]
  have e : doF 9 m (p % 32 + 32 * q) = m * 2 ^ ((p % 32 + 32 * q) % 32) % 4294967296 := rfl
  have e' : (p % 32 + 32 * q) % 32 = k := by omega
  rw [e, e']
  rfl
theorem m_down (m p q k : Nat) (hm : m < 4294967296) (hp : p ≤ 255) (hq : q ≤ 65535) (hk : k = p % 32) : (doI 10 m ((p : Int) % 32 + 32 * q) == dnF m k) = true := by
  rw [beq_iff_eq, far m p q hm hp hq]
  have e : doF 10 m (p % 32 + 32 * q) = m / 2 ^ ((p % 32 + 32 * q) % 32) := rfl
  have e' : (p % 32 + 32 * q) % 32 = k := by omega
  rw [e, e']
  rfl

set_option maxHeartbeats 1000000 in

theorem walk (a0 : Int) (a1 : Int) (a2 : Int) (w0 : (Lit.int .u32 a0).wf = true) (w1 : (Lit.int .u8 a1).wf = true) (w2 : (Lit.int .u16 a2).wf = true) (w : World) :
    Calls Try.prog 7 #[.int .u32 a0, .int .u8 a1, .int .u16 a2] w fun e w' => e = .returned (.bool true) ∧ Gr w w' := by
  have u0 := u32_of_wf w0
  have b1 := bounds_u8 w1
  have b2 := bounds_u16 w2
  have u2 : U32 2 := ⟨by omega, by omega⟩
  obtain ⟨m, rfl, hm⟩ := u32_nat u0
  obtain ⟨p, rfl⟩ := Int.eq_ofNat_of_zero_le b1.1
  obtain ⟨q, rfl⟩ := Int.eq_ofNat_of_zero_le b2.1
  clear w0 w1 w2
  have hp : p ≤ 255 := by omega
  have hq : q ≤ 65535 := by omega
  clear b1 b2
  go_enter Try.func7, Try.ntmps7
  go_wp2_with (first | (go_at_call 8; refine (awake_calls _).mono ?_; rintro e wa ⟨rfl, hga⟩))
  go_loopw [8, 9, 10] (fun up down i wr => ∃ k : Nat, k ≤ p % 32 ∧ i = .int .i64 k ∧ up = .int .u32 (upF m k) ∧ down = .int .u32 (dnF m k) ∧ Gr w wr) (fun _ _ i _ => p % 32 - (intOf i).toNat)
  case atStart => exact ⟨0, by omega, rfl, by rw [up_zero m hm], by rw [dn_zero], hga⟩
  case round =>
    obtain ⟨k, hk, rfl, rfl, rfl, hgr⟩ := hrel
    have hd := dn_bd m k
    by_cases hlt : k < p % 32
    · go_wp2_with (go_at_call 15; refine (doI_calls _ _ _ (by omega) (by omega) (u32_up _ _) u2 _).mono ?_; rintro e wb ⟨rfl, hgb⟩)
      exact ⟨⟨k + 1, by omega, by go_num, by rw [up_step], by rw [dn_step m k hm], grown_trans hgr hgb⟩, by simp [intOf]; omega⟩
    · have e1 := m_up m p q k hm hp hq (by omega)
      have e2 := m_down m p q k hm hp hq (by omega)
      go_wp2_with (go_at_call 15; refine (doI_calls _ _ _ (by omega) (by omega) u0 (by unfold U32; omega) _).mono ?_; rintro e wb ⟨rfl, hgb⟩)
      go_ret
      exact ⟨rfl, by repeat (first | assumption | exact Gr.refl _ | (refine grown_trans ?_ (by assumption)))⟩

set_option maxRecDepth 100000 in
theorem lifted (os : Os) (started : os.Started) (H : Type) (enc : TypeId × Value → H) :
    ReturnsInHanded {} Try.checked os 7 .any (Rows.aluShiftsSpec.pre6 enc Try.prog Try.f7 Rows.aluShiftsRow.domain false) (Rows.aluShiftsSpec.post enc Try.prog Try.f7 false true false false) := by
  refine returnsInHanded_of_change (C := Try.checked) own started (by kernel_rfl) Try.func7
    (ChangeSpec.witness6 (enc := enc) (C := Try.checked) false ⟨#[], #[.int .u32 0, .int .u8 0, .int .u16 0], []⟩ 8 (by kernel_rfl) (by kernel_rfl) (by kernel_rfl) (by kernel_rfl)) ?_
  intro W base args ds gs before hval0 hW hcnd _
  have hval : ∀ (j : Nat) t v, Try.f7.params[j]? = some t → args[j]? = some v → Value.okWide Try.prog W .any base t v := hval0
  have hW' := hW
  obtain ⟨p, q, hA0, hV, rfl, hfz, hnd⟩ := hW
  have hA : DataW.TrodAll enc Try.prog W 0 (fun _ => true) true Try.f7.params.toList args.toList ds p := hA0
  rw [Try.params7] at hA hval
  obtain ⟨v0, vs0, d0, ds0, p0, q0, hargs, rfl, rfl, h0, r0⟩ := trodAll_cons hA
  obtain ⟨v1, vs1, d1, ds1, p1, q1, rfl, rfl, rfl, h1, r1⟩ := trodAll_cons r0
  obtain ⟨v2, vs2, d2, ds2, p2, q2, rfl, rfl, rfl, h2, r2⟩ := trodAll_cons r1
  obtain ⟨rfl, rfl, rfl⟩ := trodAll_nil r2
  obtain rfl : args = #[v0, v1, v2] := by cases args; simp_all
  obtain ⟨rfl, rfl⟩ := trodVars_none hV
  obtain ⟨a0, rfl, rfl, rfl, w0⟩ := open_int Try.underlying22 (hval 0 22 v0 rfl rfl) h0
  obtain ⟨a1, rfl, rfl, rfl, w1⟩ := open_int Try.underlying5 (hval 1 5 v1 rfl rfl) h1
  obtain ⟨a2, rfl, rfl, rfl, w2⟩ := open_int Try.underlying37 (hval 2 37 v2 rfl rfl) h2
  clear hA0 hval0
  simp only [List.append_nil] at hW'
  refine (walk a0 a1 a2 w0 w1 w2 W).mono fun e W' ⟨he, hg⟩ => ?_
  subst he
  exact ⟨_, rfl, post_of_same (pa := []) (pv := []) hW' (fun _ _ _ => (trodAll_cons_mk (shut_bool Try.underlying4 _) trodAll_mk0)) (fun sp _ => (trodAll_cons_mk (shut_int Try.underlying22 w0) (trodAll_cons_mk (shut_int Try.underlying5 w1) (trodAll_cons_mk (shut_int Try.underlying37 w2) trodAll_mk0)))) (fun _ _ => rfl) rfl
    (hg.1.frame _) hg.1.2.1 (ok_one (by kernel_rfl) rfl (okWide_bool_mk Try.underlying4 _))⟩

theorem over : Rows.aluShiftsRow.holds Try.pinned (OpenSpec.ofChange Rows.aluShiftsSpec) :=
  OpenClaim.holds_of_wide 7 Try.f7 rfl rfl rfl rfl rfl rfl rfl ⟨rfl, rfl, rfl, rfl, rfl⟩ rfl rfl rfl rfl rfl (by kernel_rfl) Try.func7 (by kernel_rfl)
    (of_decide_eq_true (by kernel_rfl)) (by unfold Func.isWrapper; first | (rw [if_pos (by decide +kernel)]; kernel_rfl) | (rw [if_neg (by decide +kernel)]; exact ⟨rfl, rfl⟩))
    (fun os started H enc _ => lifted os started H enc)

end Go.Proofs.Ytijfdgkicfllaaa.aluShifts

namespace Go.Proofs.Ytijfdgkicfllaaa
theorem aluShifts_holds : Rows.AluShiftsSaid := aluShifts.over
end Go.Proofs.Ytijfdgkicfllaaa
