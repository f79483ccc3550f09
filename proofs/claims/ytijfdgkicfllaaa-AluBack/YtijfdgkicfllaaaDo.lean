/-
  For any two words and any world: the law's own helper 'do' answers what the operation makes of them, and the document's examples ('awake') come out true. Conditions: words are from 0 to 2^32 - 1.
-/
import Derived.Test.YtijfdgkicfllaaaAlu
namespace Go.Proofs.Ytijfdgkicfllaaa
open Go.ChangeShapes Go.WideShapes Go.ChangeAt Go.RowKit
set_option linter.unusedVariables false

/-- a word, as a number -/
def U32 (a : Int) : Prop := 0 ≤ a ∧ a < 4294967296
/-- what an operation makes of two words, as numbers -/
def doI (op a b : Int) : Int := ((doF op a.toNat b.toNat % 4294967296 : Nat) : Int)

theorem u32_doI (op a b : Int) : U32 (doI op a b) := by
  unfold U32 doI
  omega
theorem u32_of_wf {a : Int} (h : (Lit.int .u32 a).wf = true) : U32 a := by
  have := bounds_u32 h
  exact ⟨this.1, by omega⟩

theorem u32_nat {a : Int} (h : U32 a) : ∃ n : Nat, a = n ∧ n < 4294967296 := by
  obtain ⟨n, rfl⟩ := Int.eq_ofNat_of_zero_le h.1
  exact ⟨n, rfl, by have := h.2; omega⟩

theorem doI_nat (op : Int) (a b : Nat) (ha : a < 4294967296) (hb : b < 4294967296) : doI op a b = doF op a b := by
  unfold doI
  rw [Int.toNat_natCast, Int.toNat_natCast, Nat.mod_eq_of_lt (doF_lt op a b ha hb)]

theorem doI9_calls (op a b : Int) (h : 3 ≤ op) (h' : op ≤ 12) (ha : U32 a) (hb : U32 b) (w : World) :
    Calls Try.prog 9 #[.int .i64 op, .int .u32 a, .int .u32 b] w fun e w' => e = .returned (.tuple #[.int .u32 (doI op a b), .bool true]) ∧ Gr w w' := by
  obtain ⟨m, rfl, hm⟩ := u32_nat ha
  obtain ⟨n, rfl, hn⟩ := u32_nat hb
  rw [doI_nat op m n hm hn]
  exact do_yes op m n h h' hm hn w

theorem doI_calls (op a b : Int) (h : 3 ≤ op) (h' : op ≤ 12) (ha : U32 a) (hb : U32 b) (w : World) :
    Calls Try.prog 15 #[.int .i64 op, .int .u32 a, .int .u32 b] w fun e w' => e = .returned (.int .u32 (doI op a b)) ∧ Gr w w' := by
  obtain ⟨m, rfl, hm⟩ := u32_nat ha
  obtain ⟨n, rfl, hn⟩ := u32_nat hb
  rw [doI_nat op m n hm hn]
  exact do1_calls op m n h h' hm hn w

theorem minusI_calls (a : Int) (ha : U32 a) (w : World) :
    Calls Try.prog 12 #[.int .u32 a] w fun e w' => e = .returned (.int .u32 (doI 4 0 a)) ∧ w' = w := by
  obtain ⟨m, rfl, hm⟩ := u32_nat ha
  have h0 := doI_nat 4 0 m (by omega) hm
  have h1 : (doF 4 0 m : Int) = ((4294967296 - m) % 4294967296 : Nat) := by simp [doF]
  have h2 : doI 4 0 m = ((4294967296 - m) % 4294967296 : Nat) := by rw [← h1, ← h0]; rfl
  rw [h2]
  exact minus_calls m hm w

set_option maxHeartbeats 400000 in
theorem awake_calls (w : World) :
    Calls Try.prog 8 #[] w fun e w' => e = .returned (.bool true) ∧ Gr w w' := by
  have e1 : (doI 4 0 1 == 4294967295) = true := by decide +kernel
  have e2 : (doI 9 3 33 == 6) = true := by decide +kernel
  have e3 : (decide (3 ≤ (3 : Int)) && decide ((3 : Int) ≤ 12)) = true := by decide
  go_enter Try.func8, Try.ntmps8
  go_wp2_with (first | (go_at_call 9; refine (do_no 2 1 1 (by omega) _).mono ?_; rintro e w1 ⟨rfl, rfl⟩) | (go_at_call 15; refine (doI_calls _ _ _ (by omega) (by omega) (by unfold U32; omega) (by unfold U32; omega) _).mono ?_; rintro e w1 ⟨rfl, hg⟩) | (go_at_call 11; refine (is_calls 3 _).mono ?_; rw [e3]; rintro e w1 ⟨rfl, rfl⟩))
  go_ret
  exact ⟨rfl, by repeat (first | assumption | exact Gr.refl _ | (refine grown_trans ?_ (by assumption)))⟩
end Go.Proofs.Ytijfdgkicfllaaa
