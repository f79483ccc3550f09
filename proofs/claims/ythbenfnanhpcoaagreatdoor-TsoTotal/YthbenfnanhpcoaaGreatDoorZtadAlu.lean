/-
  For every operation's number, any two words and any world: what alu.Is and alu.Do answer, said by plain numbers. Conditions: words are below 2^32; a number of no operation is answered 0, false.
-/
import Derived.Test.YthbenfnanhpcoaaGreatDoorZtaaBase
import Derived.Laws.Shifts
import Derived.Laws.EntriesVeiled
import Derived.Laws.BitsAllLaws
namespace Go.Proofs.YthbenfnanhpcoaaGreatDoor
open Go.ChangeShapes Go.WideShapes Go.ChangeAt Go.RowKit
set_option linter.unusedVariables false

/-- what an operation makes of two words -/
def doF (op : Int) (a b : Nat) : Nat :=
  if op = 3 then (a + b) % 4294967296
  else if op = 4 then (a + (4294967296 - b)) % 4294967296
  else if op = 5 then (a * b) % 4294967296
  else if op = 6 then a &&& b
  else if op = 7 then a ||| b
  else if op = 8 then a ^^^ b
  else if op = 9 then (a * 2 ^ (b % 32)) % 4294967296
  else if op = 10 then a / 2 ^ (b % 32)
  else if op = 11 then (if a < b then 1 else 0)
  else if op = 12 then (if a = b then 1 else 0)
  else 0

theorem ret2 {x y : Int} (h : x = y) : Ending.returned (.tuple #[.int .u32 x, .bool true]) = .returned (.tuple #[.int .u32 y, .bool true]) := by rw [h]
theorem ret1 {x y : Int} (h : x = y) : Ending.returned (.int .u32 x) = .returned (.int .u32 y) := by rw [h]

theorem doF_lt (op : Int) (a b : Nat) (ha : a < 4294967296) (hb : b < 4294967296) : doF op a b < 4294967296 := by
  unfold doF
  have h1 : a &&& b < 2 ^ 32 := Nat.and_lt_two_pow _ (by omega)
  have h2 : a ||| b < 2 ^ 32 := Nat.or_lt_two_pow (by omega) (by omega)
  have h3 : a ^^^ b < 2 ^ 32 := Nat.xor_lt_two_pow (by omega) (by omega)
  have h4 : a / 2 ^ (b % 32) ≤ a := Nat.div_le_self _ _
  split
  · omega
  split
  · omega
  split
  · omega
  split
  · omega
  split
  · omega
  split
  · omega
  split
  · omega
  split
  · omega
  split
  · split <;> omega
  split
  · split <;> omega
  · omega

abbrev table : Array Value := #[.nilFunc, .nilFunc, .nilFunc, .func (Fn.func 149) #[] #[],
              .func (Fn.func 150) #[] #[], .func (Fn.func 151) #[] #[], .func (Fn.func 152) #[] #[],
              .func (Fn.func 153) #[] #[], .func (Fn.func 154) #[] #[], .func (Fn.func 155) #[] #[],
              .func (Fn.func 156) #[] #[], .func (Fn.func 157) #[] #[], .func (Fn.func 158) #[] #[]]
set_option maxHeartbeats 400000 in
theorem ops_calls (w : World) :
    Calls Tryz.prog 147 #[] w fun e w' => e = .returned (.agg table) ∧ Gr w w' := by
  go_enter Tryz.func147, Tryz.ntmps147
  go_wp2
  exact bodyPost_ret (v := .agg table) (by simp [results, Tryz.results147, go_sem]) rfl ⟨rfl, Gr.alloc (Gr.refl _) _ _⟩

theorem aluis_calls (op : Int) (w : World) :
    Calls Tryz.prog 135 #[.int .i64 op] w fun e w' => e = .returned (.bool (decide (3 ≤ op) && decide (op ≤ 12))) ∧ w' = w := by
  by_cases h : 3 ≤ op <;> by_cases h' : op ≤ 12
  all_goals
    go_enter Tryz.func135, Tryz.ntmps135
    go_wp2
    go_ret
    exact ⟨by simp [h, h'], rfl⟩

set_option maxHeartbeats 400000 in
theorem do_add (a b : Nat) (ha : a < 4294967296) (hb : b < 4294967296) (w : World) :
    Calls Tryz.prog 136 #[.int .i64 3, .int .u32 a, .int .u32 b] w fun e w' => e = .returned (.tuple #[.int .u32 (doF 3 a b), .bool true]) ∧ Gr w w' := by
  go_enter Tryz.func136, Tryz.ntmps136
  go_wp2_with (first | (go_at_call 135; refine (aluis_calls _ _).mono ?_; rintro e w' ⟨rfl, rfl⟩) | (go_at_call 147; refine (ops_calls _).mono ?_; rintro e w1 ⟨rfl, hg⟩) | go_in)
  go_ret2
  exact ⟨ret2 (by simp [doF]), Gr.alloc hg _ _⟩

set_option maxHeartbeats 400000 in
theorem do_sub (a b : Nat) (ha : a < 4294967296) (hb : b < 4294967296) (w : World) :
    Calls Tryz.prog 136 #[.int .i64 4, .int .u32 a, .int .u32 b] w fun e w' => e = .returned (.tuple #[.int .u32 (doF 4 a b), .bool true]) ∧ Gr w w' := by
  go_enter Tryz.func136, Tryz.ntmps136
  go_wp2_with (first | (go_at_call 135; refine (aluis_calls _ _).mono ?_; rintro e w' ⟨rfl, rfl⟩) | (go_at_call 147; refine (ops_calls _).mono ?_; rintro e w1 ⟨rfl, hg⟩) | go_in)
  go_ret2
  exact ⟨ret2 (by simp [doF]; omega), Gr.alloc hg _ _⟩

set_option maxHeartbeats 400000 in
theorem do_mul (a b : Nat) (ha : a < 4294967296) (hb : b < 4294967296) (w : World) :
    Calls Tryz.prog 136 #[.int .i64 5, .int .u32 a, .int .u32 b] w fun e w' => e = .returned (.tuple #[.int .u32 (doF 5 a b), .bool true]) ∧ Gr w w' := by
  go_enter Tryz.func136, Tryz.ntmps136
  go_wp2_with (first | (go_at_call 135; refine (aluis_calls _ _).mono ?_; rintro e w' ⟨rfl, rfl⟩) | (go_at_call 147; refine (ops_calls _).mono ?_; rintro e w1 ⟨rfl, hg⟩) | go_in)
  go_ret2
  exact ⟨ret2 (by simp [doF]), Gr.alloc hg _ _⟩

set_option maxHeartbeats 400000 in
theorem do_and (a b : Nat) (ha : a < 4294967296) (hb : b < 4294967296) (w : World) :
    Calls Tryz.prog 136 #[.int .i64 6, .int .u32 a, .int .u32 b] w fun e w' => e = .returned (.tuple #[.int .u32 (doF 6 a b), .bool true]) ∧ Gr w w' := by
  go_enter Tryz.func136, Tryz.ntmps136
  go_wp2_with (first | (go_at_call 135; refine (aluis_calls _ _).mono ?_; rintro e w' ⟨rfl, rfl⟩) | (go_at_call 147; refine (ops_calls _).mono ?_; rintro e w1 ⟨rfl, hg⟩) | go_in)
  go_ret2
  exact ⟨ret2 (by simp [doF]; exact u32_and_nat a b ha hb), Gr.alloc hg _ _⟩

set_option maxHeartbeats 400000 in
theorem do_or (a b : Nat) (ha : a < 4294967296) (hb : b < 4294967296) (w : World) :
    Calls Tryz.prog 136 #[.int .i64 7, .int .u32 a, .int .u32 b] w fun e w' => e = .returned (.tuple #[.int .u32 (doF 7 a b), .bool true]) ∧ Gr w w' := by
  go_enter Tryz.func136, Tryz.ntmps136
  go_wp2_with (first | (go_at_call 135; refine (aluis_calls _ _).mono ?_; rintro e w' ⟨rfl, rfl⟩) | (go_at_call 147; refine (ops_calls _).mono ?_; rintro e w1 ⟨rfl, hg⟩) | go_in)
  go_ret2
  exact ⟨ret2 (by simp [doF]; exact u32_or_nat a b ha hb), Gr.alloc hg _ _⟩

set_option maxHeartbeats 400000 in
theorem do_xor (a b : Nat) (ha : a < 4294967296) (hb : b < 4294967296) (w : World) :
    Calls Tryz.prog 136 #[.int .i64 8, .int .u32 a, .int .u32 b] w fun e w' => e = .returned (.tuple #[.int .u32 (doF 8 a b), .bool true]) ∧ Gr w w' := by
  go_enter Tryz.func136, Tryz.ntmps136
  go_wp2_with (first | (go_at_call 135; refine (aluis_calls _ _).mono ?_; rintro e w' ⟨rfl, rfl⟩) | (go_at_call 147; refine (ops_calls _).mono ?_; rintro e w1 ⟨rfl, hg⟩) | go_in)
  go_ret2
  exact ⟨ret2 (by simp [doF]; exact u32_xor_nat a b ha hb), Gr.alloc hg _ _⟩

set_option maxHeartbeats 400000 in
theorem do_shl (a b : Nat) (ha : a < 4294967296) (hb : b < 4294967296) (w : World) :
    Calls Tryz.prog 136 #[.int .i64 9, .int .u32 a, .int .u32 b] w fun e w' => e = .returned (.tuple #[.int .u32 (doF 9 a b), .bool true]) ∧ Gr w w' := by
  go_enter Tryz.func136, Tryz.ntmps136
  go_wp2_with (first | (go_at_call 135; refine (aluis_calls _ _).mono ?_; rintro e w' ⟨rfl, rfl⟩) | (go_at_call 147; refine (ops_calls _).mono ?_; rintro e w1 ⟨rfl, hg⟩) | go_in)
  go_ret2
  exact ⟨ret2 (by simp [doF]), Gr.alloc hg _ _⟩

set_option maxHeartbeats 400000 in
theorem do_shr (a b : Nat) (ha : a < 4294967296) (hb : b < 4294967296) (w : World) :
    Calls Tryz.prog 136 #[.int .i64 10, .int .u32 a, .int .u32 b] w fun e w' => e = .returned (.tuple #[.int .u32 (doF 10 a b), .bool true]) ∧ Gr w w' := by
  go_enter Tryz.func136, Tryz.ntmps136
  go_wp2_with (first | (go_at_call 135; refine (aluis_calls _ _).mono ?_; rintro e w' ⟨rfl, rfl⟩) | (go_at_call 147; refine (ops_calls _).mono ?_; rintro e w1 ⟨rfl, hg⟩) | go_in)
  go_ret2
  exact ⟨ret2 (by simp [doF]), Gr.alloc hg _ _⟩

set_option maxHeartbeats 400000 in
theorem do_less (a b : Nat) (ha : a < 4294967296) (hb : b < 4294967296) (w : World) :
    Calls Tryz.prog 136 #[.int .i64 11, .int .u32 a, .int .u32 b] w fun e w' => e = .returned (.tuple #[.int .u32 (doF 11 a b), .bool true]) ∧ Gr w w' := by
  by_cases h : a < b
  · have h0 : ((a : Int) < b)  := by omega
    have hf : doF 11 a b = 1 := by simp [doF, h]
    go_enter Tryz.func136, Tryz.ntmps136
    go_wp2_with (first | (go_at_call 135; refine (aluis_calls _ _).mono ?_; rintro e w' ⟨rfl, rfl⟩) | (go_at_call 147; refine (ops_calls _).mono ?_; rintro e w1 ⟨rfl, hg⟩) | go_in)
    go_ret2
    exact ⟨ret2 (by rw [hf]; rfl), Gr.alloc hg _ _⟩
  · have h0 : ¬ ((a : Int) < b) := by omega
    have hf : doF 11 a b = 0 := by simp [doF, h]
    go_enter Tryz.func136, Tryz.ntmps136
    go_wp2_with (first | (go_at_call 135; refine (aluis_calls _ _).mono ?_; rintro e w' ⟨rfl, rfl⟩) | (go_at_call 147; refine (ops_calls _).mono ?_; rintro e w1 ⟨rfl, hg⟩) | go_in)
    go_ret2
    exact ⟨ret2 (by rw [hf]; rfl), Gr.alloc hg _ _⟩

set_option maxHeartbeats 400000 in
theorem do_same (a b : Nat) (ha : a < 4294967296) (hb : b < 4294967296) (w : World) :
    Calls Tryz.prog 136 #[.int .i64 12, .int .u32 a, .int .u32 b] w fun e w' => e = .returned (.tuple #[.int .u32 (doF 12 a b), .bool true]) ∧ Gr w w' := by
  by_cases h : a = b
  · have h0 : ((a : Int) == b) = true := by simp [h]
    have hf : doF 12 a b = 1 := by simp [doF, h]
    go_enter Tryz.func136, Tryz.ntmps136
    go_wp2_with (first | (go_at_call 135; refine (aluis_calls _ _).mono ?_; rintro e w' ⟨rfl, rfl⟩) | (go_at_call 147; refine (ops_calls _).mono ?_; rintro e w1 ⟨rfl, hg⟩) | go_in)
    go_ret2
    exact ⟨ret2 (by rw [hf]; rfl), Gr.alloc hg _ _⟩
  · have h0 : ((a : Int) == b) = false := by simp; omega
    have hf : doF 12 a b = 0 := by simp [doF, h]
    go_enter Tryz.func136, Tryz.ntmps136
    go_wp2_with (first | (go_at_call 135; refine (aluis_calls _ _).mono ?_; rintro e w' ⟨rfl, rfl⟩) | (go_at_call 147; refine (ops_calls _).mono ?_; rintro e w1 ⟨rfl, hg⟩) | go_in)
    go_ret2
    exact ⟨ret2 (by rw [hf]; rfl), Gr.alloc hg _ _⟩

theorem do_yes (op : Int) (a b : Nat) (h : 3 ≤ op) (h' : op ≤ 12) (ha : a < 4294967296) (hb : b < 4294967296) (w : World) :
    Calls Tryz.prog 136 #[.int .i64 op, .int .u32 a, .int .u32 b] w fun e w' => e = .returned (.tuple #[.int .u32 (doF op a b), .bool true]) ∧ Gr w w' := by
  have hc : op = 3 ∨ op = 4 ∨ op = 5 ∨ op = 6 ∨ op = 7 ∨ op = 8 ∨ op = 9 ∨ op = 10 ∨ op = 11 ∨ op = 12 := by omega
  rcases hc with rfl | rfl | rfl | rfl | rfl | rfl | rfl | rfl | rfl | rfl
  · exact do_add a b ha hb w
  · exact do_sub a b ha hb w
  · exact do_mul a b ha hb w
  · exact do_and a b ha hb w
  · exact do_or a b ha hb w
  · exact do_xor a b ha hb w
  · exact do_shl a b ha hb w
  · exact do_shr a b ha hb w
  · exact do_less a b ha hb w
  · exact do_same a b ha hb w

set_option maxHeartbeats 400000 in
theorem do_no (op : Int) (a b : Int) (h : op < 3 ∨ 12 < op) (w : World) :
    Calls Tryz.prog 136 #[.int .i64 op, .int .u32 a, .int .u32 b] w fun e w' => e = .returned (.tuple #[.int .u32 0, .bool false]) ∧ w' = w := by
  have hb : (decide (3 ≤ op) && decide (op ≤ 12)) = false := by simp; omega
  go_enter Tryz.func136, Tryz.ntmps136
  go_wp2_with (first | (go_at_call 135; refine (aluis_calls _ _).mono ?_; rw [hb]; rintro e w' ⟨rfl, rfl⟩))
  go_ret2
  exact ⟨rfl, rfl⟩


/-- a word, as a number -/
def U32 (a : Int) : Prop := 0 ≤ a ∧ a < 4294967296
/-- what an operation makes of two words, as numbers -/
def doI (op a b : Int) : Int := ((doF op a.toNat b.toNat % 4294967296 : Nat) : Int)

theorem u32_doI (op a b : Int) : U32 (doI op a b) := by
  unfold U32 doI
  omega
theorem u32_of_wf {a : Int} (h : (Lit.int .u32 a).wf = true) : U32 a := by
  have := bounds_u32 h
  exact ⟨this.1, by omega⟩

theorem u32_nat {a : Int} (h : U32 a) : ∃ n : Nat, a = n ∧ n < 4294967296 := by
  obtain ⟨n, rfl⟩ := Int.eq_ofNat_of_zero_le h.1
  exact ⟨n, rfl, by have := h.2; omega⟩

theorem doI_nat (op : Int) (a b : Nat) (ha : a < 4294967296) (hb : b < 4294967296) : doI op a b = doF op a b := by
  unfold doI
  rw [Int.toNat_natCast, Int.toNat_natCast, Nat.mod_eq_of_lt (doF_lt op a b ha hb)]

theorem aluDo_calls (op a b : Int) (h : 3 ≤ op) (h' : op ≤ 12) (ha : U32 a) (hb : U32 b) (w : World) :
    Calls Tryz.prog 136 #[.int .i64 op, .int .u32 a, .int .u32 b] w fun e w' => e = .returned (.tuple #[.int .u32 (doI op a b), .bool true]) ∧ Gr w w' := by
  obtain ⟨m, rfl, hm⟩ := u32_nat ha
  obtain ⟨n, rfl, hn⟩ := u32_nat hb
  rw [doI_nat op m n hm hn]
  exact do_yes op m n h h' hm hn w

end Go.Proofs.YthbenfnanhpcoaaGreatDoor
