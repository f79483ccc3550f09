/-
  For any numbers and any world in which the program's tables lie: what the program's calls of layer 2 that take an instruction or its number answer, said by plain lists and numbers. Conditions: words are from 0 to 2^32 - 1.
-/
import Derived.Test.YtimiggnmihffdaaDoorBase
import Derived.Laws.Rows
import Derived.Deep.MidRow
namespace Go.Proofs.YtimiggnmihffdaaDoor
open Go.ChangeShapes Go.WideShapes Go.ChangeAt Go.RowKit
set_option linter.unusedVariables false

/-- a number of a kind -/
def isB (op : Int) : Bool := decide (0 ≤ op) && decide (op < 28)
theorem isB_nat {op : Int} (h : isB op = true) : ∃ n : Nat, op = n ∧ n < 28 := by
  simp [isB] at h
  obtain ⟨n, rfl⟩ := Int.eq_ofNat_of_zero_le h.1
  exact ⟨n, rfl, by omega⟩
theorem isB_of {n : Nat} (h : n < 28) : isB n = true := by simp [isB]; omega

theorem is_calls (op : Int) (w : World) :
    Calls Tryd.prog 20 #[.int .i64 op] w fun e w' => e = .returned (.bool (isB op)) ∧ w' = w := by
  by_cases h : 0 ≤ op <;> by_cases h' : op < 28
  all_goals
    go_enter Tryd.func20, Tryd.ntmps20
    go_wp2
    go_ret
    exact ⟨by simp [isB, h, h'], rfl⟩

/-- a register -/
def regB (n : Int) : Bool := decide (0 ≤ n) && decide (n < 8)
theorem reg_calls (n : Int) (w : World) :
    Calls Tryd.prog 25 #[.int .i64 n] w fun e w' => e = .returned (.bool (regB n)) ∧ w' = w := by
  by_cases h : 0 ≤ n <;> by_cases h' : n < 8
  all_goals
    go_enter Tryd.func25, Tryd.ntmps25
    go_wp2
    go_ret
    exact ⟨by simp [regB, h, h'], rfl⟩

def fitsB (u n : Int) : Bool := if u = 1 then regB n else if u = 2 then (regB n || (n == 8)) else (n == 0)
theorem fits_calls (u n : Int) (w : World) :
    Calls Tryd.prog 21 #[.int .i64 u, .int .i64 n] w fun e w' => e = .returned (.bool (fitsB u n)) ∧ w' = w := by
  by_cases h1 : u = 1
  · subst h1
    go_enter Tryd.func21, Tryd.ntmps21
    go_wp2_with (go_at_call 25; refine (reg_calls _ _).mono ?_; rintro e w1 ⟨rfl, rfl⟩)
    go_ret
    exact ⟨by simp [fitsB], rfl⟩
  by_cases h2 : u = 2
  · subst h2
    cases hr : regB n
    · go_enter Tryd.func21, Tryd.ntmps21
      go_wp2_with (go_at_call 25; refine (reg_calls _ _).mono ?_; rw [hr]; rintro e w1 ⟨rfl, rfl⟩)
      go_ret
      exact ⟨by simp [fitsB, hr], rfl⟩
    · go_enter Tryd.func21, Tryd.ntmps21
      go_wp2_with (go_at_call 25; refine (reg_calls _ _).mono ?_; rw [hr]; rintro e w1 ⟨rfl, rfl⟩)
      go_ret
      exact ⟨by simp [fitsB, hr], rfl⟩
  · have e1 : (u == 1) = false := by simp [h1]
    have e2 : (u == 2) = false := by simp [h2]
    go_enter Tryd.func21, Tryd.ntmps21
    go_wp2
    go_ret
    exact ⟨by simp [fitsB, h1, h2], rfl⟩

def holdsB (u k size : Int) : Bool := if u = 3 then true else if u = 4 then decide (k ≤ size) else (k == 0)
theorem holds_calls (u k size : Int) (h0 : 0 ≤ k) (hk : k < 4294967296) (w : World) :
    Calls Tryd.prog 22 #[.int .i64 u, .int .u32 k, .int .i64 size] w fun e w' => e = .returned (.bool (holdsB u k size)) ∧ w' = w := by
  by_cases h1 : u = 3
  · subst h1
    go_enter Tryd.func22, Tryd.ntmps22
    go_wp2
    go_ret
    exact ⟨by simp [holdsB], rfl⟩
  by_cases h2 : u = 4
  · subst h2
    go_enter Tryd.func22, Tryd.ntmps22
    go_wp2
    go_ret
    exact ⟨by simp [holdsB], rfl⟩
  · have e1 : (u == 3) = false := by simp [h1]
    have e2 : (u == 4) = false := by simp [h2]
    go_enter Tryd.func22, Tryd.ntmps22
    go_wp2
    go_ret
    exact ⟨by simp [holdsB, h1, h2], rfl⟩

def nameB (op : Int) : ByteArray := if isB op then nameAt op.toNat else ⟨#[]⟩
theorem name_calls (op : Int) (w : World) (L : Laid w) :
    Calls Tryd.prog 10 #[.int .i64 op] w fun e w' => e = .returned (.string (nameB op)) ∧ w' = w := by
  cases h : isB op
  · go_enter Tryd.func10, Tryd.ntmps10
    go_wp2_with (go_at_call 20; refine (is_calls _ _).mono ?_; rw [h]; rintro e w1 ⟨rfl, rfl⟩)
    go_ret
    exact ⟨by simp [nameB, h], rfl⟩
  · obtain ⟨n, rfl, hn⟩ := isB_nat h
    have hc := L.name n hn
    have hi : (n : Int) < 28 := by omega
    have e1 : nameB (n : Int) = nameAt n := by simp [nameB, h]
    rw [e1]
    clear L
    go_enter Tryd.func10, Tryd.ntmps10
    go_wp2_with (go_at_call 20; refine (is_calls _ _).mono ?_; rw [h]; rintro e w1 ⟨rfl, rfl⟩)
    go_ret
    exact ⟨rfl, rfl⟩

def jumpsB (op : Int) : Bool := isB op && (kK op.toNat == 4)
def asksB (op : Int) : Bool := isB op && (kB op.toNat == 2)
def drainsB (op : Int) : Bool := isB op && kD op.toNat
theorem jumps_calls (op : Int) (w : World) (L : Laid w) :
    Calls Tryd.prog 13 #[.int .i64 op] w fun e w' => e = .returned (.bool (jumpsB op)) ∧ w' = w := by
  cases h : isB op
  · go_enter Tryd.func13, Tryd.ntmps13
    go_wp2_with (go_at_call 20; refine (is_calls _ _).mono ?_; rw [h]; rintro e w1 ⟨rfl, rfl⟩)
    go_ret
    exact ⟨by simp [jumpsB, h], rfl⟩
  · obtain ⟨n, rfl, hn⟩ := isB_nat h
    obtain ⟨_, _, _, hc, _⟩ := L.kd n hn
    have hi : (n : Int) < 28 := by omega
    have e1 : jumpsB (n : Int) = (kK n == 4) := by simp [jumpsB, h]
    rw [e1]
    clear L
    go_enter Tryd.func13, Tryd.ntmps13
    go_wp2_with (go_at_call 20; refine (is_calls _ _).mono ?_; rw [h]; rintro e w1 ⟨rfl, rfl⟩)
    go_ret
    exact ⟨rfl, rfl⟩
theorem asks_calls (op : Int) (w : World) (L : Laid w) :
    Calls Tryd.prog 15 #[.int .i64 op] w fun e w' => e = .returned (.bool (asksB op)) ∧ w' = w := by
  cases h : isB op
  · go_enter Tryd.func15, Tryd.ntmps15
    go_wp2_with (go_at_call 20; refine (is_calls _ _).mono ?_; rw [h]; rintro e w1 ⟨rfl, rfl⟩)
    go_ret
    exact ⟨by simp [asksB, h], rfl⟩
  · obtain ⟨n, rfl, hn⟩ := isB_nat h
    obtain ⟨_, hc, _, _, _⟩ := L.kd n hn
    have hi : (n : Int) < 28 := by omega
    have e1 : asksB (n : Int) = (kB n == 2) := by simp [asksB, h]
    rw [e1]
    clear L
    go_enter Tryd.func15, Tryd.ntmps15
    go_wp2_with (go_at_call 20; refine (is_calls _ _).mono ?_; rw [h]; rintro e w1 ⟨rfl, rfl⟩)
    go_ret
    exact ⟨rfl, rfl⟩
theorem drains_calls (op : Int) (w : World) (L : Laid w) :
    Calls Tryd.prog 16 #[.int .i64 op] w fun e w' => e = .returned (.bool (drainsB op)) ∧ w' = w := by
  cases h : isB op
  · go_enter Tryd.func16, Tryd.ntmps16
    go_wp2_with (go_at_call 20; refine (is_calls _ _).mono ?_; rw [h]; rintro e w1 ⟨rfl, rfl⟩)
    go_ret
    exact ⟨by simp [drainsB, h], rfl⟩
  · obtain ⟨n, rfl, hn⟩ := isB_nat h
    obtain ⟨_, _, _, _, hc⟩ := L.kd n hn
    have hi : (n : Int) < 28 := by omega
    have e1 : drainsB (n : Int) = kD n := by simp [drainsB, h]
    rw [e1]
    clear L
    go_enter Tryd.func16, Tryd.ntmps16
    go_wp2_with (go_at_call 20; refine (is_calls _ _).mono ?_; rw [h]; rintro e w1 ⟨rfl, rfl⟩)
    go_ret
    exact ⟨rfl, rfl⟩
end Go.Proofs.YtimiggnmihffdaaDoor
