/-
  For any numbers and any world in which the program's tables lie: what the program's calls of layer 2 that take an instruction or its number answer, said by plain lists and numbers. Conditions: words are from 0 to 2^32 - 1.
-/
import Derived.Test.YthooopcoemdphaaDoorBase
import Derived.Laws.Rows
import Derived.Deep.MidRow
namespace Go.Proofs.YthooopcoemdphaaDoor
open Go.ChangeShapes Go.WideShapes Go.ChangeAt Go.RowKit
set_option linter.unusedVariables false

/-- a number of a kind -/
def isB (op : Int) : Bool := decide (0 ≤ op) && decide (op < 28)
theorem isB_nat {op : Int} (h : isB op = true) : ∃ n : Nat, op = n ∧ n < 28 := by
  simp [isB] at h
  obtain ⟨n, rfl⟩ := Int.eq_ofNat_of_zero_le h.1
  exact ⟨n, rfl, by omega⟩
theorem isB_of {n : Nat} (h : n < 28) : isB n = true := by simp [isB]; omega

theorem is_calls (op : Int) (w : World) :
    Calls Tryd.prog 35 #[.int .i64 op] w fun e w' => e = .returned (.bool (isB op)) ∧ w' = w := by
  by_cases h : 0 ≤ op <;> by_cases h' : op < 28
  all_goals
    go_enter Tryd.func35, Tryd.ntmps35
    go_wp2
    go_ret
    exact ⟨by simp [isB, h, h'], rfl⟩

/-- a register -/
def regB (n : Int) : Bool := decide (0 ≤ n) && decide (n < 8)
theorem reg_calls (n : Int) (w : World) :
    Calls Tryd.prog 38 #[.int .i64 n] w fun e w' => e = .returned (.bool (regB n)) ∧ w' = w := by
  by_cases h : 0 ≤ n <;> by_cases h' : n < 8
  all_goals
    go_enter Tryd.func38, Tryd.ntmps38
    go_wp2
    go_ret
    exact ⟨by simp [regB, h, h'], rfl⟩

def fitsB (u n : Int) : Bool := if u = 1 then regB n else if u = 2 then (regB n || (n == 8)) else (n == 0)
theorem fits_calls (u n : Int) (w : World) :
    Calls Tryd.prog 36 #[.int .i64 u, .int .i64 n] w fun e w' => e = .returned (.bool (fitsB u n)) ∧ w' = w := by
  by_cases h1 : u = 1
  · subst h1
    go_enter Tryd.func36, Tryd.ntmps36
    go_wp2_with (go_at_call 38; refine (reg_calls _ _).mono ?_; rintro e w1 ⟨rfl, rfl⟩)
    go_ret
    exact ⟨by simp [fitsB], rfl⟩
  by_cases h2 : u = 2
  · subst h2
    cases hr : regB n
    · go_enter Tryd.func36, Tryd.ntmps36
      go_wp2_with (go_at_call 38; refine (reg_calls _ _).mono ?_; rw [hr]; rintro e w1 ⟨rfl, rfl⟩)
      go_ret
      exact ⟨by simp [fitsB, hr], rfl⟩
    · go_enter Tryd.func36, Tryd.ntmps36
      go_wp2_with (go_at_call 38; refine (reg_calls _ _).mono ?_; rw [hr]; rintro e w1 ⟨rfl, rfl⟩)
      go_ret
      exact ⟨by simp [fitsB, hr], rfl⟩
  · have e1 : (u == 1) = false := by simp [h1]
    have e2 : (u == 2) = false := by simp [h2]
    go_enter Tryd.func36, Tryd.ntmps36
    go_wp2
    go_ret
    exact ⟨by simp [fitsB, h1, h2], rfl⟩

def holdsB (u k size : Int) : Bool := if u = 3 then true else if u = 4 then decide (k ≤ size) else (k == 0)
theorem holds_calls (u k size : Int) (h0 : 0 ≤ k) (hk : k < 4294967296) (w : World) :
    Calls Tryd.prog 37 #[.int .i64 u, .int .u32 k, .int .i64 size] w fun e w' => e = .returned (.bool (holdsB u k size)) ∧ w' = w := by
  by_cases h1 : u = 3
  · subst h1
    go_enter Tryd.func37, Tryd.ntmps37
    go_wp2
    go_ret
    exact ⟨by simp [holdsB], rfl⟩
  by_cases h2 : u = 4
  · subst h2
    go_enter Tryd.func37, Tryd.ntmps37
    go_wp2
    go_ret
    exact ⟨by simp [holdsB], rfl⟩
  · have e1 : (u == 3) = false := by simp [h1]
    have e2 : (u == 4) = false := by simp [h2]
    go_enter Tryd.func37, Tryd.ntmps37
    go_wp2
    go_ret
    exact ⟨by simp [holdsB, h1, h2], rfl⟩

def nameB (op : Int) : ByteArray := if isB op then nameAt op.toNat else ⟨#[]⟩
end Go.Proofs.YthooopcoemdphaaDoor
