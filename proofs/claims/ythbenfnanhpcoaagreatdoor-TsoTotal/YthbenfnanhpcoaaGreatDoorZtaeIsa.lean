/-
  For any numbers and any world in which the program's tables lie: what the program's calls of layer 2 that take an instruction or its number answer, said by plain lists and numbers. Conditions: words are from 0 to 2^32 - 1.
-/
import Derived.Test.YthbenfnanhpcoaaGreatDoorZtaaBase
import Derived.Laws.Rows
import Derived.Deep.MidRow
namespace Go.Proofs.YthbenfnanhpcoaaGreatDoor
open Go.ChangeShapes Go.WideShapes Go.ChangeAt Go.RowKit
set_option linter.unusedVariables false

/-- a number of a kind -/
def isB (op : Int) : Bool := decide (0 ≤ op) && decide (op < 28)
theorem isB_nat {op : Int} (h : isB op = true) : ∃ n : Nat, op = n ∧ n < 28 := by
  simp [isB] at h
  obtain ⟨n, rfl⟩ := Int.eq_ofNat_of_zero_le h.1
  exact ⟨n, rfl, by omega⟩
theorem isB_of {n : Nat} (h : n < 28) : isB n = true := by simp [isB]; omega

theorem is_calls (op : Int) (w : World) :
    Calls Tryz.prog 106 #[.int .i64 op] w fun e w' => e = .returned (.bool (isB op)) ∧ w' = w := by
  by_cases h : 0 ≤ op <;> by_cases h' : op < 28
  all_goals
    go_enter Tryz.func106, Tryz.ntmps106
    go_wp2
    go_ret
    exact ⟨by simp [isB, h, h'], rfl⟩

/-- a register -/
def regB (n : Int) : Bool := decide (0 ≤ n) && decide (n < 8)
theorem reg_calls (n : Int) (w : World) :
    Calls Tryz.prog 139 #[.int .i64 n] w fun e w' => e = .returned (.bool (regB n)) ∧ w' = w := by
  by_cases h : 0 ≤ n <;> by_cases h' : n < 8
  all_goals
    go_enter Tryz.func139, Tryz.ntmps139
    go_wp2
    go_ret
    exact ⟨by simp [regB, h, h'], rfl⟩

def fitsB (u n : Int) : Bool := if u = 1 then regB n else if u = 2 then (regB n || (n == 8)) else (n == 0)
theorem fits_calls (u n : Int) (w : World) :
    Calls Tryz.prog 107 #[.int .i64 u, .int .i64 n] w fun e w' => e = .returned (.bool (fitsB u n)) ∧ w' = w := by
  by_cases h1 : u = 1
  · subst h1
    go_enter Tryz.func107, Tryz.ntmps107
    go_wp2_with (go_at_call 139; refine (reg_calls _ _).mono ?_; rintro e w1 ⟨rfl, rfl⟩)
    go_ret
    exact ⟨by simp [fitsB], rfl⟩
  by_cases h2 : u = 2
  · subst h2
    cases hr : regB n
    · go_enter Tryz.func107, Tryz.ntmps107
      go_wp2_with (go_at_call 139; refine (reg_calls _ _).mono ?_; rw [hr]; rintro e w1 ⟨rfl, rfl⟩)
      go_ret
      exact ⟨by simp [fitsB, hr], rfl⟩
    · go_enter Tryz.func107, Tryz.ntmps107
      go_wp2_with (go_at_call 139; refine (reg_calls _ _).mono ?_; rw [hr]; rintro e w1 ⟨rfl, rfl⟩)
      go_ret
      exact ⟨by simp [fitsB, hr], rfl⟩
  · have e1 : (u == 1) = false := by simp [h1]
    have e2 : (u == 2) = false := by simp [h2]
    go_enter Tryz.func107, Tryz.ntmps107
    go_wp2
    go_ret
    exact ⟨by simp [fitsB, h1, h2], rfl⟩

def holdsB (u k size : Int) : Bool := if u = 3 then true else if u = 4 then decide (k ≤ size) else (k == 0)
theorem holds_calls (u k size : Int) (h0 : 0 ≤ k) (hk : k < 4294967296) (w : World) :
    Calls Tryz.prog 108 #[.int .i64 u, .int .u32 k, .int .i64 size] w fun e w' => e = .returned (.bool (holdsB u k size)) ∧ w' = w := by
  by_cases h1 : u = 3
  · subst h1
    go_enter Tryz.func108, Tryz.ntmps108
    go_wp2
    go_ret
    exact ⟨by simp [holdsB], rfl⟩
  by_cases h2 : u = 4
  · subst h2
    go_enter Tryz.func108, Tryz.ntmps108
    go_wp2
    go_ret
    exact ⟨by simp [holdsB], rfl⟩
  · have e1 : (u == 3) = false := by simp [h1]
    have e2 : (u == 4) = false := by simp [h2]
    go_enter Tryz.func108, Tryz.ntmps108
    go_wp2
    go_ret
    exact ⟨by simp [holdsB, h1, h2], rfl⟩

/-- an instruction, as a value -/
abbrev insV (op a b c k : Int) : Value := .agg #[.int .i64 op, .int .i64 a, .int .i64 b, .int .i64 c, .int .u32 k]

def rightB (op a b c k size : Int) : Bool :=
  isB op && (fitsB (kA op.toNat) a && fitsB (kB op.toNat) b && fitsB (kC op.toNat) c && holdsB (kK op.toNat) k size)

set_option maxHeartbeats 1000000 in
theorem right_no (op a b c k size : Int) (w : World) (h : isB op = false) :
    Calls Tryz.prog 73 #[insV op a b c k, .int .i64 size] w fun e w' => e = .returned (.bool (rightB op a b c k size)) ∧ Gr w w' := by
  go_enter Tryz.func73, Tryz.ntmps73
  go_wp2_with (go_at_call 106; refine (is_calls _ _).mono ?_; rw [h]; rintro e w1 ⟨rfl, rfl⟩)
  go_ret
  exact ⟨by simp [rightB, h], Gr.alloc (Gr.refl _) _ _⟩

set_option maxHeartbeats 1000000 in
theorem right_yes (n : Nat) (hn : n < 28) (a b c k size : Int) (h0 : 0 ≤ k) (hk : k < 4294967296) (w : World) (L : Laid w) :
    Calls Tryz.prog 73 #[insV n a b c k, .int .i64 size] w fun e w' => e = .returned (.bool (fitsB (kA n) a && fitsB (kB n) b && fitsB (kC n) c && holdsB (kK n) k size)) ∧ Gr w w' := by
  have h := isB_of hn
  obtain ⟨hc0, hc1, hc2, hc3, hc4⟩ := (L.later (Gr.alloc (Gr.refl w) #[.int .i64 n, .int .i64 a, .int .i64 b, .int .i64 c, .int .u32 k] 72)).kd n hn
  have hi : (n : Int) < 28 := by omega
  have hlt := L.lt
  clear L
  cases hA : fitsB (kA n) a
  · go_enter Tryz.func73, Tryz.ntmps73
    go_wp2_with (first | (go_at_call 106; refine (is_calls _ _).mono ?_; rw [h]; rintro e w1 ⟨rfl, rfl⟩) | (go_at_call 107; refine (fits_calls _ _ _).mono ?_; rintro e w1 ⟨rfl, rfl⟩) | (go_at_call 108; refine (holds_calls _ _ _ h0 hk _).mono ?_; rintro e w1 ⟨rfl, rfl⟩))
    go_ret
    exact ⟨by simp, Gr.alloc (Gr.alloc (Gr.refl _) _ _) _ _⟩
  cases hB : fitsB (kB n) b
  · go_enter Tryz.func73, Tryz.ntmps73
    go_wp2_with (first | (go_at_call 106; refine (is_calls _ _).mono ?_; rw [h]; rintro e w1 ⟨rfl, rfl⟩) | (go_at_call 107; refine (fits_calls _ _ _).mono ?_; rintro e w1 ⟨rfl, rfl⟩) | (go_at_call 108; refine (holds_calls _ _ _ h0 hk _).mono ?_; rintro e w1 ⟨rfl, rfl⟩))
    go_ret
    exact ⟨by simp, Gr.alloc (Gr.alloc (Gr.refl _) _ _) _ _⟩
  cases hC : fitsB (kC n) c
  · go_enter Tryz.func73, Tryz.ntmps73
    go_wp2_with (first | (go_at_call 106; refine (is_calls _ _).mono ?_; rw [h]; rintro e w1 ⟨rfl, rfl⟩) | (go_at_call 107; refine (fits_calls _ _ _).mono ?_; rintro e w1 ⟨rfl, rfl⟩) | (go_at_call 108; refine (holds_calls _ _ _ h0 hk _).mono ?_; rintro e w1 ⟨rfl, rfl⟩))
    go_ret
    exact ⟨by simp, Gr.alloc (Gr.alloc (Gr.refl _) _ _) _ _⟩
  · go_enter Tryz.func73, Tryz.ntmps73
    go_wp2_with (first | (go_at_call 106; refine (is_calls _ _).mono ?_; rw [h]; rintro e w1 ⟨rfl, rfl⟩) | (go_at_call 107; refine (fits_calls _ _ _).mono ?_; rintro e w1 ⟨rfl, rfl⟩) | (go_at_call 108; refine (holds_calls _ _ _ h0 hk _).mono ?_; rintro e w1 ⟨rfl, rfl⟩))
    go_ret
    exact ⟨by simp, Gr.alloc (Gr.alloc (Gr.refl _) _ _) _ _⟩

theorem right_calls (op a b c k size : Int) (h0 : 0 ≤ k) (hk : k < 4294967296) (w : World) (L : Laid w) :
    Calls Tryz.prog 73 #[insV op a b c k, .int .i64 size] w fun e w' => e = .returned (.bool (rightB op a b c k size)) ∧ Gr w w' := by
  cases h : isB op
  · exact right_no op a b c k size w h
  · obtain ⟨n, rfl, hn⟩ := isB_nat h
    have e1 : rightB (n : Int) a b c k size = (fitsB (kA n) a && fitsB (kB n) b && fitsB (kC n) c && holdsB (kK n) k size) := by simp [rightB, h]
    rw [e1]
    exact right_yes n hn a b c k size h0 hk w L

def jumpB (op : Int) : Bool := isB op && (kK op.toNat == 4)
def askB (op : Int) : Bool := isB op && (kB op.toNat == 2)
def drainB (op : Int) : Bool := isB op && kD op.toNat
theorem jumps_calls (op : Int) (w : World) (L : Laid w) :
    Calls Tryz.prog 132 #[.int .i64 op] w fun e w' => e = .returned (.bool (jumpB op)) ∧ w' = w := by
  cases h : isB op
  · clear L
    go_enter Tryz.func132, Tryz.ntmps132
    go_wp2_with (go_at_call 106; refine (is_calls _ _).mono ?_; rw [h]; rintro e w1 ⟨rfl, rfl⟩)
    go_ret
    exact ⟨by simp [jumpB, h], rfl⟩
  · obtain ⟨n, rfl, hn⟩ := isB_nat h
    obtain ⟨hc0, hc1, hc2, hc3, hc4⟩ := L.kd n hn
    have hi : (n : Int) < 28 := by omega
    clear L
    go_enter Tryz.func132, Tryz.ntmps132
    go_wp2_with (go_at_call 106; refine (is_calls _ _).mono ?_; rw [h]; rintro e w1 ⟨rfl, rfl⟩)
    go_ret
    exact ⟨by simp [jumpB, h], rfl⟩
theorem asks_calls (op : Int) (w : World) (L : Laid w) :
    Calls Tryz.prog 92 #[.int .i64 op] w fun e w' => e = .returned (.bool (askB op)) ∧ w' = w := by
  cases h : isB op
  · clear L
    go_enter Tryz.func92, Tryz.ntmps92
    go_wp2_with (go_at_call 106; refine (is_calls _ _).mono ?_; rw [h]; rintro e w1 ⟨rfl, rfl⟩)
    go_ret
    exact ⟨by simp [askB, h], rfl⟩
  · obtain ⟨n, rfl, hn⟩ := isB_nat h
    obtain ⟨hc0, hc1, hc2, hc3, hc4⟩ := L.kd n hn
    have hi : (n : Int) < 28 := by omega
    clear L
    go_enter Tryz.func92, Tryz.ntmps92
    go_wp2_with (go_at_call 106; refine (is_calls _ _).mono ?_; rw [h]; rintro e w1 ⟨rfl, rfl⟩)
    go_ret
    exact ⟨by simp [askB, h], rfl⟩
theorem drains_calls (op : Int) (w : World) (L : Laid w) :
    Calls Tryz.prog 131 #[.int .i64 op] w fun e w' => e = .returned (.bool (drainB op)) ∧ w' = w := by
  cases h : isB op
  · clear L
    go_enter Tryz.func131, Tryz.ntmps131
    go_wp2_with (go_at_call 106; refine (is_calls _ _).mono ?_; rw [h]; rintro e w1 ⟨rfl, rfl⟩)
    go_ret
    exact ⟨by simp [drainB, h], rfl⟩
  · obtain ⟨n, rfl, hn⟩ := isB_nat h
    obtain ⟨hc0, hc1, hc2, hc3, hc4⟩ := L.kd n hn
    have hi : (n : Int) < 28 := by omega
    clear L
    go_enter Tryz.func131, Tryz.ntmps131
    go_wp2_with (go_at_call 106; refine (is_calls _ _).mono ?_; rw [h]; rintro e w1 ⟨rfl, rfl⟩)
    go_ret
    exact ⟨by simp [drainB, h], rfl⟩
end Go.Proofs.YthbenfnanhpcoaaGreatDoor
