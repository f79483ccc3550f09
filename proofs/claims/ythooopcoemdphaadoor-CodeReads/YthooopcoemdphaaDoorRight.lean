/-
  For any instruction and any size, in any world in which the program's tables lie: what isa.Right answers, said by plain lists and numbers. Conditions: K is from 0 to 2^32 - 1.
-/
import Derived.Test.YthooopcoemdphaaDoorIsa
namespace Go.Proofs.YthooopcoemdphaaDoor
open Go.ChangeShapes Go.WideShapes Go.ChangeAt Go.RowKit
set_option linter.unusedVariables false

/-- an instruction, as a value -/
abbrev insV (op a b c k : Int) : Value := .agg #[.int .i64 op, .int .i64 a, .int .i64 b, .int .i64 c, .int .u32 k]

def rightB (op a b c k size : Int) : Bool :=
  isB op && (fitsB (kA op.toNat) a && fitsB (kB op.toNat) b && fitsB (kC op.toNat) c && holdsB (kK op.toNat) k size)

set_option maxHeartbeats 1000000 in
theorem right_no (op a b c k size : Int) (w : World) (h : isB op = false) :
    Calls Tryd.prog 34 #[insV op a b c k, .int .i64 size] w fun e w' => e = .returned (.bool (rightB op a b c k size)) ∧ Gr w w' := by
  go_enter Tryd.func34, Tryd.ntmps34
  go_wp2_with (go_at_call 35; refine (is_calls _ _).mono ?_; rw [h]; rintro e w1 ⟨rfl, rfl⟩)
  go_ret
  exact ⟨by simp [rightB, h], Gr.alloc (Gr.refl _) _ _⟩

set_option maxHeartbeats 1000000 in
theorem right_yes (n : Nat) (hn : n < 28) (a b c k size : Int) (h0 : 0 ≤ k) (hk : k < 4294967296) (w : World) (L : Laid w) :
    Calls Tryd.prog 34 #[insV n a b c k, .int .i64 size] w fun e w' => e = .returned (.bool (fitsB (kA n) a && fitsB (kB n) b && fitsB (kC n) c && holdsB (kK n) k size)) ∧ Gr w w' := by
  have h := isB_of hn
  obtain ⟨hc0, hc1, hc2, hc3, hc4⟩ := (L.later (Gr.alloc (Gr.refl w) #[.int .i64 n, .int .i64 a, .int .i64 b, .int .i64 c, .int .u32 k] 47)).kd n hn
  have hi : (n : Int) < 28 := by omega
  have hlt := L.lt
  clear L
  cases hA : fitsB (kA n) a
  · go_enter Tryd.func34, Tryd.ntmps34
    go_wp2_with (first | (go_at_call 35; refine (is_calls _ _).mono ?_; rw [h]; rintro e w1 ⟨rfl, rfl⟩) | (go_at_call 36; refine (fits_calls _ _ _).mono ?_; rintro e w1 ⟨rfl, rfl⟩) | (go_at_call 37; refine (holds_calls _ _ _ h0 hk _).mono ?_; rintro e w1 ⟨rfl, rfl⟩))
    go_ret
    exact ⟨by simp, Gr.alloc (Gr.alloc (Gr.refl _) _ _) _ _⟩
  cases hB : fitsB (kB n) b
  · go_enter Tryd.func34, Tryd.ntmps34
    go_wp2_with (first | (go_at_call 35; refine (is_calls _ _).mono ?_; rw [h]; rintro e w1 ⟨rfl, rfl⟩) | (go_at_call 36; refine (fits_calls _ _ _).mono ?_; rintro e w1 ⟨rfl, rfl⟩) | (go_at_call 37; refine (holds_calls _ _ _ h0 hk _).mono ?_; rintro e w1 ⟨rfl, rfl⟩))
    go_ret
    exact ⟨by simp, Gr.alloc (Gr.alloc (Gr.refl _) _ _) _ _⟩
  cases hC : fitsB (kC n) c
  · go_enter Tryd.func34, Tryd.ntmps34
    go_wp2_with (first | (go_at_call 35; refine (is_calls _ _).mono ?_; rw [h]; rintro e w1 ⟨rfl, rfl⟩) | (go_at_call 36; refine (fits_calls _ _ _).mono ?_; rintro e w1 ⟨rfl, rfl⟩) | (go_at_call 37; refine (holds_calls _ _ _ h0 hk _).mono ?_; rintro e w1 ⟨rfl, rfl⟩))
    go_ret
    exact ⟨by simp, Gr.alloc (Gr.alloc (Gr.refl _) _ _) _ _⟩
  · go_enter Tryd.func34, Tryd.ntmps34
    go_wp2_with (first | (go_at_call 35; refine (is_calls _ _).mono ?_; rw [h]; rintro e w1 ⟨rfl, rfl⟩) | (go_at_call 36; refine (fits_calls _ _ _).mono ?_; rintro e w1 ⟨rfl, rfl⟩) | (go_at_call 37; refine (holds_calls _ _ _ h0 hk _).mono ?_; rintro e w1 ⟨rfl, rfl⟩))
    go_ret
    exact ⟨by simp, Gr.alloc (Gr.alloc (Gr.refl _) _ _) _ _⟩

theorem right_calls (op a b c k size : Int) (h0 : 0 ≤ k) (hk : k < 4294967296) (w : World) (L : Laid w) :
    Calls Tryd.prog 34 #[insV op a b c k, .int .i64 size] w fun e w' => e = .returned (.bool (rightB op a b c k size)) ∧ Gr w w' := by
  cases h : isB op
  · exact right_no op a b c k size w h
  · obtain ⟨n, rfl, hn⟩ := isB_nat h
    have e1 : rightB (n : Int) a b c k size = (fitsB (kA n) a && fitsB (kB n) b && fitsB (kC n) c && holdsB (kK n) k size) := by simp [rightB, h]
    rw [e1]
    exact right_yes n hn a b c k size h0 hk w L
end Go.Proofs.YthooopcoemdphaaDoor
