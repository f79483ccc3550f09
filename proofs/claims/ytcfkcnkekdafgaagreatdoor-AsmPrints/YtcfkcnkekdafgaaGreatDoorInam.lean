/-
  For any number, in any world in which the tables are laid: isa.Name. The world stays as it is.
-/
import Derived.Test.YtcfkcnkekdafgaaGreatDoorIsa
namespace Go.Proofs.YtcfkcnkekdafgaaGreatDoor
open Go.ChangeShapes Go.WideShapes Go.ChangeAt Go.RowKit
set_option linter.unusedVariables false

theorem iname_calls (op : Int) (w : World) (L : Laid w) :
    Calls Tryz.prog 57 #[.int .i64 op] w fun e w' => e = .returned (.string (nameB op)) ∧ w' = w := by
  cases h : isB op
  · have e1 : nameB op = ⟨#[]⟩ := by simp [nameB, h]
    rw [e1]
    clear L
    go_enter Tryz.func57, Tryz.ntmps57
    go_wp2_with (go_at_call 53; refine (is_calls _ _).mono ?_; rw [h]; rintro e w1 ⟨rfl, rfl⟩)
    go_ret
    exact ⟨rfl, rfl⟩
  · obtain ⟨n, rfl, hn⟩ := isB_nat h
    have e1 : nameB (n : Int) = nameAt n := by simp [nameB, h]
    rw [e1]
    obtain ⟨t, fr, hrow⟩ := L.nm
    have hc : w.cell? ⟨1, n, none⟩ = some (.string (nameAt n)) := by
      have := nameV_at n hn
      simp [World.cell?, hrow, this]
    have hi : (n : Int) < 28 := by omega
    clear L hrow
    go_enter Tryz.func57, Tryz.ntmps57
    go_wp2_with (go_at_call 53; refine (is_calls _ _).mono ?_; rw [h]; rintro e w1 ⟨rfl, rfl⟩)
    go_ret
    exact ⟨rfl, rfl⟩
end Go.Proofs.YtcfkcnkekdafgaaGreatDoor
