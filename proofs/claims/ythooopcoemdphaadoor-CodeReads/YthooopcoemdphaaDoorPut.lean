/-
  For any instruction: code.Put answers its eight bytes if its four fields are from 0 to 255, else ErrArg. Conditions: K is from 0 to 2^32 - 1.
-/
import Derived.Test.YthooopcoemdphaaDoorAddI
import Derived.Deep.RegionWith
namespace Go.Proofs.YthooopcoemdphaaDoor
open Go.ChangeShapes Go.WideShapes Go.ChangeAt Go.RowKit Go.Deep
set_option linter.unusedVariables false

abbrev inB (x : Int) : Prop := 0 ≤ x ∧ x ≤ 255

set_option maxHeartbeats 2000000 in
theorem put_no (op a b c k : Int) (w : World) (h : ¬ (inB op ∧ inB a ∧ inB b ∧ inB c)) :
    Calls Tryd.prog 15 #[insV op a b c k] w fun e w' => e = .returned (.tuple #[.slice none 0 0, .int .i64 1]) ∧ Gr w w' := by
  have hg0 := (Gr.refl w).alloc #[.int .i64 op, .int .i64 a, .int .i64 b, .int .i64 c, .int .u32 k] 47
  have HH := hide h
  clear h
  go_enter Tryd.func15, Tryd.ntmps15
  go_wp2
  generalize w.alloc (.cells #[.int .i64 op, .int .i64 a, .int .i64 b, .int .i64 c, .int .u32 k] 47) = w1 at hg0 ⊢
  go_loop [15] (fun i => ∃ j : Nat, j ≤ 4 ∧ i = .int .i64 j ∧ Hid (∀ q x, q < j → [op, a, b, c][q]? = some x → inB x)) (fun i => 4 - (intOf i).toNat)
  case atStart => exact ⟨0, by omega, rfl, fun q x hq => by omega⟩
  case round =>
    obtain ⟨j, hj, rfl, hd⟩ := hrel
    by_cases hlt : j < 4
    · obtain ⟨x, hx⟩ : ∃ x, [op, a, b, c][j]? = some x := ⟨_, List.getElem?_eq_getElem (by simpa using hlt)⟩
      have hat := index4 w1 j op a b c x hx
      have HX := hide hx
      have hlt' : (j : Int) < 4 := by omega
      clear hx
      by_cases h1 : x < 0
      · go_wp2
        go_ret2
        exact ⟨rfl, hg0⟩
      by_cases h2 : 255 < x
      · go_wp2
        go_ret2
        exact ⟨rfl, hg0⟩
      · have hd' : Hid (∀ q x, q < j + 1 → [op, a, b, c][q]? = some x → inB x) := by
          intro q y hq hy
          by_cases hqj : q = j
          · subst hqj
            obtain rfl : x = y := Option.some.inj (HX.out.symm.trans hy)
            exact ⟨by omega, by omega⟩
          · exact hd.out q y (by omega) hy
        go_wp2
        exact ⟨⟨j + 1, by omega, by go_num, hd'⟩, by simp [intOf]; omega⟩
    · exact absurd ⟨hd.out 0 op (by omega) rfl, hd.out 1 a (by omega) rfl, hd.out 2 b (by omega) rfl, hd.out 3 c (by omega) rfl⟩ HH.out

def made8 : Array Value := madeCells (Value.int .u8 0).cells 8
theorem make8 (w : World) : (Instr.makeSlice 22 (.int .i64 0) (.int .i64 8)).run Tryd.prog w = .ok (.slice (some ⟨w.heap.size, 0, none⟩) 0 8) (w.alloc (.cells made8 5)) := by
  obtain ⟨i, h1, h2, h3, h4⟩ := info_parts info5
  have := run_make (P := Tryd.prog) w 22 5 i (.int .u8 0) Tryd.underlying22 h1 h2 .i64 .i64 0 8 (by omega) (by omega) (by rw [h4]; omega) (by omega)
  rw [h3] at this
  simpa [made8] using this
theorem own8 (w : World) (B : Nat) (h : B ≤ w.heap.size) : Own (w.alloc (.cells made8 5)) B (.slice (some ⟨w.heap.size, 0, none⟩) 0 8) [] :=
  World.ownsRow_made w made8 8 h (by unfold maxLen; omega) (by simp [made8, size_madeCells])

set_option maxHeartbeats 2000000 in
theorem put_ok (op a b c k : Int) (w : World) (ho : inB op) (ha : inB a) (hb : inB b) (hc : inB c) (k0 : 0 ≤ k) (k1 : k < 4294967296) :
    Calls Tryd.prog 15 #[insV op a b c k] w fun e w' => ∃ v', e = .returned (.tuple #[v', .int .i64 0]) ∧ Own w' w.heap.size v' (insB op a b c k) ∧ Gr w w' := by
  have hg0 := (Gr.refl w).alloc #[.int .i64 op, .int .i64 a, .int .i64 b, .int .i64 c, .int .u32 k] 47
  have HB := hide (IBox.fresh op a b c k w)
  obtain ⟨o0, o1⟩ := ho
  obtain ⟨a0, a1⟩ := ha
  obtain ⟨b0, b1⟩ := hb
  obtain ⟨c0, c1⟩ := hc
  go_enter Tryd.func15, Tryd.ntmps15
  go_wp2
  generalize w.alloc (.cells #[.int .i64 op, .int .i64 a, .int .i64 b, .int .i64 c, .int .u32 k] 47) = w1 at hg0 HB ⊢
  go_loop [15] (fun i => ∃ j : Nat, j ≤ 4 ∧ i = .int .i64 j) (fun i => 4 - (intOf i).toNat)
  case atStart => exact ⟨0, by omega, rfl⟩
  case round =>
    obtain ⟨j, hj, rfl⟩ := hrel
    by_cases hlt : j < 4
    · obtain ⟨x, hx, h0, h1⟩ : ∃ x, [op, a, b, c][j]? = some x ∧ 0 ≤ x ∧ x ≤ 255 := by
        match j, hlt with
        | 0, _ => exact ⟨op, rfl, o0, o1⟩
        | 1, _ => exact ⟨a, rfl, a0, a1⟩
        | 2, _ => exact ⟨b, rfl, b0, b1⟩
        | 3, _ => exact ⟨c, rfl, c0, c1⟩
      have hat := index4 w1 j op a b c x hx
      have hlt' : (j : Int) < 4 := by omega
      clear hx
      go_wp2
      exact ⟨⟨j + 1, by omega, by go_num⟩, by simp [intOf]; omega⟩
    · obtain rfl : j = 4 := by omega
      obtain ⟨q0, q1, q2, q3, q4⟩ := HB.out.cells
      have hmk := make8
      have hlt1 : w.heap.size < w1.heap.size := World.block_lt_of_cell? w1 ⟨w.heap.size, 0, none⟩ q0
      have hsz := hg0.size
      have HA : Hid (Calls Tryd.prog 21 #[.slice (some ⟨w1.heap.size, 0, none⟩) 0 8, insV op a b c k] (w1.drew.alloc (.cells made8 5)) fun e w' => ∃ v', e = .returned v' ∧ Own w' w.heap.size v' ([] ++ insB op a b c k) ∧ Kept 5 w.heap.size (w1.drew.alloc (.cells made8 5)) w') :=
        addi_calls _ [] _ _ _ _ _ w.heap.size _ o0 o1 a0 a1 b0 b1 c0 c1 k0 k1 (by simp) (by simp; omega) (own8 w1.drew _ (by simpa using hsz))
      go_wp2_with (fail)
      go_region_with (go_at_call 21; refine HA.out.mono ?_; rintro e w2 ⟨v', rfl, ho2, hk2⟩)
      all_goals
        go_wp2
        go_ret2
        exact ⟨_, rfl, ho2, ((hg0.drew.alloc _ _).after (hk2.below (by simp; omega)))⟩
end Go.Proofs.YthooopcoemdphaaDoor
