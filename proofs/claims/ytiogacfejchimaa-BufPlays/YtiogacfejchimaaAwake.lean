/-
  The document's example comes out as it should: awake answers true. No condition.
-/
import Derived.Test.YtiogacfejchimaaFresh
import Derived.Test.YtiogacfejchimaaPut
import Derived.Test.YtiogacfejchimaaPop
import Derived.Test.YtiogacfejchimaaFind
namespace Go.Proofs.Ytiogacfejchimaa
open Go.ChangeShapes Go.WideShapes Go.ChangeAt Go.RowKit
set_option linter.unusedVariables false

set_option maxHeartbeats 1000000 in
theorem awake_calls (w : World) : Calls Try.prog 7 #[] w fun e w' => e = .returned (.bool true) ∧ Gr w w' := by
  go_enter Try.func7, Try.ntmps7
  go_wp2_with (fail)
  refine (new_yes 2 (by omega) (by omega) _).mono ?_
  rintro e w1 ⟨rfl, g1⟩
  have i0 : IsB (newC 2) 2 [] := is_newC 2 (by omega)
  generalize newC 2 = C0 at i0
  have h0 := Has.new w1 C0 29
  go_wp2_with (first
    | (refine store_new rfl rfl _ _ rfl w1.heap.size rfl rfl C0 rfl zeroC i0.size zeroC_size i0.one ?_)
    | (refine load_buf rfl _ rfl w1.heap.size rfl C0 h0 i0.size ?_))
  refine (put_yes i0 (by simp) ⟨3, 7⟩ _).mono ?_
  rintro e w2 ⟨C1, ⟨rfl, g2⟩, i1⟩
  replace h0 := h0.later g2
  have h0' := h0.alloc C1 29
  have h1 := Has.new w2 C1 29
  go_wp2_with (first
    | (refine store_new rfl rfl _ _ rfl w2.heap.size rfl rfl C1 rfl zeroC i1.size zeroC_size i1.one ?_)
    | (refine load_buf rfl _ rfl w2.heap.size rfl C1 h1 i1.size ?_))
  refine (put_yes i1 (by simp) ⟨3, 8⟩ _).mono ?_
  rintro e w3 ⟨C2, ⟨rfl, g3⟩, i2⟩
  replace h0 := (h0'.later g3).alloc C2 29
  have h2 := Has.new w3 C2 29
  clear h0' h1
  go_wp2_with (first
    | (refine store_new rfl rfl _ _ rfl w3.heap.size rfl rfl C2 rfl zeroC i2.size zeroC_size i2.one ?_)
    | (refine load_buf rfl _ rfl w3.heap.size rfl C2 h2 i2.size ?_))
  refine (find_calls i2 3 _).mono ?_
  rintro e w4 ⟨rfl, g4⟩
  replace h0 := h0.later g4
  replace h2 := h2.later g4
  rw [show foundV (findR 3 ([] ++ [⟨3, 7⟩] ++ [⟨3, 8⟩])) = .tuple #[.int .u32 8, .bool true] from rfl]
  go_wp2_with (first
    | (refine load_buf rfl _ rfl w3.heap.size rfl C2 h2 i2.size ?_))
  refine (pop_yes (x := ⟨3, 7⟩) (l := [⟨3, 8⟩]) i2 _).mono ?_
  rintro e w5 ⟨C3, ⟨rfl, g5⟩, i3⟩
  replace h0 := ((h0.later g5).alloc #[.int .i64 3, .int .u32 7] 26).alloc C3 29
  replace h2 := ((h2.later g5).alloc #[.int .i64 3, .int .u32 7] 26).alloc C3 29
  go_wp2_with (first
    | (refine store_new rfl rfl _ _ rfl (w5.heap.size + 1) (by simp) rfl C3 rfl zeroC i3.size zeroC_size i3.one ?_)
    | (refine load_bufG (by kernel_rfl) _ rfl w3.heap.size rfl C2 h2 i2.size ?_)
    | (refine load_bufG (by kernel_rfl) _ rfl w1.heap.size rfl C0 h0 i0.size ?_))
  refine (full_calls i2 _).mono ?_
  rintro e w6 ⟨rfl, g6⟩
  replace h0 := h0.later g6
  rw [show fullB ([] ++ [⟨3, 7⟩] ++ [⟨3, 8⟩]) 2 = true from rfl]
  go_wp2_with (first
    | (refine load_bufG (by kernel_rfl) _ rfl w1.heap.size rfl C0 h0 i0.size ?_))
  refine (len_calls i0 _).mono ?_
  rintro e w7 ⟨rfl, g7⟩
  go_wp2_with (fail)
  go_ret
  exact ⟨rfl, (((((g1.alloc C0 _).trans g2).alloc C1 _).trans g3).alloc C2 _).trans (g4.trans ((((g5.alloc _ _).alloc _ _).trans g6).trans g7))⟩
end Go.Proofs.Ytiogacfejchimaa
