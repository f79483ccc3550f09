/-
  A reader that a call has just made over bytes that lie in memory is a reader over these bytes. Worlds alone: no condition on inputs.
-/
import Derived.Test.YthooopcoemdphaaDoorInstr
namespace Go.Proofs.YthooopcoemdphaaDoor
open Go.ChangeShapes Go.WideShapes Go.ChangeAt Go.RowKit
set_option linter.unusedVariables false

theorem rd_made (w : World) (a : Option Addr) (L : List Int) (cap : Nat) (h : BytesAt w a L) (hl : L.length ≤ cap) (hm : cap ≤ maxLen) :
    Rd (w.alloc (.cells #[.slice a L.length cap, .bool false] 49)) w.heap.size L false := by
  have hn : (w.alloc (.cells #[.slice a L.length cap, .bool false] 49)).heap[w.heap.size]? = some (.cells #[.slice a L.length cap, .bool false] 49) := heap_alloc_new w _
  refine ⟨a, cap, row_cell hn 0, row_cell hn 1, row_frozen hn 0, row_frozen hn 1, hl, hm, ?_⟩
  rcases h with h | ⟨b, off, ha, h⟩
  · exact .inl h
  · by_cases h0 : L = []
    · exact .inl h0
    · refine .inr ⟨b, off, ha, ?_, fun j x hx => cell_later ((Gr.refl w).alloc _ _) (h j x hx)⟩
      have hpos : 0 < L.length := List.length_pos_iff.2 h0
      exact World.block_lt_of_cell? w ⟨b, off + 0, none⟩ (h 0 _ (List.getElem?_eq_getElem hpos))
/-- writes to a block that is new leave what was there as it was -/
theorem Wr.gr {r : Nat} {w w1 w2 : World} (h : Gr w w1) (hr : w.heap.size ≤ r) (k : Wr r w1 w2) : Gr w w2 :=
  h.after ⟨k.os, k.tape, k.output, k.size, fun i hi => k.block i (Nat.lt_of_lt_of_le hi h.size) (by simp; omega)⟩
end Go.Proofs.YthooopcoemdphaaDoor
