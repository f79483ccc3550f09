/-
  For any line in memory, in any world in which the table of powers of ten is laid: what the line's tellers answer. Memory grows alone.
-/
import Derived.Test.YtcfkcnkekdafgaaDoorTell
import Derived.Test.YtcfkcnkekdafgaaDoorLate
import Derived.Test.YtcfkcnkekdafgaaDoorRlin
namespace Go.Proofs.YtcfkcnkekdafgaaDoor
open Go.ChangeShapes Go.WideShapes Go.ChangeAt Go.RowKit Go.Lib
set_option linter.unusedVariables false

/-- the table of powers of ten is laid -/
def Pow (w : World) : Prop := Lib.TabIs Tryd.prog w "internal/strconv.uint64pow10" .u64 Lib.pow10Tab
theorem Pow.later {w w' : World} (h : Pow w) (g : Gr w w') : Pow w' := by
  unfold Pow TabIs World.var? at *
  cases hg : Tryd.prog.globalNamed "internal/strconv.uint64pow10" with
  | none => simp [hg] at h
  | some v =>
    simp only [hg, Option.bind_some] at h ⊢
    have hlt : v < w.heap.size := by
      rcases Nat.lt_or_ge v w.heap.size with h' | h'
      · exact h'
      · rw [Array.getElem?_eq_none h'] at h; simp at h
    rw [g.block v hlt]
    exact h
/-- a line lies there -/
def LinAt (w : World) (g op a b c k : Nat) (t : ByteArray) : Prop := w.heap[g]? = some (.cells #[.int .i64 op, .int .i64 a, .int .i64 b, .int .i64 c, .int .u32 k, .string t] 72)
theorem LinAt.later {w w' : World} {g op a b c k : Nat} {t : ByteArray} (h : LinAt w g op a b c k t) (r : Gr w w') : LinAt w' g op a b c k t := (r.block _ (heap_lt h)).trans h
theorem six {w : World} {g op a b c k : Nat} {t : ByteArray} (h : LinAt w g op a b c k t) :
    w.cell? ⟨g, 0, none⟩ = some (.int .i64 op) ∧ w.cell? ⟨g, 1, none⟩ = some (.int .i64 a) ∧ w.cell? ⟨g, 2, none⟩ = some (.int .i64 b) ∧ w.cell? ⟨g, 3, none⟩ = some (.int .i64 c) ∧ w.cell? ⟨g, 4, none⟩ = some (.int .u32 k) ∧ w.cell? ⟨g, 5, none⟩ = some (.string t) := by
  unfold LinAt at h
  refine ⟨?_, ?_, ?_, ?_, ?_, ?_⟩ <;> simp [World.cell?, h]

end Go.Proofs.YtcfkcnkekdafgaaDoor
