/-
  For any kind of instruction: asm.words answers the takers and the tellers of its words, in order. No condition.
-/
import Derived.Test.YtcfkcnkekdafgaaDoorLine
import Derived.Laws.EntriesVeiled
namespace Go.Proofs.YtcfkcnkekdafgaaDoor
open Go.ChangeShapes Go.WideShapes Go.ChangeAt Go.RowKit
set_option linter.unusedVariables false

def takeF (x : Nat) : Nat := [49, 51, 53, 55, 57, 59].getD x 0
def tellF (x : Nat) : Nat := [50, 52, 54, 56, 58, 60].getD x 0
abbrev fnV (n : Nat) : Value := .func (.func n) #[] #[]
def wordsV (ks : List Nat) : List Value := ks.flatMap fun x => [fnV (takeF x), fnV (tellF x)]
/-- the takers and the tellers of words lie in memory -/
def WordsAt (w : World) (v : Value) (ks : List Nat) : Prop := (ks = [] ∧ v = .slice none 0 0) ∨ ∃ b, v = .slice (some ⟨b, 0, none⟩) ks.length ks.length ∧ w.heap[b]? = some (.cells (wordsV ks).toArray 88)
def WordsP (n : Nat) (w : World) (e : Ending) (w' : World) : Prop := ∃ v, e = .returned v ∧ WordsAt w' v (wk n) ∧ Gr w w'
theorem WordsAt.later {w w' : World} {v : Value} {ks : List Nat} (h : WordsAt w v ks) (g : Gr w w') : WordsAt w' v ks := by
  rcases h with h | ⟨b, hv, h⟩
  · exact .inl h
  · exact .inr ⟨b, hv, (g.block b (heap_lt h)).trans h⟩
theorem new_at (W : World) (o : Obj) (k : Nat) (h : W.heap.size = k) : (W.alloc o).heap[k]? = some o := h ▸ heap_alloc_new W o
end Go.Proofs.YtcfkcnkekdafgaaDoor
