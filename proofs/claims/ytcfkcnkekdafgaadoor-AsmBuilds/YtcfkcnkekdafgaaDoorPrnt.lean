/-
  For any code in memory, in any world in which the tables are laid: what asm.Print answers. Memory grows alone.
-/
import Derived.Test.YtcfkcnkekdafgaaDoorLeq
import Derived.Test.YtcfkcnkekdafgaaDoorSam
namespace Go.Proofs.YtcfkcnkekdafgaaDoor
open Go.ChangeShapes Go.WideShapes Go.ChangeAt Go.RowKit
set_option linter.unusedVariables false

/-- an instruction's line -/
def lineI (i : Ins) : Bs := lineF (fB i.op).data.toList i.a.toNat i.b.toNat i.c.toNat i.k.toNat (nameB i.op).data.toList
/-- a code's text -/
def textL (l : List Ins) : Bs := (l.map fun i => lineI i ++ [10]).flatten
def rightsI (size : Nat) (i : Ins) : Bool := rightB i.op i.a i.b i.c i.k size
/-- what Print answers -/
def printR (l : List Ins) : Bs × Int := if 4000 < l.length then ([], 4) else if l.all (rightsI l.length) then (textL l, 0) else ([], 3)
theorem text_snoc (l : List Ins) (i : Ins) : textL (l ++ [i]) = textL l ++ lineI i ++ [10] := by simp [textL]
theorem builder_later {T e : TypeId} {B b : Nat} {bs : List Value} {w w' : World} (h : Lib.IsBuilder T e B b bs w) (g : Gr w w') : Lib.IsBuilder T e B b bs w' := by
  have one : ∀ p, Lib.BuilderAt T e B b p bs w → Lib.BuilderAt T e B b p bs w' := by
    rintro p ⟨h1, v, h2, h3, h4⟩
    exact ⟨h1, v, (g.block _ (heap_lt h2)).trans h2, own_gr h3 g, h4⟩
  rcases h with h | h
  · exact .inl (one _ h)
  · exact .inr (one _ h)
theorem byte_str (l s : Bs) : Lib.byteCells l ++ Lib.strCells ⟨s.toArray⟩ = Lib.byteCells (l ++ s) := by simp [Lib.byteCells, Lib.strCells]
theorem byte_len (l : Bs) : (Lib.byteCells l).length = l.length := by simp [Lib.byteCells]
theorem line_len {op a b c k : Nat} (hn : op < 28) : (Lib.join (toldL op a b c k (wk op)) [32]).length ≤ 124 := by
  have h1 := join_len _ (told_short (a := a) (b := b) (c := c) (k := k) hn (wk op))
  have h2 := wk_len ⟨op, hn⟩
  simp only at h2
  simp only [toldL, List.length_cons, List.length_map] at h1
  simp only [toldL]
  omega
end Go.Proofs.YtcfkcnkekdafgaaDoor
