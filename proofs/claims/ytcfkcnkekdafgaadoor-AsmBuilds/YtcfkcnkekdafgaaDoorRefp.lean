/-
  For any slice of strings and any name, in any world in which the strings lie: the reference's place tells the place of the name among the lines, or -1. Memory is as it was but for drawn orders. Conditions: at most 2^31 strings of at most 2^31 bytes each.
-/
import Derived.Test.YtcfkcnkekdafgaaDoorRefs
namespace Go.Proofs.YtcfkcnkekdafgaaDoor
open Go.ChangeShapes Go.WideShapes Go.ChangeAt Go.RowKit
set_option linter.unusedVariables false

/-- strings lie behind a slice -/
def StrsAt (w : World) (v : Value) (ls : List Bs) : Prop := ∃ a cap, v = .slice a ls.length cap ∧ (ls = [] ∨ ∃ b off, a = some ⟨b, off, none⟩ ∧ ∀ j s, ls[j]? = some s → w.cell? ⟨b, off + j, none⟩ = some (strV s))
/-- the place of a name among lines, from n on -/
def placeR : List Bs → Bs → Nat → Option Nat
  | [], _, _ => none
  | t :: ts, nm, n => if t = [] then placeR ts nm n else if t = nm ++ [58] then some n else if t.getLast? = some 58 then placeR ts nm n else placeR ts nm (n + 1)
theorem placeR_cons (t : Bs) (ts : List Bs) (nm : Bs) (n : Nat) : placeR (t :: ts) nm n = if t = [] then placeR ts nm n else if t = nm ++ [58] then some n else if t.getLast? = some 58 then placeR ts nm n else placeR ts nm (n + 1) := rfl
theorem lastB (T : ByteArray) (h : T.data.toList ≠ []) : ∃ h : T.size - 1 < T.size, T.data.toList.getLast? = some T[T.size - 1] := by
  have hl := size_list T
  have h0 : T.size ≠ 0 := fun e => h (List.length_eq_zero_iff.mp (by omega))
  refine ⟨by omega, ?_⟩
  rw [List.getLast?_eq_getElem?, hl]
  exact at_list T (T.size - 1) (by omega)
theorem cat_eq (T nm : ByteArray) : (T.toList == (nm ++ ⟨#[58]⟩).toList) = decide (T.data.toList = nm.data.toList ++ [58]) := by
  rw [str_eq]
  congr 1
  apply propext
  constructor
  · intro h
    rw [h]
    simp
  · intro h
    apply ByteArray.ext
    apply Array.toList_inj.mp
    rw [h]
    simp

end Go.Proofs.YtcfkcnkekdafgaaDoor
