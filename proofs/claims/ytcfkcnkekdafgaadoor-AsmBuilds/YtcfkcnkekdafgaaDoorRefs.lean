/-
  For any string and byte, in any world: the reference's split parts the string as 'parts' says, into a row of its own; memory grows alone. Conditions: strings of at most 2^31 bytes.
-/
import Derived.Test.YtcfkcnkekdafgaaDoorRefa
import Derived.Test.YtcfkcnkekdafgaaDoorPadd
namespace Go.Proofs.YtcfkcnkekdafgaaDoor
open Go.ChangeShapes Go.WideShapes Go.ChangeAt Go.RowKit
set_option linter.unusedVariables false

def strsV (l : List Bs) : List Value := l.map strV
theorem strsV_snoc (l : List Bs) (s : Bs) : strsV (l ++ [s]) = strsV l ++ [strV s] := by simp [strsV]
theorem infoS : (Tryd.prog.info? 9).map (fun i => (i.zero, i.size, i.bytes)) = some (some (.string ⟨#[]⟩), 1, 16) := by kernel_rfl
/-- a row of strings of the call's own -/
def SplP (l : List Bs) (w : World) (e : Ending) (w' : World) : Prop := ∃ v, e = .returned v ∧ w'.ownsRow w.heap.size 9 1 v l.length (strsV l) ∧ Gr w w'
theorem Gr.own {w w1 w2 : World} {e : TypeId} {size n : Nat} {v : Value} {xs : List Value} (h : Gr w w1) (ho : w1.ownsRow w.heap.size e size v n xs) (g : w1.grownBy w2 v.ownBlock) : Gr w w2 := by
  refine Below.grown h g h.size fun k hk => ?_
  rcases ho.2 with ⟨rfl, _⟩ | ⟨q, cap, cur, rfl, hb, hq, _⟩
  · simp [Value.ownBlock] at hk
  · simp [Value.ownBlock] at hk
    omega
/-- how far the parting is: up to k, the last part from f on -/
structure Spl (c : UInt8) (l : Bs) (k f : Nat) (done : List Bs) : Prop where
  le : f ≤ k
  all : parts c l = done ++ parts c (l.drop f)
  free : c ∉ (l.drop f).take (k - f)
theorem Spl.zero (c : UInt8) (l : Bs) : Spl c l 0 0 [] := ⟨Nat.le_refl _, by simp, by simp⟩
theorem Spl.skip {c : UInt8} {l : Bs} {k f : Nat} {done : List Bs} {b : UInt8} (h : Spl c l k f done) (hb : l[k]? = some b) (hne : b ≠ c) : Spl c l (k + 1) f done := by
  refine ⟨by have := h.le; omega, h.all, ?_⟩
  have hle := h.le
  rw [show k + 1 - f = (k - f) + 1 by omega, List.take_add_one, List.getElem?_drop, show f + (k - f) = k by omega, hb]
  intro hm
  rcases List.mem_append.mp hm with hm | hm
  · exact h.free hm
  · simp at hm
    exact hne hm.symm
theorem Spl.hit {c : UInt8} {l : Bs} {k f : Nat} {done : List Bs} (h : Spl c l k f done) (hb : l[k]? = some c) : Spl c l (k + 1) (k + 1) (done ++ [(l.drop f).take (k - f)]) := by
  refine ⟨Nat.le_refl _, ?_, by simp⟩
  have hle := h.le
  have hk := (List.getElem?_eq_some_iff.mp hb).1
  have e1 : l.drop f = (l.drop f).take (k - f) ++ c :: l.drop (k + 1) := by
    have h1 := List.take_append_drop (k - f) (l.drop f)
    rw [List.drop_drop, show f + (k - f) = k by omega] at h1
    rw [List.drop_eq_getElem_cons hk, (List.getElem?_eq_some_iff.mp hb).2] at h1
    exact h1.symm
  have e2 := parts_cut c ((l.drop f).take (k - f)) (l.drop (k + 1)) h.free
  rw [← e1] at e2
  rw [h.all, e2]
  simp
theorem Spl.last {c : UInt8} {l : Bs} {f : Nat} {done : List Bs} (h : Spl c l l.length f done) : parts c l = done ++ [l.drop f] := by
  rw [h.all, parts_free]
  have h1 := h.free
  rwa [List.take_of_length_le (by rw [List.length_drop]; omega)] at h1
theorem piece_of (s : ByteArray) (f k : Nat) (h : k ≤ s.size) : Value.string (s.extract f k) = strV ((s.data.toList.drop f).take (k - f)) := by
  show Value.string (s.extract f k) = Value.string ⟨((s.data.toList.drop f).take (k - f)).toArray⟩
  congr 1
  apply ByteArray.ext
  apply Array.toList_inj.mp
  rw [ByteArray.data_extract, Array.toList_extract, List.extract_eq_take_drop]
theorem piece_end (s : ByteArray) (f : Nat) (h : f ≤ s.size) : Value.string (s.extract f s.size) = strV (s.data.toList.drop f) := by
  rw [piece_of s f s.size (Nat.le_refl _), List.take_of_length_le]
  have h1 := size_list s
  rw [List.length_drop]
  omega

end Go.Proofs.YtcfkcnkekdafgaaDoor
