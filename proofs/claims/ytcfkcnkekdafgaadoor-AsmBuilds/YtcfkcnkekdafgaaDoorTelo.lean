/-
  For any line in memory whose fields are right, in any world in which the tables are laid: what (*line).tell answers. Memory grows alone.
-/
import Derived.Test.YtcfkcnkekdafgaaDoorTelx
import Derived.Test.YtcfkcnkekdafgaaDoorRefs
import Derived.Lib.Join
namespace Go.Proofs.YtcfkcnkekdafgaaDoor
open Go.ChangeShapes Go.WideShapes Go.ChangeAt Go.RowKit Go.Lib
set_option linter.unusedVariables false

/-- the words that a line tells, its name ahead -/
def toldL (op a b c k : Nat) (ks : List Nat) : List Bs := (nameB op).data.toList :: ks.map fun x => tellW x a b c k
theorem name_len : ∀ n : Fin 28, (nameB (n : Nat)).size ≤ 20 := by decide +kernel
theorem join_len : ∀ (l : List Bs), (∀ s ∈ l, s.length ≤ 30) → (Lib.join l [32]).length ≤ 31 * l.length
  | [], _ => by simp [Lib.join]
  | [s], h => by have := h s (by simp); simp [Lib.join]; omega
  | s :: r :: l, h => by
    have h1 := join_len (r :: l) fun x hx => h x (List.mem_cons_of_mem _ hx)
    have h2 := h s (by simp)
    simp only [Lib.join, List.intercalate, List.intersperse, List.flatten_cons, List.length_append, List.length_cons, List.length_nil] at h1 ⊢
    omega
theorem told_short {op a b c k : Nat} (hn : op < 28) (ks : List Nat) : ∀ s ∈ toldL op a b c k ks, s.length ≤ 30 := by
  intro s hs
  rcases List.mem_cons.1 hs with rfl | hs
  · have := name_len ⟨op, hn⟩
    have h2 := size_list (nameB op)
    simp only at this
    omega
  · obtain ⟨x, _, rfl⟩ := List.mem_map.1 hs
    exact tellW_len x a b c k
/-- a row of strings is no row of words -/
theorem own_ne {w : World} {B n b : Nat} {v : Value} {xs : List Value} {cs : Array Value} (ho : w.ownsRow B 9 1 v n xs) (h : w.heap[b]? = some (.cells cs 88)) : v.ownBlock ≠ some b := by
  rcases ho.2 with ⟨rfl, _⟩ | ⟨q, cap, cur, rfl, hb, hq, _⟩
  · simp [Value.ownBlock]
  · intro e
    simp [Value.ownBlock] at e
    subst e
    rw [hq] at h
    simp at h
end Go.Proofs.YtcfkcnkekdafgaaDoor
