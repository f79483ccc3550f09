/-
  For any line in memory whose fields are right, in any world in which the tables are laid: what (*line).tell answers. Memory grows alone.
-/
import Derived.Test.YtcfkcnkekdafgaaGreatDoorTelx
import Derived.Test.YtcfkcnkekdafgaaGreatDoorInam
import Derived.Test.YtcfkcnkekdafgaaGreatDoorJoin
import Derived.Test.YtcfkcnkekdafgaaGreatDoorRefs
namespace Go.Proofs.YtcfkcnkekdafgaaGreatDoor
open Go.ChangeShapes Go.WideShapes Go.ChangeAt Go.RowKit Go.Lib
set_option linter.unusedVariables false

theorem join_calls (l : List Bs) (v : Value) (B : Nat) (w : World) (ho : w.ownsRow B 9 1 v l.length (strsV l)) (h0 : 0 < l.length) (hl : l.length ≤ 100) (hs : (Lib.join l [32]).length ≤ 1000000) :
    Calls Tryz.prog 59 #[v, .string ⟨#[32]⟩] w fun e w' => e = .returned (.string ⟨(Lib.join l [32]).toArray⟩) ∧ Gr w w' := by
  have em : (l.map fun s => (⟨s.toArray⟩ : ByteArray)).map (·.data.toList) = l := by rw [List.map_map]; exact (List.map_congr_left fun s _ => rfl).trans (List.map_id l)
  rcases ho with ⟨hlen, ⟨rfl, h⟩ | ⟨q, cap, cur, rfl, hb, hq, hnc, hcm, hcs, htk⟩⟩
  · omega
  · have h1 := Tryz.strings_Join q 0 cap (l.map fun s => ⟨s.toArray⟩) ⟨#[32]⟩ w (fun j x hx => by
      have hj : j < l.length := by
        rcases Nat.lt_or_ge j l.length with h | h
        · exact h
        · rw [List.getElem?_eq_none (by simpa using h)] at hx; cases hx
      have h2 : (cur.toList.take (l.length * 1))[j]? = (strsV l)[j]? := by rw [htk]
      rw [List.getElem?_take, if_pos (by omega)] at h2
      simp only [World.cell?, hq, Nat.zero_add]
      rw [List.getElem?_map, List.getElem?_eq_getElem hj] at hx
      simp only [strsV, List.getElem?_map, List.getElem?_eq_getElem hj, Option.map_some, Array.getElem?_toList] at h2 hx
      simp only [Option.some.injEq] at hx
      subst hx
      simpa using h2) (heap_lt hq) (by simp; omega) (by simpa using hnc) (by rw [em]; show (Lib.join l [32]).length ≤ _; omega)
    rw [em, List.length_map] at h1
    exact h1

/-- the words that a line tells, its name ahead -/
def toldL (op a b c k : Nat) (ks : List Nat) : List Bs := (nameB op).data.toList :: ks.map fun x => tellW x a b c k
theorem name_len : ∀ n : Fin 28, (nameB (n : Nat)).size ≤ 20 := by decide +kernel
theorem join_len : ∀ (l : List Bs), (∀ s ∈ l, s.length ≤ 30) → (Lib.join l [32]).length ≤ 31 * l.length
  | [], _ => by simp [Lib.join]
  | [s], h => by have := h s (by simp); simp [Lib.join]; omega
  | s :: r :: l, h => by
    have h1 := join_len (r :: l) fun x hx => h x (List.mem_cons_of_mem _ hx)
    have h2 := h s (by simp)
    simp only [Lib.join, List.intercalate, List.intersperse, List.flatten_cons, List.length_append, List.length_cons, List.length_nil] at h1 ⊢
    omega
theorem told_short {op a b c k : Nat} (hn : op < 28) (ks : List Nat) : ∀ s ∈ toldL op a b c k ks, s.length ≤ 30 := by
  intro s hs
  rcases List.mem_cons.1 hs with rfl | hs
  · have := name_len ⟨op, hn⟩
    have h2 := size_list (nameB op)
    simp only at this
    omega
  · obtain ⟨x, _, rfl⟩ := List.mem_map.1 hs
    exact tellW_len x a b c k
/-- a row of strings is no row of words -/
theorem own_ne {w : World} {B n b : Nat} {v : Value} {xs : List Value} {cs : Array Value} (ho : w.ownsRow B 9 1 v n xs) (h : w.heap[b]? = some (.cells cs 107)) : v.ownBlock ≠ some b := by
  rcases ho.2 with ⟨rfl, _⟩ | ⟨q, cap, cur, rfl, hb, hq, _⟩
  · simp [Value.ownBlock]
  · intro e
    simp [Value.ownBlock] at e
    subst e
    rw [hq] at h
    simp at h
end Go.Proofs.YtcfkcnkekdafgaaGreatDoor
