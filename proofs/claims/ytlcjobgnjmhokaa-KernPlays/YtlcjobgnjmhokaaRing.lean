/-
  Queues of sleepers by plain lists: which cells a queue has whose places and number are given, and which of them are a queue of a list of sleepers. No condition but what each law names.
-/
import Derived.Test.YtlcjobgnjmhokaaRows
import Derived.WalkKit
import Derived.Below
import Derived.ProofKit
import Derived.OpenShut
import Derived.WalkSpells
import Derived.WalkLawsBesides
import Derived.MakeChecks
import Derived.LaidMore
import Derived.Deep.MidRow
import Derived.Laws.Rows
import Derived.Laws.Tables
namespace Go.Proofs.Ytlcjobgnjmhokaa
open Go.ChangeShapes Go.WideShapes Go.ChangeAt Go.RowKit
set_option linter.unusedVariables false

/-- a sleeper: who and where -/
structure Ent where
  a : Int
  v : Int

def entC (x : Ent) : List Value := [.int .i64 x.a, .int .i64 x.v]
def ent0 : Ent := ⟨0, 0⟩
def flat (r : List Ent) : List Value := r.flatMap entC
def bufL (r : List Ent) (count : Int) : List Value := flat r ++ [.int .i64 count]
def bufC (r : List Ent) (count : Int) : Array Value := (bufL r count).toArray

theorem flat_cons (x : Ent) (r : List Ent) : flat (x :: r) = .int .i64 x.a :: .int .i64 x.v :: flat r := rfl
theorem flat_append (r s : List Ent) : flat (r ++ s) = flat r ++ flat s := by simp [flat]
theorem flat_length : ∀ r : List Ent, (flat r).length = r.length * 2
  | [] => rfl
  | x :: r => by rw [flat_cons]; simp [flat_length r]; omega
theorem flat_a : ∀ (r : List Ent) (i : Nat), (flat r)[i * 2]? = r[i]?.map fun x => Value.int .i64 x.a
  | [], i => by simp [flat]
  | x :: r, 0 => rfl
  | x :: r, i + 1 => by
    rw [flat_cons, show (i + 1) * 2 = i * 2 + 1 + 1 from by omega, List.getElem?_cons_succ, List.getElem?_cons_succ, List.getElem?_cons_succ, flat_a r i]
theorem flat_v : ∀ (r : List Ent) (i : Nat), (flat r)[i * 2 + 1]? = r[i]?.map fun x => Value.int .i64 x.v
  | [], i => by simp [flat]
  | x :: r, 0 => rfl
  | x :: r, i + 1 => by
    rw [flat_cons, show (i + 1) * 2 + 1 = i * 2 + 1 + 1 + 1 from by omega, List.getElem?_cons_succ, List.getElem?_cons_succ, List.getElem?_cons_succ, flat_v r i]
theorem flat_set : ∀ (r : List Ent) (i : Nat) (x : Ent), flat (r.set i x) = ((flat r).set (i * 2) (.int .i64 x.a)).set (i * 2 + 1) (.int .i64 x.v)
  | [], i, x => by simp [flat]
  | y :: r, 0, x => by simp [flat_cons]
  | y :: r, i + 1, x => by
    rw [List.set_cons_succ, flat_cons, flat_cons, flat_set r i x, show (i + 1) * 2 + 1 = i * 2 + 1 + 1 + 1 from by omega, show (i + 1) * 2 = i * 2 + 1 + 1 from by omega]
    simp

theorem bufC_size {r : List Ent} (h : r.length = 8) (count : Int) : (bufC r count).size = 17 := by
  simp [bufC, bufL, flat_length, h]
theorem bufC_count {r : List Ent} (h : r.length = 8) (count : Int) : (bufC r count)[16]? = some (.int .i64 count) := by
  simp [bufC, bufL, flat_length, h]
theorem bufC_a {r : List Ent} (h : r.length = 8) (count : Int) (i : Nat) (hi : i < 8) : (bufC r count)[i * 2]? = some (.int .i64 (r.getD i ent0).a) := by
  have e : (flat r)[i * 2]? = some (.int .i64 (r.getD i ent0).a) := by
    rw [flat_a, List.getD_eq_getElem?_getD, List.getElem?_eq_getElem (by omega)]; rfl
  simp only [bufC, bufL, List.getElem?_toArray]
  rw [List.getElem?_append_left (by rw [flat_length]; omega), e]
theorem bufC_v {r : List Ent} (h : r.length = 8) (count : Int) (i : Nat) (hi : i < 8) : (bufC r count)[i * 2 + 1]? = some (.int .i64 (r.getD i ent0).v) := by
  have e : (flat r)[i * 2 + 1]? = some (.int .i64 (r.getD i ent0).v) := by
    rw [flat_v, List.getD_eq_getElem?_getD, List.getElem?_eq_getElem (by omega)]; rfl
  simp only [bufC, bufL, List.getElem?_toArray]
  rw [List.getElem?_append_left (by rw [flat_length]; omega), e]
theorem bufC_set {r : List Ent} (h : r.length = 8) (count : Int) (i : Nat) (hi : i < 8) (x : Ent) :
    ((bufC r count).setIfInBounds (i * 2) (.int .i64 x.a)).setIfInBounds (i * 2 + 1) (.int .i64 x.v) = bufC (r.set i x) count := by
  simp only [bufC, bufL, List.setIfInBounds_toArray, flat_set]
  rw [List.set_append_left _ _ (by rw [flat_length]; omega), List.set_append_left _ _ (by rw [List.length_set, flat_length]; omega)]
theorem bufC_set_count {r : List Ent} (h : r.length = 8) (count n : Int) : (bufC r count).setIfInBounds 16 (.int .i64 n) = bufC r n := by
  simp [bufC, bufL, flat_length, h]
theorem flat_one (r : List Ent) : ∀ v ∈ flat r, v.oneCell' = true := by
  intro v hv
  unfold flat at hv
  obtain ⟨x, _, hx⟩ := List.mem_flatMap.1 hv
  simp only [entC, List.mem_cons, List.not_mem_nil, or_false] at hx
  rcases hx with rfl | rfl <;> rfl
theorem bufC_one (r : List Ent) (count : Int) : (bufC r count).all (·.oneCell') = true := by
  refine all_oneCell_toArray fun v hv => ?_
  unfold bufL at hv
  rcases List.mem_append.1 hv with h | h
  · exact flat_one r v h
  · simp only [List.mem_cons, List.not_mem_nil, or_false] at h
    rcases h with rfl; rfl

/-- these cells are a queue whose sleepers are l, the first asleep first: its places -/
structure Is (C : Array Value) (l : List Ent) (r : List Ent) : Prop where
  ring : r.length = 8
  len : l.length ≤ 8
  cells : C = bufC r l.length
  at_ : ∀ i, i < l.length → l.getD i ent0 = r.getD i ent0

def IsB (C : Array Value) (l : List Ent) : Prop := ∃ r, Is C l r

/-- the cells of the zero queue -/
def zeroC : Array Value := bufC (List.replicate 8 ent0) 0
theorem zeroC_size : zeroC.size = 17 := rfl
theorem is_zeroC : IsB zeroC [] := ⟨List.replicate 8 ent0, by simp, by simp, rfl, fun i hi => by simp at hi⟩

theorem getD_set (r : List Ent) (p i : Nat) (x : Ent) (h : p < r.length) : (r.set p x).getD i ent0 = if i = p then x else r.getD i ent0 := by
  simp only [List.getD_eq_getElem?_getD, List.getElem?_set]
  by_cases e : p = i
  · subst e; simp [h]
  · have e' : ¬ i = p := fun q => e q.symm
    simp [e, e']

theorem is_put {C : Array Value} {l r : List Ent} (h : Is C l r) (hl : l.length < 8) (x : Ent) :
    Is (bufC (r.set l.length x) (l.length + 1)) (l ++ [x]) (r.set l.length x) := by
  have h1 := h.ring
  refine ⟨by simp [h1], by simp; omega, by simp, fun i hi => ?_⟩
  simp only [List.length_append, List.length_cons, List.length_nil] at hi
  rw [getD_set _ _ _ _ (by omega)]
  by_cases e : i = l.length
  · subst e; simp
  · rw [if_neg (by omega)]
    have := h.at_ i (by omega)
    rw [← this, List.getD_eq_getElem?_getD, List.getD_eq_getElem?_getD, List.getElem?_append_left (by omega)]

theorem Is.count {C : Array Value} {l r : List Ent} (h : Is C l r) : C[16]? = some (.int .i64 l.length) := by rw [h.cells]; exact bufC_count h.ring _
theorem Is.ent {C : Array Value} {l r : List Ent} (h : Is C l r) (i : Nat) (hi : i < l.length) :
    C[i * 2]? = some (.int .i64 (l.getD i ent0).a) ∧ C[i * 2 + 1]? = some (.int .i64 (l.getD i ent0).v) := by
  have h1 := h.len
  rw [h.at_ i hi, h.cells]
  exact ⟨bufC_a h.ring _ _ (by omega), bufC_v h.ring _ _ (by omega)⟩
theorem IsB.size {C : Array Value} {l : List Ent} (h : IsB C l) : C.size = 17 := by
  obtain ⟨r, h⟩ := h; rw [h.cells]; exact bufC_size h.ring _
theorem IsB.one {C : Array Value} {l : List Ent} (h : IsB C l) : C.all (·.oneCell') = true := by
  obtain ⟨r, h⟩ := h; rw [h.cells]; exact bufC_one _ _
theorem IsB.count {C : Array Value} {l : List Ent} (h : IsB C l) : C[16]? = some (.int .i64 l.length) := by
  obtain ⟨r, h⟩ := h; exact h.count
theorem IsB.len {C : Array Value} {l : List Ent} (h : IsB C l) : l.length ≤ 8 := by
  obtain ⟨r, h⟩ := h; exact h.len
theorem IsB.ent {C : Array Value} {l : List Ent} (h : IsB C l) (i : Nat) (hi : i < l.length) :
    C[i * 2]? = some (.int .i64 (l.getD i ent0).a) ∧ C[i * 2 + 1]? = some (.int .i64 (l.getD i ent0).v) := by
  obtain ⟨r, h⟩ := h; exact h.ent i hi
end Go.Proofs.Ytlcjobgnjmhokaa
