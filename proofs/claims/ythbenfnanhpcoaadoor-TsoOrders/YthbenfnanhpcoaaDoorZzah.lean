/-
  Store buffers by plain lists: which cells a buffer has whose ring, room, first place and number of entries are given, and which of them are a buffer of a room with a list of entries; what a put and a pop make of them. No condition but what each law names.
-/
import Derived.Test.YthbenfnanhpcoaaDoorZzag
import Derived.WalkKit
import Derived.Below
import Derived.ProofKit
import Derived.OpenShut
import Derived.WalkSpells
import Derived.WalkLawsBesides
import Derived.MakeChecks
import Derived.LaidMore
import Derived.Deep.MidRow
import Derived.Laws.Rows
import Derived.Laws.Tables
namespace Go.Proofs.YthbenfnanhpcoaaDoor.Bf
open Go.ChangeShapes Go.WideShapes Go.ChangeAt Go.RowKit
set_option linter.unusedVariables false
set_option maxRecDepth 20000

def entC (x : Ent) : List Value := [.int .i64 x.a, .int .u32 x.v]
def entV (x : Ent) : Value := .agg #[.int .i64 x.a, .int .u32 x.v]
def flat (r : List Ent) : List Value := r.flatMap entC
def bufL (r : List Ent) (room first count : Int) : List Value := flat r ++ [.int .i64 room, .int .i64 first, .int .i64 count]
def bufC (r : List Ent) (room first count : Int) : Array Value := (bufL r room first count).toArray

theorem flat_cons (x : Ent) (r : List Ent) : flat (x :: r) = .int .i64 x.a :: .int .u32 x.v :: flat r := rfl
theorem flat_append (r s : List Ent) : flat (r ++ s) = flat r ++ flat s := by simp [flat]
theorem flat_length : ∀ r : List Ent, (flat r).length = r.length * 2
  | [] => rfl
  | x :: r => by rw [flat_cons]; simp [flat_length r]; omega
theorem flat_a : ∀ (r : List Ent) (i : Nat), (flat r)[i * 2]? = r[i]?.map fun x => Value.int .i64 x.a
  | [], i => by simp [flat]
  | x :: r, 0 => rfl
  | x :: r, i + 1 => by
    rw [flat_cons, show (i + 1) * 2 = i * 2 + 1 + 1 from by omega, List.getElem?_cons_succ, List.getElem?_cons_succ, List.getElem?_cons_succ, flat_a r i]
theorem flat_v : ∀ (r : List Ent) (i : Nat), (flat r)[i * 2 + 1]? = r[i]?.map fun x => Value.int .u32 x.v
  | [], i => by simp [flat]
  | x :: r, 0 => rfl
  | x :: r, i + 1 => by
    rw [flat_cons, show (i + 1) * 2 + 1 = i * 2 + 1 + 1 + 1 from by omega, List.getElem?_cons_succ, List.getElem?_cons_succ, List.getElem?_cons_succ, flat_v r i]
theorem flat_set : ∀ (r : List Ent) (i : Nat) (x : Ent), flat (r.set i x) = ((flat r).set (i * 2) (.int .i64 x.a)).set (i * 2 + 1) (.int .u32 x.v)
  | [], i, x => by simp [flat]
  | y :: r, 0, x => by simp [flat_cons]
  | y :: r, i + 1, x => by
    rw [List.set_cons_succ, flat_cons, flat_cons, flat_set r i x, show (i + 1) * 2 + 1 = i * 2 + 1 + 1 + 1 from by omega, show (i + 1) * 2 = i * 2 + 1 + 1 from by omega]
    simp

theorem bufC_size {r : List Ent} (h : r.length = 16) (room first count : Int) : (bufC r room first count).size = 35 := by
  simp [bufC, bufL, flat_length, h]
theorem bufC_room {r : List Ent} (h : r.length = 16) (room first count : Int) : (bufC r room first count)[32]? = some (.int .i64 room) := by
  simp [bufC, bufL, flat_length, h]
theorem bufC_first {r : List Ent} (h : r.length = 16) (room first count : Int) : (bufC r room first count)[33]? = some (.int .i64 first) := by
  simp [bufC, bufL, flat_length, h]
theorem bufC_count {r : List Ent} (h : r.length = 16) (room first count : Int) : (bufC r room first count)[34]? = some (.int .i64 count) := by
  simp [bufC, bufL, flat_length, h]
theorem bufC_a {r : List Ent} (h : r.length = 16) (room first count : Int) (i : Nat) (hi : i < 16) : (bufC r room first count)[i * 2]? = some (.int .i64 (r.getD i ent0).a) := by
  have e : (flat r)[i * 2]? = some (.int .i64 (r.getD i ent0).a) := by
    rw [flat_a, List.getD_eq_getElem?_getD, List.getElem?_eq_getElem (by omega)]; rfl
  simp only [bufC, bufL, List.getElem?_toArray]
  rw [List.getElem?_append_left (by rw [flat_length]; omega), e]
theorem bufC_v {r : List Ent} (h : r.length = 16) (room first count : Int) (i : Nat) (hi : i < 16) : (bufC r room first count)[i * 2 + 1]? = some (.int .u32 (r.getD i ent0).v) := by
  have e : (flat r)[i * 2 + 1]? = some (.int .u32 (r.getD i ent0).v) := by
    rw [flat_v, List.getD_eq_getElem?_getD, List.getElem?_eq_getElem (by omega)]; rfl
  simp only [bufC, bufL, List.getElem?_toArray]
  rw [List.getElem?_append_left (by rw [flat_length]; omega), e]
theorem bufC_set {r : List Ent} (h : r.length = 16) (room first count : Int) (i : Nat) (hi : i < 16) (x : Ent) :
    ((bufC r room first count).setIfInBounds (i * 2) (.int .i64 x.a)).setIfInBounds (i * 2 + 1) (.int .u32 x.v) = bufC (r.set i x) room first count := by
  simp only [bufC, bufL, List.setIfInBounds_toArray, flat_set]
  rw [List.set_append_left _ _ (by rw [flat_length]; omega), List.set_append_left _ _ (by rw [List.length_set, flat_length]; omega)]
theorem bufC_set_first {r : List Ent} (h : r.length = 16) (room first count n : Int) : (bufC r room first count).setIfInBounds 33 (.int .i64 n) = bufC r room n count := by
  simp [bufC, bufL, flat_length, h]
theorem bufC_set_count {r : List Ent} (h : r.length = 16) (room first count n : Int) : (bufC r room first count).setIfInBounds 34 (.int .i64 n) = bufC r room first n := by
  simp [bufC, bufL, flat_length, h]
theorem flat_one (r : List Ent) : ∀ v ∈ flat r, v.oneCell' = true := by
  intro v hv
  unfold flat at hv
  obtain ⟨x, _, hx⟩ := List.mem_flatMap.1 hv
  simp only [entC, List.mem_cons, List.not_mem_nil, or_false] at hx
  rcases hx with rfl | rfl <;> rfl
theorem bufC_one (r : List Ent) (room first count : Int) : (bufC r room first count).all (·.oneCell') = true := by
  refine all_oneCell_toArray fun v hv => ?_
  unfold bufL at hv
  rcases List.mem_append.1 hv with h | h
  · exact flat_one r v h
  · simp only [List.mem_cons, List.not_mem_nil, or_false] at h
    rcases h with rfl | rfl | rfl <;> rfl

/-- the entry of an age in a ring -/
def ringAt (r : List Ent) (first i : Nat) : Ent := r.getD ((first + i) % 16) ent0

/-- these cells are a buffer of a room whose entries are l, the oldest first: its ring and its first place -/
structure Is (C : Array Value) (room : Nat) (l : List Ent) (r : List Ent) (first : Nat) : Prop where
  ring : r.length = 16
  fst : first < 16
  len : l.length ≤ room
  most : room ≤ 16
  cells : C = bufC r room first l.length
  at_ : ∀ i, i < l.length → l.getD i ent0 = ringAt r first i

def IsB (C : Array Value) (room : Nat) (l : List Ent) : Prop := ∃ r first, Is C room l r first

theorem is_new (room : Nat) (h : room ≤ 16) : IsB (bufC (List.replicate 16 ent0) room 0 0) room [] :=
  ⟨List.replicate 16 ent0, 0, by simp, by omega, by simp, h, rfl, fun i hi => by simp at hi⟩

theorem getD_set (r : List Ent) (p i : Nat) (x : Ent) (h : p < r.length) : (r.set p x).getD i ent0 = if i = p then x else r.getD i ent0 := by
  simp only [List.getD_eq_getElem?_getD, List.getElem?_set]
  by_cases e : p = i
  · subst e; simp [h]
  · have e' : ¬ i = p := fun q => e q.symm
    simp [e, e']

theorem is_put {C : Array Value} {room : Nat} {l r : List Ent} {first : Nat} (h : Is C room l r first) (hl : l.length < room) (x : Ent) :
    Is (bufC (r.set ((first + l.length) % 16) x) room first (l.length + 1)) room (l ++ [x]) (r.set ((first + l.length) % 16) x) first := by
  have h1 := h.ring
  have h2 := h.fst
  have h3 := h.most
  refine ⟨by simp [h1], h2, by simp; omega, h3, by simp, fun i hi => ?_⟩
  simp only [List.length_append, List.length_cons, List.length_nil] at hi
  unfold ringAt
  rw [getD_set _ _ _ _ (by omega)]
  by_cases e : i = l.length
  · subst e; simp
  · rw [if_neg (by omega)]
    have := h.at_ i (by omega)
    unfold ringAt at this
    rw [← this, List.getD_eq_getElem?_getD, List.getD_eq_getElem?_getD, List.getElem?_append_left (by omega)]

theorem is_pop {C : Array Value} {room : Nat} {x : Ent} {l r : List Ent} {first : Nat} (h : Is C room (x :: l) r first) :
    r.getD first ent0 = x ∧ Is (bufC (r.set first ent0) room ((first + 1) % 16 : Nat) l.length) room l (r.set first ent0) ((first + 1) % 16) := by
  have h1 := h.ring
  have h2 := h.fst
  have h3 := h.most
  have h4 := h.len
  simp only [List.length_cons] at h4
  have h0 := h.at_ 0 (by simp)
  unfold ringAt at h0
  rw [Nat.add_zero, Nat.mod_eq_of_lt h2] at h0
  refine ⟨by rw [← h0]; simp, by simp [h1], by omega, by omega, h3, rfl, fun i hi => ?_⟩
  have hi' := h.at_ (i + 1) (by simp; omega)
  unfold ringAt at *
  rw [getD_set _ _ _ _ (by omega), if_neg (by omega)]
  have e : ((first + 1) % 16 + i) % 16 = (first + (i + 1)) % 16 := by omega
  rw [e, ← hi']
  simp
end Go.Proofs.YthbenfnanhpcoaaDoor.Bf

namespace Go.Proofs.YthbenfnanhpcoaaDoor.Bf
open Go.ChangeShapes Go.WideShapes Go.ChangeAt Go.RowKit
set_option linter.unusedVariables false
set_option maxRecDepth 20000

set_option maxHeartbeats 400000 in
theorem len_calls {C : Array Value} {room : Nat} {l : List Ent} (h : IsB C room l) (w : World) :
    Calls Tryd.prog 89 #[.agg C] w fun e w' => e = .returned (.int .i64 l.length) ∧ Gr w w' := by
  obtain ⟨r, first, hi⟩ := h
  have hc : C[34]? = some (.int .i64 l.length) := by rw [hi.cells]; exact bufC_count hi.ring _ _ _
  clear hi
  go_enter Tryd.func89, Tryd.ntmps89
  go_wp2
  go_ret
  exact ⟨rfl, (Gr.refl _).alloc _ _⟩

/-- as many as the room? -/
def fullB (l : List Ent) (room : Nat) : Bool := ((l.length : Int) == (room : Int))

set_option maxHeartbeats 400000 in
theorem full_calls {C : Array Value} {room : Nat} {l : List Ent} (h : IsB C room l) (w : World) :
    Calls Tryd.prog 87 #[.agg C] w fun e w' => e = .returned (.bool (fullB l room)) ∧ Gr w w' := by
  obtain ⟨r, first, hi⟩ := h
  have hc : C[34]? = some (.int .i64 l.length) := by rw [hi.cells]; exact bufC_count hi.ring _ _ _
  have hr : C[32]? = some (.int .i64 room) := by rw [hi.cells]; exact bufC_room hi.ring _ _ _
  clear hi
  go_enter Tryd.func87, Tryd.ntmps87
  go_wp2
  go_ret
  exact ⟨rfl, (Gr.refl _).alloc _ _⟩

set_option maxHeartbeats 400000 in
theorem place_calls {C : Array Value} {first : Nat} (hc : C[33]? = some (.int .i64 first)) (hf : first < 16) (n : Nat) (hn : n ≤ 16) (w : World) :
    Calls Tryd.prog 55 #[.agg C, .int .i64 n] w fun e w' => e = .returned (.int .i64 ((first + n) % 16 : Nat)) ∧ Gr w w' := by
  go_enter Tryd.func55, Tryd.ntmps55
  go_wp2
  go_ret
  exact ⟨ret_int (by omega), (Gr.refl _).alloc _ _⟩
end Go.Proofs.YthbenfnanhpcoaaDoor.Bf
