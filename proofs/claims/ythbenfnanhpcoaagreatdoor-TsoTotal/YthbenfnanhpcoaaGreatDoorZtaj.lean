/-
  What Find answers of any cells that are a buffer, and any address. No condition but that.
-/
import Derived.Test.YthbenfnanhpcoaaGreatDoorZtahBfStep
import Derived.Test.YthbenfnanhpcoaaGreatDoorZtag
import Derived.WalkKit
import Derived.Below
import Derived.ProofKit
import Derived.OpenShut
import Derived.WalkSpells
import Derived.WalkLawsBesides
import Derived.MakeChecks
import Derived.LaidMore
import Derived.Deep.MidRow
import Derived.Laws.Rows
import Derived.Laws.Tables
namespace Go.Proofs.YthbenfnanhpcoaaGreatDoor.Bf
open Go.ChangeShapes Go.WideShapes Go.ChangeAt Go.RowKit
set_option linter.unusedVariables false
set_option maxRecDepth 20000

/-- the youngest of an address, looked for from the youngest on: the first k were not it -/
def findR (addr : Int) : List Ent → Option Int
  | [] => none
  | x :: l => match findR addr l with
    | some v => some v
    | none => if x.a = addr then some x.v else none

theorem findR_append (addr : Int) : ∀ (l m : List Ent), findR addr (l ++ m) = match findR addr m with
    | some v => some v
    | none => findR addr l
  | [], m => by simp [findR]; cases findR addr m <;> rfl
  | x :: l, m => by
    simp only [List.cons_append, findR, findR_append addr l m]
    cases findR addr m <;> rfl

/-- what Find answers -/
def foundV (o : Option Int) : Value := match o with
  | some v => .tuple #[.int .u32 v, .bool true]
  | none => .tuple #[.int .u32 0, .bool false]

theorem getD_drop (l : List Ent) (k : Nat) (hk : k < l.length) : l.drop (l.length - (k + 1)) = l.getD (l.length - 1 - k) ent0 :: l.drop (l.length - k) := by
  rw [List.drop_eq_getElem_cons (by omega)]
  congr 1
  · rw [List.getD_eq_getElem?_getD, List.getElem?_eq_getElem (by omega)]
    simp only [Option.getD_some]
    congr 1
    omega
  · congr 1
    omega

set_option maxHeartbeats 400000 in
theorem find_calls {C : Array Value} {room : Nat} {l : List Ent} (h : IsB C room l) (addr : Int) (w : World) :
    Calls Tryz.prog 109 #[.agg C, .int .i64 addr] w fun e w' => e = .returned (foundV (findR addr l)) ∧ Gr w w' := by
  obtain ⟨r, first, hi⟩ := h
  have HB := hide hi
  have HI : Hid (IsB C room l) := ⟨r, first, hi⟩
  have hf := hi.fst
  have hm := hi.most
  have hlen := hi.len
  have c33 : C[33]? = some (.int .i64 first) := by rw [hi.cells]; exact bufC_first hi.ring _ _ _
  have C33 := hide c33
  have c34 : C[34]? = some (.int .i64 l.length) := by rw [hi.cells]; exact bufC_count hi.ring _ _ _
  have C34 := hide c34
  have HS := hide HI.out.size
  have b0 := Has.new w C 96
  have bg := (Gr.refl w).alloc C 96
  clear hi c33
  go_enter Tryz.func109, Tryz.ntmps109
  go_wp2_with (fail)
  go_loopw [10] (fun i wr => ∃ k : Nat, k ≤ l.length ∧ i = .int .i64 k ∧ Has wr w.heap.size C 96 ∧ Gr w wr ∧ Hid (findR addr (l.drop (l.length - k)) = none)) (fun i _ => l.length - (intOf i).toNat)
  case atStart => exact ⟨0, by omega, rfl, b0, bg, by show findR addr (l.drop (l.length - 0)) = none; simp [findR]⟩
  case round =>
    clear b0 bg c34
    obtain ⟨k, hk, rfl, b0, bg, hn⟩ := hrel
    by_cases hlt : k < l.length
    · have k34 := b0.cell C34.out
      have HD := hide (getD_drop l k hlt)
      obtain ⟨ca, cv⟩ := HB.out.ent (l.length - 1 - k) (by omega)
      generalize l.getD (l.length - 1 - k) ent0 = x at ca cv HD
      have CA := hide ca
      have CV := hide cv
      clear ca cv
      go_wp2_with (first | (refine load_buf rfl _ rfl w.heap.size rfl C b0 HS.out ?_))
      refine (place_int C33.out hf (l.length - 1 - k) (by omega) _ (by omega) _).mono ?_
      rintro e w1 ⟨rfl, g1⟩
      replace b0 := b0.later g1
      replace bg := bg.trans g1
      clear g1 k34
      have ca := b0.cell CA.out
      have cv := b0.cell CV.out
      generalize hpp : (first + (l.length - 1 - k)) % 16 = p at ca cv ⊢
      have hp : p < 16 := by omega
      have hp' : (p : Int) < 16 := by omega
      clear CA CV hpp
      by_cases hx : x.a = addr
      · have hx' : (x.a == addr) = true := by simp [hx]
        have HR : Hid (findR addr l = some x.v) := by
          show findR addr l = some x.v
          rw [← List.take_append_drop (l.length - (k + 1)) l, findR_append, HD.out]
          simp [findR, hn.out, hx]
        clear hn HD hx
        go_wp2_with (fail)
        go_ret2
        exact ⟨by rw [HR.out]; rfl, bg.alloc _ _⟩
      · have hx' : (x.a == addr) = false := by simp [hx]
        have HN : Hid (findR addr (l.drop (l.length - (k + 1))) = none) := by
          show findR addr (l.drop (l.length - (k + 1))) = none
          rw [HD.out]
          simp [findR, hn.out, hx]
        clear hn HD hx
        go_wp2_with (fail)
        exact ⟨⟨k + 1, by omega, by go_num, b0.alloc _ _, bg.alloc _ _, HN⟩, by simp [intOf]; omega⟩
    · obtain rfl : k = l.length := by omega
      have HN : Hid (findR addr l = none) := by
        have := hn.out
        rw [Nat.sub_self, List.drop_zero] at this
        exact this
      clear hn
      go_wp2_with (fail)
      go_ret2
      exact ⟨by rw [HN.out]; rfl, bg⟩
end Go.Proofs.YthbenfnanhpcoaaGreatDoor.Bf

namespace Go.Proofs.YthbenfnanhpcoaaGreatDoor.Kn
open Go.ChangeShapes Go.WideShapes Go.ChangeAt Go.RowKit
set_option linter.unusedVariables false
set_option maxRecDepth 20000

def entC (x : Ent) : List Value := [.int .i64 x.a, .int .i64 x.v]
def flat (r : List Ent) : List Value := r.flatMap entC
def bufL (r : List Ent) (count : Int) : List Value := flat r ++ [.int .i64 count]
def bufC (r : List Ent) (count : Int) : Array Value := (bufL r count).toArray

theorem flat_cons (x : Ent) (r : List Ent) : flat (x :: r) = .int .i64 x.a :: .int .i64 x.v :: flat r := rfl
theorem flat_append (r s : List Ent) : flat (r ++ s) = flat r ++ flat s := by simp [flat]
theorem flat_length : ∀ r : List Ent, (flat r).length = r.length * 2
  | [] => rfl
  | x :: r => by rw [flat_cons]; simp [flat_length r]; omega
theorem flat_a : ∀ (r : List Ent) (i : Nat), (flat r)[i * 2]? = r[i]?.map fun x => Value.int .i64 x.a
  | [], i => by simp [flat]
  | x :: r, 0 => rfl
  | x :: r, i + 1 => by
    rw [flat_cons, show (i + 1) * 2 = i * 2 + 1 + 1 from by omega, List.getElem?_cons_succ, List.getElem?_cons_succ, List.getElem?_cons_succ, flat_a r i]
theorem flat_v : ∀ (r : List Ent) (i : Nat), (flat r)[i * 2 + 1]? = r[i]?.map fun x => Value.int .i64 x.v
  | [], i => by simp [flat]
  | x :: r, 0 => rfl
  | x :: r, i + 1 => by
    rw [flat_cons, show (i + 1) * 2 + 1 = i * 2 + 1 + 1 + 1 from by omega, List.getElem?_cons_succ, List.getElem?_cons_succ, List.getElem?_cons_succ, flat_v r i]
theorem flat_set : ∀ (r : List Ent) (i : Nat) (x : Ent), flat (r.set i x) = ((flat r).set (i * 2) (.int .i64 x.a)).set (i * 2 + 1) (.int .i64 x.v)
  | [], i, x => by simp [flat]
  | y :: r, 0, x => by simp [flat_cons]
  | y :: r, i + 1, x => by
    rw [List.set_cons_succ, flat_cons, flat_cons, flat_set r i x, show (i + 1) * 2 + 1 = i * 2 + 1 + 1 + 1 from by omega, show (i + 1) * 2 = i * 2 + 1 + 1 from by omega]
    simp

theorem bufC_size {r : List Ent} (h : r.length = 8) (count : Int) : (bufC r count).size = 17 := by
  simp [bufC, bufL, flat_length, h]
theorem bufC_count {r : List Ent} (h : r.length = 8) (count : Int) : (bufC r count)[16]? = some (.int .i64 count) := by
  simp [bufC, bufL, flat_length, h]
theorem bufC_a {r : List Ent} (h : r.length = 8) (count : Int) (i : Nat) (hi : i < 8) : (bufC r count)[i * 2]? = some (.int .i64 (r.getD i ent0).a) := by
  have e : (flat r)[i * 2]? = some (.int .i64 (r.getD i ent0).a) := by
    rw [flat_a, List.getD_eq_getElem?_getD, List.getElem?_eq_getElem (by omega)]; rfl
  simp only [bufC, bufL, List.getElem?_toArray]
  rw [List.getElem?_append_left (by rw [flat_length]; omega), e]
theorem bufC_v {r : List Ent} (h : r.length = 8) (count : Int) (i : Nat) (hi : i < 8) : (bufC r count)[i * 2 + 1]? = some (.int .i64 (r.getD i ent0).v) := by
  have e : (flat r)[i * 2 + 1]? = some (.int .i64 (r.getD i ent0).v) := by
    rw [flat_v, List.getD_eq_getElem?_getD, List.getElem?_eq_getElem (by omega)]; rfl
  simp only [bufC, bufL, List.getElem?_toArray]
  rw [List.getElem?_append_left (by rw [flat_length]; omega), e]
theorem bufC_set {r : List Ent} (h : r.length = 8) (count : Int) (i : Nat) (hi : i < 8) (x : Ent) :
    ((bufC r count).setIfInBounds (i * 2) (.int .i64 x.a)).setIfInBounds (i * 2 + 1) (.int .i64 x.v) = bufC (r.set i x) count := by
  simp only [bufC, bufL, List.setIfInBounds_toArray, flat_set]
  rw [List.set_append_left _ _ (by rw [flat_length]; omega), List.set_append_left _ _ (by rw [List.length_set, flat_length]; omega)]
theorem bufC_set_count {r : List Ent} (h : r.length = 8) (count n : Int) : (bufC r count).setIfInBounds 16 (.int .i64 n) = bufC r n := by
  simp [bufC, bufL, flat_length, h]
theorem flat_one (r : List Ent) : ∀ v ∈ flat r, v.oneCell' = true := by
  intro v hv
  unfold flat at hv
  obtain ⟨x, _, hx⟩ := List.mem_flatMap.1 hv
  simp only [entC, List.mem_cons, List.not_mem_nil, or_false] at hx
  rcases hx with rfl | rfl <;> rfl
theorem bufC_one (r : List Ent) (count : Int) : (bufC r count).all (·.oneCell') = true := by
  refine all_oneCell_toArray fun v hv => ?_
  unfold bufL at hv
  rcases List.mem_append.1 hv with h | h
  · exact flat_one r v h
  · simp only [List.mem_cons, List.not_mem_nil, or_false] at h
    rcases h with rfl; rfl

/-- these cells are a queue whose sleepers are l, the first asleep first: its places -/
structure Is (C : Array Value) (l : List Ent) (r : List Ent) : Prop where
  ring : r.length = 8
  len : l.length ≤ 8
  cells : C = bufC r l.length
  at_ : ∀ i, i < l.length → l.getD i ent0 = r.getD i ent0

def IsB (C : Array Value) (l : List Ent) : Prop := ∃ r, Is C l r

/-- the cells of the zero queue -/
def zeroC : Array Value := bufC (List.replicate 8 ent0) 0
theorem zeroC_size : zeroC.size = 17 := rfl
theorem is_zeroC : IsB zeroC [] := ⟨List.replicate 8 ent0, by simp, by simp, rfl, fun i hi => by simp at hi⟩

theorem getD_set (r : List Ent) (p i : Nat) (x : Ent) (h : p < r.length) : (r.set p x).getD i ent0 = if i = p then x else r.getD i ent0 := by
  simp only [List.getD_eq_getElem?_getD, List.getElem?_set]
  by_cases e : p = i
  · subst e; simp [h]
  · have e' : ¬ i = p := fun q => e q.symm
    simp [e, e']

theorem is_put {C : Array Value} {l r : List Ent} (h : Is C l r) (hl : l.length < 8) (x : Ent) :
    Is (bufC (r.set l.length x) (l.length + 1)) (l ++ [x]) (r.set l.length x) := by
  have h1 := h.ring
  refine ⟨by simp [h1], by simp; omega, by simp, fun i hi => ?_⟩
  simp only [List.length_append, List.length_cons, List.length_nil] at hi
  rw [getD_set _ _ _ _ (by omega)]
  by_cases e : i = l.length
  · subst e; simp
  · rw [if_neg (by omega)]
    have := h.at_ i (by omega)
    rw [← this, List.getD_eq_getElem?_getD, List.getD_eq_getElem?_getD, List.getElem?_append_left (by omega)]

theorem Is.count {C : Array Value} {l r : List Ent} (h : Is C l r) : C[16]? = some (.int .i64 l.length) := by rw [h.cells]; exact bufC_count h.ring _
theorem Is.ent {C : Array Value} {l r : List Ent} (h : Is C l r) (i : Nat) (hi : i < l.length) :
    C[i * 2]? = some (.int .i64 (l.getD i ent0).a) ∧ C[i * 2 + 1]? = some (.int .i64 (l.getD i ent0).v) := by
  have h1 := h.len
  rw [h.at_ i hi, h.cells]
  exact ⟨bufC_a h.ring _ _ (by omega), bufC_v h.ring _ _ (by omega)⟩
theorem IsB.size {C : Array Value} {l : List Ent} (h : IsB C l) : C.size = 17 := by
  obtain ⟨r, h⟩ := h; rw [h.cells]; exact bufC_size h.ring _
theorem IsB.one {C : Array Value} {l : List Ent} (h : IsB C l) : C.all (·.oneCell') = true := by
  obtain ⟨r, h⟩ := h; rw [h.cells]; exact bufC_one _ _
theorem IsB.count {C : Array Value} {l : List Ent} (h : IsB C l) : C[16]? = some (.int .i64 l.length) := by
  obtain ⟨r, h⟩ := h; exact h.count
theorem IsB.len {C : Array Value} {l : List Ent} (h : IsB C l) : l.length ≤ 8 := by
  obtain ⟨r, h⟩ := h; exact h.len
theorem IsB.ent {C : Array Value} {l : List Ent} (h : IsB C l) (i : Nat) (hi : i < l.length) :
    C[i * 2]? = some (.int .i64 (l.getD i ent0).a) ∧ C[i * 2 + 1]? = some (.int .i64 (l.getD i ent0).v) := by
  obtain ⟨r, h⟩ := h; exact h.ent i hi
end Go.Proofs.YthbenfnanhpcoaaGreatDoor.Kn
