/-
  What Find answers of any cells that are a buffer, and any address. No condition but that.
-/
import Derived.Test.YtfhplbmgjgfihaaGreatDoorZzad
import Derived.Test.YtfhplbmgjgfihaaGreatDoorZzac
import Derived.WalkKit
import Derived.Below
import Derived.ProofKit
import Derived.OpenShut
import Derived.WalkSpells
import Derived.WalkLawsBesides
import Derived.MakeChecks
import Derived.LaidMore
import Derived.Deep.MidRow
import Derived.Laws.Rows
import Derived.Laws.Tables
import Derived.Deep.RegionHeld3
import Derived.Deep.WholeRow
import Derived.BigQuiet
import Derived.Test.YtfhplbmgjgfihaaGreatDoorZzaa
import Derived.Deep.QuietTactic
namespace Go.Proofs.YtfhplbmgjgfihaaGreatDoor.Bf
open Go.ChangeShapes Go.WideShapes Go.ChangeAt Go.RowKit
set_option linter.unusedVariables false
set_option maxRecDepth 20000
/-- the youngest of an address, looked for from the youngest on: the first k were not it -/
def findR (addr : Int) : List Ent → Option Int
  | [] => none
  | x :: l => match findR addr l with
    | some v => some v
    | none => if x.a = addr then some x.v else none

theorem findR_append (addr : Int) : ∀ (l m : List Ent), findR addr (l ++ m) = match findR addr m with
    | some v => some v
    | none => findR addr l
  | [], m => by simp [findR]; cases findR addr m <;> rfl
  | x :: l, m => by
    simp only [List.cons_append, findR, findR_append addr l m]
    cases findR addr m <;> rfl

/-- what Find answers -/
def foundV (o : Option Int) : Value := match o with
  | some v => .tuple #[.int .u32 v, .bool true]
  | none => .tuple #[.int .u32 0, .bool false]

theorem getD_drop (l : List Ent) (k : Nat) (hk : k < l.length) : l.drop (l.length - (k + 1)) = l.getD (l.length - 1 - k) ent0 :: l.drop (l.length - k) := by
  rw [List.drop_eq_getElem_cons (by omega)]
  congr 1
  · rw [List.getD_eq_getElem?_getD, List.getElem?_eq_getElem (by omega)]
    simp only [Option.getD_some]
    congr 1
    omega
  · congr 1
    omega

set_option maxHeartbeats 400000 in
theorem find_calls {C : Array Value} {room : Nat} {l : List Ent} (h : IsB C room l) (addr : Int) (w : World) :
    Calls Tryz.prog 71 #[.agg C, .int .i64 addr] w fun e w' => e = .returned (foundV (findR addr l)) ∧ Gr w w' := by
  obtain ⟨r, first, hi⟩ := h
  have HB := hide hi
  have HI : Hid (IsB C room l) := ⟨r, first, hi⟩
  have hf := hi.fst
  have hm := hi.most
  have hlen := hi.len
  have c33 : C[33]? = some (.int .i64 first) := by rw [hi.cells]; exact bufC_first hi.ring _ _ _
  have C33 := hide c33
  have c34 : C[34]? = some (.int .i64 l.length) := by rw [hi.cells]; exact bufC_count hi.ring _ _ _
  have C34 := hide c34
  have HS := hide HI.out.size
  have b0 := Has.new w C 83
  have bg := (Gr.refl w).alloc C 83
  clear hi c33
  go_enter Tryz.func71, Tryz.ntmps71
  go_wp2_with (fail)
  go_loopw [10] (fun i wr => ∃ k : Nat, k ≤ l.length ∧ i = .int .i64 k ∧ Has wr w.heap.size C 83 ∧ Gr w wr ∧ Hid (findR addr (l.drop (l.length - k)) = none)) (fun i _ => l.length - (intOf i).toNat)
  case atStart => exact ⟨0, by omega, rfl, b0, bg, by show findR addr (l.drop (l.length - 0)) = none; simp [findR]⟩
  case round =>
    clear b0 bg c34
    obtain ⟨k, hk, rfl, b0, bg, hn⟩ := hrel
    by_cases hlt : k < l.length
    · have k34 := b0.cell C34.out
      have HD := hide (getD_drop l k hlt)
      obtain ⟨ca, cv⟩ := HB.out.ent (l.length - 1 - k) (by omega)
      generalize l.getD (l.length - 1 - k) ent0 = x at ca cv HD
      have CA := hide ca
      have CV := hide cv
      clear ca cv
      go_wp2_with (first | (refine load_buf rfl _ rfl w.heap.size rfl C b0 HS.out ?_))
      refine (place_int C33.out hf (l.length - 1 - k) (by omega) _ (by omega) _).mono ?_
      rintro e w1 ⟨rfl, g1⟩
      replace b0 := b0.later g1
      replace bg := bg.trans g1
      clear g1 k34
      have ca := b0.cell CA.out
      have cv := b0.cell CV.out
      generalize hpp : (first + (l.length - 1 - k)) % 16 = p at ca cv ⊢
      have hp : p < 16 := by omega
      have hp' : (p : Int) < 16 := by omega
      clear CA CV hpp
      by_cases hx : x.a = addr
      · have hx' : (x.a == addr) = true := by simp [hx]
        have HR : Hid (findR addr l = some x.v) := by
          show findR addr l = some x.v
          rw [← List.take_append_drop (l.length - (k + 1)) l, findR_append, HD.out]
          simp [findR, hn.out, hx]
        clear hn HD hx
        go_wp2_with (fail)
        go_ret2
        exact ⟨by rw [HR.out]; rfl, bg.alloc _ _⟩
      · have hx' : (x.a == addr) = false := by simp [hx]
        have HN : Hid (findR addr (l.drop (l.length - (k + 1))) = none) := by
          show findR addr (l.drop (l.length - (k + 1))) = none
          rw [HD.out]
          simp [findR, hn.out, hx]
        clear hn HD hx
        go_wp2_with (fail)
        exact ⟨⟨k + 1, by omega, by go_num, b0.alloc _ _, bg.alloc _ _, HN⟩, by simp [intOf]; omega⟩
    · obtain rfl : k = l.length := by omega
      have HN : Hid (findR addr l = none) := by
        have := hn.out
        rw [Nat.sub_self, List.drop_zero] at this
        exact this
      clear hn
      go_wp2_with (fail)
      go_ret2
      exact ⟨by rw [HN.out]; rfl, bg⟩
end Go.Proofs.YtfhplbmgjgfihaaGreatDoor.Bf
namespace Go.Proofs.YtfhplbmgjgfihaaGreatDoor.Kn
open Go.ChangeShapes Go.WideShapes Go.ChangeAt Go.RowKit
set_option linter.unusedVariables false
set_option maxRecDepth 20000
def entC (x : Ent) : List Value := [.int .i64 x.a, .int .i64 x.v]
def flat (r : List Ent) : List Value := r.flatMap entC
def bufL (r : List Ent) (count : Int) : List Value := flat r ++ [.int .i64 count]
def bufC (r : List Ent) (count : Int) : Array Value := (bufL r count).toArray

theorem flat_cons (x : Ent) (r : List Ent) : flat (x :: r) = .int .i64 x.a :: .int .i64 x.v :: flat r := rfl
theorem flat_append (r s : List Ent) : flat (r ++ s) = flat r ++ flat s := by simp [flat]
theorem flat_length : ∀ r : List Ent, (flat r).length = r.length * 2
  | [] => rfl
  | x :: r => by rw [flat_cons]; simp [flat_length r]; omega
theorem flat_a : ∀ (r : List Ent) (i : Nat), (flat r)[i * 2]? = r[i]?.map fun x => Value.int .i64 x.a
  | [], i => by simp [flat]
  | x :: r, 0 => rfl
  | x :: r, i + 1 => by
    rw [flat_cons, show (i + 1) * 2 = i * 2 + 1 + 1 from by omega, List.getElem?_cons_succ, List.getElem?_cons_succ, List.getElem?_cons_succ, flat_a r i]
theorem flat_v : ∀ (r : List Ent) (i : Nat), (flat r)[i * 2 + 1]? = r[i]?.map fun x => Value.int .i64 x.v
  | [], i => by simp [flat]
  | x :: r, 0 => rfl
  | x :: r, i + 1 => by
    rw [flat_cons, show (i + 1) * 2 + 1 = i * 2 + 1 + 1 + 1 from by omega, List.getElem?_cons_succ, List.getElem?_cons_succ, List.getElem?_cons_succ, flat_v r i]
theorem flat_set : ∀ (r : List Ent) (i : Nat) (x : Ent), flat (r.set i x) = ((flat r).set (i * 2) (.int .i64 x.a)).set (i * 2 + 1) (.int .i64 x.v)
  | [], i, x => by simp [flat]
  | y :: r, 0, x => by simp [flat_cons]
  | y :: r, i + 1, x => by
    rw [List.set_cons_succ, flat_cons, flat_cons, flat_set r i x, show (i + 1) * 2 + 1 = i * 2 + 1 + 1 + 1 from by omega, show (i + 1) * 2 = i * 2 + 1 + 1 from by omega]
    simp

theorem bufC_size {r : List Ent} (h : r.length = 8) (count : Int) : (bufC r count).size = 17 := by
  simp [bufC, bufL, flat_length, h]
theorem bufC_count {r : List Ent} (h : r.length = 8) (count : Int) : (bufC r count)[16]? = some (.int .i64 count) := by
  simp [bufC, bufL, flat_length, h]
theorem bufC_a {r : List Ent} (h : r.length = 8) (count : Int) (i : Nat) (hi : i < 8) : (bufC r count)[i * 2]? = some (.int .i64 (r.getD i ent0).a) := by
  have e : (flat r)[i * 2]? = some (.int .i64 (r.getD i ent0).a) := by
    rw [flat_a, List.getD_eq_getElem?_getD, List.getElem?_eq_getElem (by omega)]; rfl
  simp only [bufC, bufL, List.getElem?_toArray]
  rw [List.getElem?_append_left (by rw [flat_length]; omega), e]
theorem bufC_v {r : List Ent} (h : r.length = 8) (count : Int) (i : Nat) (hi : i < 8) : (bufC r count)[i * 2 + 1]? = some (.int .i64 (r.getD i ent0).v) := by
  have e : (flat r)[i * 2 + 1]? = some (.int .i64 (r.getD i ent0).v) := by
    rw [flat_v, List.getD_eq_getElem?_getD, List.getElem?_eq_getElem (by omega)]; rfl
  simp only [bufC, bufL, List.getElem?_toArray]
  rw [List.getElem?_append_left (by rw [flat_length]; omega), e]
theorem bufC_set {r : List Ent} (h : r.length = 8) (count : Int) (i : Nat) (hi : i < 8) (x : Ent) :
    ((bufC r count).setIfInBounds (i * 2) (.int .i64 x.a)).setIfInBounds (i * 2 + 1) (.int .i64 x.v) = bufC (r.set i x) count := by
  simp only [bufC, bufL, List.setIfInBounds_toArray, flat_set]
  rw [List.set_append_left _ _ (by rw [flat_length]; omega), List.set_append_left _ _ (by rw [List.length_set, flat_length]; omega)]
theorem bufC_set_count {r : List Ent} (h : r.length = 8) (count n : Int) : (bufC r count).setIfInBounds 16 (.int .i64 n) = bufC r n := by
  simp [bufC, bufL, flat_length, h]
theorem flat_one (r : List Ent) : ∀ v ∈ flat r, v.oneCell' = true := by
  intro v hv
  unfold flat at hv
  obtain ⟨x, _, hx⟩ := List.mem_flatMap.1 hv
  simp only [entC, List.mem_cons, List.not_mem_nil, or_false] at hx
  rcases hx with rfl | rfl <;> rfl
theorem bufC_one (r : List Ent) (count : Int) : (bufC r count).all (·.oneCell') = true := by
  refine all_oneCell_toArray fun v hv => ?_
  unfold bufL at hv
  rcases List.mem_append.1 hv with h | h
  · exact flat_one r v h
  · simp only [List.mem_cons, List.not_mem_nil, or_false] at h
    rcases h with rfl; rfl

/-- these cells are a queue whose sleepers are l, the first asleep first: its places -/
structure Is (C : Array Value) (l : List Ent) (r : List Ent) : Prop where
  ring : r.length = 8
  len : l.length ≤ 8
  cells : C = bufC r l.length
  at_ : ∀ i, i < l.length → l.getD i ent0 = r.getD i ent0

def IsB (C : Array Value) (l : List Ent) : Prop := ∃ r, Is C l r

/-- the cells of the zero queue -/
def zeroC : Array Value := bufC (List.replicate 8 ent0) 0
theorem zeroC_size : zeroC.size = 17 := rfl
theorem is_zeroC : IsB zeroC [] := ⟨List.replicate 8 ent0, by simp, by simp, rfl, fun i hi => by simp at hi⟩

theorem getD_set (r : List Ent) (p i : Nat) (x : Ent) (h : p < r.length) : (r.set p x).getD i ent0 = if i = p then x else r.getD i ent0 := by
  simp only [List.getD_eq_getElem?_getD, List.getElem?_set]
  by_cases e : p = i
  · subst e; simp [h]
  · have e' : ¬ i = p := fun q => e q.symm
    simp [e, e']

theorem is_put {C : Array Value} {l r : List Ent} (h : Is C l r) (hl : l.length < 8) (x : Ent) :
    Is (bufC (r.set l.length x) (l.length + 1)) (l ++ [x]) (r.set l.length x) := by
  have h1 := h.ring
  refine ⟨by simp [h1], by simp; omega, by simp, fun i hi => ?_⟩
  simp only [List.length_append, List.length_cons, List.length_nil] at hi
  rw [getD_set _ _ _ _ (by omega)]
  by_cases e : i = l.length
  · subst e; simp
  · rw [if_neg (by omega)]
    have := h.at_ i (by omega)
    rw [← this, List.getD_eq_getElem?_getD, List.getD_eq_getElem?_getD, List.getElem?_append_left (by omega)]

theorem Is.count {C : Array Value} {l r : List Ent} (h : Is C l r) : C[16]? = some (.int .i64 l.length) := by rw [h.cells]; exact bufC_count h.ring _
theorem Is.ent {C : Array Value} {l r : List Ent} (h : Is C l r) (i : Nat) (hi : i < l.length) :
    C[i * 2]? = some (.int .i64 (l.getD i ent0).a) ∧ C[i * 2 + 1]? = some (.int .i64 (l.getD i ent0).v) := by
  have h1 := h.len
  rw [h.at_ i hi, h.cells]
  exact ⟨bufC_a h.ring _ _ (by omega), bufC_v h.ring _ _ (by omega)⟩
theorem IsB.size {C : Array Value} {l : List Ent} (h : IsB C l) : C.size = 17 := by
  obtain ⟨r, h⟩ := h; rw [h.cells]; exact bufC_size h.ring _
theorem IsB.one {C : Array Value} {l : List Ent} (h : IsB C l) : C.all (·.oneCell') = true := by
  obtain ⟨r, h⟩ := h; rw [h.cells]; exact bufC_one _ _
theorem IsB.count {C : Array Value} {l : List Ent} (h : IsB C l) : C[16]? = some (.int .i64 l.length) := by
  obtain ⟨r, h⟩ := h; exact h.count
theorem IsB.len {C : Array Value} {l : List Ent} (h : IsB C l) : l.length ≤ 8 := by
  obtain ⟨r, h⟩ := h; exact h.len
theorem IsB.ent {C : Array Value} {l : List Ent} (h : IsB C l) (i : Nat) (hi : i < l.length) :
    C[i * 2]? = some (.int .i64 (l.getD i ent0).a) ∧ C[i * 2 + 1]? = some (.int .i64 (l.getD i ent0).v) := by
  obtain ⟨r, h⟩ := h; exact h.ent i hi
end Go.Proofs.YtfhplbmgjgfihaaGreatDoor.Kn
namespace Go.Proofs.YtfhplbmgjgfihaaGreatDoor.Kn
open Go.ChangeShapes Go.WideShapes Go.ChangeAt Go.RowKit
set_option linter.unusedVariables false
set_option maxRecDepth 20000

theorem infoB : (Tryz.prog.info? 64).map (·.size) = some 17 := by kernel_rfl
theorem infoB_of {C : Array Value} (h : C.size = 17) : (Tryz.prog.info? 64).map (·.size) = some C.size := by rw [h]; exact infoB

/-- a queue is read whole -/
theorem load_buf {ops : Array Oper} {rest : List Oper} {op : Oper} {a : Act} {w : World} {Q : Exit → Act → World → Prop} (hgd : op.guard = none) (x : Operand) (ho : op.op = .load 64 x)
    (g : Nat) (hx : a.eval x = .pointer (some ⟨g, 0, none⟩)) (C : Array Value) (hg : Has w g C 64) (hs : C.size = 17)
    (h : wpList Tryz.prog ops Q rest (a.put op.dst (.agg C)) w) : wpList Tryz.prog ops Q (op :: rest) a w :=
  wpList_load_row hgd 64 x ho g hx 64 C (0, 0) _ hg Tryz.underlying64 rfl (infoB_of hs) h
/-- a queue is written whole -/
theorem store_buf {ops : Array Oper} {rest : List Oper} {op : Oper} {a : Act} {w : World} {Q : Exit → Act → World → Prop} (hgd : op.guard = none) (x y : Operand) (ho : op.op = .store 64 x y)
    (g : Nat) (hx : a.eval x = .pointer (some ⟨g, 0, none⟩)) (C : Array Value) (hy : a.eval y = .agg C) (D : Array Value) (hg : Has w g D 64) (hs : C.size = 17) (hd : D.size = 17) (h1 : C.all (·.oneCell') = true)
    (h : wpList Tryz.prog ops Q rest (a.put op.dst undef) (w.setRow g C)) : wpList Tryz.prog ops Q (op :: rest) a w :=
  wpList_store_row hgd 64 x y ho g C hx hy 64 D hg (infoB_of hs) (by omega) h1 h
end Go.Proofs.YtfhplbmgjgfihaaGreatDoor.Kn
namespace Go.Proofs.YtfhplbmgjgfihaaGreatDoor
open Go.ChangeShapes Go.WideShapes Go.ChangeAt Go.RowKit
set_option linter.unusedVariables false
set_option maxRecDepth 20000
open Go.Proofs.YtfhplbmgjgfihaaGreatDoor.Kn
/-- an entry is written into the ring -/
theorem Has.setEntK {w : World} {g : Nat} {t : TypeId} {r : List Ent} {count : Int} (h : Has w g (bufC r count) t) (hr : r.length = 8) (p : Nat) (hp : p < 8) (x : Ent) :
    Has (w.setCells g (p * 2) [.int .i64 x.a, .int .i64 x.v]) g (bufC (r.set p x) count) t := by
  have := (h.set (p * 2) (.int .i64 x.a)).set (p * 2 + 1) (.int .i64 x.v)
  rw [bufC_set hr count p hp x] at this
  exact this
end Go.Proofs.YtfhplbmgjgfihaaGreatDoor
namespace Go.Proofs.YtfhplbmgjgfihaaGreatDoor.Kn
open Go.ChangeShapes Go.WideShapes Go.ChangeAt Go.RowKit
set_option linter.unusedVariables false
set_option maxRecDepth 20000
theorem infoE : (Tryz.prog.info? 61).map (·.size) = some 2 := by kernel_rfl
theorem wp_store_ent {op : Oper} (hd0 : op.dst = none) {a : Act} {w : World} {K : Act → World → Prop} {Q : Exit → Act → World → Prop} (x y : Operand) (ho : op.op = .store 61 x y)
    (g o : Nat) (hx : a.eval x = .pointer (some ⟨g, o, none⟩)) (e : Ent) (hy : a.eval y = .agg #[.int .i64 e.a, .int .i64 e.v]) (C : Array Value) (t : TypeId) (hg : Has w g C t) (hs : o + 2 ≤ C.size)
    (h : K a (w.setCells g o [.int .i64 e.a, .int .i64 e.v])) : op.wp Tryz.prog a w K Q :=
  wp_store_mid 61 x y ho g o #[.int .i64 e.a, .int .i64 e.v] hx hy (hg.there o 2 hs) infoE (by simp [Value.oneCell']) (by rw [hd0]; exact h)
theorem store_ent {ops : Array Oper} {rest : List Oper} {op : Oper} {a : Act} {w : World} {Q : Exit → Act → World → Prop} (hgd : op.guard = none) (hd0 : op.dst = none) (x y : Operand) (ho : op.op = .store 61 x y)
    (g o : Nat) (hx : a.eval x = .pointer (some ⟨g, o, none⟩)) (e : Ent) (hy : a.eval y = .agg #[.int .i64 e.a, .int .i64 e.v]) (C : Array Value) (t : TypeId) (hg : Has w g C t) (hs : o + 2 ≤ C.size)
    (h : wpList Tryz.prog ops Q rest a (w.setCells g o [.int .i64 e.a, .int .i64 e.v])) : wpList Tryz.prog ops Q (op :: rest) a w :=
  wpList_plain hgd fun _ hK => wp_store_ent hd0 x y ho g o hx e hy C t hg hs (hK _ _ h)


/-- the block g is a queue of these sleepers -/
def K (w : World) (g : Nat) (l : List Ent) : Prop := ∃ C, Has w g C 64 ∧ IsB C l
theorem K.later {w w' : World} {g : Nat} {l : List Ent} (h : K w g l) (k : Gr w w') : K w' g l := by obtain ⟨C, h1, h2⟩ := h; exact ⟨C, h1.later k, h2⟩
theorem K.kept {w w' : World} {g : Nat} {l : List Ent} {e : List Nat} (h : K w g l) (k : Kp e w w') (hg : g ∉ e) : K w' g l := by obtain ⟨C, h1, h2⟩ := h; exact ⟨C, h1.kept k hg, h2⟩
theorem K.lt {w : World} {g : Nat} {l : List Ent} (h : K w g l) : g < w.heap.size := by obtain ⟨C, h1, h2⟩ := h; exact h1.lt
theorem K.len {w : World} {g : Nat} {l : List Ent} (h : K w g l) : l.length ≤ 8 := by obtain ⟨C, h1, h2⟩ := h; exact h2.len
/-- the zero queue in a new block -/
theorem K.new (w : World) : K (w.alloc (.cells zeroC 64)) w.heap.size [] := ⟨zeroC, Has.new w _ _, is_zeroC⟩
end Go.Proofs.YtfhplbmgjgfihaaGreatDoor.Kn
namespace Go.Proofs.YtfhplbmgjgfihaaGreatDoor.Kn
open Go.ChangeShapes Go.WideShapes Go.ChangeAt Go.RowKit
set_option linter.unusedVariables false
set_option maxRecDepth 20000
/-- the place of a thread; how many there are, if it sleeps nowhere -/
def idx (who : Int) : List Ent → Nat
  | [] => 0
  | x :: l => if x.a = who then 0 else idx who l + 1
/-- where a thread sleeps -/
def findK (who : Int) : List Ent → Option Int
  | [] => none
  | x :: l => if x.a = who then some x.v else findK who l
theorem idx_le (who : Int) : ∀ l : List Ent, idx who l ≤ l.length
  | [] => Nat.le_refl _
  | x :: l => by
    have := idx_le who l
    unfold idx
    split <;> simp <;> omega
theorem findK_idx (who : Int) : ∀ l : List Ent, findK who l = if idx who l < l.length then some (l.getD (idx who l) ent0).v else none
  | [] => rfl
  | x :: l => by
    unfold findK idx
    split
    · simp
    · rw [findK_idx who l]
      by_cases h : idx who l < l.length
      · simp [h]
      · simp [h]
theorem idx_none {who : Int} : ∀ {l : List Ent}, ¬ idx who l < l.length → ∀ x ∈ l, x.a ≠ who
  | [], _, x, hx => by cases hx
  | y :: l, h, x, hx => by
    unfold idx at h
    split at h
    · simp at h
    · rename_i hy
      rcases List.mem_cons.1 hx with rfl | hx
      · exact hy
      · exact idx_none (by simp at h; omega) x hx
/-- no thread sleeps twice, and all are threads -/
def Ok (l : List Ent) : Prop := (l.map Ent.a).Nodup ∧ ∀ x ∈ l, 0 ≤ x.a ∧ x.a < 8
theorem few : ∀ (n : Nat) (L : List Int), L.Nodup → (∀ x ∈ L, 0 ≤ x ∧ x < (n : Int)) → L.length ≤ n
  | 0, L, _, h => by
    cases L with
    | nil => simp
    | cons x L => have := h x (by simp); omega
  | n + 1, L, hn, h => by
    have h1 := few n (L.erase (n : Int)) (hn.erase _) (fun x hx => by
      rw [hn.mem_erase_iff] at hx
      have := h x hx.2
      have := hx.1
      omega)
    rw [List.length_erase] at h1
    split at h1 <;> omega
theorem Ok.room {l : List Ent} (h : Ok l) {who : Int} (h0 : 0 ≤ who) (h8 : who < 8) (hn : ¬ idx who l < l.length) : l.length < 8 := by
  have := few 8 (who :: l.map Ent.a) (List.nodup_cons.2 ⟨fun q => by
    obtain ⟨x, hx, e⟩ := List.mem_map.1 q
    exact idx_none hn x hx e, h.1⟩) (fun x hx => by
    rcases List.mem_cons.1 hx with rfl | hx
    · exact ⟨h0, by omega⟩
    · obtain ⟨y, hy, rfl⟩ := List.mem_map.1 hx
      have := h.2 y hy
      exact ⟨this.1, by omega⟩)
  simp at this
  omega
theorem Ok.put {l : List Ent} (h : Ok l) {who : Int} (h0 : 0 ≤ who) (h8 : who < 8) (hn : ¬ idx who l < l.length) (addr : Int) : Ok (l ++ [⟨who, addr⟩]) := by
  refine ⟨?_, fun x hx => ?_⟩
  · rw [List.map_append, List.nodup_append]
    refine ⟨h.1, by simp, fun a ha b hb => ?_⟩
    obtain ⟨x, hx, rfl⟩ := List.mem_map.1 ha
    simp only [List.map_cons, List.map_nil, List.mem_singleton] at hb
    rw [hb]
    exact idx_none hn x hx
  · rcases List.mem_append.1 hx with hx | hx
    · exact h.2 x hx
    · rw [List.mem_singleton] at hx
      subst hx
      exact ⟨h0, h8⟩
theorem Ok.sub {l m : List Ent} (h : Ok l) (hs : m.Sublist l) : Ok m := ⟨(hs.map Ent.a).nodup h.1, fun x hx => h.2 x (hs.subset hx)⟩

set_option maxHeartbeats 1000000 in
theorem last_calls {g : Nat} {l : List Ent} {w : World} (h : K w g l) (hl : l.length < 8) (x : Ent) :
    Calls Tryz.prog 100 #[.pointer (some ⟨g, 0, none⟩), .agg #[.int .i64 x.a, .int .i64 x.v]] w fun e w' => (e = .returned (.tuple #[]) ∧ Kp [g] w w') ∧ K w' g (l ++ [x]) := by
  obtain ⟨C, h0, r, hi⟩ := h
  have HB := hide hi
  have c16 : C[16]? = some (.int .i64 l.length) := hi.count
  have hs : C.size = 17 := IsB.size ⟨r, hi⟩
  have a0 := h0.alloc #[.int .i64 x.a, .int .i64 x.v] 61
  have a1 := Has.new w #[.int .i64 x.a, .int .i64 x.v] 61
  have ag := (Gr.refl w).alloc #[.int .i64 x.a, .int .i64 x.v] 61
  have hgs := h0.lt
  have hll : (l.length : Int) < 8 := by omega
  clear hi h0
  go_enter Tryz.func100, Tryz.ntmps100
  go_wp2_with (fail)
  generalize hw1 : w.alloc (.cells #[.int .i64 x.a, .int .i64 x.v] 61) = w1 at a0 a1 ag
  refine begin_late 10 [9] (fun w' => Gr w1.drew w') (by kernel_rfl) rfl ?_
  have hH := Gr.refl w1.drew
  refine AnyL.pp 0 4 (.pointer (some ⟨g, 0, none⟩)) rfl rfl (by kernel_rfl) (fun _ _ _ h => h) (fun _ => by go_simp) hH ?_
  simp only [pz, pz0, pzs]
  refine AnyL.pp 1 5 (.pointer (some ⟨g, 0, none⟩)) rfl rfl (by kernel_rfl) (fun _ _ _ h => h) (fun _ => by go_simp) hH ?_
  simp only [pz, pz0, pzs]
  refine AnyL.pp 2 6 (.pointer (some ⟨g, 0, none⟩)) rfl rfl (by kernel_rfl) (fun _ _ _ h => h) (fun _ => by go_simp) hH ?_
  simp only [pz, pz0, pzs]
  refine AnyL.pp 3 7 (.pointer (some ⟨g, 16, none⟩)) rfl rfl (by kernel_rfl) (fun _ _ _ h => h) (fun _ => by go_simp) hH ?_
  simp only [pz, pz0, pzs]
  refine AnyL.tt 4 8 (.int .i64 l.length) rfl rfl (by kernel_rfl) (fun _ _ _ h => h) (fun w' hw' => by have := (a0.drew.later hw').cell c16; go_simp) hH ?_
  simp only [pz, pz0, pzs]
  refine AnyL.tt 5 9 (.agg #[.int .i64 x.a, .int .i64 x.v]) rfl rfl (by kernel_rfl) (fun _ _ _ h => h) (fun w' hw' => by have h1 := (a1.drew.later hw').cell (o := 0) rfl; have h2 := (a1.drew.later hw').cell (o := 1) rfl; go_simp) hH ?_
  simp only [pz, pz0, pzs]
  refine AnyL.pp 6 10 (.pointer (some ⟨g, 0, none⟩)) rfl rfl (by kernel_rfl) (fun _ _ _ h => h) (fun _ => by go_simp) hH ?_
  simp only [pz, pz0, pzs]
  refine AnyL.pp 7 11 (.pointer (some ⟨g, 0, none⟩)) rfl rfl (by kernel_rfl) (fun _ _ _ h => h) (fun _ => by go_simp) hH ?_
  simp only [pz, pz0, pzs]
  refine AnyL.pp 8 12 (.pointer (some ⟨g, l.length * 2, none⟩)) rfl rfl (by kernel_rfl) (fun _ _ _ h => h) (fun _ => by go_simp) hH ?_
  simp only [pz, pz0, pzs]
  refine AnyL.one 9 (by kernel_rfl) rfl (by kernel_rfl) ?_
  refine wp_store_ent rfl _ _ rfl g (l.length * 2) rfl x rfl C 64 a0.drew (by omega) ?_
  refine ⟨late (by kernel_rfl), ?_⟩
  refine AnyL.done (by kernel_rfl) ?_
  have e0 : Has w1.drew g (bufC r l.length) 64 := by rw [← HB.out.cells]; exact a0.drew
  replace e0 := e0.setEntK HB.out.ring l.length hl x
  have kp : Kp [g] w (w1.drew.setCells g (l.length * 2) [.int .i64 x.a, .int .i64 x.v]) := ((ag.drew.kp []).trans (Kp.setCell _ g (l.length * 2) (.int .i64 x.a)) (f := [g]) (by simp) (by simp)).trans (Kp.setCell _ g (l.length * 2 + 1) (.int .i64 x.v)) (by simp) (by simp)
  generalize w1.drew.setCells g (l.length * 2) [.int .i64 x.a, .int .i64 x.v] = w2 at e0 kp ⊢
  have hr' : (r.set l.length x).length = 8 := by rw [List.length_set]; exact HB.out.ring
  have k1 := e0.cell (bufC_count hr' _)
  have k2 := e0.free 16
  have s0 := e0.set 16 (.int .i64 ((l.length : Int) + 1))
  rw [bufC_set_count hr'] at s0
  clear a0 a1 ag hH e0 hw1
  go_wp2_with (fail)
  go_end0
  exact ⟨⟨rfl, kp.trans (Kp.setCell _ g 16 _) (by simp) (by simp)⟩, _, s0, _, is_put HB.out hl x⟩

/-- what Asleep answers -/
def asleepV (o : Option Int) : Value := match o with
  | some v => .tuple #[.int .i64 v, .bool true]
  | none => .tuple #[.int .i64 0, .bool false]
theorem drop_get (l : List Ent) (k : Nat) (hk : k < l.length) : l.drop k = l.getD k ent0 :: l.drop (k + 1) := by
  rw [List.drop_eq_getElem_cons hk]
  congr 1
  rw [List.getD_eq_getElem?_getD, List.getElem?_eq_getElem hk]
  rfl

set_option maxHeartbeats 1000000 in
theorem asleep_calls {g : Nat} {l : List Ent} {w : World} (h : K w g l) (who : Int) :
    Calls Tryz.prog 102 #[.pointer (some ⟨g, 0, none⟩), .int .i64 who] w fun e w' => e = .returned (asleepV (findK who l)) ∧ Gr w w' := by
  obtain ⟨C, h0, hi⟩ := h
  have HB := hide hi
  have c16 := h0.cell hi.count
  have hlen := hi.len
  have hll : (l.length : Int) ≤ 8 := by omega
  clear hi
  go_enter Tryz.func102, Tryz.ntmps102
  go_wp2_with (fail)
  go_quiet (fail)
  go_wp2_with (fail)
  go_loopw [17] (fun i wr => ∃ k : Nat, k ≤ l.length ∧ i = .int .i64 k ∧ Has wr g C 64 ∧ Gr w wr ∧ Hid (findK who l = findK who (l.drop k))) (fun i _ => l.length - (intOf i).toNat)
  case atStart => exact ⟨0, by omega, rfl, h0.drewN _, (Gr.refl w).drewN _, by show findK who l = findK who (l.drop 0); simp⟩
  case round =>
    clear h0 c16
    obtain ⟨k, hk, rfl, b0, bg, hn⟩ := hrel
    by_cases hlt : k < l.length
    · have hlt' : (k : Int) < l.length := by omega
      obtain ⟨ca, cv⟩ := HB.out.ent k hlt
      have HD := hide (drop_get l k hlt)
      generalize l.getD k ent0 = x at ca cv HD
      replace ca := b0.cell ca
      replace cv := b0.cell cv
      by_cases hx : x.a = who
      · have hx' : (x.a == who) = true := by simp [hx]
        have HR : Hid (findK who l = some x.v) := by
          show findK who l = some x.v
          rw [hn.out, HD.out]
          simp [findK, hx]
        clear hn HD hx
        go_wp2_with (fail)
        go_ret2
        exact ⟨by rw [HR.out]; rfl, bg.alloc _ _⟩
      · have hx' : (x.a == who) = false := by simp [hx]
        have HN : Hid (findK who l = findK who (l.drop (k + 1))) := by
          show findK who l = _
          rw [hn.out, HD.out]
          simp [findK, hx]
        clear hn HD hx
        go_wp2_with (fail)
        exact ⟨⟨k + 1, by omega, by go_num, b0.alloc _ _, bg.alloc _ _, HN⟩, by simp [intOf]; omega⟩
    · obtain rfl : k = l.length := by omega
      have HN : Hid (findK who l = none) := by
        have := hn.out
        rw [List.drop_length] at this
        exact this
      clear hn
      go_wp2_with (fail)
      go_ret2
      exact ⟨by rw [HN.out]; rfl, bg⟩
end Go.Proofs.YtfhplbmgjgfihaaGreatDoor.Kn
