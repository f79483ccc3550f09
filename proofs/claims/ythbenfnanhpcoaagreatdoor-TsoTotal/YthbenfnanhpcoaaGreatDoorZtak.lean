/-
  Queues as blocks of a world: a block's cells known whole, read whole and written whole; worlds that keep all but some blocks. No condition but what each law names.
-/
import Derived.Test.YthbenfnanhpcoaaGreatDoorZtaj
import Derived.Test.YthbenfnanhpcoaaGreatDoorZtahBfStep
import Derived.Deep.RegionHeld3
import Derived.Deep.WholeRow
import Derived.BigQuiet
import Derived.Test.YthbenfnanhpcoaaGreatDoorZtabLate
import Derived.Deep.QuietTactic
namespace Go.Proofs.YthbenfnanhpcoaaGreatDoor.Kn
open Go.ChangeShapes Go.WideShapes Go.ChangeAt Go.RowKit
set_option linter.unusedVariables false
set_option maxRecDepth 20000

theorem infoB : (Tryz.prog.info? 86).map (·.size) = some 17 := by kernel_rfl
theorem infoB_of {C : Array Value} (h : C.size = 17) : (Tryz.prog.info? 86).map (·.size) = some C.size := by rw [h]; exact infoB

/-- a queue is read whole -/
theorem load_buf {ops : Array Oper} {rest : List Oper} {op : Oper} {a : Act} {w : World} {Q : Exit → Act → World → Prop} (hgd : op.guard = none) (x : Operand) (ho : op.op = .load 86 x)
    (g : Nat) (hx : a.eval x = .pointer (some ⟨g, 0, none⟩)) (C : Array Value) (hg : Has w g C 86) (hs : C.size = 17)
    (h : wpList Tryz.prog ops Q rest (a.put op.dst (.agg C)) w) : wpList Tryz.prog ops Q (op :: rest) a w :=
  wpList_load_row hgd 86 x ho g hx 86 C (0, 0) _ hg Tryz.underlying86 rfl (infoB_of hs) h
/-- a queue is written whole -/
theorem store_buf {ops : Array Oper} {rest : List Oper} {op : Oper} {a : Act} {w : World} {Q : Exit → Act → World → Prop} (hgd : op.guard = none) (x y : Operand) (ho : op.op = .store 86 x y)
    (g : Nat) (hx : a.eval x = .pointer (some ⟨g, 0, none⟩)) (C : Array Value) (hy : a.eval y = .agg C) (D : Array Value) (hg : Has w g D 86) (hs : C.size = 17) (hd : D.size = 17) (h1 : C.all (·.oneCell') = true)
    (h : wpList Tryz.prog ops Q rest (a.put op.dst undef) (w.setRow g C)) : wpList Tryz.prog ops Q (op :: rest) a w :=
  wpList_store_row hgd 86 x y ho g C hx hy 86 D hg (infoB_of hs) (by omega) h1 h
end Go.Proofs.YthbenfnanhpcoaaGreatDoor.Kn
namespace Go.Proofs.YthbenfnanhpcoaaGreatDoor
open Go.ChangeShapes Go.WideShapes Go.ChangeAt Go.RowKit
set_option linter.unusedVariables false
set_option maxRecDepth 20000
open Go.Proofs.YthbenfnanhpcoaaGreatDoor.Kn
/-- an entry is written into the ring -/
theorem Has.setEntK {w : World} {g : Nat} {t : TypeId} {r : List Ent} {count : Int} (h : Has w g (bufC r count) t) (hr : r.length = 8) (p : Nat) (hp : p < 8) (x : Ent) :
    Has (w.setCells g (p * 2) [.int .i64 x.a, .int .i64 x.v]) g (bufC (r.set p x) count) t := by
  have := (h.set (p * 2) (.int .i64 x.a)).set (p * 2 + 1) (.int .i64 x.v)
  rw [bufC_set hr count p hp x] at this
  exact this
end Go.Proofs.YthbenfnanhpcoaaGreatDoor
namespace Go.Proofs.YthbenfnanhpcoaaGreatDoor.Kn
open Go.ChangeShapes Go.WideShapes Go.ChangeAt Go.RowKit
set_option linter.unusedVariables false
set_option maxRecDepth 20000
theorem infoE : (Tryz.prog.info? 83).map (·.size) = some 2 := by kernel_rfl
theorem wp_store_ent {op : Oper} (hd0 : op.dst = none) {a : Act} {w : World} {K : Act → World → Prop} {Q : Exit → Act → World → Prop} (x y : Operand) (ho : op.op = .store 83 x y)
    (g o : Nat) (hx : a.eval x = .pointer (some ⟨g, o, none⟩)) (e : Ent) (hy : a.eval y = .agg #[.int .i64 e.a, .int .i64 e.v]) (C : Array Value) (t : TypeId) (hg : Has w g C t) (hs : o + 2 ≤ C.size)
    (h : K a (w.setCells g o [.int .i64 e.a, .int .i64 e.v])) : op.wp Tryz.prog a w K Q :=
  wp_store_mid 83 x y ho g o #[.int .i64 e.a, .int .i64 e.v] hx hy (hg.there o 2 hs) infoE (by simp [Value.oneCell']) (by rw [hd0]; exact h)
theorem store_ent {ops : Array Oper} {rest : List Oper} {op : Oper} {a : Act} {w : World} {Q : Exit → Act → World → Prop} (hgd : op.guard = none) (hd0 : op.dst = none) (x y : Operand) (ho : op.op = .store 83 x y)
    (g o : Nat) (hx : a.eval x = .pointer (some ⟨g, o, none⟩)) (e : Ent) (hy : a.eval y = .agg #[.int .i64 e.a, .int .i64 e.v]) (C : Array Value) (t : TypeId) (hg : Has w g C t) (hs : o + 2 ≤ C.size)
    (h : wpList Tryz.prog ops Q rest a (w.setCells g o [.int .i64 e.a, .int .i64 e.v])) : wpList Tryz.prog ops Q (op :: rest) a w :=
  wpList_plain hgd fun _ hK => wp_store_ent hd0 x y ho g o hx e hy C t hg hs (hK _ _ h)


/-- the block g is a queue of these sleepers -/
def K (w : World) (g : Nat) (l : List Ent) : Prop := ∃ C, Has w g C 86 ∧ IsB C l
theorem K.later {w w' : World} {g : Nat} {l : List Ent} (h : K w g l) (k : Gr w w') : K w' g l := by obtain ⟨C, h1, h2⟩ := h; exact ⟨C, h1.later k, h2⟩
theorem K.kept {w w' : World} {g : Nat} {l : List Ent} {e : List Nat} (h : K w g l) (k : Kp e w w') (hg : g ∉ e) : K w' g l := by obtain ⟨C, h1, h2⟩ := h; exact ⟨C, h1.kept k hg, h2⟩
theorem K.lt {w : World} {g : Nat} {l : List Ent} (h : K w g l) : g < w.heap.size := by obtain ⟨C, h1, h2⟩ := h; exact h1.lt
theorem K.len {w : World} {g : Nat} {l : List Ent} (h : K w g l) : l.length ≤ 8 := by obtain ⟨C, h1, h2⟩ := h; exact h2.len
/-- the zero queue in a new block -/
theorem K.new (w : World) : K (w.alloc (.cells zeroC 86)) w.heap.size [] := ⟨zeroC, Has.new w _ _, is_zeroC⟩
theorem zeroC_lit : zeroC = #[.int .i64 0, .int .i64 0, .int .i64 0, .int .i64 0, .int .i64 0, .int .i64 0, .int .i64 0, .int .i64 0, .int .i64 0, .int .i64 0, .int .i64 0, .int .i64 0, .int .i64 0, .int .i64 0, .int .i64 0, .int .i64 0, .int .i64 0] := rfl
end Go.Proofs.YthbenfnanhpcoaaGreatDoor.Kn

namespace Go.Proofs.YthbenfnanhpcoaaGreatDoor.Kn
open Go.ChangeShapes Go.WideShapes Go.ChangeAt Go.RowKit
set_option linter.unusedVariables false
set_option maxRecDepth 20000

/-- the place of a thread; how many there are, if it sleeps nowhere -/
def idx (who : Int) : List Ent → Nat
  | [] => 0
  | x :: l => if x.a = who then 0 else idx who l + 1
/-- where a thread sleeps -/
def findK (who : Int) : List Ent → Option Int
  | [] => none
  | x :: l => if x.a = who then some x.v else findK who l
theorem idx_le (who : Int) : ∀ l : List Ent, idx who l ≤ l.length
  | [] => Nat.le_refl _
  | x :: l => by
    have := idx_le who l
    unfold idx
    split <;> simp <;> omega
theorem findK_idx (who : Int) : ∀ l : List Ent, findK who l = if idx who l < l.length then some (l.getD (idx who l) ent0).v else none
  | [] => rfl
  | x :: l => by
    unfold findK idx
    split
    · simp
    · rw [findK_idx who l]
      by_cases h : idx who l < l.length
      · simp [h]
      · simp [h]
theorem idx_none {who : Int} : ∀ {l : List Ent}, ¬ idx who l < l.length → ∀ x ∈ l, x.a ≠ who
  | [], _, x, hx => by cases hx
  | y :: l, h, x, hx => by
    unfold idx at h
    split at h
    · simp at h
    · rename_i hy
      rcases List.mem_cons.1 hx with rfl | hx
      · exact hy
      · exact idx_none (by simp at h; omega) x hx
/-- no thread sleeps twice, and all are threads -/
def Ok (l : List Ent) : Prop := (l.map Ent.a).Nodup ∧ ∀ x ∈ l, 0 ≤ x.a ∧ x.a < 8
theorem ok_nil : Ok [] := ⟨by simp, fun x hx => by cases hx⟩
theorem few : ∀ (n : Nat) (L : List Int), L.Nodup → (∀ x ∈ L, 0 ≤ x ∧ x < (n : Int)) → L.length ≤ n
  | 0, L, _, h => by
    cases L with
    | nil => simp
    | cons x L => have := h x (by simp); omega
  | n + 1, L, hn, h => by
    have h1 := few n (L.erase (n : Int)) (hn.erase _) (fun x hx => by
      rw [hn.mem_erase_iff] at hx
      have := h x hx.2
      have := hx.1
      omega)
    rw [List.length_erase] at h1
    split at h1 <;> omega
theorem Ok.room {l : List Ent} (h : Ok l) {who : Int} (h0 : 0 ≤ who) (h8 : who < 8) (hn : ¬ idx who l < l.length) : l.length < 8 := by
  have := few 8 (who :: l.map Ent.a) (List.nodup_cons.2 ⟨fun q => by
    obtain ⟨x, hx, e⟩ := List.mem_map.1 q
    exact idx_none hn x hx e, h.1⟩) (fun x hx => by
    rcases List.mem_cons.1 hx with rfl | hx
    · exact ⟨h0, by omega⟩
    · obtain ⟨y, hy, rfl⟩ := List.mem_map.1 hx
      have := h.2 y hy
      exact ⟨this.1, by omega⟩)
  simp at this
  omega
theorem Ok.put {l : List Ent} (h : Ok l) {who : Int} (h0 : 0 ≤ who) (h8 : who < 8) (hn : ¬ idx who l < l.length) (addr : Int) : Ok (l ++ [⟨who, addr⟩]) := by
  refine ⟨?_, fun x hx => ?_⟩
  · rw [List.map_append, List.nodup_append]
    refine ⟨h.1, by simp, fun a ha b hb => ?_⟩
    obtain ⟨x, hx, rfl⟩ := List.mem_map.1 ha
    simp only [List.map_cons, List.map_nil, List.mem_singleton] at hb
    rw [hb]
    exact idx_none hn x hx
  · rcases List.mem_append.1 hx with hx | hx
    · exact h.2 x hx
    · rw [List.mem_singleton] at hx
      subst hx
      exact ⟨h0, h8⟩
theorem Ok.sub {l m : List Ent} (h : Ok l) (hs : m.Sublist l) : Ok m := ⟨(hs.map Ent.a).nodup h.1, fun x hx => h.2 x (hs.subset hx)⟩

set_option maxHeartbeats 1000000 in
theorem last_calls {g : Nat} {l : List Ent} {w : World} (h : K w g l) (hl : l.length < 8) (x : Ent) :
    Calls Tryz.prog 138 #[.pointer (some ⟨g, 0, none⟩), .agg #[.int .i64 x.a, .int .i64 x.v]] w fun e w' => (e = .returned (.tuple #[]) ∧ Kp [g] w w') ∧ K w' g (l ++ [x]) := by
  obtain ⟨C, h0, r, hi⟩ := h
  have HB := hide hi
  have c16 : C[16]? = some (.int .i64 l.length) := hi.count
  have hs : C.size = 17 := IsB.size ⟨r, hi⟩
  have a0 := h0.alloc #[.int .i64 x.a, .int .i64 x.v] 83
  have a1 := Has.new w #[.int .i64 x.a, .int .i64 x.v] 83
  have ag := (Gr.refl w).alloc #[.int .i64 x.a, .int .i64 x.v] 83
  have hgs := h0.lt
  have hll : (l.length : Int) < 8 := by omega
  clear hi h0
  go_enter Tryz.func138, Tryz.ntmps138
  go_wp2_with (fail)
  generalize hw1 : w.alloc (.cells #[.int .i64 x.a, .int .i64 x.v] 83) = w1 at a0 a1 ag
  refine begin_late 10 [9] (fun w' => Gr w1.drew w') (by kernel_rfl) rfl ?_
  have hH := Gr.refl w1.drew
  refine AnyL.takeP 0 (some 4) (.pointer (some ⟨g, 0, none⟩)) rfl rfl (by kernel_rfl) (by kernel_rfl) (by kernel_rfl) (by kernel_rfl) (fun _ _ _ h => h) (by kernel_rfl) (fun w' => by go_simp) (fun _ => hH) ?_
  simp only [Act.put, List.setIfInBounds_toArray, List.set_cons_zero, List.set_cons_succ]
  refine AnyL.takeP 1 (some 5) (.pointer (some ⟨g, 0, none⟩)) rfl rfl (by kernel_rfl) (by kernel_rfl) (by kernel_rfl) (by kernel_rfl) (fun _ _ _ h => h) (by kernel_rfl) (fun w' => by go_simp) (fun _ => hH) ?_
  simp only [Act.put, List.setIfInBounds_toArray, List.set_cons_zero, List.set_cons_succ]
  refine AnyL.takeP 2 (some 6) (.pointer (some ⟨g, 0, none⟩)) rfl rfl (by kernel_rfl) (by kernel_rfl) (by kernel_rfl) (by kernel_rfl) (fun _ _ _ h => h) (by kernel_rfl) (fun w' => by go_simp) (fun _ => hH) ?_
  simp only [Act.put, List.setIfInBounds_toArray, List.set_cons_zero, List.set_cons_succ]
  refine AnyL.takeP 3 (some 7) (.pointer (some ⟨g, 16, none⟩)) rfl rfl (by kernel_rfl) (by kernel_rfl) (by kernel_rfl) (by kernel_rfl) (fun _ _ _ h => h) (by kernel_rfl) (fun w' => by go_simp) (fun _ => hH) ?_
  simp only [Act.put, List.setIfInBounds_toArray, List.set_cons_zero, List.set_cons_succ]
  refine AnyL.take 4 (some 8) (.int .i64 l.length) rfl rfl (by kernel_rfl) (by kernel_rfl) (by kernel_rfl) (by kernel_rfl) (fun _ _ _ h => h) (yields_held _ (by kernel_rfl) (fun w' hw' => by have := (a0.drew.later hw').cell c16; go_simp)) hH ?_
  simp only [Act.put, List.setIfInBounds_toArray, List.set_cons_zero, List.set_cons_succ]
  refine AnyL.take 5 (some 9) (.agg #[.int .i64 x.a, .int .i64 x.v]) rfl rfl (by kernel_rfl) (by kernel_rfl) (by kernel_rfl) (by kernel_rfl) (fun _ _ _ h => h) (yields_held _ (by kernel_rfl) (fun w' hw' => by have h1 := (a1.drew.later hw').cell (o := 0) rfl; have h2 := (a1.drew.later hw').cell (o := 1) rfl; go_simp)) hH ?_
  simp only [Act.put, List.setIfInBounds_toArray, List.set_cons_zero, List.set_cons_succ]
  refine AnyL.takeP 6 (some 10) (.pointer (some ⟨g, 0, none⟩)) rfl rfl (by kernel_rfl) (by kernel_rfl) (by kernel_rfl) (by kernel_rfl) (fun _ _ _ h => h) (by kernel_rfl) (fun w' => by go_simp) (fun _ => hH) ?_
  simp only [Act.put, List.setIfInBounds_toArray, List.set_cons_zero, List.set_cons_succ]
  refine AnyL.takeP 7 (some 11) (.pointer (some ⟨g, 0, none⟩)) rfl rfl (by kernel_rfl) (by kernel_rfl) (by kernel_rfl) (by kernel_rfl) (fun _ _ _ h => h) (by kernel_rfl) (fun w' => by go_simp) (fun _ => hH) ?_
  simp only [Act.put, List.setIfInBounds_toArray, List.set_cons_zero, List.set_cons_succ]
  refine AnyL.takeP 8 (some 12) (.pointer (some ⟨g, l.length * 2, none⟩)) rfl rfl (by kernel_rfl) (by kernel_rfl) (by kernel_rfl) (by kernel_rfl) (fun _ _ _ h => h) (by kernel_rfl) (fun w' => by go_simp) (fun _ => hH) ?_
  simp only [Act.put, List.setIfInBounds_toArray, List.set_cons_zero, List.set_cons_succ]
  refine AnyL.one 9 (by kernel_rfl) rfl (by kernel_rfl) ?_
  refine wp_store_ent rfl _ _ rfl g (l.length * 2) rfl x rfl C 86 a0.drew (by omega) ?_
  refine ⟨late (by kernel_rfl), ?_⟩
  refine AnyL.done (by kernel_rfl) ?_
  have e0 : Has w1.drew g (bufC r l.length) 86 := by rw [← HB.out.cells]; exact a0.drew
  replace e0 := e0.setEntK HB.out.ring l.length hl x
  have kp : Kp [g] w (w1.drew.setCells g (l.length * 2) [.int .i64 x.a, .int .i64 x.v]) := ((ag.drew.kp []).trans (Kp.setCell _ g (l.length * 2) (.int .i64 x.a)) (f := [g]) (by simp) (by simp)).trans (Kp.setCell _ g (l.length * 2 + 1) (.int .i64 x.v)) (by simp) (by simp)
  generalize w1.drew.setCells g (l.length * 2) [.int .i64 x.a, .int .i64 x.v] = w2 at e0 kp ⊢
  have hr' : (r.set l.length x).length = 8 := by rw [List.length_set]; exact HB.out.ring
  have k1 := e0.cell (bufC_count hr' _)
  have k2 := e0.free 16
  have s0 := e0.set 16 (.int .i64 ((l.length : Int) + 1))
  rw [bufC_set_count hr'] at s0
  clear a0 a1 ag hH e0 hw1
  go_wp2_with (fail)
  go_end0
  exact ⟨⟨rfl, kp.trans (Kp.setCell _ g 16 _) (by simp) (by simp)⟩, _, s0, _, is_put HB.out hl x⟩

/-- what Asleep answers -/
def asleepV (o : Option Int) : Value := match o with
  | some v => .tuple #[.int .i64 v, .bool true]
  | none => .tuple #[.int .i64 0, .bool false]
theorem drop_get (l : List Ent) (k : Nat) (hk : k < l.length) : l.drop k = l.getD k ent0 :: l.drop (k + 1) := by
  rw [List.drop_eq_getElem_cons hk]
  congr 1
  rw [List.getD_eq_getElem?_getD, List.getElem?_eq_getElem hk]
  rfl

set_option maxHeartbeats 1000000 in
theorem asleep_calls {g : Nat} {l : List Ent} {w : World} (h : K w g l) (who : Int) :
    Calls Tryz.prog 140 #[.pointer (some ⟨g, 0, none⟩), .int .i64 who] w fun e w' => e = .returned (asleepV (findK who l)) ∧ Gr w w' := by
  obtain ⟨C, h0, hi⟩ := h
  have HB := hide hi
  have c16 := h0.cell hi.count
  have hlen := hi.len
  have hll : (l.length : Int) ≤ 8 := by omega
  clear hi
  go_enter Tryz.func140, Tryz.ntmps140
  go_wp2_with (fail)
  go_quiet (fail)
  go_wp2_with (fail)
  go_loopw [17] (fun i wr => ∃ k : Nat, k ≤ l.length ∧ i = .int .i64 k ∧ Has wr g C 86 ∧ Gr w wr ∧ Hid (findK who l = findK who (l.drop k))) (fun i _ => l.length - (intOf i).toNat)
  case atStart => exact ⟨0, by omega, rfl, h0.drewN _, (Gr.refl w).drewN _, by show findK who l = findK who (l.drop 0); simp⟩
  case round =>
    clear h0 c16
    obtain ⟨k, hk, rfl, b0, bg, hn⟩ := hrel
    by_cases hlt : k < l.length
    · have hlt' : (k : Int) < l.length := by omega
      obtain ⟨ca, cv⟩ := HB.out.ent k hlt
      have HD := hide (drop_get l k hlt)
      generalize l.getD k ent0 = x at ca cv HD
      replace ca := b0.cell ca
      replace cv := b0.cell cv
      by_cases hx : x.a = who
      · have hx' : (x.a == who) = true := by simp [hx]
        have HR : Hid (findK who l = some x.v) := by
          show findK who l = some x.v
          rw [hn.out, HD.out]
          simp [findK, hx]
        clear hn HD hx
        go_wp2_with (fail)
        go_ret2
        exact ⟨by rw [HR.out]; rfl, bg.alloc _ _⟩
      · have hx' : (x.a == who) = false := by simp [hx]
        have HN : Hid (findK who l = findK who (l.drop (k + 1))) := by
          show findK who l = _
          rw [hn.out, HD.out]
          simp [findK, hx]
        clear hn HD hx
        go_wp2_with (fail)
        exact ⟨⟨k + 1, by omega, by go_num, b0.alloc _ _, bg.alloc _ _, HN⟩, by simp [intOf]; omega⟩
    · obtain rfl : k = l.length := by omega
      have HN : Hid (findK who l = none) := by
        have := hn.out
        rw [List.drop_length] at this
        exact this
      clear hn
      go_wp2_with (fail)
      go_ret2
      exact ⟨by rw [HN.out]; rfl, bg⟩
end Go.Proofs.YthbenfnanhpcoaaGreatDoor.Kn
