/-
  A machine's queue of sleepers, within the machine's block: its cells; what last and Asleep do there. No condition but what each law names.
-/
import Derived.Test.YtfhplbmgjgfihaaGreatDoorZzaa
import Derived.Test.YtfhplbmgjgfihaaGreatDoorZzae
import Derived.Laws.AppendOwn
import Derived.Laws.OwnMore
import Derived.Maps.AppendAt
import Derived.Laws.CopyOwn
namespace Go.Proofs.YtfhplbmgjgfihaaGreatDoor.Kq
open Go.ChangeShapes Go.WideShapes Go.ChangeAt Go.RowKit
open Go.Proofs.YtfhplbmgjgfihaaGreatDoor.Kn
set_option linter.unusedVariables false
set_option maxRecDepth 20000
/-- a machine's cells: its sides' slice, its memory's, its queue's cells, its events' slice -/
def machC (a b : Value) (C : Array Value) (e : Value) : Array Value := ([a, b] ++ (C.toList ++ [e])).toArray
theorem mach_0 (a b : Value) (C : Array Value) (e : Value) : (machC a b C e)[0]? = some a := by simp [machC]
theorem mach_1 (a b : Value) (C : Array Value) (e : Value) : (machC a b C e)[1]? = some b := by simp [machC]
theorem mach_q {a b : Value} {C : Array Value} {e : Value} {i : Nat} (hi : i < C.size) : (machC a b C e)[2 + i]? = C[i]? := by
  simp only [machC, List.getElem?_toArray]
  rw [List.getElem?_append_right (by simp), List.getElem?_append_left (by simp; omega)]
  simp
theorem mach_e {a b : Value} {C : Array Value} {e : Value} (h : C.size = 17) : (machC a b C e)[19]? = some e := by
  simp only [machC, List.getElem?_toArray]
  rw [List.getElem?_append_right (by simp), List.getElem?_append_right (by simp; omega)]
  simp [h]
theorem mach_size {a b : Value} {C : Array Value} {e : Value} (h : C.size = 17) : (machC a b C e).size = 20 := by simp [machC, h]
theorem mach_set {a b : Value} {C : Array Value} {e : Value} {i : Nat} (hi : i < C.size) (v : Value) : (machC a b C e).setIfInBounds (2 + i) v = machC a b (C.setIfInBounds i v) e := by
  simp only [machC, List.setIfInBounds_toArray]
  rw [List.set_append_right _ _ (by simp), List.set_append_left _ _ (by simp; omega)]
  simp
theorem mach_setE {a b : Value} {C : Array Value} {e : Value} (h : C.size = 17) (v : Value) : (machC a b C e).setIfInBounds 19 v = machC a b C v := by
  simp only [machC, List.setIfInBounds_toArray]
  rw [List.set_append_right _ _ (by simp), List.set_append_right _ _ (by simp; omega)]
  simp [h]

/-- the block g is a machine's, with a queue of these sleepers -/
def Q (w : World) (g : Nat) (a b e : Value) (l : List Ent) : Prop := ∃ C, Has w g (machC a b C e) 66 ∧ IsB C l
theorem Q.later {w w' : World} {g : Nat} {a b e : Value} {l : List Ent} (h : Q w g a b e l) (k : Gr w w') : Q w' g a b e l := by obtain ⟨C, h1, h2⟩ := h; exact ⟨C, h1.later k, h2⟩
theorem Q.kept {w w' : World} {g : Nat} {a b e : Value} {l : List Ent} {x : List Nat} (h : Q w g a b e l) (k : Kp x w w') (hg : g ∉ x) : Q w' g a b e l := by obtain ⟨C, h1, h2⟩ := h; exact ⟨C, h1.kept k hg, h2⟩
theorem Q.lt {w : World} {g : Nat} {a b e : Value} {l : List Ent} (h : Q w g a b e l) : g < w.heap.size := by obtain ⟨C, h1, h2⟩ := h; exact h1.lt

set_option maxHeartbeats 1000000 in
theorem last_calls {g : Nat} {a b e : Value} {l : List Ent} {w : World} (h : Q w g a b e l) (hl : l.length < 8) (x : Ent) :
    Calls Tryz.prog 100 #[.pointer (some ⟨g, 2, none⟩), .agg #[.int .i64 x.a, .int .i64 x.v]] w fun r w' => (r = .returned (.tuple #[]) ∧ Kp [g] w w') ∧ Q w' g a b e (l ++ [x]) := by
  obtain ⟨C, h0, r, hi⟩ := h
  have HB := hide hi
  have hs : C.size = 17 := IsB.size ⟨r, hi⟩
  have c16 : (machC a b C e)[18]? = some (.int .i64 l.length) := by
    rw [show 18 = 2 + 16 from rfl, mach_q (by omega)]
    exact hi.count
  have hsz := mach_size (a := a) (b := b) (e := e) hs
  have a0 := h0.alloc #[.int .i64 x.a, .int .i64 x.v] 61
  have a1 := Has.new w #[.int .i64 x.a, .int .i64 x.v] 61
  have ag := (Gr.refl w).alloc #[.int .i64 x.a, .int .i64 x.v] 61
  have hgs := h0.lt
  have hll : (l.length : Int) < 8 := by omega
  clear hi h0
  go_enter Tryz.func100, Tryz.ntmps100
  go_wp2_with (fail)
  generalize hw1 : w.alloc (.cells #[.int .i64 x.a, .int .i64 x.v] 61) = w1 at a0 a1 ag
  refine begin_late 10 [9] (fun w' => Gr w1.drew w') (by kernel_rfl) rfl ?_
  have hH := Gr.refl w1.drew
  refine AnyL.pp 0 4 (.pointer (some ⟨g, 2, none⟩)) rfl rfl (by kernel_rfl) (fun _ _ _ h => h) (fun _ => by go_simp) hH ?_
  simp only [pz, pz0, pzs]
  refine AnyL.pp 1 5 (.pointer (some ⟨g, 2, none⟩)) rfl rfl (by kernel_rfl) (fun _ _ _ h => h) (fun _ => by go_simp) hH ?_
  simp only [pz, pz0, pzs]
  refine AnyL.pp 2 6 (.pointer (some ⟨g, 2, none⟩)) rfl rfl (by kernel_rfl) (fun _ _ _ h => h) (fun _ => by go_simp) hH ?_
  simp only [pz, pz0, pzs]
  refine AnyL.pp 3 7 (.pointer (some ⟨g, 18, none⟩)) rfl rfl (by kernel_rfl) (fun _ _ _ h => h) (fun _ => by go_simp) hH ?_
  simp only [pz, pz0, pzs]
  refine AnyL.tt 4 8 (.int .i64 l.length) rfl rfl (by kernel_rfl) (fun _ _ _ h => h) (fun w' hw' => by have := (a0.drew.later hw').cell c16; go_simp) hH ?_
  simp only [pz, pz0, pzs]
  refine AnyL.tt 5 9 (.agg #[.int .i64 x.a, .int .i64 x.v]) rfl rfl (by kernel_rfl) (fun _ _ _ h => h) (fun w' hw' => by have h1 := (a1.drew.later hw').cell (o := 0) rfl; have h2 := (a1.drew.later hw').cell (o := 1) rfl; go_simp) hH ?_
  simp only [pz, pz0, pzs]
  refine AnyL.pp 6 10 (.pointer (some ⟨g, 2, none⟩)) rfl rfl (by kernel_rfl) (fun _ _ _ h => h) (fun _ => by go_simp) hH ?_
  simp only [pz, pz0, pzs]
  refine AnyL.pp 7 11 (.pointer (some ⟨g, 2, none⟩)) rfl rfl (by kernel_rfl) (fun _ _ _ h => h) (fun _ => by go_simp) hH ?_
  simp only [pz, pz0, pzs]
  refine AnyL.pp 8 12 (.pointer (some ⟨g, 2 + l.length * 2, none⟩)) rfl rfl (by kernel_rfl) (fun _ _ _ h => h) (fun _ => by go_simp) hH ?_
  simp only [pz, pz0, pzs]
  refine AnyL.one 9 (by kernel_rfl) rfl (by kernel_rfl) ?_
  refine wp_store_ent rfl _ _ rfl g (2 + l.length * 2) rfl x rfl (machC a b C e) 66 a0.drew (by omega) ?_
  refine ⟨late (by kernel_rfl), ?_⟩
  refine AnyL.done (by kernel_rfl) ?_
  have e0 : Has (w1.drew.setCells g (2 + l.length * 2) [.int .i64 x.a, .int .i64 x.v]) g (machC a b (bufC (r.set l.length x) l.length) e) 66 := by
    have q := (a0.drew.set (2 + l.length * 2) (.int .i64 x.a)).set (2 + l.length * 2 + 1) (.int .i64 x.v)
    rw [mach_set (by omega), show 2 + l.length * 2 + 1 = 2 + (l.length * 2 + 1) from by omega, mach_set (by simp; omega), HB.out.cells, bufC_set HB.out.ring _ l.length hl x] at q
    exact q
  have kp : Kp [g] w (w1.drew.setCells g (2 + l.length * 2) [.int .i64 x.a, .int .i64 x.v]) := ((ag.drew.kp []).trans (Kp.setCell _ g (2 + l.length * 2) (.int .i64 x.a)) (f := [g]) (by simp) (by simp)).trans (Kp.setCell _ g (2 + l.length * 2 + 1) (.int .i64 x.v)) (by simp) (by simp)
  generalize w1.drew.setCells g (2 + l.length * 2) [.int .i64 x.a, .int .i64 x.v] = w2 at e0 kp ⊢
  have hr' : (r.set l.length x).length = 8 := by rw [List.length_set]; exact HB.out.ring
  have hs2 := bufC_size hr' (l.length : Int)
  have k1 := e0.cell (o := 18) (v := .int .i64 l.length) (by rw [show 18 = 2 + 16 from rfl, mach_q (by omega)]; exact bufC_count hr' _)
  have k2 := e0.free 18
  have s0 := e0.set 18 (.int .i64 ((l.length : Int) + 1))
  rw [show 18 = 2 + 16 from rfl, mach_set (by omega), bufC_set_count hr'] at s0
  clear a0 a1 ag hH e0 hw1 c16
  go_wp2_with (fail)
  go_end0
  exact ⟨⟨rfl, kp.trans (Kp.setCell _ g 18 _) (by simp) (by simp)⟩, _, s0, _, is_put HB.out hl x⟩

set_option maxHeartbeats 1000000 in
theorem asleep_calls {g : Nat} {a b e : Value} {l : List Ent} {w : World} (h : Q w g a b e l) (who : Int) :
    Calls Tryz.prog 102 #[.pointer (some ⟨g, 2, none⟩), .int .i64 who] w fun r w' => r = .returned (asleepV (findK who l)) ∧ Gr w w' := by
  obtain ⟨C, h0, hi⟩ := h
  have HB := hide hi
  have hs := hi.size
  have c16 : w.cell? ⟨g, 18, none⟩ = some (.int .i64 l.length) := h0.cell (by rw [show 18 = 2 + 16 from rfl, mach_q (by omega)]; exact hi.count)
  have hlen := hi.len
  have hll : (l.length : Int) ≤ 8 := by omega
  clear hi
  go_enter Tryz.func102, Tryz.ntmps102
  go_wp2_with (fail)
  go_quiet (fail)
  go_wp2_with (fail)
  go_loopw [17] (fun i wr => ∃ k : Nat, k ≤ l.length ∧ i = .int .i64 k ∧ Has wr g (machC a b C e) 66 ∧ Gr w wr ∧ Hid (findK who l = findK who (l.drop k))) (fun i _ => l.length - (intOf i).toNat)
  case atStart => exact ⟨0, by omega, rfl, h0.drewN _, (Gr.refl w).drewN _, by show findK who l = findK who (l.drop 0); simp⟩
  case round =>
    clear h0 c16
    obtain ⟨k, hk, rfl, b0, bg, hn⟩ := hrel
    by_cases hlt : k < l.length
    · have hlt' : (k : Int) < l.length := by omega
      obtain ⟨ca0, cv0⟩ := HB.out.ent k hlt
      have HD := hide (drop_get l k hlt)
      generalize l.getD k ent0 = x at ca0 cv0 HD
      have ca : wr.cell? ⟨g, 2 + k * 2, none⟩ = some (.int .i64 x.a) := b0.cell (by rw [mach_q (by omega)]; exact ca0)
      have cv : wr.cell? ⟨g, 2 + k * 2 + 1, none⟩ = some (.int .i64 x.v) := b0.cell (by rw [show 2 + k * 2 + 1 = 2 + (k * 2 + 1) from by omega, mach_q (by omega)]; exact cv0)
      clear ca0 cv0
      by_cases hx : x.a = who
      · have hx' : (x.a == who) = true := by simp [hx]
        have HR : Hid (findK who l = some x.v) := by
          show findK who l = some x.v
          rw [hn.out, HD.out]
          simp [findK, hx]
        clear hn HD hx
        go_wp2_with (fail)
        go_ret2
        exact ⟨by rw [HR.out]; rfl, bg.alloc _ _⟩
      · have hx' : (x.a == who) = false := by simp [hx]
        have HN : Hid (findK who l = findK who (l.drop (k + 1))) := by
          show findK who l = _
          rw [hn.out, HD.out]
          simp [findK, hx]
        clear hn HD hx
        go_wp2_with (fail)
        exact ⟨⟨k + 1, by omega, by go_num, b0.alloc _ _, bg.alloc _ _, HN⟩, by simp [intOf]; omega⟩
    · obtain rfl : k = l.length := by omega
      have HN : Hid (findK who l = none) := by
        have := hn.out
        rw [List.drop_length] at this
        exact this
      clear hn
      go_wp2_with (fail)
      go_ret2
      exact ⟨by rw [HN.out]; rfl, bg⟩
/-- what Sleep answers -/
def sleepE (who : Int) (l : List Ent) : Int := if who < 0 ∨ 8 ≤ who then 1 else if idx who l < l.length then 6 else 0
/-- who sleeps then -/
def sleepL (who addr : Int) (l : List Ent) : List Ent := if sleepE who l = 0 then l ++ [⟨who, addr⟩] else l
theorem Ok.sleep {l : List Ent} (h : Ok l) (who addr : Int) : Ok (sleepL who addr l) := by
  unfold sleepL sleepE
  by_cases h1 : who < 0 ∨ 8 ≤ who
  · simp [h1, h]
  · by_cases h2 : idx who l < l.length
    · simp [h1, h2, h]
    · simp only [h1, h2, if_false, if_true]
      exact h.put (by omega) (by omega) h2 addr

set_option maxHeartbeats 1000000 in
theorem sleep_calls {g : Nat} {a b e : Value} {l : List Ent} {w : World} (h : Q w g a b e l) (ok : Ok l) (who addr : Int) :
    Calls Tryz.prog 75 #[.pointer (some ⟨g, 2, none⟩), .int .i64 who, .int .i64 addr] w fun r w' => (r = .returned (.int .i64 (sleepE who l)) ∧ Kp [g] w w') ∧ Q w' g a b e (sleepL who addr l) := by
  have HK := hide h
  have HO := hide ok
  clear h ok
  by_cases h1 : who < 0
  · have HE : Hid (sleepE who l = 1) := by show sleepE who l = 1; simp [sleepE, h1]
    go_enter Tryz.func75, Tryz.ntmps75
    go_wp2_with (fail)
    go_ret
    refine ⟨⟨by rw [HE.out]; rfl, Kp.refl _ _⟩, ?_⟩
    unfold sleepL
    rw [HE.out]
    exact HK.out
  by_cases h2 : 8 ≤ who
  · have HE : Hid (sleepE who l = 1) := by show sleepE who l = 1; simp [sleepE, h2]
    go_enter Tryz.func75, Tryz.ntmps75
    go_wp2_with (fail)
    go_ret
    refine ⟨⟨by rw [HE.out]; rfl, Kp.refl _ _⟩, ?_⟩
    unfold sleepL
    rw [HE.out]
    exact HK.out
  by_cases h3 : idx who l < l.length
  · have HE : Hid (sleepE who l = 6) := by show sleepE who l = 6; simp [sleepE, h1, h2, h3]
    have HF : Hid (asleepV (findK who l) = .tuple #[.int .i64 (l.getD (idx who l) ent0).v, .bool true]) := by
      show asleepV (findK who l) = _
      rw [findK_idx, if_pos h3]
      rfl
    clear h3
    go_enter Tryz.func75, Tryz.ntmps75
    go_wp2_with (fail)
    refine (asleep_calls HK.out who).mono ?_
    rintro r w1 ⟨rfl, g1⟩
    rw [HF.out]
    go_wp2_with (fail)
    go_ret
    refine ⟨⟨by rw [HE.out]; rfl, g1.kp _⟩, ?_⟩
    unfold sleepL
    rw [HE.out]
    exact HK.out.later g1
  · have HE : Hid (sleepE who l = 0) := by show sleepE who l = 0; simp [sleepE, h1, h2, h3]
    have HF : Hid (asleepV (findK who l) = .tuple #[.int .i64 0, .bool false]) := by
      show asleepV (findK who l) = _
      rw [findK_idx, if_neg h3]
      rfl
    have HL := hide (HO.out.room (by omega) (by omega) h3)
    clear h3
    go_enter Tryz.func75, Tryz.ntmps75
    go_wp2_with (fail)
    refine (asleep_calls HK.out who).mono ?_
    rintro r w1 ⟨rfl, g1⟩
    rw [HF.out]
    go_wp2_with (fail)
    refine (last_calls (HK.out.later g1) HL.out ⟨who, addr⟩).mono ?_
    rintro r w2 ⟨⟨rfl, g2⟩, k2⟩
    go_wp2_with (fail)
    go_ret
    refine ⟨⟨by rw [HE.out]; rfl, (g1.kp []).trans g2 (by simp) (by simp)⟩, ?_⟩
    unfold sleepL
    rw [HE.out]
    exact k2
end Go.Proofs.YtfhplbmgjgfihaaGreatDoor.Kq
namespace Go.Proofs.YtfhplbmgjgfihaaGreatDoor.Kn
open Go.ChangeShapes Go.WideShapes Go.ChangeAt Go.RowKit
set_option linter.unusedVariables false
set_option maxRecDepth 20000

/-- a slice of sleepers: none, or their cells from an address on -/
def EntsAt (w : World) (a : Option Addr) (l : List Ent) : Prop :=
  l = [] ∨ ∃ b off, a = some ⟨b, off, none⟩ ∧ ∀ i, i < l.length → w.cell? ⟨b, off + i * 2, none⟩ = some (.int .i64 (l.getD i ent0).a) ∧ w.cell? ⟨b, off + i * 2 + 1, none⟩ = some (.int .i64 (l.getD i ent0).v)
theorem EntsAt.move {w w' : World} {a : Option Addr} {l : List Ent} (h : EntsAt w a l) (hk : ∀ y, a = some y → y.block < w.heap.size → w'.heap[y.block]? = w.heap[y.block]?) : EntsAt w' a l := by
  rcases h with h | ⟨b, off, ha, h⟩
  · exact .inl h
  · refine .inr ⟨b, off, ha, fun i hi => ?_⟩
    obtain ⟨h1, h2⟩ := h i hi
    have hb : w'.heap[b]? = w.heap[b]? := hk ⟨b, off, none⟩ ha (block_lt_of_cell (a := ⟨b, off + i * 2, none⟩) h1)
    exact ⟨(cell_same _ hb).trans h1, (cell_same _ hb).trans h2⟩
theorem EntsAt.later {w w' : World} {a : Option Addr} {l : List Ent} (h : EntsAt w a l) (g : Gr w w') : EntsAt w' a l := h.move fun y _ hy => g.block _ hy
theorem EntsAt.kept {w w' : World} {a : Option Addr} {l : List Ent} {e : List Nat} (h : EntsAt w a l) (g : Kp e w w') (ha : ∀ y, a = some y → y.block ∉ e) : EntsAt w' a l := h.move fun y hy hb => g.block _ hb (ha y hy)
theorem EntsAt.get {w : World} {a : Option Addr} {l : List Ent} (h : EntsAt w a l) {i : Nat} (hi : i < l.length) :
    ∃ b off, a = some ⟨b, off, none⟩ ∧ w.cell? ⟨b, off + i * 2, none⟩ = some (.int .i64 (l.getD i ent0).a) ∧ w.cell? ⟨b, off + i * 2 + 1, none⟩ = some (.int .i64 (l.getD i ent0).v) := by
  rcases h with h | ⟨b, off, ha, h⟩
  · subst h; simp at hi
  · exact ⟨b, off, ha, h i hi⟩
theorem EntsAt.drop {w : World} {b off : Nat} {l : List Ent} (h : EntsAt w (some ⟨b, off, none⟩) l) (n : Nat) : EntsAt w (some ⟨b, off + n * 2, none⟩) (l.drop n) := by
  rcases h with h | ⟨b', off', ha, h⟩
  · subst h; exact .inl (by simp)
  · cases ha
    refine .inr ⟨b, off + n * 2, rfl, fun i hi => ?_⟩
    rw [List.length_drop] at hi
    obtain ⟨h1, h2⟩ := h (n + i) (by omega)
    have e : off + (n + i) * 2 = off + n * 2 + i * 2 := by omega
    have e2 : (l.drop n).getD i ent0 = l.getD (n + i) ent0 := by simp [List.getD_eq_getElem?_getD]
    rw [e] at h1 h2
    rw [e2]
    exact ⟨h1, h2⟩
theorem EntsAt.take {w : World} {a : Option Addr} {l : List Ent} (h : EntsAt w a l) (n : Nat) : EntsAt w a (l.take n) := by
  rcases h with h | ⟨b, off, ha, h⟩
  · subst h; exact .inl (by simp)
  · refine .inr ⟨b, off, ha, fun i hi => ?_⟩
    rw [List.length_take] at hi
    have e2 : (l.take n).getD i ent0 = l.getD i ent0 := by
      rw [List.getD_eq_getElem?_getD, List.getD_eq_getElem?_getD, List.getElem?_take, if_pos (by omega)]
    rw [e2]
    exact h i (by omega)

theorem flatC_a (l : List Ent) (i : Nat) (hi : i < l.length) : (flat l).toArray[i * 2]? = some (.int .i64 (l.getD i ent0).a) := by
  rw [List.getElem?_toArray, flat_a, List.getD_eq_getElem?_getD, List.getElem?_eq_getElem hi]; rfl
theorem flatC_v (l : List Ent) (i : Nat) (hi : i < l.length) : (flat l).toArray[i * 2 + 1]? = some (.int .i64 (l.getD i ent0).v) := by
  rw [List.getElem?_toArray, flat_v, List.getD_eq_getElem?_getD, List.getElem?_eq_getElem hi]; rfl
theorem flatC_size (l : List Ent) : (flat l).toArray.size = l.length * 2 := by simp [flat_length]
end Go.Proofs.YtfhplbmgjgfihaaGreatDoor.Kn
namespace Go.Proofs.YtfhplbmgjgfihaaGreatDoor
open Go.ChangeShapes Go.WideShapes Go.ChangeAt Go.RowKit
set_option linter.unusedVariables false
set_option maxRecDepth 20000
open Go.Proofs.YtfhplbmgjgfihaaGreatDoor.Kn
theorem Has.ents {w : World} {g : Nat} {l : List Ent} {t : TypeId} (h : Has w g (flat l).toArray t) : EntsAt w (some ⟨g, 0, none⟩) l :=
  .inr ⟨g, 0, rfl, fun i hi => by rw [Nat.zero_add]; exact ⟨h.cell (flatC_a l i hi), h.cell (flatC_v l i hi)⟩⟩
end Go.Proofs.YtfhplbmgjgfihaaGreatDoor
namespace Go.Proofs.YtfhplbmgjgfihaaGreatDoor.Kn
open Go.ChangeShapes Go.WideShapes Go.ChangeAt Go.RowKit
set_option linter.unusedVariables false
set_option maxRecDepth 20000
theorem IsB.ents {w : World} {g : Nat} {C : Array Value} {t : TypeId} {l : List Ent} (h : Has w g C t) (hi : IsB C l) : EntsAt w (some ⟨g, 0, none⟩) l :=
  .inr ⟨g, 0, rfl, fun i hl => by rw [Nat.zero_add]; exact ⟨h.cell (hi.ent i hl).1, h.cell (hi.ent i hl).2⟩⟩

abbrev zeroE : Value := .agg #[.int .i64 0, .int .i64 0]
theorem infoE3 : (Tryz.prog.info? 61).map (fun i => (i.zero, i.size, i.bytes)) = some (some zeroE, 2, 16) := by kernel_rfl
theorem infoR3 : (Tryz.prog.info? 80).map (fun i => (i.zero, i.size, i.bytes)) = some (some zeroE, 2, 16) := by kernel_rfl
theorem infoN3 : (Tryz.prog.info? 3).map (fun i => (i.zero, i.size, i.bytes)) = some (some (.int .i64 0), 1, 8) := by kernel_rfl
theorem flat_rep : ∀ n : Nat, (madeCells zeroE.cells (n * 2)) = (flat (List.replicate n ent0)).toArray := by
  intro n
  apply Array.ext_getElem?
  intro i
  rcases Nat.lt_or_ge i (n * 2) with h | h
  · have e : i = i / 2 * 2 + i % 2 := by omega
    have hi : i / 2 < n := by omega
    rcases (by omega : i % 2 = 0 ∨ i % 2 = 1) with h2 | h2
    · have e2 : i = i / 2 * 2 := by omega
      rw [e2, flatC_a _ _ (by simpa using hi)]
      have e3 : (List.replicate n ent0).getD (i / 2) ent0 = ent0 := by simp [List.getD_eq_getElem?_getD, hi]
      rw [e3]
      have : i / 2 * 2 < n * 2 := by omega
      simp [madeCells, this, Value.cells, ent0]
    · have e2 : i = i / 2 * 2 + 1 := by omega
      rw [e2, flatC_v _ _ (by simpa using hi)]
      have e3 : (List.replicate n ent0).getD (i / 2) ent0 = ent0 := by simp [List.getD_eq_getElem?_getD, hi]
      rw [e3]
      have : i / 2 * 2 + 1 < n * 2 := by omega
      have m : (i / 2 * 2 + 1) % 2 = 1 := by omega
      simp [madeCells, this, Value.cells, ent0, m]
  · rw [Array.getElem?_eq_none (by simpa [size_madeCells] using h), Array.getElem?_eq_none (by simpa [flat_length] using h)]
theorem make_ents (n : Nat) (h : n ≤ 5000) (w : World) : (Instr.makeSlice 73 (.int .i64 n) (.int .i64 n)).run Tryz.prog w = .ok (.slice (some ⟨w.heap.size, 0, none⟩) n n) (w.alloc (.cells (flat (List.replicate n ent0)).toArray 61)) := by
  obtain ⟨i, h1, h2, h3, h4⟩ := info_parts infoE3
  have := run_make (P := Tryz.prog) w 73 61 i zeroE Tryz.underlying73 h1 h2 .i64 .i64 n n (by omega) (Int.le_refl _) (by rw [h4]; omega) (by omega)
  rw [h3] at this
  rw [← flat_rep]
  simpa using this

/-- a slice of numbers: none, or their cells from an address on -/
def NumsAt (w : World) (a : Option Addr) (m : List Int) : Prop :=
  m = [] ∨ ∃ b off, a = some ⟨b, off, none⟩ ∧ ∀ i, i < m.length → w.cell? ⟨b, off + i, none⟩ = some (.int .i64 (m.getD i 0))
theorem NumsAt.move {w w' : World} {a : Option Addr} {m : List Int} (h : NumsAt w a m) (hk : ∀ y, a = some y → y.block < w.heap.size → w'.heap[y.block]? = w.heap[y.block]?) : NumsAt w' a m := by
  rcases h with h | ⟨b, off, ha, h⟩
  · exact .inl h
  · exact .inr ⟨b, off, ha, fun i hi => (cell_same _ (hk ⟨b, off, none⟩ ha (block_lt_of_cell (a := ⟨b, off + i, none⟩) (h i hi)))).trans (h i hi)⟩
theorem NumsAt.later {w w' : World} {a : Option Addr} {m : List Int} (h : NumsAt w a m) (g : Gr w w') : NumsAt w' a m := h.move fun y _ hy => g.block _ hy
theorem NumsAt.kept {w w' : World} {a : Option Addr} {m : List Int} {e : List Nat} (h : NumsAt w a m) (g : Kp e w w') (ha : ∀ y, a = some y → y.block ∉ e) : NumsAt w' a m := h.move fun y hy hb => g.block _ hb (ha y hy)
theorem NumsAt.get {w : World} {a : Option Addr} {m : List Int} (h : NumsAt w a m) {i : Nat} (hi : i < m.length) :
    ∃ b off, a = some ⟨b, off, none⟩ ∧ w.cell? ⟨b, off + i, none⟩ = some (.int .i64 (m.getD i 0)) := by
  rcases h with h | ⟨b, off, ha, h⟩
  · subst h; simp at hi
  · exact ⟨b, off, ha, h i hi⟩

def ints (m : List Int) : List Value := m.map (Value.int .i64)
theorem ints_append (m k : List Int) : ints (m ++ k) = ints m ++ ints k := by simp [ints]
theorem ints_at (m : List Int) (i : Nat) (h : i < m.length) : (ints m)[i]? = some (.int .i64 (m.getD i 0)) := by
  simp [ints, List.getD_eq_getElem?_getD, h]
theorem ints_one (m : List Int) : ∀ u ∈ ints m, u.oneCell' = true := by
  intro v hv
  obtain ⟨x, _, rfl⟩ := List.mem_map.1 hv
  rfl
end Go.Proofs.YtfhplbmgjgfihaaGreatDoor.Kn
namespace Go.Proofs.YtfhplbmgjgfihaaGreatDoor
open Go.ChangeShapes Go.WideShapes Go.ChangeAt Go.RowKit
set_option linter.unusedVariables false
set_option maxRecDepth 20000
open Go.Proofs.YtfhplbmgjgfihaaGreatDoor.Kn
theorem Has.nums {w : World} {g : Nat} {m : List Int} {t : TypeId} (h : Has w g (ints m).toArray t) : NumsAt w (some ⟨g, 0, none⟩) m :=
  .inr ⟨g, 0, rfl, fun i hi => by rw [Nat.zero_add]; exact h.cell (by rw [List.getElem?_toArray]; exact Kn.ints_at m i hi)⟩
end Go.Proofs.YtfhplbmgjgfihaaGreatDoor
namespace Go.Proofs.YtfhplbmgjgfihaaGreatDoor.Kn
open Go.ChangeShapes Go.WideShapes Go.ChangeAt Go.RowKit
set_option linter.unusedVariables false
set_option maxRecDepth 20000
/-- a row of numbers of one's own; a row of sleepers of one's own -/
def Nown (w : World) (base : Nat) (v : Value) (m : List Int) : Prop := w.ownsRow base 3 1 v m.length (ints m)
def Eown (w : World) (base : Nat) (v : Value) (l : List Ent) : Prop := w.ownsRow base 80 2 v l.length (flat l)

theorem own_move {w w' : World} {base sz n : Nat} {t : TypeId} {v : Value} {xs : List Value} (h : w.ownsRow base t sz v n xs) (hk : ∀ k C, base ≤ k → Has w k C t → w'.heap[k]? = w.heap[k]?) : w'.ownsRow base t sz v n xs := by
  refine ⟨h.1, ?_⟩
  rcases h.2 with h2 | ⟨g, cap, cur, hv, hb, hg, rest⟩
  · exact .inl h2
  · exact .inr ⟨g, cap, cur, hv, hb, (hk g cur hb hg).trans hg, rest⟩
/-- rows are kept where blocks of another type are not -/
theorem own_kept {w w' : World} {base sz n g : Nat} {t u : TypeId} {v : Value} {xs : List Value} {C : Array Value} (h : w.ownsRow base t sz v n xs) (k : Kp [g] w w') (hg : Has w g C u) (ht : t ≠ u) : w'.ownsRow base t sz v n xs :=
  own_move h fun x D _ hx => k.block x hx.lt (by simpa using hx.apart hg ht)
theorem own_later {w w' : World} {base sz n : Nat} {t : TypeId} {v : Value} {xs : List Value} (h : w.ownsRow base t sz v n xs) (k : Gr w w') : w'.ownsRow base t sz v n xs :=
  own_move h fun x D _ hx => k.block x hx.lt

/-- numbers are appended -/
theorem app_nums {w : World} {base : Nat} (ty : TypeId) {v : Value} {xs : List Int} (hown : Nown w base v xs) (ad : Option Addr) (c : Nat) (m : List Int) (hm : NumsAt w ad m) (hc : ad = none → c = 0)
    (hn : xs.length + m.length ≤ 100000) (hb : base ≤ w.heap.size) :
    ∃ v' w', (Builtin.append_ #[113, 113] ty #[v, .slice ad m.length c]).run Tryz.prog w = .ok v' w' ∧ Nown w' base v' (xs ++ m) ∧ w.grownBy w' v.ownBlock := by
  unfold Nown at *
  obtain ⟨i, h1, h2, h3, h4⟩ := info_parts infoN3
  cases ad with
  | none =>
    obtain rfl : m = [] := by
      rcases hm with h | ⟨b, off, h, _⟩
      · exact h
      · cases h
    obtain rfl := hc rfl
    refine ⟨v, w, run_append_owned_none w base _ ty _ i 1 Tryz.underlying113 h1 v _ _ hown, by simpa [ints] using hown, ⟨rfl, rfl, rfl, Nat.le_refl _, fun k _ _ => rfl⟩⟩
  | some a =>
    obtain ⟨v', w', hr, ho, hg, _⟩ := run_append_own (P := Tryz.prog) w base 113 ty 3 i (.int .i64 0) 1 8 Tryz.underlying113 h1 h2 h3 h4 rfl (by omega) v _ _ hown a m.length c (ints m) (by simp [ints]) (by
      intro j u hj
      have hj' : j < m.length := by have := (List.getElem?_eq_some_iff.1 hj).1; simpa [ints] using this
      rcases hm with rfl | ⟨b, off, h, hcc⟩
      · simp at hj'
      · cases h
        rw [Addr.add_mid, hcc j hj', ← hj, ints_at m j hj']) (ints_one m) (by unfold maxLen; omega) (by omega) hb
    rw [← ints_append, ← List.length_append] at ho
    exact ⟨v', w', hr, ho, hg⟩

/-- sleepers are appended -/
theorem app_ents {w : World} {base : Nat} (ty : TypeId) {v : Value} {xs : List Ent} (hown : Eown w base v xs) (ad : Option Addr) (c : Nat) (l : List Ent) (hm : EntsAt w ad l) (hc : ad = none → c = 0)
    (hn : xs.length + l.length ≤ 100000) (hb : base ≤ w.heap.size) :
    ∃ v' w', (Builtin.append_ #[38, 38] ty #[v, .slice ad l.length c]).run Tryz.prog w = .ok v' w' ∧ Eown w' base v' (xs ++ l) ∧ w.grownBy w' v.ownBlock := by
  unfold Eown at *
  obtain ⟨i, h1, h2, h3, h4⟩ := info_parts infoR3
  cases ad with
  | none =>
    obtain rfl : l = [] := by
      rcases hm with h | ⟨b, off, h, _⟩
      · exact h
      · cases h
    obtain rfl := hc rfl
    refine ⟨v, w, run_append_owned_none w base _ ty _ i 2 Tryz.underlying38 h1 v _ _ hown, by simpa [flat] using hown, ⟨rfl, rfl, rfl, Nat.le_refl _, fun k _ _ => rfl⟩⟩
  | some a =>
    obtain ⟨v', w', hr, ho, hg, _⟩ := run_append_own (P := Tryz.prog) w base 38 ty 80 i zeroE 2 16 Tryz.underlying38 h1 h2 h3 h4 rfl (by omega) v _ _ hown a l.length c (flat l) (flat_length l) (by
      intro j u hj
      have hj' : j < l.length * 2 := by have := (List.getElem?_eq_some_iff.1 hj).1; rw [flat_length] at this; exact this
      rcases hm with rfl | ⟨b, off, h, hcc⟩
      · simp at hj'
      · cases h
        obtain ⟨c1, c2⟩ := hcc (j / 2) (by omega)
        rw [Addr.add_mid, ← hj]
        rcases (by omega : j % 2 = 0 ∨ j % 2 = 1) with h2 | h2
        · have e : j = j / 2 * 2 := by omega
          have q := flatC_a l (j / 2) (by omega)
          rw [List.getElem?_toArray, ← e] at q
          rw [q, ← c1, ← e]
        · have e : j = j / 2 * 2 + 1 := by omega
          have q := flatC_v l (j / 2) (by omega)
          rw [List.getElem?_toArray, ← e] at q
          rw [q, ← c2, Nat.add_assoc, ← e]) (flat_one l) (by unfold maxLen; omega) (by omega) hb
    rw [← flat_append, ← List.length_append] at ho
    exact ⟨v', w', hr, ho, hg⟩

/-- what a row of numbers of one's own is -/
theorem Nown.at {w : World} {base : Nat} {v : Value} {m : List Int} (h : Nown w base v m) : ∃ a c, v = .slice a m.length c ∧ NumsAt w a m ∧ (a = none → c = 0) ∧ ∀ y, a = some y → base ≤ y.block := by
  rcases h.2 with ⟨rfl, h0⟩ | ⟨g, cap, cur, rfl, hb, hg, hnc, hcm, hs, ht⟩
  · have : m = [] := List.length_eq_zero_iff.1 h0
    subst this
    exact ⟨none, 0, rfl, .inl rfl, fun _ => rfl, fun y h => by cases h⟩
  · refine ⟨_, _, rfl, .inr ⟨g, 0, rfl, fun i hi => ?_⟩, fun h => (by cases h), fun y h => by cases h; exact hb⟩
    rw [Nat.zero_add]
    refine Has.cell hg ?_
    have := ints_at m i hi
    rw [← ht, List.getElem?_take, if_pos (by omega)] at this
    simpa using this
theorem Eown.at {w : World} {base : Nat} {v : Value} {l : List Ent} (h : Eown w base v l) : ∃ a c, v = .slice a l.length c ∧ EntsAt w a l ∧ (a = none → c = 0) ∧ ∀ y, a = some y → base ≤ y.block ∧ ∃ D, Has w y.block D 80 := by
  rcases h.2 with ⟨rfl, h0⟩ | ⟨g, cap, cur, rfl, hb, hg, hnc, hcm, hs, ht⟩
  · have : l = [] := List.length_eq_zero_iff.1 h0
    subst this
    exact ⟨none, 0, rfl, .inl rfl, fun _ => rfl, fun y h => by cases h⟩
  · have hc : ∀ j, j < l.length * 2 → cur[j]? = (flat l)[j]? := by
      intro j hj
      rw [← ht, List.getElem?_take, if_pos hj]
      simp
    refine ⟨_, _, rfl, .inr ⟨g, 0, rfl, fun i hi => ?_⟩, fun h => (by cases h), fun y h => by cases h; exact ⟨hb, cur, hg⟩⟩
    rw [Nat.zero_add]
    have qa := flatC_a l i hi
    have qv := flatC_v l i hi
    rw [List.getElem?_toArray, ← hc _ (by omega)] at qa qv
    exact ⟨Has.cell hg qa, Has.cell hg qv⟩
theorem Nown.nil (w : World) (base : Nat) : Nown w base (.slice none 0 0) [] := ⟨rfl, .inl ⟨rfl, rfl⟩⟩
theorem Eown.nil (w : World) (base : Nat) : Eown w base (.slice none 0 0) [] := ⟨rfl, .inl ⟨rfl, rfl⟩⟩
theorem Nown.lower {w : World} {base base' : Nat} {v : Value} {m : List Int} (h : Nown w base v m) (hb : base' ≤ base) : Nown w base' v m := by
  refine ⟨h.1, ?_⟩
  rcases h.2 with h2 | ⟨g, cap, cur, hv, hg, rest⟩
  · exact .inl h2
  · exact .inr ⟨g, cap, cur, hv, Nat.le_trans hb hg, rest⟩
theorem Eown.lower {w : World} {base base' : Nat} {v : Value} {m : List Ent} (h : Eown w base v m) (hb : base' ≤ base) : Eown w base' v m := by
  refine ⟨h.1, ?_⟩
  rcases h.2 with h2 | ⟨g, cap, cur, hv, hg, rest⟩
  · exact .inl h2
  · exact .inr ⟨g, cap, cur, hv, Nat.le_trans hb hg, rest⟩
theorem Nown.later {w w' : World} {base : Nat} {v : Value} {m : List Int} (h : Nown w base v m) (k : Gr w w') : Nown w' base v m := own_later h k
theorem Eown.later {w w' : World} {base : Nat} {v : Value} {l : List Ent} (h : Eown w base v l) (k : Gr w w') : Eown w' base v l := own_later h k
theorem Nown.kept {w w' : World} {base g : Nat} {v : Value} {m : List Int} {l : List Ent} (h : Nown w base v m) (k : Kp [g] w w') (hg : K w g l) : Nown w' base v m := by
  obtain ⟨C, hc, _⟩ := hg
  exact own_kept h k hc (by decide)
theorem Eown.kept {w w' : World} {base g : Nat} {v : Value} {m : List Ent} {l : List Ent} (h : Eown w base v m) (k : Kp [g] w w') (hg : K w g l) : Eown w' base v m := by
  obtain ⟨C, hc, _⟩ := hg
  exact own_kept h k hc (by decide)
end Go.Proofs.YtfhplbmgjgfihaaGreatDoor.Kn
namespace Go.Proofs.YtfhplbmgjgfihaaGreatDoor
open Go.ChangeShapes Go.WideShapes Go.ChangeAt Go.RowKit
set_option linter.unusedVariables false
set_option maxRecDepth 20000
open Go.Proofs.YtfhplbmgjgfihaaGreatDoor.Kn
/-- blocks of another type are kept where a row grows -/
theorem Has.grown {w w' : World} {base sz n g : Nat} {t u : TypeId} {v : Value} {xs : List Value} {C : Array Value} (hg : Has w g C u) (ho : w.ownsRow base t sz v n xs) (k : w.grownBy w' v.ownBlock) (ht : t ≠ u) : Has w' g C u := by
  refine (k.block g hg.lt fun q => ?_).trans hg
  rcases ho.2 with ⟨rfl, _⟩ | ⟨x, cap, cur, rfl, hb, hx, rest⟩
  · simp [Value.ownBlock] at q
  · simp only [Value.ownBlock, Option.some.injEq] at q
    subst q
    exact Has.apart hx hg ht rfl
end Go.Proofs.YtfhplbmgjgfihaaGreatDoor
namespace Go.Proofs.YtfhplbmgjgfihaaGreatDoor.Kn
open Go.ChangeShapes Go.WideShapes Go.ChangeAt Go.RowKit
set_option linter.unusedVariables false
set_option maxRecDepth 20000
theorem K.nums {w w' : World} {g base : Nat} {l : List Ent} {v : Value} {m : List Int} (h : K w g l) (ho : Nown w base v m) (k : w.grownBy w' v.ownBlock) : K w' g l := by
  obtain ⟨C, h1, h2⟩ := h
  exact ⟨C, h1.grown ho k (by decide), h2⟩
theorem K.ents {w w' : World} {g base : Nat} {l : List Ent} {v : Value} {m : List Ent} (h : K w g l) (ho : Eown w base v m) (k : w.grownBy w' v.ownBlock) : K w' g l := by
  obtain ⟨C, h1, h2⟩ := h
  exact ⟨C, h1.grown ho k (by decide), h2⟩
/-- rows of another type are kept where a row grows -/
theorem own_grown {w w' : World} {base base' sz sz' n n' : Nat} {t u : TypeId} {v v' : Value} {xs ys : List Value} (h : w.ownsRow base t sz v n xs) (ho : w.ownsRow base' u sz' v' n' ys) (k : w.grownBy w' v'.ownBlock) (ht : u ≠ t) : w'.ownsRow base t sz v n xs :=
  own_move h fun x D _ hx => (Has.grown hx ho k ht).trans hx.symm
theorem Eown.nums {w w' : World} {base base' : Nat} {v u : Value} {l : List Ent} {m : List Int} (h : Eown w base v l) (ho : Nown w base' u m) (k : w.grownBy w' u.ownBlock) : Eown w' base v l := own_grown h ho k (by decide)
theorem Nown.ents {w w' : World} {base base' : Nat} {v u : Value} {l : List Ent} {m : List Int} (h : Nown w base v m) (ho : Eown w base' u l) (k : w.grownBy w' u.ownBlock) : Nown w' base v m := own_grown h ho k (by decide)
/-- an older row is kept where a newer one grows -/
theorem Nown.aside {w w' : World} {base base' : Nat} {v u : Value} {m m' : List Int} (h : Nown w base v m) (hv : ∀ k, v.ownBlock = some k → k < base') (ho : Nown w base' u m') (k : w.grownBy w' u.ownBlock) : Nown w' base v m := by
  refine World.ownsRow.kept h k ?_
  cases e : v.ownBlock with
  | none => exact .inl rfl
  | some x =>
    refine .inr fun q => ?_
    have h1 := hv x e
    have h2 := (World.ownsRow.lt ho x q.symm).1
    omega
/-- one number is appended -/
theorem app_num {w : World} {base : Nat} {v : Value} {xs : List Int} (hown : Nown w base v xs) (x : Int) (hn : xs.length ≤ 1000) (hb : base ≤ w.heap.size) :
    ∃ v' w', (Builtin.append_ #[113, 113] 113 #[v, .slice (some ⟨w.heap.size, 0, none⟩) 1 1]).run Tryz.prog (w.alloc (.cells #[.int .i64 x] 3)) = .ok v' w' ∧ Nown w' base v' (xs ++ [x]) ∧ (w.alloc (.cells #[.int .i64 x] 3)).grownBy w' v.ownBlock := by
  have hx : Has (w.alloc (.cells #[.int .i64 x] 3)) w.heap.size (ints [x]).toArray 3 := Has.new w _ _
  exact app_nums 113 (hown.later ((Gr.refl w).alloc _ _)) (some ⟨w.heap.size, 0, none⟩) 1 [x] hx.nums (by simp) (by simp; omega) (by simp; omega)
/-- one sleeper is appended -/
theorem app_ent {w : World} {base : Nat} {v : Value} {xs : List Ent} (hown : Eown w base v xs) (x : Ent) (hn : xs.length ≤ 1000) (hb : base ≤ w.heap.size) :
    ∃ v' w', (Builtin.append_ #[38, 38] 38 #[v, .slice (some ⟨w.heap.size, 0, none⟩) 1 1]).run Tryz.prog (w.alloc (.cells #[.int .i64 x.a, .int .i64 x.v] 80)) = .ok v' w' ∧ Eown w' base v' (xs ++ [x]) ∧ (w.alloc (.cells #[.int .i64 x.a, .int .i64 x.v] 80)).grownBy w' v.ownBlock := by
  have hx : Has (w.alloc (.cells #[.int .i64 x.a, .int .i64 x.v] 80)) w.heap.size (flat [x]).toArray 80 := Has.new w _ _
  exact app_ents 38 (hown.later ((Gr.refl w).alloc _ _)) (some ⟨w.heap.size, 0, none⟩) 1 [x] hx.ents (by simp) (by simp; omega) (by simp; omega)

end Go.Proofs.YtfhplbmgjgfihaaGreatDoor.Kn
