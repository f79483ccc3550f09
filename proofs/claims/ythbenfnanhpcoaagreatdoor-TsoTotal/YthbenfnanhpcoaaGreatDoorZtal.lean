/-
  A machine's queue of sleepers, within the machine's block: its cells; what last and Asleep do there. No condition but what each law names.
-/
import Derived.Test.YthbenfnanhpcoaaGreatDoorZtak
namespace Go.Proofs.YthbenfnanhpcoaaGreatDoor.Kq
open Go.ChangeShapes Go.WideShapes Go.ChangeAt Go.RowKit
open Go.Proofs.YthbenfnanhpcoaaGreatDoor.Kn
set_option linter.unusedVariables false
set_option maxRecDepth 20000

/-- a machine's cells: its sides' slice, its memory's, its queue's cells, its events' slice -/
def machC (a b : Value) (C : Array Value) (e : Value) : Array Value := ([a, b] ++ (C.toList ++ [e])).toArray
theorem mach_0 (a b : Value) (C : Array Value) (e : Value) : (machC a b C e)[0]? = some a := by simp [machC]
theorem mach_1 (a b : Value) (C : Array Value) (e : Value) : (machC a b C e)[1]? = some b := by simp [machC]
theorem mach_q {a b : Value} {C : Array Value} {e : Value} {i : Nat} (hi : i < C.size) : (machC a b C e)[2 + i]? = C[i]? := by
  simp only [machC, List.getElem?_toArray]
  rw [List.getElem?_append_right (by simp), List.getElem?_append_left (by simp; omega)]
  simp
theorem mach_e {a b : Value} {C : Array Value} {e : Value} (h : C.size = 17) : (machC a b C e)[19]? = some e := by
  simp only [machC, List.getElem?_toArray]
  rw [List.getElem?_append_right (by simp), List.getElem?_append_right (by simp; omega)]
  simp [h]
theorem mach_size {a b : Value} {C : Array Value} {e : Value} (h : C.size = 17) : (machC a b C e).size = 20 := by simp [machC, h]
theorem mach_set {a b : Value} {C : Array Value} {e : Value} {i : Nat} (hi : i < C.size) (v : Value) : (machC a b C e).setIfInBounds (2 + i) v = machC a b (C.setIfInBounds i v) e := by
  simp only [machC, List.setIfInBounds_toArray]
  rw [List.set_append_right _ _ (by simp), List.set_append_left _ _ (by simp; omega)]
  simp
theorem mach_setA {a b : Value} {C : Array Value} {e : Value} (v : Value) : (machC a b C e).setIfInBounds 0 v = machC v b C e := by simp [machC]
theorem mach_setE {a b : Value} {C : Array Value} {e : Value} (h : C.size = 17) (v : Value) : (machC a b C e).setIfInBounds 19 v = machC a b C v := by
  simp only [machC, List.setIfInBounds_toArray]
  rw [List.set_append_right _ _ (by simp), List.set_append_right _ _ (by simp; omega)]
  simp [h]

/-- the block g is a machine's, with a queue of these sleepers -/
def Q (w : World) (g : Nat) (a b e : Value) (l : List Ent) : Prop := ∃ C, Has w g (machC a b C e) 88 ∧ IsB C l
theorem Q.later {w w' : World} {g : Nat} {a b e : Value} {l : List Ent} (h : Q w g a b e l) (k : Gr w w') : Q w' g a b e l := by obtain ⟨C, h1, h2⟩ := h; exact ⟨C, h1.later k, h2⟩
theorem Q.kept {w w' : World} {g : Nat} {a b e : Value} {l : List Ent} {x : List Nat} (h : Q w g a b e l) (k : Kp x w w') (hg : g ∉ x) : Q w' g a b e l := by obtain ⟨C, h1, h2⟩ := h; exact ⟨C, h1.kept k hg, h2⟩
theorem Q.lt {w : World} {g : Nat} {a b e : Value} {l : List Ent} (h : Q w g a b e l) : g < w.heap.size := by obtain ⟨C, h1, h2⟩ := h; exact h1.lt

set_option maxHeartbeats 1000000 in
theorem last_calls {g : Nat} {a b e : Value} {l : List Ent} {w : World} (h : Q w g a b e l) (hl : l.length < 8) (x : Ent) :
    Calls Tryz.prog 138 #[.pointer (some ⟨g, 2, none⟩), .agg #[.int .i64 x.a, .int .i64 x.v]] w fun r w' => (r = .returned (.tuple #[]) ∧ Kp [g] w w') ∧ Q w' g a b e (l ++ [x]) := by
  obtain ⟨C, h0, r, hi⟩ := h
  have HB := hide hi
  have hs : C.size = 17 := IsB.size ⟨r, hi⟩
  have c16 : (machC a b C e)[18]? = some (.int .i64 l.length) := by
    rw [show 18 = 2 + 16 from rfl, mach_q (by omega)]
    exact hi.count
  have hsz := mach_size (a := a) (b := b) (e := e) hs
  have a0 := h0.alloc #[.int .i64 x.a, .int .i64 x.v] 83
  have a1 := Has.new w #[.int .i64 x.a, .int .i64 x.v] 83
  have ag := (Gr.refl w).alloc #[.int .i64 x.a, .int .i64 x.v] 83
  have hgs := h0.lt
  have hll : (l.length : Int) < 8 := by omega
  clear hi h0
  go_enter Tryz.func138, Tryz.ntmps138
  go_wp2_with (fail)
  generalize hw1 : w.alloc (.cells #[.int .i64 x.a, .int .i64 x.v] 83) = w1 at a0 a1 ag
  refine begin_late 10 [9] (fun w' => Gr w1.drew w') (by kernel_rfl) rfl ?_
  have hH := Gr.refl w1.drew
  refine AnyL.takeP 0 (some 4) (.pointer (some ⟨g, 2, none⟩)) rfl rfl (by kernel_rfl) (by kernel_rfl) (by kernel_rfl) (by kernel_rfl) (fun _ _ _ h => h) (by kernel_rfl) (fun w' => by go_simp) (fun _ => hH) ?_
  simp only [Act.put, List.setIfInBounds_toArray, List.set_cons_zero, List.set_cons_succ]
  refine AnyL.takeP 1 (some 5) (.pointer (some ⟨g, 2, none⟩)) rfl rfl (by kernel_rfl) (by kernel_rfl) (by kernel_rfl) (by kernel_rfl) (fun _ _ _ h => h) (by kernel_rfl) (fun w' => by go_simp) (fun _ => hH) ?_
  simp only [Act.put, List.setIfInBounds_toArray, List.set_cons_zero, List.set_cons_succ]
  refine AnyL.takeP 2 (some 6) (.pointer (some ⟨g, 2, none⟩)) rfl rfl (by kernel_rfl) (by kernel_rfl) (by kernel_rfl) (by kernel_rfl) (fun _ _ _ h => h) (by kernel_rfl) (fun w' => by go_simp) (fun _ => hH) ?_
  simp only [Act.put, List.setIfInBounds_toArray, List.set_cons_zero, List.set_cons_succ]
  refine AnyL.takeP 3 (some 7) (.pointer (some ⟨g, 18, none⟩)) rfl rfl (by kernel_rfl) (by kernel_rfl) (by kernel_rfl) (by kernel_rfl) (fun _ _ _ h => h) (by kernel_rfl) (fun w' => by go_simp) (fun _ => hH) ?_
  simp only [Act.put, List.setIfInBounds_toArray, List.set_cons_zero, List.set_cons_succ]
  refine AnyL.take 4 (some 8) (.int .i64 l.length) rfl rfl (by kernel_rfl) (by kernel_rfl) (by kernel_rfl) (by kernel_rfl) (fun _ _ _ h => h) (yields_held _ (by kernel_rfl) (fun w' hw' => by have := (a0.drew.later hw').cell c16; go_simp)) hH ?_
  simp only [Act.put, List.setIfInBounds_toArray, List.set_cons_zero, List.set_cons_succ]
  refine AnyL.take 5 (some 9) (.agg #[.int .i64 x.a, .int .i64 x.v]) rfl rfl (by kernel_rfl) (by kernel_rfl) (by kernel_rfl) (by kernel_rfl) (fun _ _ _ h => h) (yields_held _ (by kernel_rfl) (fun w' hw' => by have h1 := (a1.drew.later hw').cell (o := 0) rfl; have h2 := (a1.drew.later hw').cell (o := 1) rfl; go_simp)) hH ?_
  simp only [Act.put, List.setIfInBounds_toArray, List.set_cons_zero, List.set_cons_succ]
  refine AnyL.takeP 6 (some 10) (.pointer (some ⟨g, 2, none⟩)) rfl rfl (by kernel_rfl) (by kernel_rfl) (by kernel_rfl) (by kernel_rfl) (fun _ _ _ h => h) (by kernel_rfl) (fun w' => by go_simp) (fun _ => hH) ?_
  simp only [Act.put, List.setIfInBounds_toArray, List.set_cons_zero, List.set_cons_succ]
  refine AnyL.takeP 7 (some 11) (.pointer (some ⟨g, 2, none⟩)) rfl rfl (by kernel_rfl) (by kernel_rfl) (by kernel_rfl) (by kernel_rfl) (fun _ _ _ h => h) (by kernel_rfl) (fun w' => by go_simp) (fun _ => hH) ?_
  simp only [Act.put, List.setIfInBounds_toArray, List.set_cons_zero, List.set_cons_succ]
  refine AnyL.takeP 8 (some 12) (.pointer (some ⟨g, 2 + l.length * 2, none⟩)) rfl rfl (by kernel_rfl) (by kernel_rfl) (by kernel_rfl) (by kernel_rfl) (fun _ _ _ h => h) (by kernel_rfl) (fun w' => by go_simp) (fun _ => hH) ?_
  simp only [Act.put, List.setIfInBounds_toArray, List.set_cons_zero, List.set_cons_succ]
  refine AnyL.one 9 (by kernel_rfl) rfl (by kernel_rfl) ?_
  refine wp_store_ent rfl _ _ rfl g (2 + l.length * 2) rfl x rfl (machC a b C e) 88 a0.drew (by omega) ?_
  refine ⟨late (by kernel_rfl), ?_⟩
  refine AnyL.done (by kernel_rfl) ?_
  have e0 : Has (w1.drew.setCells g (2 + l.length * 2) [.int .i64 x.a, .int .i64 x.v]) g (machC a b (bufC (r.set l.length x) l.length) e) 88 := by
    have q := (a0.drew.set (2 + l.length * 2) (.int .i64 x.a)).set (2 + l.length * 2 + 1) (.int .i64 x.v)
    rw [mach_set (by omega), show 2 + l.length * 2 + 1 = 2 + (l.length * 2 + 1) from by omega, mach_set (by simp; omega), HB.out.cells, bufC_set HB.out.ring _ l.length hl x] at q
    exact q
  have kp : Kp [g] w (w1.drew.setCells g (2 + l.length * 2) [.int .i64 x.a, .int .i64 x.v]) := ((ag.drew.kp []).trans (Kp.setCell _ g (2 + l.length * 2) (.int .i64 x.a)) (f := [g]) (by simp) (by simp)).trans (Kp.setCell _ g (2 + l.length * 2 + 1) (.int .i64 x.v)) (by simp) (by simp)
  generalize w1.drew.setCells g (2 + l.length * 2) [.int .i64 x.a, .int .i64 x.v] = w2 at e0 kp ⊢
  have hr' : (r.set l.length x).length = 8 := by rw [List.length_set]; exact HB.out.ring
  have hs2 := bufC_size hr' (l.length : Int)
  have k1 := e0.cell (o := 18) (v := .int .i64 l.length) (by rw [show 18 = 2 + 16 from rfl, mach_q (by omega)]; exact bufC_count hr' _)
  have k2 := e0.free 18
  have s0 := e0.set 18 (.int .i64 ((l.length : Int) + 1))
  rw [show 18 = 2 + 16 from rfl, mach_set (by omega), bufC_set_count hr'] at s0
  clear a0 a1 ag hH e0 hw1 c16
  go_wp2_with (fail)
  go_end0
  exact ⟨⟨rfl, kp.trans (Kp.setCell _ g 18 _) (by simp) (by simp)⟩, _, s0, _, is_put HB.out hl x⟩

set_option maxHeartbeats 1000000 in
theorem asleep_calls {g : Nat} {a b e : Value} {l : List Ent} {w : World} (h : Q w g a b e l) (who : Int) :
    Calls Tryz.prog 140 #[.pointer (some ⟨g, 2, none⟩), .int .i64 who] w fun r w' => r = .returned (asleepV (findK who l)) ∧ Gr w w' := by
  obtain ⟨C, h0, hi⟩ := h
  have HB := hide hi
  have hs := hi.size
  have c16 : w.cell? ⟨g, 18, none⟩ = some (.int .i64 l.length) := h0.cell (by rw [show 18 = 2 + 16 from rfl, mach_q (by omega)]; exact hi.count)
  have hlen := hi.len
  have hll : (l.length : Int) ≤ 8 := by omega
  clear hi
  go_enter Tryz.func140, Tryz.ntmps140
  go_wp2_with (fail)
  go_quiet (fail)
  go_wp2_with (fail)
  go_loopw [17] (fun i wr => ∃ k : Nat, k ≤ l.length ∧ i = .int .i64 k ∧ Has wr g (machC a b C e) 88 ∧ Gr w wr ∧ Hid (findK who l = findK who (l.drop k))) (fun i _ => l.length - (intOf i).toNat)
  case atStart => exact ⟨0, by omega, rfl, h0.drewN _, (Gr.refl w).drewN _, by show findK who l = findK who (l.drop 0); simp⟩
  case round =>
    clear h0 c16
    obtain ⟨k, hk, rfl, b0, bg, hn⟩ := hrel
    by_cases hlt : k < l.length
    · have hlt' : (k : Int) < l.length := by omega
      obtain ⟨ca0, cv0⟩ := HB.out.ent k hlt
      have HD := hide (drop_get l k hlt)
      generalize l.getD k ent0 = x at ca0 cv0 HD
      have ca : wr.cell? ⟨g, 2 + k * 2, none⟩ = some (.int .i64 x.a) := b0.cell (by rw [mach_q (by omega)]; exact ca0)
      have cv : wr.cell? ⟨g, 2 + k * 2 + 1, none⟩ = some (.int .i64 x.v) := b0.cell (by rw [show 2 + k * 2 + 1 = 2 + (k * 2 + 1) from by omega, mach_q (by omega)]; exact cv0)
      clear ca0 cv0
      by_cases hx : x.a = who
      · have hx' : (x.a == who) = true := by simp [hx]
        have HR : Hid (findK who l = some x.v) := by
          show findK who l = some x.v
          rw [hn.out, HD.out]
          simp [findK, hx]
        clear hn HD hx
        go_wp2_with (fail)
        go_ret2
        exact ⟨by rw [HR.out]; rfl, bg.alloc _ _⟩
      · have hx' : (x.a == who) = false := by simp [hx]
        have HN : Hid (findK who l = findK who (l.drop (k + 1))) := by
          show findK who l = _
          rw [hn.out, HD.out]
          simp [findK, hx]
        clear hn HD hx
        go_wp2_with (fail)
        exact ⟨⟨k + 1, by omega, by go_num, b0.alloc _ _, bg.alloc _ _, HN⟩, by simp [intOf]; omega⟩
    · obtain rfl : k = l.length := by omega
      have HN : Hid (findK who l = none) := by
        have := hn.out
        rw [List.drop_length] at this
        exact this
      clear hn
      go_wp2_with (fail)
      go_ret2
      exact ⟨by rw [HN.out]; rfl, bg⟩
end Go.Proofs.YthbenfnanhpcoaaGreatDoor.Kq

namespace Go.Proofs.YthbenfnanhpcoaaGreatDoor.Kq
open Go.ChangeShapes Go.WideShapes Go.ChangeAt Go.RowKit
open Go.Proofs.YthbenfnanhpcoaaGreatDoor.Kn
set_option linter.unusedVariables false
set_option maxRecDepth 20000

/-- what Sleep answers -/
def sleepE (who : Int) (l : List Ent) : Int := if who < 0 ∨ 8 ≤ who then 1 else if idx who l < l.length then 6 else 0
/-- who sleeps then -/
def sleepL (who addr : Int) (l : List Ent) : List Ent := if sleepE who l = 0 then l ++ [⟨who, addr⟩] else l
theorem Ok.sleep {l : List Ent} (h : Ok l) (who addr : Int) : Ok (sleepL who addr l) := by
  unfold sleepL sleepE
  by_cases h1 : who < 0 ∨ 8 ≤ who
  · simp [h1, h]
  · by_cases h2 : idx who l < l.length
    · simp [h1, h2, h]
    · simp only [h1, h2, if_false, if_true]
      exact h.put (by omega) (by omega) h2 addr

set_option maxHeartbeats 1000000 in
theorem sleep_calls {g : Nat} {a b e : Value} {l : List Ent} {w : World} (h : Q w g a b e l) (ok : Ok l) (who addr : Int) :
    Calls Tryz.prog 113 #[.pointer (some ⟨g, 2, none⟩), .int .i64 who, .int .i64 addr] w fun r w' => (r = .returned (.int .i64 (sleepE who l)) ∧ Kp [g] w w') ∧ Q w' g a b e (sleepL who addr l) := by
  have HK := hide h
  have HO := hide ok
  clear h ok
  by_cases h1 : who < 0
  · have HE : Hid (sleepE who l = 1) := by show sleepE who l = 1; simp [sleepE, h1]
    go_enter Tryz.func113, Tryz.ntmps113
    go_wp2_with (fail)
    go_ret
    refine ⟨⟨by rw [HE.out]; rfl, Kp.refl _ _⟩, ?_⟩
    unfold sleepL
    rw [HE.out]
    exact HK.out
  by_cases h2 : 8 ≤ who
  · have HE : Hid (sleepE who l = 1) := by show sleepE who l = 1; simp [sleepE, h2]
    go_enter Tryz.func113, Tryz.ntmps113
    go_wp2_with (fail)
    go_ret
    refine ⟨⟨by rw [HE.out]; rfl, Kp.refl _ _⟩, ?_⟩
    unfold sleepL
    rw [HE.out]
    exact HK.out
  by_cases h3 : idx who l < l.length
  · have HE : Hid (sleepE who l = 6) := by show sleepE who l = 6; simp [sleepE, h1, h2, h3]
    have HF : Hid (asleepV (findK who l) = .tuple #[.int .i64 (l.getD (idx who l) ent0).v, .bool true]) := by
      show asleepV (findK who l) = _
      rw [findK_idx, if_pos h3]
      rfl
    clear h3
    go_enter Tryz.func113, Tryz.ntmps113
    go_wp2_with (fail)
    refine (asleep_calls HK.out who).mono ?_
    rintro r w1 ⟨rfl, g1⟩
    rw [HF.out]
    go_wp2_with (fail)
    go_ret
    refine ⟨⟨by rw [HE.out]; rfl, g1.kp _⟩, ?_⟩
    unfold sleepL
    rw [HE.out]
    exact HK.out.later g1
  · have HE : Hid (sleepE who l = 0) := by show sleepE who l = 0; simp [sleepE, h1, h2, h3]
    have HF : Hid (asleepV (findK who l) = .tuple #[.int .i64 0, .bool false]) := by
      show asleepV (findK who l) = _
      rw [findK_idx, if_neg h3]
      rfl
    have HL := hide (HO.out.room (by omega) (by omega) h3)
    clear h3
    go_enter Tryz.func113, Tryz.ntmps113
    go_wp2_with (fail)
    refine (asleep_calls HK.out who).mono ?_
    rintro r w1 ⟨rfl, g1⟩
    rw [HF.out]
    go_wp2_with (fail)
    refine (last_calls (HK.out.later g1) HL.out ⟨who, addr⟩).mono ?_
    rintro r w2 ⟨⟨rfl, g2⟩, k2⟩
    go_wp2_with (fail)
    go_ret
    refine ⟨⟨by rw [HE.out]; rfl, (g1.kp []).trans g2 (by simp) (by simp)⟩, ?_⟩
    unfold sleepL
    rw [HE.out]
    exact k2
end Go.Proofs.YthbenfnanhpcoaaGreatDoor.Kq
