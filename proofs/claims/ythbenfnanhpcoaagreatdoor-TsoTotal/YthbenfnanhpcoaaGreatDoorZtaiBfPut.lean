/-
  What Put answers of any cells that are a buffer, and any entry. No condition but that.
-/
import Derived.Test.YthbenfnanhpcoaaGreatDoorZtahBfStep
import Derived.Test.YthbenfnanhpcoaaGreatDoorZtabLate
namespace Go.Proofs.YthbenfnanhpcoaaGreatDoor.Bf
open Go.ChangeShapes Go.WideShapes Go.ChangeAt Go.RowKit
set_option linter.unusedVariables false
set_option maxRecDepth 20000

set_option maxHeartbeats 400000 in
theorem put_full {C : Array Value} {room : Nat} {l : List Ent} (h : IsB C room l) (hl : l.length = room) (x : Ent) (w : World) :
    Calls Tryz.prog 111 #[.agg C, entV x] w fun e w' => e = .returned (.tuple #[.agg C, .bool false]) ∧ Gr w w' := by
  have HB := hide h
  have hfull : fullB l room = true := by unfold fullB; rw [hl]; simp
  unfold entV
  clear h
  obtain ⟨a0, a1, a2, ag⟩ := start3 w C #[.int .i64 x.a, .int .u32 x.v] 96 93 zeroC 96
  go_enter Tryz.func111, Tryz.ntmps111
  go_wp2_with (first
    | (refine load_buf rfl _ rfl w.heap.size rfl C a0 HB.out.size ?_))
  refine (full_calls HB.out _).mono ?_
  rintro e w1 ⟨rfl, g1⟩
  replace a0 := a0.later g1
  replace a2 := a2.later g1
  replace ag := ag.trans g1
  clear a1 g1
  go_wp2_with (first
    | (refine load_buf rfl _ rfl w.heap.size rfl C a0 HB.out.size ?_)
    | (refine store_buf rfl _ _ rfl (w.heap.size + 1 + 1) rfl C rfl zeroC a2 HB.out.size zeroC_size HB.out.one ?_))
  exact bodyPost_ret (results_buf rfl _ _ (w.heap.size + 1 + 1) C rfl (a2.row C) HB.out.size) rfl ⟨rfl, ag.setRow (by omega) _⟩

set_option maxHeartbeats 400000 in
theorem put_room {C : Array Value} {room : Nat} {l r : List Ent} {first : Nat} (h : Is C room l r first) (hl : l.length < room) (x : Ent) (w : World) :
    Calls Tryz.prog 111 #[.agg C, entV x] w fun e w' => e = .returned (.tuple #[.agg (bufC (r.set ((first + l.length) % 16) x) room first (l.length + 1)), .bool true]) ∧ Gr w w' := by
  have HB := hide h
  have HI : Hid (IsB C room l) := ⟨r, first, h⟩
  have hfull : fullB l room = false := by unfold fullB; simp; omega
  have c33 : C[33]? = some (.int .i64 first) := by rw [h.cells]; exact bufC_first h.ring _ _ _
  have c34 : C[34]? = some (.int .i64 l.length) := by rw [h.cells]; exact bufC_count h.ring _ _ _
  have hf := h.fst
  have hm := h.most
  have hs := HI.out.size
  unfold entV
  clear h
  obtain ⟨a0, a1, a2, ag⟩ := start3 w C #[.int .i64 x.a, .int .u32 x.v] 96 93 zeroC 96
  go_enter Tryz.func111, Tryz.ntmps111
  go_wp2_with (first
    | (refine load_buf rfl _ rfl w.heap.size rfl C a0 HI.out.size ?_))
  refine (full_calls HI.out _).mono ?_
  rintro e w1 ⟨rfl, g1⟩
  replace a0 := a0.later g1
  replace a1 := a1.later g1
  replace a2 := a2.later g1
  replace ag := ag.trans g1
  clear g1
  have d34 := a0.cell c34
  go_wp2_with (fail)
  refine begin_late 8 [7] (fun w' => Has w' w.heap.size C 96 ∧ Has w' (w.heap.size + 1) #[.int .i64 x.a, .int .u32 x.v] 93 ∧ Has w' (w.heap.size + 1 + 1) zeroC 96 ∧ Gr w w') (by kernel_rfl) rfl ?_
  have hH := And.intro a0.drew (And.intro a1.drew (And.intro a2.drew ag.drew))
  refine AnyL.take 0 (some 9) (.agg C) rfl rfl (by kernel_rfl) (by kernel_rfl) (by kernel_rfl) (by kernel_rfl) (fun _ _ _ h => h) (take_buf (by kernel_rfl) _ rfl w.heap.size rfl C (fun w h => h.1) hs) hH ?_
  simp only [Act.put, List.setIfInBounds_toArray, List.set_cons_zero, List.set_cons_succ]
  refine AnyL.takeP 1 (some 10) (.pointer (some ⟨w.heap.size, 34, none⟩)) rfl rfl (by kernel_rfl) (by kernel_rfl) (by kernel_rfl) (by kernel_rfl) (fun _ _ _ h => h) (by kernel_rfl) (fun w' => by go_simp) (fun _ => hH) ?_
  simp only [Act.put, List.setIfInBounds_toArray, List.set_cons_zero, List.set_cons_succ]
  refine AnyL.take 2 (some 11) (.int .i64 l.length) rfl rfl (by kernel_rfl) (by kernel_rfl) (by kernel_rfl) (by kernel_rfl) (fun _ _ _ h => h) (yields_held _ (by kernel_rfl) (fun w' hw' => by have := hw'.1.cell c34; go_simp)) hH ?_
  simp only [Act.put, List.setIfInBounds_toArray, List.set_cons_zero, List.set_cons_succ]
  refine AnyL.take 4 (some 13) (.agg #[.int .i64 x.a, .int .u32 x.v]) rfl rfl (by kernel_rfl) (by kernel_rfl) (by kernel_rfl) (by kernel_rfl) (fun _ _ _ h => h) (yields_held _ (by kernel_rfl) (fun w' hw' => by have h1 := hw'.2.1.cell (o := 0) rfl; have h2 := hw'.2.1.cell (o := 1) rfl; go_simp)) hH ?_
  simp only [Act.put, List.setIfInBounds_toArray, List.set_cons_zero, List.set_cons_succ]
  refine AnyL.takeP 5 (some 14) (.pointer (some ⟨w.heap.size, 0, none⟩)) rfl rfl (by kernel_rfl) (by kernel_rfl) (by kernel_rfl) (by kernel_rfl) (fun _ _ _ h => h) (by kernel_rfl) (fun w' => by go_simp) (fun _ => hH) ?_
  simp only [Act.put, List.setIfInBounds_toArray, List.set_cons_zero, List.set_cons_succ]
  refine AnyL.one 3 (by kernel_rfl) rfl (by kernel_rfl) ?_
  refine wp_call (some 12) rfl 57 #[.agg C, .int .i64 l.length] (by kernel_rfl) (place_calls c33 hf l.length (by omega) _) ?_
  rintro e w2 ⟨rfl, g2⟩
  refine ⟨_, rfl, ?_⟩
  replace hH := And.intro (hH.1.later g2) (And.intro (hH.2.1.later g2) (And.intro (hH.2.2.1.later g2) (hH.2.2.2.trans g2)))
  refine ⟨fun _ => hH, ?_⟩
  simp only [Act.put, List.setIfInBounds_toArray, List.set_cons_zero, List.set_cons_succ]
  generalize hpp : (first + l.length) % 16 = p
  have hp : p < 16 := by omega
  have hp' : (p : Int) < 16 := by omega
  refine AnyL.takeP 6 (some 15) (.pointer (some ⟨w.heap.size, p * 2, none⟩)) rfl rfl (by kernel_rfl) (by kernel_rfl) (by kernel_rfl) (by kernel_rfl) (fun _ _ _ h => h) (by kernel_rfl) (fun w' => by go_simp) (fun _ => hH) ?_
  simp only [Act.put, List.setIfInBounds_toArray, List.set_cons_zero, List.set_cons_succ]
  have e0 : Has w2 w.heap.size (bufC r room first l.length) 96 := by rw [← HB.out.cells]; exact hH.1
  refine AnyL.one 7 (by kernel_rfl) rfl (by kernel_rfl) ?_
  refine wp_store_ent rfl _ _ rfl w.heap.size (p * 2) rfl x rfl C 96 hH.1 (by omega) ?_
  refine ⟨late (by kernel_rfl), ?_⟩
  refine AnyL.done (by kernel_rfl) ?_
  replace e0 := e0.setEnt HB.out.ring p hp x
  replace a2 := hH.2.2.1.setCells (k := w.heap.size) (by omega) (p * 2) (.int .i64 x.a) (.int .u32 x.v)
  replace ag := hH.2.2.2.setCells (Nat.le_refl _) (p * 2) (.int .i64 x.a) (.int .u32 x.v)
  generalize w2.setCells w.heap.size (p * 2) [.int .i64 x.a, .int .u32 x.v] = w3 at e0 a2 ag ⊢
  have hr' : (r.set p x).length = 16 := by rw [List.length_set]; exact HB.out.ring
  have k1 := e0.cell (bufC_count hr' _ _ _)
  have k2 := e0.free 34
  have s0 := e0.set 34 (.int .i64 ((l.length : Int) + 1))
  rw [bufC_set_count hr'] at s0
  have s2 := a2.aside (k := w.heap.size) (by omega) 34 (.int .i64 ((l.length : Int) + 1))
  have hz := bufC_size hr' room first (l.length + 1)
  have HP := hide hpp
  clear hpp c33 c34 a0 a1 d34 g2 hH e0 a2
  go_wp2_with (first
    | (refine load_buf rfl _ rfl w.heap.size rfl _ s0 hz ?_)
    | (refine store_buf rfl _ _ rfl (w.heap.size + 1 + 1) rfl _ rfl zeroC s2 hz zeroC_size (bufC_one _ _ _ _) ?_))
  have hpp := HP.out
  clear HP
  subst hpp
  exact bodyPost_ret (results_buf rfl _ _ (w.heap.size + 1 + 1) _ rfl (s2.row _) hz) rfl ⟨rfl, (ag.setCell (Nat.le_refl _) _).setRow (by omega) _⟩

/-- what Put answers -/
def PutP (room : Nat) (l : List Ent) (x : Ent) (C : Array Value) (w : World) (e : Ending) (w' : World) : Prop :=
  Gr w w' ∧ if l.length < room then ∃ D, e = .returned (.tuple #[.agg D, .bool true]) ∧ IsB D room (l ++ [x]) else e = .returned (.tuple #[.agg C, .bool false])
theorem put_calls {C : Array Value} {room : Nat} {l : List Ent} (h : IsB C room l) (x : Ent) (w : World) :
    Calls Tryz.prog 111 #[.agg C, entV x] w (PutP room l x C w) := by
  obtain ⟨r, first, hi⟩ := id h
  by_cases hl : l.length < room
  · refine (put_room hi hl x w).mono fun e w' hh => ⟨hh.2, ?_⟩
    rw [if_pos hl]
    exact ⟨_, hh.1, _, _, is_put hi hl x⟩
  · have := hi.len
    refine (put_full h (by omega) x w).mono fun e w' hh => ⟨hh.2, ?_⟩
    rw [if_neg hl]
    exact hh.1
/-- what a put leaves -/
def putL (room : Nat) (l : List Ent) (x : Ent) : List Ent := if l.length < room then l ++ [x] else l
theorem put_any {C : Array Value} {room : Nat} {l : List Ent} (h : IsB C room l) (x : Ent) (w : World) :
    Calls Tryz.prog 111 #[.agg C, .agg #[.int .i64 x.a, .int .u32 x.v]] w fun e w' => ∃ D, (e = .returned (.tuple #[.agg D, .bool (decide (l.length < room))]) ∧ Gr w w') ∧ IsB D room (putL room l x) :=
  (put_calls h x w).mono fun e w' hh => by
    have h2 := hh.2
    unfold putL
    by_cases hl : l.length < room
    · rw [if_pos hl] at h2
      obtain ⟨D, h3, h4⟩ := h2
      refine ⟨D, ⟨?_, hh.1⟩, by rw [if_pos hl]; exact h4⟩
      rw [h3]; simp [hl]
    · rw [if_neg hl] at h2
      refine ⟨C, ⟨?_, hh.1⟩, by rw [if_neg hl]; exact h⟩
      rw [h2]; simp [hl]
theorem put_yes {C : Array Value} {room : Nat} {l : List Ent} (h : IsB C room l) (hl : l.length < room) (x : Ent) (w : World) :
    Calls Tryz.prog 111 #[.agg C, .agg #[.int .i64 x.a, .int .u32 x.v]] w fun e w' => ∃ D, (e = .returned (.tuple #[.agg D, .bool true]) ∧ Gr w w') ∧ IsB D room (l ++ [x]) :=
  (put_calls h x w).mono fun e w' hh => by
    have h2 := hh.2
    rw [if_pos hl] at h2
    obtain ⟨D, h3, h4⟩ := h2
    exact ⟨D, ⟨h3, hh.1⟩, h4⟩
end Go.Proofs.YthbenfnanhpcoaaGreatDoor.Bf
