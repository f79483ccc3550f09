/-
  What Small answers of any program: yes or no. No condition but what each law names.
-/
import Derived.Test.YthbenfnanhpcoaaGreatDoorZzbkChk
import Derived.Deep.CutBlock
import Derived.Deep.LoopGhost
import Derived.Test.YthbenfnanhpcoaaGreatDoorZzae
import Derived.Test.YthbenfnanhpcoaaGreatDoorZzbj
import Derived.Test.YthbenfnanhpcoaaGreatDoorZzbsAwk9
namespace Go.Proofs.YthbenfnanhpcoaaGreatDoor.Mc
open Go.ChangeShapes Go.WideShapes Go.ChangeAt Go.RowKit
set_option linter.unusedVariables false
set_option maxRecDepth 20000

/-- yes or no -/
def YesNo (w : World) (r : Ending) (w' : World) : Prop := (∃ b, r = .returned (.bool b)) ∧ Gr w w'
set_option maxHeartbeats 1000000 in
theorem small_calls (p : Pgm) (hp : p.codes.length ≤ maxLen) (w : World) (h : PgAt p w) : Calls Tryz.prog 15 #[.agg (pgA p), .int .i64 400] w (YesNo w) := by
  have g0 := (Gr.refl w).alloc (pgA p) 27
  have hb := Has.new w (pgA p) 27
  have HH := hide h
  have hml : (p.codes.length : Int) ≤ 9223372036854775807 := by unfold maxLen at hp; omega
  clear h hp
  go_enter Tryz.func15, Tryz.ntmps15
  go_upto_region 1 with (fail)
  change Code.wp _ _ _ _ (w.alloc (.cells (pgA p) 27))
  generalize w.alloc (.cells (pgA p) 27) = w1 at g0 hb ⊢
  have d0 := hb.cell (o := 0) (v := .slice p.ca p.codes.length p.cc) rfl
  have d1 := hb.cell (o := 1) (v := .slice p.ma p.mem.length p.mc) rfl
  have q1 := HH.out.later g0
  have GG := hide g0
  go_wp2_with (fail)
  go_loopw [5, 6] (fun v u wr => ∃ j n : Nat, j ≤ p.codes.length ∧ n ≤ 801 ∧ v = .int .i64 n ∧ u = .int .i64 j ∧ wr = w1) (fun _ u _ => p.codes.length - (intOf u).toNat)
  case atStart => exact ⟨0, 0, by omega, by omega, rfl, rfl, rfl⟩
  case round =>
    obtain ⟨j, n, hj, hn, rfl, rfl, rfl⟩ := hrel
    have d0 := hb.cell (o := 0) (v := .slice p.ca p.codes.length p.cc) rfl
    have d1 := hb.cell (o := 1) (v := .slice p.ma p.mem.length p.mc) rfl
    by_cases hlt : j < p.codes.length
    · have hlt' : (j : Int) < p.codes.length := by omega
      by_cases hn4 : n ≤ 400
      · have hn4' : (n : Int) ≤ 400 := by omega
        have rw1 := q1.row
        obtain ⟨b, off, had, -⟩ := rw1.get (by rw [flatOf_length codeV_len]; omega)
        rw [had] at rw1 d0
        have c0 := rw1.cell codeV_len hlt cd0 0 (by omega)
        generalize p.codes.getD j cd0 = x at c0
        simp only [codeV, List.getElem?_cons_zero, Nat.add_zero, Nat.mul_one] at c0
        clear rw1
        by_cases h4 : 401 < x.l.length
        · have h4' : (401 : Int) < x.l.length := by omega
          go_wp2_with (fail)
          exact ⟨⟨j + 1, n + 401, by omega, by omega, by go_num, by go_num, trivial⟩, by simp [intOf]; omega⟩
        · have h4' : ¬ (401 : Int) < x.l.length := by omega
          go_wp2_with (fail)
          exact ⟨⟨j + 1, n + x.l.length, by omega, by omega, by go_num, by go_num, trivial⟩, by simp [intOf]; omega⟩
      · have hn4' : ¬ (n : Int) ≤ 400 := by omega
        go_wp2_with (fail)
        go_ret
        exact ⟨⟨_, rfl⟩, GG.out⟩
    · have hlt' : ¬ (j : Int) < p.codes.length := by omega
      by_cases hn4 : n ≤ 400
      · have hn4' : (n : Int) ≤ 400 := by omega
        by_cases hm : p.mem.length ≤ 2000
        · have hm' : (p.mem.length : Int) ≤ 2000 := by omega
          by_cases hc : p.codes.length ≤ 100
          · have hc' : (p.codes.length : Int) ≤ 100 := by omega
            go_wp2_with (fail)
            go_ret
            exact ⟨⟨_, rfl⟩, GG.out⟩
          · have hc' : ¬ (p.codes.length : Int) ≤ 100 := by omega
            go_wp2_with (fail)
            go_ret
            exact ⟨⟨_, rfl⟩, GG.out⟩
        · have hm' : ¬ (p.mem.length : Int) ≤ 2000 := by omega
          go_wp2_with (fail)
          go_ret
          exact ⟨⟨_, rfl⟩, GG.out⟩
      · have hn4' : ¬ (n : Int) ≤ 400 := by omega
        go_wp2_with (fail)
        go_ret
        exact ⟨⟨_, rfl⟩, GG.out⟩
end Go.Proofs.YthbenfnanhpcoaaGreatDoor.Mc

namespace Go.Proofs.YthbenfnanhpcoaaGreatDoor.Mc
set_option linter.unusedVariables false

/-- two ports answer alike, as long as their states stay alike -/
structure SimP {S T : Type} (M : Prt S) (N : Prt T) (R : S → T → Prop) : Prop where
  size : M.size = N.size
  load : ∀ a b m, R a b → M.load a m = N.load b m
  loadS : ∀ a b m, R a b → R (M.loadS a m) (N.loadS b m)
  room : ∀ a b, R a b → M.room a = N.room b
  store : ∀ a b m v, R a b → R (M.store a m v) (N.store b m v)
  empty : ∀ a b, R a b → M.empty a = N.empty b
  flush : ∀ a b, R a b → R (M.flush a) (N.flush b)
  swapS : ∀ a b m v, R a b → R (M.swapS a m v) (N.swapS b m v)
  sleep : ∀ a b m, R a b → R (M.sleep a m) (N.sleep b m)
  wake : ∀ a b m v, R a b → M.wake a m v = N.wake b m v
  wakeS : ∀ a b m v, R a b → R (M.wakeS a m v) (N.wakeS b m v)
  remote : ∀ a b, R a b → R (M.remote a) (N.remote b)
  note : ∀ a b x, R a b → R (M.note a x) (N.note b x)

section
variable {S T : Type} {M : Prt S} {N : Prt T} {R : S → T → Prop}
def Alk {S T : Type} (R : S → T → Prop) (p : Th × S) (q : Th × T) : Prop := p.1 = q.1 ∧ R p.2 q.2
theorem sim_end (H : SimP M N R) {a : S} {b : T} (h : R a b) (t : Th) (st ev : Int) : Alk R (endM M t a st ev) (endM N t b st ev) := ⟨rfl, H.note _ _ _ h⟩
theorem sim_loaded (H : SimP M N R) {a : S} {b : T} (h : R a b) (t : Th) (i : Ins) (m : Int) : Alk R (loadedM M t i a m) (loadedM N t i b m) := by
  unfold loadedM
  rw [H.load a b m h]
  exact ⟨rfl, H.note _ _ _ (H.loadS _ _ _ h)⟩
theorem sim_stored (H : SimP M N R) {a : S} {b : T} (h : R a b) (t : Th) (i : Ins) (m : Int) : Alk R (storedM M t i a m) (storedM N t i b m) := ⟨rfl, H.note _ _ _ (H.store _ _ _ _ h)⟩
theorem sim_swapped (H : SimP M N R) {a : S} {b : T} (h : R a b) (t : Th) (i : Ins) (m : Int) : Alk R (swappedM M t i a m) (swappedM N t i b m) := by
  unfold swappedM swapM
  rw [H.load a b m h]
  refine ⟨rfl, H.note _ _ _ ?_⟩
  split
  · exact H.swapS _ _ _ _ (H.loadS _ _ _ h)
  · exact H.loadS _ _ _ h
theorem sim_waited (H : SimP M N R) {a : S} {b : T} (h : R a b) (t : Th) (i : Ins) (m : Int) : Alk R (waitedM M t i a m) (waitedM N t i b m) := by
  unfold waitedM
  rw [H.load a b m h]
  split
  · exact ⟨rfl, H.sleep _ _ _ (H.note _ _ _ (H.loadS _ _ _ h))⟩
  · exact ⟨rfl, H.note _ _ _ (H.loadS _ _ _ h)⟩
theorem sim_woke (H : SimP M N R) {a : S} {b : T} (h : R a b) (t : Th) (i : Ins) (m : Int) : Alk R (wokeM M t i a m) (wokeM N t i b m) := by
  unfold wokeM
  rw [H.wake a b m _ h]
  exact ⟨rfl, H.note _ _ _ (H.wakeS _ _ _ _ h)⟩
theorem sim_asked (H : SimP M N R) {a : S} {b : T} (h : R a b) (t : Th) (i : Ins) : Alk R (askedM M t i a) (askedM N t i b) := by
  unfold askedM
  split
  · exact sim_loaded H h t i _
  · split
    · exact sim_stored H h t i _
    · split
      · exact sim_waited H h t i _
      · split
        · exact sim_woke H h t i _
        · exact sim_swapped H h t i _
theorem sim_alone (H : SimP M N R) {a : S} {b : T} (h : R a b) (t : Th) (i : Ins) : Alk R (aloneM M t i a) (aloneM N t i b) := by
  unfold aloneM
  split
  · exact ⟨rfl, h⟩
  · split
    · exact ⟨rfl, h⟩
    · split
      · exact ⟨rfl, H.note _ _ _ h⟩
      · split
        · exact ⟨rfl, H.note _ _ _ h⟩
        · split
          · exact ⟨rfl, H.note _ _ _ (H.remote _ _ h)⟩
          · split
            · exact ⟨rfl, H.note _ _ _ h⟩
            · exact ⟨rfl, h⟩
theorem sim_on {p : Th × S} {q : Th × T} (k : Alk R p q) : Alk R (onM p) (onM q) := by
  unfold onM
  rw [k.1]
  exact ⟨rfl, k.2⟩
theorem sim_done (H : SimP M N R) {a : S} {b : T} (h : R a b) (t : Th) (i : Ins) : Alk R (doneM M t i a) (doneM N t i b) := by
  unfold doneM
  split
  · exact sim_end H h t _ _
  · split
    · exact ⟨rfl, h⟩
    · refine sim_on ?_
      split
      · exact sim_asked H h t i
      · split
        · exact ⟨rfl, h⟩
        · exact sim_alone H h t i
theorem sim_at (H : SimP M N R) {a : S} {b : T} (h : R a b) (t : Th) (i : Ins) (n : Int) : Alk R (atM M t i n a) (atM N t i n b) := by
  have e1 : inMemM M t i = inMemM N t i := by unfold inMemM; rw [H.size]
  have e2 : heldM M i a = heldM N i b := by unfold heldM; rw [H.empty a b h, H.room a b h]
  unfold atM
  rw [e1, e2]
  split
  · exact sim_end H h t _ _
  · split
    · exact ⟨rfl, H.flush _ _ h⟩
    · exact sim_done H h t i
theorem sim_stepM (H : SimP M N R) {a : S} {b : T} (h : R a b) (t : Th) (code : List Ins) : Alk R (stepM M t code a) (stepM N t code b) := by
  unfold stepM
  split
  · exact ⟨rfl, h⟩
  · split
    · exact sim_end H h t _ _
    · exact sim_at H h t _ _
end
end Go.Proofs.YthbenfnanhpcoaaGreatDoor.Mc

namespace Go.Proofs.YthbenfnanhpcoaaGreatDoor.Mc
set_option linter.unusedVariables false
set_option maxRecDepth 20000

/-- what befell left out -/
def clr (s : Ms) : Ms := ⟨s.sides, s.mem, s.slp, [], s.room⟩
theorem clr_rises : ∀ (l : List Int) (s : Ms), clr (l.foldl Ms.rise s) = l.foldl Ms.rise (clr s)
  | [], s => rfl
  | x :: l, s => clr_rises l (s.rise x)
theorem sim_clr (n : Int) (i : Nat) : SimP (portS n i) (portS n i) (fun a b => clr a = clr b) where
  size := rfl
  load := fun a b m h => by show (clr a).mem.getD m.toNat 0 = (clr b).mem.getD m.toNat 0; rw [h]
  loadS := fun a b m h => h
  room := fun a b h => rfl
  store := fun a b m v h => by show (clr a).setM m v = (clr b).setM m v; rw [h]
  empty := fun a b h => rfl
  flush := fun a b h => h
  swapS := fun a b m v h => by show (clr a).setM m v = (clr b).setM m v; rw [h]
  sleep := fun a b m h => by show (clr a).sleep i m = (clr b).sleep i m; rw [h]
  wake := fun a b m v h => by show (clr a).woken m v = (clr b).woken m v; rw [h]
  wakeS := fun a b m v h => by
    have e : ∀ s : Ms, clr (s.wake m v) = (clr s).wake m v := fun s => clr_rises _ _
    show clr (a.wake m v) = clr (b.wake m v)
    rw [e, e, h]
  remote := fun a b h => h
  note := fun a b x h => h
theorem clr_step (s : Ms) (n : Int) (i : Nat) : clr (s.stepS n i) = clr ((clr s).stepS n i) := by
  obtain ⟨h1, h2⟩ := sim_stepM (sim_clr n i) (show clr s = clr (clr s) from rfl) (s.side i).t (s.side i).code
  show clr ((stepM (portS n i) (s.side i).t (s.side i).code s).2.setT i (stepM (portS n i) (s.side i).t (s.side i).code s).1) = clr ((stepM (portS n i) (s.side i).t (s.side i).code (clr s)).2.setT i (stepM (portS n i) (s.side i).t (s.side i).code (clr s)).1)
  rw [h1]
  show (clr (stepM (portS n i) (s.side i).t (s.side i).code s).2).setT i _ = (clr (stepM (portS n i) (s.side i).t (s.side i).code (clr s)).2).setT i _
  rw [h2]
theorem clr_pick (s : Ms) (n w : Int) : clr (s.pickS n 0 w) = clr ((clr s).pickS n 0 w) := by
  unfold Ms.pickS
  show clr (if 0 ≤ w ∧ w < s.sides.length then _ else _) = clr (if 0 ≤ w ∧ w < s.sides.length then _ else _)
  split
  · exact clr_step s n w.toNat
  · rfl
def tab : List (List Int) := [[0, 0, 0, 0, 0, 0, 0, 0, 0, 0], [1, 1, 0, 0, 0, 0, 0, 0, 0, 0], [0, 0, 0, 0, 1, 1, 0, 0, 0, 0], [2, 1, 0, 0, 0, 0, 0, 0, 1, 0], [1, 1, 0, 0, 1, 1, 0, 0, 0, 0], [0, 0, 0, 0, 2, 1, 0, 0, 0, 1], [3, 1, 0, 0, 0, 0, 0, 0, 1, 0], [2, 1, 0, 0, 1, 1, 0, 0, 1, 0], [1, 1, 0, 0, 2, 1, 0, 0, 0, 1], [0, 0, 0, 0, 3, 1, 0, 0, 0, 1], [3, 1, 0, 2, 0, 0, 0, 0, 1, 0], [3, 1, 0, 0, 1, 1, 0, 0, 1, 0], [2, 1, 0, 0, 2, 1, 0, 0, 1, 1], [1, 1, 0, 0, 3, 1, 0, 0, 0, 1], [0, 0, 0, 0, 3, 1, 0, 2, 0, 1], [3, 1, 0, 2, 1, 1, 0, 0, 1, 0], [3, 1, 0, 0, 2, 1, 0, 0, 1, 1], [3, 1, 1, 0, 2, 1, 0, 0, 1, 1], [2, 1, 0, 0, 3, 1, 1, 0, 1, 1], [2, 1, 0, 0, 3, 1, 0, 0, 1, 1], [1, 1, 0, 0, 3, 1, 0, 2, 0, 1], [3, 1, 0, 2, 2, 1, 0, 0, 1, 1], [3, 1, 0, 0, 3, 1, 1, 0, 1, 1], [3, 1, 1, 2, 2, 1, 0, 0, 1, 1], [3, 1, 1, 0, 3, 1, 1, 0, 1, 1], [2, 1, 0, 0, 3, 1, 1, 2, 1, 1], [3, 1, 1, 0, 3, 1, 0, 0, 1, 1], [2, 1, 0, 0, 3, 1, 0, 2, 1, 1], [3, 1, 0, 2, 3, 1, 1, 0, 1, 1], [3, 1, 0, 0, 3, 1, 1, 2, 1, 1], [3, 1, 1, 2, 3, 1, 1, 0, 1, 1], [3, 1, 1, 0, 3, 1, 1, 2, 1, 1], [3, 1, 1, 2, 3, 1, 0, 0, 1, 1], [3, 1, 1, 0, 3, 1, 0, 2, 1, 1], [3, 1, 0, 2, 3, 1, 1, 2, 1, 1], [3, 1, 1, 2, 3, 1, 1, 2, 1, 1], [3, 1, 1, 2, 3, 1, 0, 2, 1, 1]]
def mkT (r : List Int) (o : Nat) : Th := ⟨r.getD o 0, [0, r.getD (o + 1) 0, r.getD (o + 2) 0, 0, 0, 0, 0, 0], r.getD (o + 3) 0⟩
def mkR (r : List Int) : Ms := ⟨[⟨codeE 0 1, mkT r 0, []⟩, ⟨codeE 1 0, mkT r 4, []⟩], [r.getD 8 0, r.getD 9 0], [], [], 1⟩
def nxt0 : List (List Int) := [[1, 1, 0, 0, 0, 0, 0, 0, 0, 0], [2, 1, 0, 0, 0, 0, 0, 0, 1, 0], [1, 1, 0, 0, 1, 1, 0, 0, 0, 0], [3, 1, 0, 0, 0, 0, 0, 0, 1, 0], [2, 1, 0, 0, 1, 1, 0, 0, 1, 0], [1, 1, 0, 0, 2, 1, 0, 0, 0, 1], [3, 1, 0, 2, 0, 0, 0, 0, 1, 0], [3, 1, 0, 0, 1, 1, 0, 0, 1, 0], [2, 1, 0, 0, 2, 1, 0, 0, 1, 1], [1, 1, 0, 0, 3, 1, 0, 0, 0, 1], [3, 1, 0, 2, 0, 0, 0, 0, 1, 0], [3, 1, 0, 2, 1, 1, 0, 0, 1, 0], [3, 1, 1, 0, 2, 1, 0, 0, 1, 1], [2, 1, 0, 0, 3, 1, 0, 0, 1, 1], [1, 1, 0, 0, 3, 1, 0, 2, 0, 1], [3, 1, 0, 2, 1, 1, 0, 0, 1, 0], [3, 1, 0, 2, 2, 1, 0, 0, 1, 1], [3, 1, 1, 2, 2, 1, 0, 0, 1, 1], [3, 1, 1, 0, 3, 1, 1, 0, 1, 1], [3, 1, 1, 0, 3, 1, 0, 0, 1, 1], [2, 1, 0, 0, 3, 1, 0, 2, 1, 1], [3, 1, 0, 2, 2, 1, 0, 0, 1, 1], [3, 1, 0, 2, 3, 1, 1, 0, 1, 1], [3, 1, 1, 2, 2, 1, 0, 0, 1, 1], [3, 1, 1, 2, 3, 1, 1, 0, 1, 1], [3, 1, 1, 0, 3, 1, 1, 2, 1, 1], [3, 1, 1, 2, 3, 1, 0, 0, 1, 1], [3, 1, 1, 0, 3, 1, 0, 2, 1, 1], [3, 1, 0, 2, 3, 1, 1, 0, 1, 1], [3, 1, 0, 2, 3, 1, 1, 2, 1, 1], [3, 1, 1, 2, 3, 1, 1, 0, 1, 1], [3, 1, 1, 2, 3, 1, 1, 2, 1, 1], [3, 1, 1, 2, 3, 1, 0, 0, 1, 1], [3, 1, 1, 2, 3, 1, 0, 2, 1, 1], [3, 1, 0, 2, 3, 1, 1, 2, 1, 1], [3, 1, 1, 2, 3, 1, 1, 2, 1, 1], [3, 1, 1, 2, 3, 1, 0, 2, 1, 1]]
def nxt1 : List (List Int) := [[0, 0, 0, 0, 1, 1, 0, 0, 0, 0], [1, 1, 0, 0, 1, 1, 0, 0, 0, 0], [0, 0, 0, 0, 2, 1, 0, 0, 0, 1], [2, 1, 0, 0, 1, 1, 0, 0, 1, 0], [1, 1, 0, 0, 2, 1, 0, 0, 0, 1], [0, 0, 0, 0, 3, 1, 0, 0, 0, 1], [3, 1, 0, 0, 1, 1, 0, 0, 1, 0], [2, 1, 0, 0, 2, 1, 0, 0, 1, 1], [1, 1, 0, 0, 3, 1, 0, 0, 0, 1], [0, 0, 0, 0, 3, 1, 0, 2, 0, 1], [3, 1, 0, 2, 1, 1, 0, 0, 1, 0], [3, 1, 0, 0, 2, 1, 0, 0, 1, 1], [2, 1, 0, 0, 3, 1, 1, 0, 1, 1], [1, 1, 0, 0, 3, 1, 0, 2, 0, 1], [0, 0, 0, 0, 3, 1, 0, 2, 0, 1], [3, 1, 0, 2, 2, 1, 0, 0, 1, 1], [3, 1, 0, 0, 3, 1, 1, 0, 1, 1], [3, 1, 1, 0, 3, 1, 1, 0, 1, 1], [2, 1, 0, 0, 3, 1, 1, 2, 1, 1], [2, 1, 0, 0, 3, 1, 0, 2, 1, 1], [1, 1, 0, 0, 3, 1, 0, 2, 0, 1], [3, 1, 0, 2, 3, 1, 1, 0, 1, 1], [3, 1, 0, 0, 3, 1, 1, 2, 1, 1], [3, 1, 1, 2, 3, 1, 1, 0, 1, 1], [3, 1, 1, 0, 3, 1, 1, 2, 1, 1], [2, 1, 0, 0, 3, 1, 1, 2, 1, 1], [3, 1, 1, 0, 3, 1, 0, 2, 1, 1], [2, 1, 0, 0, 3, 1, 0, 2, 1, 1], [3, 1, 0, 2, 3, 1, 1, 2, 1, 1], [3, 1, 0, 0, 3, 1, 1, 2, 1, 1], [3, 1, 1, 2, 3, 1, 1, 2, 1, 1], [3, 1, 1, 0, 3, 1, 1, 2, 1, 1], [3, 1, 1, 2, 3, 1, 0, 2, 1, 1], [3, 1, 1, 0, 3, 1, 0, 2, 1, 1], [3, 1, 0, 2, 3, 1, 1, 2, 1, 1], [3, 1, 1, 2, 3, 1, 1, 2, 1, 1], [3, 1, 1, 2, 3, 1, 0, 2, 1, 1]]
theorem nxt0_is : tab.map (fun r => clr ((mkR r).pickS 2 0 0)) = nxt0.map mkR := by kernel_rfl
theorem nxt1_is : tab.map (fun r => clr ((mkR r).pickS 2 0 1)) = nxt1.map mkR := by kernel_rfl
theorem nxt0_in : nxt0.all (fun r => tab.contains r) = true := by kernel_rfl
theorem nxt1_in : nxt1.all (fun r => tab.contains r) = true := by kernel_rfl
def fineB (r : List Int) : Bool := decide (r.getD 0 0 < 3) || (decide (r.getD 4 0 < 3) || (r.getD 2 0 == 1 || r.getD 6 0 == 1))
theorem tab_fine : tab.all fineB = true := by kernel_rfl
def InT (s : Ms) : Prop := ∃ r ∈ tab, clr s = mkR r
theorem inT_next {w : Int} {nx : List (List Int)} (h1 : tab.map (fun r => clr ((mkR r).pickS 2 0 w)) = nx.map mkR) (h2 : nx.all (fun r => tab.contains r) = true) {s : Ms} (h : InT s) : InT (s.pickS 2 0 w) := by
  obtain ⟨r, hr, e⟩ := h
  have hm : clr ((mkR r).pickS 2 0 w) ∈ nx.map mkR := by rw [← h1]; exact List.mem_map.2 ⟨r, hr, rfl⟩
  obtain ⟨q, hq, eq⟩ := List.mem_map.1 hm
  refine ⟨q, ?_, ?_⟩
  · have := List.all_eq_true.1 h2 q hq
    simpa using this
  · rw [clr_pick, e, eq]
theorem inT_pick {s : Ms} (h : InT s) (n : Nat) : InT (s.pickS 2 0 ((n : Int) % 2)) := by
  rcases (show (n : Int) % 2 = 0 ∨ (n : Int) % 2 = 1 by omega) with e | e
  · rw [e]; exact inT_next nxt0_is nxt0_in h
  · rw [e]; exact inT_next nxt1_is nxt1_in h
theorem inT_start : InT awM := ⟨[0, 0, 0, 0, 0, 0, 0, 0, 0, 0], by decide, rfl⟩
/-- one of the two sees the other's, when both have ended -/
theorem inT_ends {s : Ms} (h : InT s) : s.sides.length = 2 ∧ ∃ (p a0 a1 a2 a3 a4 a5 a6 a7 u q b0 b1 b2 b3 b4 b5 b6 b7 v : Int), (s.side 0).t = ⟨p, [a0, a1, a2, a3, a4, a5, a6, a7], u⟩ ∧ (s.side 1).t = ⟨q, [b0, b1, b2, b3, b4, b5, b6, b7], v⟩ ∧ (p < 3 ∨ q < 3 ∨ a2 = 1 ∨ b2 = 1) := by
  obtain ⟨r, hr, e⟩ := h
  have hs : s.sides = (mkR r).sides := (show (clr s).sides = (mkR r).sides from congrArg Ms.sides e)
  refine ⟨by rw [hs]; rfl, _, _, _, _, _, _, _, _, _, _, _, _, _, _, _, _, _, _, _, _, by unfold Ms.side; rw [hs]; rfl, by unfold Ms.side; rw [hs]; rfl, ?_⟩
  have := List.all_eq_true.1 tab_fine r hr
  unfold fineB at this
  simpa using this
end Go.Proofs.YthbenfnanhpcoaaGreatDoor.Mc
