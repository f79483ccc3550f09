/-
  A thread's step over two ports that answer alike comes to the same. No program, no condition.
-/
import Derived.Test.YthbenfnanhpcoaaDoorZzae
import Derived.Test.YthbenfnanhpcoaaDoorZzbi
import Derived.Test.YthbenfnanhpcoaaDoorZzbrAwk9
import Derived.Test.YthbenfnanhpcoaaDoorZzbsSAwk
import Derived.Test.YthbenfnanhpcoaaDoorZzbyOpn9
namespace Go.Proofs.YthbenfnanhpcoaaDoor.Mc
set_option linter.unusedVariables false

/-- two ports answer alike, as long as their states stay alike -/
structure SimP {S T : Type} (M : Prt S) (N : Prt T) (R : S → T → Prop) : Prop where
  size : M.size = N.size
  load : ∀ a b m, R a b → M.load a m = N.load b m
  loadS : ∀ a b m, R a b → R (M.loadS a m) (N.loadS b m)
  room : ∀ a b, R a b → M.room a = N.room b
  store : ∀ a b m v, R a b → R (M.store a m v) (N.store b m v)
  empty : ∀ a b, R a b → M.empty a = N.empty b
  flush : ∀ a b, R a b → R (M.flush a) (N.flush b)
  swapS : ∀ a b m v, R a b → R (M.swapS a m v) (N.swapS b m v)
  sleep : ∀ a b m, R a b → R (M.sleep a m) (N.sleep b m)
  wake : ∀ a b m v, R a b → M.wake a m v = N.wake b m v
  wakeS : ∀ a b m v, R a b → R (M.wakeS a m v) (N.wakeS b m v)
  remote : ∀ a b, R a b → R (M.remote a) (N.remote b)
  note : ∀ a b x, R a b → R (M.note a x) (N.note b x)

section
variable {S T : Type} {M : Prt S} {N : Prt T} {R : S → T → Prop}
def Alk {S T : Type} (R : S → T → Prop) (p : Th × S) (q : Th × T) : Prop := p.1 = q.1 ∧ R p.2 q.2
theorem sim_end (H : SimP M N R) {a : S} {b : T} (h : R a b) (t : Th) (st ev : Int) : Alk R (endM M t a st ev) (endM N t b st ev) := ⟨rfl, H.note _ _ _ h⟩
theorem sim_loaded (H : SimP M N R) {a : S} {b : T} (h : R a b) (t : Th) (i : Ins) (m : Int) : Alk R (loadedM M t i a m) (loadedM N t i b m) := by
  unfold loadedM
  rw [H.load a b m h]
  exact ⟨rfl, H.note _ _ _ (H.loadS _ _ _ h)⟩
theorem sim_stored (H : SimP M N R) {a : S} {b : T} (h : R a b) (t : Th) (i : Ins) (m : Int) : Alk R (storedM M t i a m) (storedM N t i b m) := ⟨rfl, H.note _ _ _ (H.store _ _ _ _ h)⟩
theorem sim_swapped (H : SimP M N R) {a : S} {b : T} (h : R a b) (t : Th) (i : Ins) (m : Int) : Alk R (swappedM M t i a m) (swappedM N t i b m) := by
  unfold swappedM swapM
  rw [H.load a b m h]
  refine ⟨rfl, H.note _ _ _ ?_⟩
  split
  · exact H.swapS _ _ _ _ (H.loadS _ _ _ h)
  · exact H.loadS _ _ _ h
theorem sim_waited (H : SimP M N R) {a : S} {b : T} (h : R a b) (t : Th) (i : Ins) (m : Int) : Alk R (waitedM M t i a m) (waitedM N t i b m) := by
  unfold waitedM
  rw [H.load a b m h]
  split
  · exact ⟨rfl, H.sleep _ _ _ (H.note _ _ _ (H.loadS _ _ _ h))⟩
  · exact ⟨rfl, H.note _ _ _ (H.loadS _ _ _ h)⟩
theorem sim_woke (H : SimP M N R) {a : S} {b : T} (h : R a b) (t : Th) (i : Ins) (m : Int) : Alk R (wokeM M t i a m) (wokeM N t i b m) := by
  unfold wokeM
  rw [H.wake a b m _ h]
  exact ⟨rfl, H.note _ _ _ (H.wakeS _ _ _ _ h)⟩
theorem sim_asked (H : SimP M N R) {a : S} {b : T} (h : R a b) (t : Th) (i : Ins) : Alk R (askedM M t i a) (askedM N t i b) := by
  unfold askedM
  split
  · exact sim_loaded H h t i _
  · split
    · exact sim_stored H h t i _
    · split
      · exact sim_waited H h t i _
      · split
        · exact sim_woke H h t i _
        · exact sim_swapped H h t i _
theorem sim_alone (H : SimP M N R) {a : S} {b : T} (h : R a b) (t : Th) (i : Ins) : Alk R (aloneM M t i a) (aloneM N t i b) := by
  unfold aloneM
  split
  · exact ⟨rfl, h⟩
  · split
    · exact ⟨rfl, h⟩
    · split
      · exact ⟨rfl, H.note _ _ _ h⟩
      · split
        · exact ⟨rfl, H.note _ _ _ h⟩
        · split
          · exact ⟨rfl, H.note _ _ _ (H.remote _ _ h)⟩
          · split
            · exact ⟨rfl, H.note _ _ _ h⟩
            · exact ⟨rfl, h⟩
theorem sim_on {p : Th × S} {q : Th × T} (k : Alk R p q) : Alk R (onM p) (onM q) := by
  unfold onM
  rw [k.1]
  exact ⟨rfl, k.2⟩
theorem sim_done (H : SimP M N R) {a : S} {b : T} (h : R a b) (t : Th) (i : Ins) : Alk R (doneM M t i a) (doneM N t i b) := by
  unfold doneM
  split
  · exact sim_end H h t _ _
  · split
    · exact ⟨rfl, h⟩
    · refine sim_on ?_
      split
      · exact sim_asked H h t i
      · split
        · exact ⟨rfl, h⟩
        · exact sim_alone H h t i
theorem sim_at (H : SimP M N R) {a : S} {b : T} (h : R a b) (t : Th) (i : Ins) (n : Int) : Alk R (atM M t i n a) (atM N t i n b) := by
  have e1 : inMemM M t i = inMemM N t i := by unfold inMemM; rw [H.size]
  have e2 : heldM M i a = heldM N i b := by unfold heldM; rw [H.empty a b h, H.room a b h]
  unfold atM
  rw [e1, e2]
  split
  · exact sim_end H h t _ _
  · split
    · exact ⟨rfl, H.flush _ _ h⟩
    · exact sim_done H h t i
theorem sim_stepM (H : SimP M N R) {a : S} {b : T} (h : R a b) (t : Th) (code : List Ins) : Alk R (stepM M t code a) (stepM N t code b) := by
  unfold stepM
  split
  · exact ⟨rfl, h⟩
  · split
    · exact sim_end H h t _ _
    · exact sim_at H h t _ _
end
end Go.Proofs.YthbenfnanhpcoaaDoor.Mc

namespace Go.Proofs.YthbenfnanhpcoaaDoor.Mc
set_option linter.unusedVariables false
set_option maxRecDepth 20000

/-- what befell left out -/
def clr (s : Ms) : Ms := ⟨s.sides, s.mem, s.slp, [], s.room⟩
theorem clr_rises : ∀ (l : List Int) (s : Ms), clr (l.foldl Ms.rise s) = l.foldl Ms.rise (clr s)
  | [], s => rfl
  | x :: l, s => clr_rises l (s.rise x)
theorem sim_clr (n : Int) (i : Nat) : SimP (portS n i) (portS n i) (fun a b => clr a = clr b) where
  size := rfl
  load := fun a b m h => by show (clr a).mem.getD m.toNat 0 = (clr b).mem.getD m.toNat 0; rw [h]
  loadS := fun a b m h => h
  room := fun a b h => rfl
  store := fun a b m v h => by show (clr a).setM m v = (clr b).setM m v; rw [h]
  empty := fun a b h => rfl
  flush := fun a b h => h
  swapS := fun a b m v h => by show (clr a).setM m v = (clr b).setM m v; rw [h]
  sleep := fun a b m h => by show (clr a).sleep i m = (clr b).sleep i m; rw [h]
  wake := fun a b m v h => by show (clr a).woken m v = (clr b).woken m v; rw [h]
  wakeS := fun a b m v h => by
    have e : ∀ s : Ms, clr (s.wake m v) = (clr s).wake m v := fun s => clr_rises _ _
    show clr (a.wake m v) = clr (b.wake m v)
    rw [e, e, h]
  remote := fun a b h => h
  note := fun a b x h => h
theorem clr_step (s : Ms) (n : Int) (i : Nat) : clr (s.stepS n i) = clr ((clr s).stepS n i) := by
  obtain ⟨h1, h2⟩ := sim_stepM (sim_clr n i) (show clr s = clr (clr s) from rfl) (s.side i).t (s.side i).code
  show clr ((stepM (portS n i) (s.side i).t (s.side i).code s).2.setT i (stepM (portS n i) (s.side i).t (s.side i).code s).1) = clr ((stepM (portS n i) (s.side i).t (s.side i).code (clr s)).2.setT i (stepM (portS n i) (s.side i).t (s.side i).code (clr s)).1)
  rw [h1]
  show (clr (stepM (portS n i) (s.side i).t (s.side i).code s).2).setT i _ = (clr (stepM (portS n i) (s.side i).t (s.side i).code (clr s)).2).setT i _
  rw [h2]
theorem clr_pick (s : Ms) (n w : Int) : clr (s.pickS n 0 w) = clr ((clr s).pickS n 0 w) := by
  unfold Ms.pickS
  show clr (if 0 ≤ w ∧ w < s.sides.length then _ else _) = clr (if 0 ≤ w ∧ w < s.sides.length then _ else _)
  split
  · exact clr_step s n w.toNat
  · rfl
def tab : List (List Int) := [[0, 0, 0, 0, 0, 0, 0, 0, 0, 0], [1, 1, 0, 0, 0, 0, 0, 0, 0, 0], [0, 0, 0, 0, 1, 1, 0, 0, 0, 0], [2, 1, 0, 0, 0, 0, 0, 0, 1, 0], [1, 1, 0, 0, 1, 1, 0, 0, 0, 0], [0, 0, 0, 0, 2, 1, 0, 0, 0, 1], [3, 1, 0, 0, 0, 0, 0, 0, 1, 0], [2, 1, 0, 0, 1, 1, 0, 0, 1, 0], [1, 1, 0, 0, 2, 1, 0, 0, 0, 1], [0, 0, 0, 0, 3, 1, 0, 0, 0, 1], [3, 1, 0, 2, 0, 0, 0, 0, 1, 0], [3, 1, 0, 0, 1, 1, 0, 0, 1, 0], [2, 1, 0, 0, 2, 1, 0, 0, 1, 1], [1, 1, 0, 0, 3, 1, 0, 0, 0, 1], [0, 0, 0, 0, 3, 1, 0, 2, 0, 1], [3, 1, 0, 2, 1, 1, 0, 0, 1, 0], [3, 1, 0, 0, 2, 1, 0, 0, 1, 1], [3, 1, 1, 0, 2, 1, 0, 0, 1, 1], [2, 1, 0, 0, 3, 1, 1, 0, 1, 1], [2, 1, 0, 0, 3, 1, 0, 0, 1, 1], [1, 1, 0, 0, 3, 1, 0, 2, 0, 1], [3, 1, 0, 2, 2, 1, 0, 0, 1, 1], [3, 1, 0, 0, 3, 1, 1, 0, 1, 1], [3, 1, 1, 2, 2, 1, 0, 0, 1, 1], [3, 1, 1, 0, 3, 1, 1, 0, 1, 1], [2, 1, 0, 0, 3, 1, 1, 2, 1, 1], [3, 1, 1, 0, 3, 1, 0, 0, 1, 1], [2, 1, 0, 0, 3, 1, 0, 2, 1, 1], [3, 1, 0, 2, 3, 1, 1, 0, 1, 1], [3, 1, 0, 0, 3, 1, 1, 2, 1, 1], [3, 1, 1, 2, 3, 1, 1, 0, 1, 1], [3, 1, 1, 0, 3, 1, 1, 2, 1, 1], [3, 1, 1, 2, 3, 1, 0, 0, 1, 1], [3, 1, 1, 0, 3, 1, 0, 2, 1, 1], [3, 1, 0, 2, 3, 1, 1, 2, 1, 1], [3, 1, 1, 2, 3, 1, 1, 2, 1, 1], [3, 1, 1, 2, 3, 1, 0, 2, 1, 1]]
def mkT (r : List Int) (o : Nat) : Th := ⟨r.getD o 0, [0, r.getD (o + 1) 0, r.getD (o + 2) 0, 0, 0, 0, 0, 0], r.getD (o + 3) 0⟩
def mkR (r : List Int) : Ms := ⟨[⟨codeE 0 1, mkT r 0, []⟩, ⟨codeE 1 0, mkT r 4, []⟩], [r.getD 8 0, r.getD 9 0], [], [], 1⟩
def nxt0 : List (List Int) := [[1, 1, 0, 0, 0, 0, 0, 0, 0, 0], [2, 1, 0, 0, 0, 0, 0, 0, 1, 0], [1, 1, 0, 0, 1, 1, 0, 0, 0, 0], [3, 1, 0, 0, 0, 0, 0, 0, 1, 0], [2, 1, 0, 0, 1, 1, 0, 0, 1, 0], [1, 1, 0, 0, 2, 1, 0, 0, 0, 1], [3, 1, 0, 2, 0, 0, 0, 0, 1, 0], [3, 1, 0, 0, 1, 1, 0, 0, 1, 0], [2, 1, 0, 0, 2, 1, 0, 0, 1, 1], [1, 1, 0, 0, 3, 1, 0, 0, 0, 1], [3, 1, 0, 2, 0, 0, 0, 0, 1, 0], [3, 1, 0, 2, 1, 1, 0, 0, 1, 0], [3, 1, 1, 0, 2, 1, 0, 0, 1, 1], [2, 1, 0, 0, 3, 1, 0, 0, 1, 1], [1, 1, 0, 0, 3, 1, 0, 2, 0, 1], [3, 1, 0, 2, 1, 1, 0, 0, 1, 0], [3, 1, 0, 2, 2, 1, 0, 0, 1, 1], [3, 1, 1, 2, 2, 1, 0, 0, 1, 1], [3, 1, 1, 0, 3, 1, 1, 0, 1, 1], [3, 1, 1, 0, 3, 1, 0, 0, 1, 1], [2, 1, 0, 0, 3, 1, 0, 2, 1, 1], [3, 1, 0, 2, 2, 1, 0, 0, 1, 1], [3, 1, 0, 2, 3, 1, 1, 0, 1, 1], [3, 1, 1, 2, 2, 1, 0, 0, 1, 1], [3, 1, 1, 2, 3, 1, 1, 0, 1, 1], [3, 1, 1, 0, 3, 1, 1, 2, 1, 1], [3, 1, 1, 2, 3, 1, 0, 0, 1, 1], [3, 1, 1, 0, 3, 1, 0, 2, 1, 1], [3, 1, 0, 2, 3, 1, 1, 0, 1, 1], [3, 1, 0, 2, 3, 1, 1, 2, 1, 1], [3, 1, 1, 2, 3, 1, 1, 0, 1, 1], [3, 1, 1, 2, 3, 1, 1, 2, 1, 1], [3, 1, 1, 2, 3, 1, 0, 0, 1, 1], [3, 1, 1, 2, 3, 1, 0, 2, 1, 1], [3, 1, 0, 2, 3, 1, 1, 2, 1, 1], [3, 1, 1, 2, 3, 1, 1, 2, 1, 1], [3, 1, 1, 2, 3, 1, 0, 2, 1, 1]]
def nxt1 : List (List Int) := [[0, 0, 0, 0, 1, 1, 0, 0, 0, 0], [1, 1, 0, 0, 1, 1, 0, 0, 0, 0], [0, 0, 0, 0, 2, 1, 0, 0, 0, 1], [2, 1, 0, 0, 1, 1, 0, 0, 1, 0], [1, 1, 0, 0, 2, 1, 0, 0, 0, 1], [0, 0, 0, 0, 3, 1, 0, 0, 0, 1], [3, 1, 0, 0, 1, 1, 0, 0, 1, 0], [2, 1, 0, 0, 2, 1, 0, 0, 1, 1], [1, 1, 0, 0, 3, 1, 0, 0, 0, 1], [0, 0, 0, 0, 3, 1, 0, 2, 0, 1], [3, 1, 0, 2, 1, 1, 0, 0, 1, 0], [3, 1, 0, 0, 2, 1, 0, 0, 1, 1], [2, 1, 0, 0, 3, 1, 1, 0, 1, 1], [1, 1, 0, 0, 3, 1, 0, 2, 0, 1], [0, 0, 0, 0, 3, 1, 0, 2, 0, 1], [3, 1, 0, 2, 2, 1, 0, 0, 1, 1], [3, 1, 0, 0, 3, 1, 1, 0, 1, 1], [3, 1, 1, 0, 3, 1, 1, 0, 1, 1], [2, 1, 0, 0, 3, 1, 1, 2, 1, 1], [2, 1, 0, 0, 3, 1, 0, 2, 1, 1], [1, 1, 0, 0, 3, 1, 0, 2, 0, 1], [3, 1, 0, 2, 3, 1, 1, 0, 1, 1], [3, 1, 0, 0, 3, 1, 1, 2, 1, 1], [3, 1, 1, 2, 3, 1, 1, 0, 1, 1], [3, 1, 1, 0, 3, 1, 1, 2, 1, 1], [2, 1, 0, 0, 3, 1, 1, 2, 1, 1], [3, 1, 1, 0, 3, 1, 0, 2, 1, 1], [2, 1, 0, 0, 3, 1, 0, 2, 1, 1], [3, 1, 0, 2, 3, 1, 1, 2, 1, 1], [3, 1, 0, 0, 3, 1, 1, 2, 1, 1], [3, 1, 1, 2, 3, 1, 1, 2, 1, 1], [3, 1, 1, 0, 3, 1, 1, 2, 1, 1], [3, 1, 1, 2, 3, 1, 0, 2, 1, 1], [3, 1, 1, 0, 3, 1, 0, 2, 1, 1], [3, 1, 0, 2, 3, 1, 1, 2, 1, 1], [3, 1, 1, 2, 3, 1, 1, 2, 1, 1], [3, 1, 1, 2, 3, 1, 0, 2, 1, 1]]
theorem nxt0_is : tab.map (fun r => clr ((mkR r).pickS 2 0 0)) = nxt0.map mkR := by kernel_rfl
theorem nxt1_is : tab.map (fun r => clr ((mkR r).pickS 2 0 1)) = nxt1.map mkR := by kernel_rfl
theorem nxt0_in : nxt0.all (fun r => tab.contains r) = true := by kernel_rfl
theorem nxt1_in : nxt1.all (fun r => tab.contains r) = true := by kernel_rfl
def fineB (r : List Int) : Bool := decide (r.getD 0 0 < 3) || (decide (r.getD 4 0 < 3) || (r.getD 2 0 == 1 || r.getD 6 0 == 1))
theorem tab_fine : tab.all fineB = true := by kernel_rfl
def InT (s : Ms) : Prop := ∃ r ∈ tab, clr s = mkR r
theorem inT_next {w : Int} {nx : List (List Int)} (h1 : tab.map (fun r => clr ((mkR r).pickS 2 0 w)) = nx.map mkR) (h2 : nx.all (fun r => tab.contains r) = true) {s : Ms} (h : InT s) : InT (s.pickS 2 0 w) := by
  obtain ⟨r, hr, e⟩ := h
  have hm : clr ((mkR r).pickS 2 0 w) ∈ nx.map mkR := by rw [← h1]; exact List.mem_map.2 ⟨r, hr, rfl⟩
  obtain ⟨q, hq, eq⟩ := List.mem_map.1 hm
  refine ⟨q, ?_, ?_⟩
  · have := List.all_eq_true.1 h2 q hq
    simpa using this
  · rw [clr_pick, e, eq]
theorem inT_pick {s : Ms} (h : InT s) (n : Nat) : InT (s.pickS 2 0 ((n : Int) % 2)) := by
  rcases (show (n : Int) % 2 = 0 ∨ (n : Int) % 2 = 1 by omega) with e | e
  · rw [e]; exact inT_next nxt0_is nxt0_in h
  · rw [e]; exact inT_next nxt1_is nxt1_in h
theorem inT_start : InT awM := ⟨[0, 0, 0, 0, 0, 0, 0, 0, 0, 0], by decide, rfl⟩
/-- one of the two sees the other's, when both have ended -/
theorem inT_ends {s : Ms} (h : InT s) : s.sides.length = 2 ∧ ∃ (p a0 a1 a2 a3 a4 a5 a6 a7 u q b0 b1 b2 b3 b4 b5 b6 b7 v : Int), (s.side 0).t = ⟨p, [a0, a1, a2, a3, a4, a5, a6, a7], u⟩ ∧ (s.side 1).t = ⟨q, [b0, b1, b2, b3, b4, b5, b6, b7], v⟩ ∧ (p < 3 ∨ q < 3 ∨ a2 = 1 ∨ b2 = 1) := by
  obtain ⟨r, hr, e⟩ := h
  have hs : s.sides = (mkR r).sides := (show (clr s).sides = (mkR r).sides from congrArg Ms.sides e)
  refine ⟨by rw [hs]; rfl, _, _, _, _, _, _, _, _, _, _, _, _, _, _, _, _, _, _, _, _, by unfold Ms.side; rw [hs]; rfl, by unfold Ms.side; rw [hs]; rfl, ?_⟩
  have := List.all_eq_true.1 tab_fine r hr
  unfold fineB at this
  simpa using this
end Go.Proofs.YthbenfnanhpcoaaDoor.Mc

namespace Go.Proofs.YthbenfnanhpcoaaDoor.Sc
open Go.Proofs.YthbenfnanhpcoaaDoor.Mc Go.ChangeShapes Go.WideShapes Go.ChangeAt Go.RowKit
set_option linter.unusedVariables false
set_option maxRecDepth 20000

def byteL (x : Int) : List Value := [.int .u8 x]
theorem byteL_len (x : Int) : (byteL x).length = 1 := rfl
theorem wrap_id (n : Int) (h0 : 0 ≤ n) (h1 : n < 4611686018427387904) : IntKind.i64.wrap n = n := by
  rw [IntKind.wrap_i64]
  omega
theorem wrap_few (n : Nat) (h : n < 256) : IntKind.i64.wrap (n : Int) = n := wrap_id _ (by omega) (by omega)
set_option maxHeartbeats 2000000 in
theorem both_walk (l : List Int) (hb : ∀ i ∈ l, 0 ≤ i ∧ i < 256) (pa : Option Addr) (pc : Nat) (W : World) (L : Laid W) (hrow : RowAt W pa (flatOf byteL l)) :
    Calls Tryd.prog 7 #[.slice pa l.length pc] W fun r w' => r = .returned (.bool true) ∧ Gr W w' := by
  have HRW := hide hrow
  have HBB := hide hb
  have A1 := hide (awake_calls W L)
  have HL := hide L
  clear hrow hb L
  go_enter Tryd.func7, Tryd.ntmps7
  go_wp2_with (fail)
  refine A1.out.mono ?_
  rintro r w2 ⟨rfl, g1⟩
  by_cases hl : 600 < l.length
  · have hl' : (600 : Int) < l.length := by omega
    have A3 := hide (awake_calls w2 (HL.out.later g1))
    have HG := hide g1
    clear g1
    go_wp2_with (fail)
    refine A3.out.mono ?_
    rintro r w4 ⟨rfl, g5⟩
    have HG2 := hide (HG.out.trans g5)
    clear g5
    go_wp2_with (fail)
    go_ret
    exact ⟨rfl, HG2.out⟩
  · have hl' : ¬ (600 : Int) < l.length := by omega
    have HB := hide (both_calls w2)
    have HG1 := hide g1
    clear g1
    go_wp2_with (fail)
    refine HB.out.mono ?_
    rintro r x ⟨cb, c1, c2, mz, rfl, I0⟩
    have I := hide I0
    have HN := hide (new_calls (awP cb c1 c2 mz) x (HL.out.later (HG1.out.trans I.out.g)) (awP_at I.out.h1 I.out.h2 I.out.h3 I.out.h4))
    clear I0 HB
    go_wp2_with (fail)
    refine HN.out.mono ?_
    rintro r u NP
    rcases NP with ⟨-, k, e, ⟨rfl, hM, hN⟩, hF, g⟩ | ⟨hne, -⟩
    rotate_left
    · exact absurd (awP_chk cb c1 c2 mz) hne
    have hGu := (HG1.out.trans I.out.g).trans g
    rw [awP_new] at hM
    have hfoot : Hid (∀ y ∈ k.foot e, W.heap.size ≤ y) := fun y hy => Nat.le_trans (HG1.out.trans I.out.g).size (hF y hy)
    have p0 : Pst (MI k) (k.foot e) u [] awM u := Pst.start (mi_inv k) ⟨e, hM, rfl⟩
    have HG := hide hGu
    have hN2 : Hid ((k.N : Int) = 2) := by show _ = _; rw [hN]; rfl
    generalize k.foot e = F at hfoot p0
    clear hM hF g hGu HN hN
    go_wp2_with (fail)
    go_loopw [5] (fun v wr => ∃ (j : Nat) (s : Ms), j ≤ l.length ∧ v = .int .i64 j ∧ Pst (MI k) F u [] s wr ∧ (s.evs.length ≤ j ∧ Short s) ∧ InT s) (fun v _ => l.length - (intOf v).toNat)
    case atStart => exact ⟨0, awM, by omega, rfl, p0, ⟨Nat.le_refl _, awS_short 0⟩, inT_start⟩
    case round =>
      clear p0
      obtain ⟨j, s, hj, rfl, p, ⟨he, hs⟩, hT⟩ := hrel
      have gw : Gr W wr := by
        obtain ⟨F', -, kp, -⟩ := p
        exact Kp.gr HG.out kp hfoot.out
      obtain ⟨e1, h1⟩ := pst_mw p
      by_cases hlt : j < l.length
      · have hlt' : (j : Int) < l.length := by omega
        have rw1 := HRW.out.later gw
        obtain ⟨b, off, had, -⟩ := rw1.get (by rw [flatOf_length byteL_len]; omega)
        subst had
        have c0 := rw1.cell byteL_len hlt 0 0 (by omega)
        have hx := HBB.out (l.getD j 0) (by rw [List.getD_eq_getElem?_getD, List.getElem?_eq_getElem hlt]; exact List.getElem_mem hlt)
        generalize l.getD j 0 = x at c0 hx
        obtain ⟨n, rfl⟩ := nat_of hx.1
        have hn := wrap_few n (by omega)
        simp only [byteL, List.getElem?_cons_zero, Nat.add_zero, Nat.mul_one] at c0
        have HD := hide (fun wx => pick_does k s 0 ((n : Int) % 2) (fuel_few h1.ok (by omega)) hs wx)
        have he1 := evs_pickS (s := s) (n := k.N) 0 ((n : Int) % 2)
        have hs1 := short_pickS hs k.N 0 ((n : Int) % 2)
        have hT1 : Hid (InT (s.pickS k.N 0 ((n : Int) % 2))) := by show InT _; rw [hN2.out]; exact inT_pick hT n
        have HS1 := hide hs1
        have PP := hide p
        clear p h1 hs hs1 gw rw1 hT hx
        go_wp2_with (fail)
        refine ((HD.out wr).go PP.out).mono ?_
        rintro r q ⟨⟨rfl, -⟩, p1⟩
        have PQ := hide p1
        clear p1 HD PP c0
        go_wp2_with (fail)
        exact ⟨⟨j + 1, _, by omega, by go_num, PQ.out, ⟨by omega, HS1.out⟩, hT1.out⟩, by simp [intOf]; omega⟩
      · have hj' : j = l.length := by omega
        subst hj'
        obtain ⟨h2, p, a0, a1, a2, a3, a4, a5, a6, a7, uu, q, b0, b1, b2, b3, b4, b5, b6, b7, vv, ht0, ht1, hor⟩ := inT_ends hT
        have T0 := thread_calls h1 0 (by omega)
        rw [ht0] at T0
        have HT0 : Hid (Calls Tryd.prog 27 #[.pointer (some ⟨k.mb, 0, none⟩), .int .i64 (0 : Nat)] wr fun r w' => r = .returned (.agg #[.int .i64 p, .int .u32 a0, .int .u32 a1, .int .u32 a2, .int .u32 a3, .int .u32 a4, .int .u32 a5, .int .u32 a6, .int .u32 a7, .int .i64 uu]) ∧ Gr wr w') := T0
        have H1 := hide h1
        have GW := hide gw
        clear h1 hs T0 gw hT ht0 he
        go_wp2_with (fail)
        refine HT0.out.mono ?_
        rintro r q1 ⟨rfl, gq1⟩
        have T1 := thread_calls (H1.out.later gq1) 1 (by omega)
        rw [ht1] at T1
        have HT1 : Hid (Calls Tryd.prog 27 #[.pointer (some ⟨k.mb, 0, none⟩), .int .i64 (1 : Nat)] q1 fun r w' => r = .returned (.agg #[.int .i64 q, .int .u32 b0, .int .u32 b1, .int .u32 b2, .int .u32 b3, .int .u32 b4, .int .u32 b5, .int .u32 b6, .int .u32 b7, .int .i64 vv]) ∧ Gr q1 w') := T1
        have GQ1 := hide (GW.out.trans gq1)
        clear T1 gq1 HT0 ht1
        go_wp2_with (fail)
        refine HT1.out.mono ?_
        rintro r q2 ⟨rfl, gq2⟩
        have g3 := GQ1.out.trans gq2
        have GF := hide ((g3.alloc #[.int .i64 p, .int .u32 a0, .int .u32 a1, .int .u32 a2, .int .u32 a3, .int .u32 a4, .int .u32 a5, .int .u32 a6, .int .u32 a7, .int .i64 uu] 52).alloc #[.int .i64 q, .int .u32 b0, .int .u32 b1, .int .u32 b2, .int .u32 b3, .int .u32 b4, .int .u32 b5, .int .u32 b6, .int .u32 b7, .int .i64 vv] 52)
        clear g3 gq2 HT1
        by_cases p3 : p < 3
        · go_wp2_with (fail)
          go_ret
          exact ⟨rfl, GF.out⟩
        · by_cases q3 : q < 3
          · go_wp2_with (fail)
            go_ret
            exact ⟨rfl, GF.out⟩
          · by_cases ha : a2 = 1
            · subst ha
              go_wp2_with (fail)
              go_ret
              exact ⟨rfl, GF.out⟩
            · have ha' : (a2 == 1) = false := by simpa using ha
              have hb1 : b2 = 1 := by omega
              subst hb1
              go_wp2_with (fail)
              go_ret
              exact ⟨rfl, GF.out⟩
section
variable {H : Type} {enc : TypeId × Value → H} {w : World} {held : Bool}
theorem cells_byt : Tryd.prog.cellsOf 5 = 1 := by kernel_rfl
theorem open_byt1 {n : Nat} {cs : List Value} {x : DataW H × List MemPlace} (h : DataW.trod enc Tryd.prog w 0 (fun _ => true) held n 5 cs = some x) : ∃ i : Int, cs = byteL i ∧ (0 ≤ i ∧ i < 256) := by
  obtain ⟨n1, e1, _, w1⟩ := DataW.trod_int Tryd.underlying5 h
  have := bounds_u8 w1
  exact ⟨n1, e1, this.1, by omega⟩
theorem open_bytesR {n : Nat} {v : Value} {x : DataW H × List MemPlace} (h : DataW.trod enc Tryd.prog w 0 (fun _ => true) held n 59 [v] = some x) :
    ∃ a cap l, v = .slice a (l : List Int).length cap ∧ RowAt w a (flatOf byteL l) ∧ ∀ i ∈ l, 0 ≤ i ∧ i < 256 := by
  obtain ⟨a, cap, l, h1, h2, h3, -⟩ := open_recs byteL 1 byteL_len (by omega) 0 (fun i => 0 ≤ i ∧ i < 256) Tryd.underlying59 cells_byt open_byt1 h
  exact ⟨a, cap, l, h1, h2, h3⟩
end
end Go.Proofs.YthbenfnanhpcoaaDoor.Sc
