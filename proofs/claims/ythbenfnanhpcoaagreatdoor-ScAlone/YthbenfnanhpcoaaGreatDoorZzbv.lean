/-
  A machine with buffers whose buffers are empty, beside one without: a step, with the flush that it needs, comes to the same. By plain lists; no program, no condition.
-/
import Derived.Test.YthbenfnanhpcoaaGreatDoorZzbu
import Derived.Test.YthbenfnanhpcoaaGreatDoorZzbi
import Derived.Test.YthbenfnanhpcoaaGreatDoorZzbn
import Derived.Test.YthbenfnanhpcoaaGreatDoorZzai
import Derived.Test.YthbenfnanhpcoaaGreatDoorZzajKnRow
namespace Go.Proofs.YthbenfnanhpcoaaGreatDoor.Mc
set_option linter.unusedVariables false
set_option maxRecDepth 20000

/-- the same machine but for what befell, all buffers empty -/
structure Eag (a b : Ms) : Prop where
  same : clr a = clr b
  buf : ∀ j, (a.side j).buf = []
  room : 1 ≤ a.room
theorem Eag.sides {a b : Ms} (h : Eag a b) : a.sides = b.sides := (show (clr a).sides = (clr b).sides from congrArg Ms.sides h.same)
theorem Eag.mem {a b : Ms} (h : Eag a b) : a.mem = b.mem := (show (clr a).mem = (clr b).mem from congrArg Ms.mem h.same)
theorem Eag.slp {a b : Ms} (h : Eag a b) : a.slp = b.slp := (show (clr a).slp = (clr b).slp from congrArg Ms.slp h.same)
theorem Eag.roomE {a b : Ms} (h : Eag a b) : a.room = b.room := (show (clr a).room = (clr b).room from congrArg Ms.room h.same)
theorem Eag.note {a b : Ms} (h : Eag a b) (i : Nat) (x y : Ev) : Eag (a.note i x) (b.note i y) := ⟨h.same, h.buf, h.room⟩
theorem Eag.setM {a b : Ms} (h : Eag a b) (m v : Int) : Eag (a.setM m v) (b.setM m v) := ⟨by show (clr a).setM m v = (clr b).setM m v; rw [h.same], h.buf, h.room⟩
theorem Eag.setQ {a b : Ms} (h : Eag a b) (l : List Ent) : Eag (a.setQ l) (b.setQ l) := ⟨by show (clr a).setQ l = (clr b).setQ l; rw [h.same], h.buf, h.room⟩
theorem setT_bufs (s : Ms) (i : Nat) (t : Th) (j : Nat) : ((s.setT i t).side j).buf = (s.side j).buf := by
  unfold Ms.setT
  by_cases hi : i < s.sides.length
  · rw [side_set hi]
    split
    · rename_i e; rw [e]
    · rfl
  · unfold Ms.side Ms.setS
    rw [List.set_eq_of_length_le (by omega)]
theorem Eag.setT {a b : Ms} (h : Eag a b) (i : Nat) (t : Th) : Eag (a.setT i t) (b.setT i t) := by
  refine ⟨?_, fun j => (setT_bufs a i t j).trans (h.buf j), h.room⟩
  show (clr a).setT i t = (clr b).setT i t
  rw [h.same]
theorem Eag.wake {a b : Ms} (h : Eag a b) (m v : Int) : Eag (a.wake m v) (b.wake m v) := by
  have e : ∀ s : Ms, clr (s.wake m v) = (clr s).wake m v := fun s => clr_rises _ _
  obtain ⟨-, -, -, h4⟩ := rises (s := a) (a.sift m v.toNat).out (a.setQ (a.sift m v.toNat).left)
  refine ⟨by rw [e, e, h.same], fun j => (h4 j).trans (h.buf j), ?_⟩
  have hr : ∀ (l : List Int) (s : Ms), (l.foldl Ms.rise s).room = s.room := by
    intro l
    induction l with
    | nil => intro s; rfl
    | cons x l ih => intro s; exact ih (s.rise x)
  show 1 ≤ ((a.sift m v.toNat).out.foldl Ms.rise (a.setQ (a.sift m v.toNat).left)).room
  rw [hr]
  exact h.room
theorem Eag.load {a b : Ms} (h : Eag a b) (i : Nat) (m : Int) : a.load i m = b.mem.getD m.toNat 0 := by
  unfold Ms.load
  rw [h.buf i, ← h.mem]
  rfl
theorem drain_none (i : Nat) (s : Ms) (h : (s.side i).buf = []) : s.drain i (s.side i).buf.length = s := by
  rw [h]; rfl
theorem remote_none {s : Ms} (h : ∀ j, (s.side j).buf = []) : s.remote = s := by
  have key : ∀ (l : List Nat) (s : Ms), (∀ j, (s.side j).buf = []) → l.foldl (fun s i => s.drain i (s.side i).buf.length) s = s := by
    intro l
    induction l with
    | nil => intro s h; rfl
    | cons i l ih =>
      intro s h
      rw [List.foldl_cons, drain_none i s (h i)]
      exact ih s h
  exact key _ s h
def Ali (q r : Th × Ms) : Prop := q.1 = r.1 ∧ Eag q.2 r.2
/-- a store stands in the buffer, and there in memory -/
def Sto (i : Nat) (a b : Ms) (q r : Th × Ms) : Prop := q.1 = r.1 ∧ ∃ (e : Ent) (x y : Ev), q.2 = (a.setB i [e]).note i x ∧ r.2 = (b.setM e.a e.v).note i y
section
variable {a b : Ms} {i : Nat} {n : Int} {t : Th} {c : Ins}
theorem eag_end (h : Eag a b) (st ev : Int) : Ali (endM (port n i) t a st ev) (endM (portS n i) t b st ev) := ⟨rfl, h.note i _ _⟩
theorem eag_load (h : Eag a b) (m : Int) : Ali (loadedM (port n i) t c a m) (loadedM (portS n i) t c b m) := by
  refine ⟨?_, h.note i _ _⟩
  show t.put c.a (a.load i m) = t.put c.a (b.mem.getD m.toNat 0)
  rw [h.load]
theorem eag_store (h : Eag a b) (m : Int) : Sto i a b (storedM (port n i) t c a m) (storedM (portS n i) t c b m) := by
  refine ⟨rfl, ⟨m, t.reg c.a⟩, ⟨2, 0, t.pc, m, t.reg c.a, 0, 0, false⟩, ⟨2, 0, t.pc, m, t.reg c.a, 0, 0, false⟩, ?_, rfl⟩
  show (a.setB i (Bf.putL a.room (a.side i).buf ⟨m, t.reg c.a⟩)).note i _ = _
  rw [h.buf i]
  unfold Bf.putL
  rw [if_pos (show ([] : List Ent).length < a.room from h.room)]
  rfl
theorem eag_wait (h : Eag a b) (m : Int) : Ali (waitedM (port n i) t c a m) (waitedM (portS n i) t c b m) := by
  have e : (port n i).load a m = (portS n i).load b m := h.load i m
  unfold waitedM
  rw [e]
  split
  · refine ⟨rfl, ?_⟩
    show Eag ((a.note i _).setQ (Kq.sleepL i m a.slp)) ((b.note i _).setQ (Kq.sleepL i m b.slp))
    rw [h.slp]
    exact (h.note i _ _).setQ _
  · exact ⟨rfl, h.note i _ _⟩
theorem eag_woke (h : Eag a b) (m : Int) : Ali (wokeM (port n i) t c a m) (wokeM (portS n i) t c b m) := by
  have e : a.woken m (t.reg c.a) = b.woken m (t.reg c.a) := (sim_clr n i).wake a b m (t.reg c.a) h.same
  refine ⟨?_, (h.wake m (t.reg c.a)).note i _ _⟩
  show t.put c.a (a.woken m (t.reg c.a)) = t.put c.a (b.woken m (t.reg c.a))
  rw [e]
theorem eag_swap (h : Eag a b) (m : Int) : Ali (swappedM (port n i) t c a m) (swappedM (portS n i) t c b m) := by
  have e : (port n i).load a m = (portS n i).load b m := h.load i m
  unfold swappedM swapM
  rw [e]
  refine ⟨rfl, ?_⟩
  show Eag (Ms.note (if (insteadM t c ((portS n i).load b m)).2 then a.setM m _ else a) i _) (Ms.note (if (insteadM t c ((portS n i).load b m)).2 then b.setM m _ else b) i _)
  split
  · exact (h.setM m _).note i _ _
  · exact h.note i _ _
theorem eag_asked (h : Eag a b) : Ali (askedM (port n i) t c a) (askedM (portS n i) t c b) ∨ Sto i a b (askedM (port n i) t c a) (askedM (portS n i) t c b) := by
  unfold askedM
  split
  · exact .inl (eag_load h _)
  · split
    · exact .inr (eag_store h _)
    · split
      · exact .inl (eag_wait h _)
      · split
        · exact .inl (eag_woke h _)
        · exact .inl (eag_swap h _)
theorem eag_alone (h : Eag a b) : Ali (aloneM (port n i) t c a) (aloneM (portS n i) t c b) := by
  unfold aloneM
  split
  · exact ⟨rfl, h⟩
  · split
    · exact ⟨rfl, h⟩
    · split
      · exact ⟨rfl, h.note i _ _⟩
      · split
        · exact ⟨rfl, h.note i _ _⟩
        · split
          · refine ⟨rfl, ?_⟩
            show Eag (a.remote.note i _) (b.note i _)
            rw [remote_none h.buf]
            exact h.note i _ _
          · split
            · exact ⟨rfl, h.note i _ _⟩
            · exact ⟨rfl, h⟩
theorem eag_on {q r : Th × Ms} (h : Ali q r ∨ Sto i a b q r) : Ali (onM q) (onM r) ∨ Sto i a b (onM q) (onM r) := by
  rcases h with ⟨h1, h2⟩ | ⟨h1, h2⟩
  · exact .inl ⟨by unfold onM; rw [h1], h2⟩
  · exact .inr ⟨by unfold onM; rw [h1], h2⟩
theorem eag_done (h : Eag a b) : Ali (doneM (port n i) t c a) (doneM (portS n i) t c b) ∨ Sto i a b (doneM (port n i) t c a) (doneM (portS n i) t c b) := by
  unfold doneM
  split
  · exact .inl (eag_end h 2 12)
  · split
    · exact .inl ⟨rfl, h⟩
    · refine eag_on ?_
      split
      · exact eag_asked h
      · split
        · exact .inl ⟨rfl, h⟩
        · exact .inl (eag_alone h)
theorem eag_held (h : Eag a b) : heldM (port n i) c a = false ∧ heldM (portS n i) c b = false := by
  have e : (port n i).empty a = true := by
    show (((a.side i).buf.length : Int) == 0) = true
    rw [h.buf i]; rfl
  have r : (port n i).room a = true := by
    show (!(Bf.fullB (a.side i).buf a.room)) = true
    have := h.room
    rw [h.buf i]
    unfold Bf.fullB
    simp
    omega
  unfold heldM
  rw [e, r]
  refine ⟨?_, ?_⟩
  · split <;> simp
  · show (if drainB c.op then !true else c.op == 17 && !true) = false
    split <;> simp
theorem eag_at (h : Eag a b) (k : Int) : Ali (atM (port n i) t c k a) (atM (portS n i) t c k b) ∨ Sto i a b (atM (port n i) t c k a) (atM (portS n i) t c k b) := by
  obtain ⟨e1, e2⟩ := eag_held (n := n) (i := i) (c := c) h
  unfold atM
  rw [e1, e2]
  have em : inMemM (port n i) t c = inMemM (portS n i) t c := rfl
  rw [em]
  split
  · exact .inl (eag_end h 3 13)
  · exact eag_done h
theorem eag_stepM (h : Eag a b) (code : List Ins) : Ali (stepM (port n i) t code a) (stepM (portS n i) t code b) ∨ Sto i a b (stepM (port n i) t code a) (stepM (portS n i) t code b) := by
  unfold stepM
  split
  · exact .inl ⟨rfl, h⟩
  · split
    · exact .inl (eag_end h 2 12)
    · exact eag_at h _
end
/-- a step, and the flush of that thread's buffer, if it isn't empty -/
theorem eag_step {a b : Ms} (h : Eag a b) (n : Int) {i : Nat} (hi : i < a.sides.length) :
    (Eag (a.step n i) (b.stepS n i) ∧ ((a.step n i).side i).buf = []) ∨ (((a.step n i).side i).buf.length = 1 ∧ Eag ((a.step n i).flush i) (b.stepS n i)) := by
  have hs : a.side i = b.side i := by unfold Ms.side; rw [h.sides]
  have hst : b.stepS n i = (stepM (portS n i) (a.side i).t (a.side i).code b).2.setT i (stepM (portS n i) (a.side i).t (a.side i).code b).1 := by rw [hs]; rfl
  have hat : a.step n i = (stepM (port n i) (a.side i).t (a.side i).code a).2.setT i (stepM (port n i) (a.side i).t (a.side i).code a).1 := rfl
  rcases eag_stepM (n := n) (i := i) (t := (a.side i).t) h (a.side i).code with ⟨h1, h2⟩ | ⟨h1, e, x, y, h2, h3⟩
  · left
    rw [hst, hat, ← h1]
    exact ⟨h2.setT i _, (h2.setT i _).buf i⟩
  · right
    generalize (stepM (port n i) (a.side i).t (a.side i).code a) = q at h1 h2 hat
    generalize (stepM (portS n i) (a.side i).t (a.side i).code b) = r at h1 h3 hst
    have hat2 : a.step n i = ((a.setB i [e]).note i x).setT i q.1 := by rw [hat, h2]
    have hst2 : b.stepS n i = ((b.setM e.a e.v).note i y).setT i q.1 := by rw [hst, h3, h1]
    have hside : (((a.setB i [e]).note i x).side i) = ⟨(a.side i).code, (a.side i).t, [e]⟩ := by
      show (a.setB i [e]).side i = _
      unfold Ms.setB
      rw [side_set hi, if_pos rfl]
    have hsi : (((a.setB i [e]).note i x).setT i q.1).side i = ⟨(a.side i).code, q.1, [e]⟩ := by
      unfold Ms.setT
      rw [side_set (by show i < ((a.setB i [e]).sides.length); unfold Ms.setB; rw [setS_len]; exact hi), if_pos rfl, hside]
    have hss : (((a.setB i [e]).note i x).setT i q.1).sides = a.sides.set i ⟨(a.side i).code, q.1, [e]⟩ := by
      unfold Ms.setT
      rw [hside]
      show (a.sides.set i _).set i _ = _
      rw [List.set_set]
    refine ⟨by rw [hat2, hsi]; rfl, ?_⟩
    have hfl : (a.step n i).flush i = (((((a.setB i [e]).note i x).setT i q.1).setB i []).setM e.a e.v).note i ⟨3, 0, 0, e.a, e.v, 0, 0, false⟩ := by
      rw [hat2]
      unfold Ms.flush
      rw [hsi]
    have hE : Eag (((a.setM e.a e.v).setT i q.1)) ((b.setM e.a e.v).setT i q.1) := (h.setM e.a e.v).setT i q.1
    have hsides : ((((a.setB i [e]).note i x).setT i q.1).setB i []).sides = ((a.setM e.a e.v).setT i q.1).sides := by
      show ((((a.setB i [e]).note i x).setT i q.1).sides.set i ⟨_, _, []⟩) = a.sides.set i ⟨(a.side i).code, q.1, (a.side i).buf⟩
      rw [hss, hsi, List.set_set, h.buf i]
    rw [hfl, hst2]
    refine ⟨?_, fun j => ?_, h.room⟩
    · show (⟨_, _, _, [], _⟩ : Ms) = (clr ((b.setM e.a e.v).setT i q.1))
      rw [← hE.same]
      show (⟨((((a.setB i [e]).note i x).setT i q.1).setB i []).sides, a.mem.set e.a.toNat e.v, a.slp, [], a.room⟩ : Ms) = ⟨((a.setM e.a e.v).setT i q.1).sides, a.mem.set e.a.toNat e.v, a.slp, [], a.room⟩
      rw [hsides]
    · have := hE.buf j
      show ((⟨((((a.setB i [e]).note i x).setT i q.1).setB i []).sides, [], [], [], 0⟩ : Ms).side j).buf = []
      rw [hsides]
      exact this
end Go.Proofs.YthbenfnanhpcoaaGreatDoor.Mc

namespace Go.Proofs.YthbenfnanhpcoaaGreatDoor.Mc
open Go.ChangeShapes Go.WideShapes Go.ChangeAt Go.RowKit
set_option linter.unusedVariables false
set_option maxRecDepth 20000

theorem newM_side (p : Pgm) (i : Nat) : ((newM p).side i).buf = [] := by
  unfold newM Ms.side
  simp only [List.getD_eq_getElem?_getD, List.getElem?_map]
  cases p.codes[i]? <;> rfl
theorem newM_short {p : Pgm} (h : (chkM p).2.2 = 0) : Short (newM p) := fun i => by
  have hc := chk_codes h
  unfold newM Ms.side
  simp only [List.getD_eq_getElem?_getD, List.getElem?_map]
  cases he : p.codes[i]? with
  | none => exact Nat.zero_le _
  | some x => have := hc x (List.mem_of_getElem? he); show x.l.length ≤ 100000; omega
end Go.Proofs.YthbenfnanhpcoaaGreatDoor.Mc

namespace Go.Proofs.YthbenfnanhpcoaaGreatDoor.Mc
set_option linter.unusedVariables false
set_option maxRecDepth 20000

theorem eag_len {a b : Ms} (h : Eag a b) : a.sides.length = b.sides.length := by rw [h.sides]
theorem eag_rouse {a b : Ms} (h : Eag a b) (i : Nat) : Eag (a.rouse i) (b.rouse i) := by
  unfold Ms.rouse
  rw [← h.slp]
  split
  · have hq := h.setQ (Kq.rouseL i a.slp)
    have e : (a.setQ (Kq.rouseL i a.slp)).side ((i : Int).toNat) = (b.setQ (Kq.rouseL i a.slp)).side ((i : Int).toNat) := by unfold Ms.side; rw [hq.sides]
    have hr : Eag ((a.setQ (Kq.rouseL i a.slp)).rise i) ((b.setQ (Kq.rouseL i a.slp)).rise i) := by
      unfold Ms.rise
      rw [e]
      exact hq.setT _ _
    exact hr.note i _ _
  · exact h
theorem flush_none {s : Ms} {i : Nat} (h : (s.side i).buf = []) : s.flush i = s := by
  unfold Ms.flush
  rw [h]
/-- a pick: behind it the buffers are empty, or one flush of that thread makes them so -/
theorem eag_pick {a b : Ms} (h : Eag a b) (n kind who : Int) :
    Eag (a.pick n kind who) (b.pickS n kind who) ∨ ((0 ≤ who ∧ who < a.sides.length) ∧ (((a.pick n kind who).side who.toNat).buf.length = 1 ∧ (a.pick n kind who).sides.length = a.sides.length) ∧ Eag ((a.pick n kind who).pick n 1 who) (b.pickS n kind who)) := by
  have hl := eag_len h
  by_cases hw : 0 ≤ who ∧ who < a.sides.length
  · have hwb : 0 ≤ who ∧ who < b.sides.length := by rw [← hl]; exact hw
    have hp : a.pick n kind who = if kind = 0 then a.step n who.toNat else if kind = 1 then a.flush who.toNat else if kind = 2 then a.rouse who.toNat else a := by unfold Ms.pick; rw [if_pos hw]
    have hq : b.pickS n kind who = if kind = 0 then b.stepS n who.toNat else if kind = 2 then b.rouse who.toNat else b := by unfold Ms.pickS; rw [if_pos hwb]
    rw [hp, hq]
    by_cases k0 : kind = 0
    · rw [if_pos k0, if_pos k0]
      rcases eag_step h n (i := who.toNat) (by omega) with ⟨h1, -⟩ | ⟨h1, h2⟩
      · exact .inl h1
      · have hlen : (a.step n who.toNat).sides.length = a.sides.length := by
          have := eag_len h2
          rw [flush_len] at this
          rw [this]
          have hc : (b.stepS n who.toNat).codes.length = b.codes.length := by
            have := codes_pickS b n 0 who
            unfold Ms.pickS at this
            rw [if_pos hwb, if_pos rfl] at this
            rw [this]
          unfold Ms.codes at hc
          rw [List.length_map, List.length_map] at hc
          rw [hc, hl]
        refine .inr ⟨hw, ⟨h1, hlen⟩, ?_⟩
        unfold Ms.pick
        rw [if_pos (by rw [hlen]; exact hw), if_neg (by decide), if_pos rfl]
        exact h2
    · rw [if_neg k0, if_neg k0]
      left
      by_cases k1 : kind = 1
      · rw [if_pos k1, if_neg (by omega), flush_none (h.buf _)]
        exact h
      · rw [if_neg k1]
        by_cases k2 : kind = 2
        · rw [if_pos k2, if_pos k2]; exact eag_rouse h _
        · rw [if_neg k2, if_neg k2]; exact h
  · left
    unfold Ms.pick Ms.pickS
    rw [if_neg hw, if_neg (by rw [← hl]; exact hw)]
    exact h
theorem eag_start (p : Pgm) (h : 1 ≤ p.room) : Eag (newM p) (newM p) := ⟨rfl, newM_side p, by show 1 ≤ p.room.toNat; omega⟩
end Go.Proofs.YthbenfnanhpcoaaGreatDoor.Mc

namespace Go.Proofs.YthbenfnanhpcoaaGreatDoor.Kq
open Go.ChangeShapes Go.WideShapes Go.ChangeAt Go.RowKit
open Go.Proofs.YthbenfnanhpcoaaGreatDoor.Kn
set_option linter.unusedVariables false
set_option maxRecDepth 20000

/-- the queue's sleepers, where they lie -/
theorem q_row {w : World} {g : Nat} {a b e : Value} {C : Array Value} {t : TypeId} {l : List Ent} (h : Has w g (machC a b C e) t) (hi : IsB C l) : RowAt w (some ⟨g, 2, none⟩) (flat l) := by
  have hs := hi.size
  have hlen := hi.len
  refine .inr ⟨g, 2, rfl, fun j hj => ?_⟩
  rw [flat_length] at hj
  obtain ⟨c0, c1⟩ := hi.ent (j / 2) (by omega)
  rcases (by omega : j % 2 = 0 ∨ j % 2 = 1) with h2 | h2
  · have e1 : j = j / 2 * 2 := by omega
    have q := flatC_a l (j / 2) (by omega)
    rw [List.getElem?_toArray, ← e1] at q
    rw [q]
    rw [← e1] at c0
    exact h.cell (by rw [mach_q (by omega)]; exact c0)
  · have e1 : j = j / 2 * 2 + 1 := by omega
    have q := flatC_v l (j / 2) (by omega)
    rw [List.getElem?_toArray, ← e1] at q
    rw [q]
    rw [← e1] at c1
    exact h.cell (by rw [mach_q (by omega)]; exact c1)
theorem copy_ents (w : World) (ty : TypeId) (g : Nat) (D : Array Value) (t : TypeId) (hg : Has w g D t) (s o cap : Nat) (l : List Ent) (hD : D.size = l.length * 2) (he : RowAt w (some ⟨s, o, none⟩) (flat l)) :
    (Builtin.copy_ #[62, 62] ty #[.slice (some ⟨g, 0, none⟩) l.length l.length, .slice (some ⟨s, o, none⟩) l.length cap]).run Tryz.prog w = .ok (goInt l.length) (w.setRow g (flat l).toArray) := by
  have hsrc : ∀ j v, (flat l)[j]? = some v → w.cell? ((⟨s, o, none⟩ : Addr).add j) = some v := by
    intro j u hj
    have hj' : j < (flat l).length := (List.getElem?_eq_some_iff.1 hj).1
    obtain ⟨b, off, h, hcc⟩ := he.get (by omega)
    cases h
    rw [Addr.add_mid, hcc j hj', hj]
  have hl := run_loadCells_list (P := Tryz.prog) w ⟨s, o, none⟩ (flat l) hsrc
  have hst := run_storeCells_at Tryz.prog g 0 t (flat l) 0 D w hg (by rw [flat_length, hD]; omega) (flat_one l)
  rw [flat_length] at hl
  have e : (D.toList.take (0 + 0) ++ flat l ++ D.toList.drop (0 + 0 + (flat l).length)).toArray = (flat l).toArray := by
    have : D.toList.drop (0 + 0 + (flat l).length) = [] := by
      apply List.drop_eq_nil_of_le
      rw [flat_length]
      simp [hD]
    rw [this]
    simp
  rw [e] at hst
  obtain ⟨i, h1, h2, h3, h4⟩ := info_parts infoE3
  simp [Builtin.copy_, run_underlying Tryz.underlying62, Builtin.lenOf, Builtin.firstCells, sizeOf, typeInfo, h1, h3, hl, hst]

/-- a copy whose run is known -/
theorem wp_cp {o : Oper} {a : Act} {w : World} {K : Act → World → Prop} {Q : Exit → Act → World → Prop} (d : Option Tmp) (hd : o.dst = d) (s x : Operand) (t : TypeId) (ho : o.op = .call { callee := .builtin .copy, args := #[s, x], argTypes := #[t, t] })
    (v u : Value) (hs : a.eval s = v) (hx : a.eval x = u) (v' : Value) (w' : World) (hr : (Builtin.copy_ #[t, t] o.type #[v, u]).run Tryz.prog w = .ok v' w') (h : K (a.put d v') w') : o.wp Tryz.prog a w K Q := by
  subst hd
  unfold Oper.wp execOp
  simp only [ho, resolve, invoke, builtin, Sem.run_bind, Sem.run_pure, Result.andThen_ok, List.map_toArray, List.map_cons, List.map_nil, hs, hx, hr]
  exact h
/-- a new slice of these sleepers -/
def AllP (l : List Ent) (w : World) (e : Ending) (w' : World) : Prop := (e = .returned (.slice (some ⟨w.heap.size, 0, none⟩) l.length l.length) ∧ Gr w w') ∧ Has w' w.heap.size (flat l).toArray 83

set_option maxHeartbeats 1000000 in
theorem all_calls {g : Nat} {a b e : Value} {C : Array Value} {t : TypeId} {l : List Ent} {w : World} (h0 : Has w g (machC a b C e) t) (hi : IsB C l) :
    Calls Tryz.prog 48 #[.pointer (some ⟨g, 2, none⟩)] w (AllP l w) := by
  have HB := hide hi
  have hs := hi.size
  have c16 : (machC a b C e)[18]? = some (.int .i64 l.length) := by
    rw [show 18 = 2 + 16 from rfl, mach_q (by omega)]
    exact hi.count
  have d16 := h0.cell c16
  have hlen := hi.len
  have hll : (l.length : Int) ≤ 8 := by omega
  have hmk := make_ents l.length (by omega)
  have hgs := h0.lt
  have a0 := h0.alloc (flat (List.replicate l.length ent0)).toArray 83
  have a1 := Has.new w (flat (List.replicate l.length ent0)).toArray 83
  have ag := (Gr.refl w).alloc (flat (List.replicate l.length ent0)).toArray 83
  clear hi h0
  go_enter Tryz.func48, Tryz.ntmps48
  go_wp2_with (fail)
  generalize hw1 : w.alloc (.cells (flat (List.replicate l.length ent0)).toArray 83) = w1 at a0 a1 ag
  refine begin_late 10 [] (fun w' => Has w' g (machC a b C e) t) (by kernel_rfl) rfl ?_
  have hH := a0.drew
  refine AnyL.takeP 0 (some 9) (.slice (some ⟨w.heap.size, 0, none⟩) l.length l.length) rfl rfl (by kernel_rfl) (by kernel_rfl) (by kernel_rfl) (by kernel_rfl) (fun _ _ _ h => h) (by kernel_rfl) (fun w' => by go_simp) (fun _ => hH) ?_
  simp only [Act.put, List.setIfInBounds_toArray, List.set_cons_zero, List.set_cons_succ]
  refine AnyL.takeP 1 (some 10) (.pointer (some ⟨g, 2, none⟩)) rfl rfl (by kernel_rfl) (by kernel_rfl) (by kernel_rfl) (by kernel_rfl) (fun _ _ _ h => h) (by kernel_rfl) (fun w' => by go_simp) (fun _ => hH) ?_
  simp only [Act.put, List.setIfInBounds_toArray, List.set_cons_zero, List.set_cons_succ]
  refine AnyL.takeP 2 (some 11) (.pointer (some ⟨g, 2, none⟩)) rfl rfl (by kernel_rfl) (by kernel_rfl) (by kernel_rfl) (by kernel_rfl) (fun _ _ _ h => h) (by kernel_rfl) (fun w' => by go_simp) (fun _ => hH) ?_
  simp only [Act.put, List.setIfInBounds_toArray, List.set_cons_zero, List.set_cons_succ]
  refine AnyL.takeP 3 (some 12) (.pointer (some ⟨g, 2, none⟩)) rfl rfl (by kernel_rfl) (by kernel_rfl) (by kernel_rfl) (by kernel_rfl) (fun _ _ _ h => h) (by kernel_rfl) (fun w' => by go_simp) (fun _ => hH) ?_
  simp only [Act.put, List.setIfInBounds_toArray, List.set_cons_zero, List.set_cons_succ]
  refine AnyL.takeP 4 (some 13) (.pointer (some ⟨g, 2, none⟩)) rfl rfl (by kernel_rfl) (by kernel_rfl) (by kernel_rfl) (by kernel_rfl) (fun _ _ _ h => h) (by kernel_rfl) (fun w' => by go_simp) (fun _ => hH) ?_
  simp only [Act.put, List.setIfInBounds_toArray, List.set_cons_zero, List.set_cons_succ]
  refine AnyL.takeP 5 (some 14) (.pointer (some ⟨g, 2, none⟩)) rfl rfl (by kernel_rfl) (by kernel_rfl) (by kernel_rfl) (by kernel_rfl) (fun _ _ _ h => h) (by kernel_rfl) (fun w' => by go_simp) (fun _ => hH) ?_
  simp only [Act.put, List.setIfInBounds_toArray, List.set_cons_zero, List.set_cons_succ]
  refine AnyL.takeP 6 (some 15) (.pointer (some ⟨g, 18, none⟩)) rfl rfl (by kernel_rfl) (by kernel_rfl) (by kernel_rfl) (by kernel_rfl) (fun _ _ _ h => h) (by kernel_rfl) (fun w' => by go_simp) (fun _ => hH) ?_
  simp only [Act.put, List.setIfInBounds_toArray, List.set_cons_zero, List.set_cons_succ]
  refine AnyL.take 7 (some 16) (.int .i64 l.length) rfl rfl (by kernel_rfl) (by kernel_rfl) (by kernel_rfl) (by kernel_rfl) (fun _ _ _ h => h) (yields_held _ (by kernel_rfl) (fun w' hw' => by have := hw'.cell c16; go_simp)) hH ?_
  simp only [Act.put, List.setIfInBounds_toArray, List.set_cons_zero, List.set_cons_succ]
  refine AnyL.takeP 8 (some 17) (.slice (some ⟨g, 2, none⟩) l.length 8) rfl rfl (by kernel_rfl) (by kernel_rfl) (by kernel_rfl) (by kernel_rfl) (fun _ _ _ h => h) (by kernel_rfl) (fun w' => by go_simp) (fun _ => hH) ?_
  simp only [Act.put, List.setIfInBounds_toArray, List.set_cons_zero, List.set_cons_succ]
  refine AnyL.one 9 (by kernel_rfl) rfl (by kernel_rfl) ?_
  have hcp := fun ty => copy_ents w1.drew ty w.heap.size _ _ a1.drew g 2 8 l (by rw [flatC_size]; simp) (q_row a0.drew HB.out)
  refine wp_cp (some 18) rfl (.tmp 9) (.tmp 17) 62 rfl _ _ rfl rfl _ _ (hcp _) ?_
  refine ⟨fun _ => a0.drew.rowAside (by omega) _, ?_⟩
  refine AnyL.done (by kernel_rfl) ?_
  replace a1 := a1.drew.row (flat l).toArray
  replace ag := ag.drew.setRow (Nat.le_refl _) (flat l).toArray
  generalize w1.drew.setRow w.heap.size (flat l).toArray = w2 at a1 ag ⊢
  clear a0 hH hcp hmk hw1 c16 d16
  simp only [Act.put, List.setIfInBounds_toArray, List.set_cons_zero, List.set_cons_succ]
  go_wp2_with (fail)
  go_ret
  exact ⟨⟨rfl, ag⟩, a1⟩
end Go.Proofs.YthbenfnanhpcoaaGreatDoor.Kq
