/-
  A new machine: its buffers are empty, its codes are not too long. By plain lists; no program, no condition.
-/
import Derived.Test.YthbenfnanhpcoaaGreatDoorZtbj
import Derived.Test.YthbenfnanhpcoaaGreatDoorZtbn
import Derived.Test.YthbenfnanhpcoaaGreatDoorZtbmPStp
namespace Go.Proofs.YthbenfnanhpcoaaGreatDoor.Mc
open Go.ChangeShapes Go.WideShapes Go.ChangeAt Go.RowKit
set_option linter.unusedVariables false
set_option maxRecDepth 20000

theorem newM_side (p : Pgm) (i : Nat) : ((newM p).side i).buf = [] := by
  unfold newM Ms.side
  simp only [List.getD_eq_getElem?_getD, List.getElem?_map]
  cases p.codes[i]? <;> rfl
theorem newM_short {p : Pgm} (h : (chkM p).2.2 = 0) : Short (newM p) := fun i => by
  have hc := chk_codes h
  unfold newM Ms.side
  simp only [List.getD_eq_getElem?_getD, List.getElem?_map]
  cases he : p.codes[i]? with
  | none => exact Nat.zero_le _
  | some x => have := hc x (List.mem_of_getElem? he); show x.l.length ≤ 100000; omega
end Go.Proofs.YthbenfnanhpcoaaGreatDoor.Mc

namespace Go.Proofs.YthbenfnanhpcoaaGreatDoor.Mc
set_option linter.unusedVariables false

/-- a port that keeps what is said of its states -/
structure KeptBy {S : Type} (M : Prt S) (P : S → Prop) : Prop where
  loadS : ∀ s m, P s → P (M.loadS s m)
  store : ∀ s m v, P s → P (M.store s m v)
  flush : ∀ s, P s → P (M.flush s)
  swapS : ∀ s m v, P s → P (M.swapS s m v)
  sleep : ∀ s m, P s → P (M.sleep s m)
  wakeS : ∀ s m v, P s → P (M.wakeS s m v)
  remote : ∀ s, P s → P (M.remote s)
  note : ∀ s x, P s → P (M.note s x)
section
variable {S : Type} {M : Prt S} {P : S → Prop}
theorem kept_end (H : KeptBy M P) {s : S} (h : P s) (t : Th) (st ev : Int) : P (endM M t s st ev).2 := H.note _ _ h
theorem kept_asked (H : KeptBy M P) {s : S} (h : P s) (t : Th) (c : Ins) : P (askedM M t c s).2 := by
  unfold askedM
  split
  · exact H.note _ _ (H.loadS _ _ h)
  · split
    · exact H.note _ _ (H.store _ _ _ h)
    · split
      · unfold waitedM
        split
        · exact H.sleep _ _ (H.note _ _ (H.loadS _ _ h))
        · exact H.note _ _ (H.loadS _ _ h)
      · split
        · exact H.note _ _ (H.wakeS _ _ _ h)
        · refine H.note _ _ ?_
          unfold swapM
          split
          · exact H.swapS _ _ _ (H.loadS _ _ h)
          · exact H.loadS _ _ h
theorem kept_alone (H : KeptBy M P) {s : S} (h : P s) (t : Th) (c : Ins) : P (aloneM M t c s).2 := by
  unfold aloneM
  split
  · exact h
  · split
    · exact h
    · split
      · exact H.note _ _ h
      · split
        · exact H.note _ _ h
        · split
          · exact H.note _ _ (H.remote _ h)
          · split
            · exact H.note _ _ h
            · exact h
theorem kept_done (H : KeptBy M P) {s : S} (h : P s) (t : Th) (c : Ins) : P (doneM M t c s).2 := by
  unfold doneM
  split
  · exact kept_end H h t 2 12
  · split
    · exact h
    · show P (if _ then _ else _ : Th × S).2
      split
      · exact kept_asked H h t c
      · split
        · exact h
        · exact kept_alone H h t c
theorem kept_at (H : KeptBy M P) {s : S} (h : P s) (t : Th) (c : Ins) (k : Int) : P (atM M t c k s).2 := by
  unfold atM
  split
  · exact kept_end H h t 3 13
  · split
    · exact H.flush _ h
    · exact kept_done H h t c
theorem kept_stepM (H : KeptBy M P) {s : S} (h : P s) (t : Th) (code : List Ins) : P (stepM M t code s).2 := by
  unfold stepM
  split
  · exact h
  · split
    · exact kept_end H h t 2 12
    · exact kept_at H h t _ _
end
/-- a status -/
def StOk (t : Th) : Prop := 0 ≤ t.st ∧ t.st ≤ 3
section
variable {S : Type} {M : Prt S}
theorem st_done {t : Th} (h : StOk t) (c : Ins) (s : S) : StOk (doneM M t c s).1 := by
  unfold doneM
  split
  · exact ⟨by show (0 : Int) ≤ 2; decide, by show (2 : Int) ≤ 3; decide⟩
  · split
    · exact h
    · show StOk (Th.at (if _ then _ else _ : Th × S).1 _)
      have key : ∀ (q : Th) (x : Int), StOk q → StOk (q.at x) := fun q x hq => hq
      refine key _ _ ?_
      split
      · unfold askedM
        split
        · exact h
        · split
          · exact h
          · split
            · unfold waitedM
              split
              · exact ⟨by show (0 : Int) ≤ 1; decide, by show (1 : Int) ≤ 3; decide⟩
              · exact h
            · split
              · exact h
              · exact h
      · split
        · exact h
        · unfold aloneM
          repeat' split
          all_goals exact h
theorem st_stepM {t : Th} (h : StOk t) (s : S) (code : List Ins) : StOk (stepM M t code s).1 := by
  unfold stepM
  split
  · exact h
  · split
    · exact ⟨by show (0 : Int) ≤ 2; decide, by show (2 : Int) ≤ 3; decide⟩
    · unfold atM
      split
      · exact ⟨by show (0 : Int) ≤ 3; decide, by show (3 : Int) ≤ 3; decide⟩
      · split
        · exact h
        · exact st_done h _ s
end
structure Tot (N W R : Nat) (s : Ms) : Prop where
  n : s.sides.length = N
  w : s.mem.length = W
  r : s.room = R
  st : ∀ i, StOk (s.side i).t
  buf : ∀ i, (s.side i).buf.length ≤ R
section
variable {N W R : Nat} {s : Ms}
theorem Tot.setS (h : Tot N W R s) (i : Nat) (d : Sd) (h1 : StOk d.t) (h2 : d.buf.length ≤ R) : Tot N W R (s.setS i d) := by
  by_cases hi : i < s.sides.length
  · refine ⟨(setS_len s i d).trans h.n, h.w, h.r, fun j => ?_, fun j => ?_⟩
    · rw [side_set hi]
      split
      · exact h1
      · exact h.st j
    · rw [side_set hi]
      split
      · exact h2
      · exact h.buf j
  · have : s.setS i d = s := by
      unfold Ms.setS
      rw [List.set_eq_of_length_le (by omega)]
    rw [this]
    exact h
theorem Tot.setT (h : Tot N W R s) (i : Nat) (t : Th) (ht : StOk t) : Tot N W R (s.setT i t) := h.setS i _ ht (h.buf i)
theorem Tot.setB (h : Tot N W R s) (i : Nat) (l : List Ent) (hl : l.length ≤ R) : Tot N W R (s.setB i l) := h.setS i _ (h.st i) hl
theorem Tot.note (h : Tot N W R s) (i : Nat) (x : Ev) : Tot N W R (s.note i x) := ⟨h.n, h.w, h.r, h.st, h.buf⟩
theorem Tot.setM (h : Tot N W R s) (m v : Int) : Tot N W R (s.setM m v) := ⟨h.n, (by show (s.mem.set _ _).length = W; rw [List.length_set]; exact h.w), h.r, h.st, h.buf⟩
theorem Tot.setQ (h : Tot N W R s) (l : List Ent) : Tot N W R (s.setQ l) := ⟨h.n, h.w, h.r, h.st, h.buf⟩
theorem Tot.flush (h : Tot N W R s) (i : Nat) : Tot N W R (s.flush i) := by
  unfold Ms.flush
  cases hb : (s.side i).buf with
  | nil => exact h
  | cons x l =>
    have := h.buf i
    rw [hb] at this
    exact ((h.setB i l (Nat.le_trans (Nat.le_succ _) this)).setM _ _).note i _
theorem Tot.drain (i : Nat) : ∀ (n : Nat) {s : Ms}, Tot N W R s → Tot N W R (s.drain i n)
  | 0, s, h => h
  | n + 1, s, h => (Tot.drain i n (h.flush i) : Tot N W R ((s.flush i).drain i n))
theorem Tot.remote (h : Tot N W R s) : Tot N W R s.remote := by
  have key : ∀ (l : List Nat) (s : Ms), Tot N W R s → Tot N W R (l.foldl (fun s i => s.drain i (s.side i).buf.length) s) := by
    intro l
    induction l with
    | nil => intro s h; exact h
    | cons i l ih => intro s h; exact ih _ (Tot.drain i _ h)
  exact key _ s h
theorem st_is0 (t : Th) : StOk (t.is 0) := ⟨by show (0 : Int) ≤ 0; decide, by show (0 : Int) ≤ 3; decide⟩
theorem Tot.rise (h : Tot N W R s) (x : Int) : Tot N W R (s.rise x) := h.setT _ _ (st_is0 _)
theorem Tot.wake (h : Tot N W R s) (m v : Int) : Tot N W R (s.wake m v) := by
  have key : ∀ (l : List Int) (s : Ms), Tot N W R s → Tot N W R (l.foldl Ms.rise s) := by
    intro l
    induction l with
    | nil => intro s h; exact h
    | cons i l ih => intro s h; exact ih _ (h.rise i)
  exact key _ _ (h.setQ _)
theorem tot_kept (n : Int) (i : Nat) : KeptBy (port n i) (Tot N W R) where
  loadS _ _ h := h
  store s m v h := h.setB i _ (by
    have := h.buf i
    have hr := h.r
    show (Bf.putL s.room (s.side i).buf ⟨m, v⟩).length ≤ R
    unfold Bf.putL
    split
    · rw [List.length_append]
      show (s.side i).buf.length + 1 ≤ R
      omega
    · exact this)
  flush _ h := h.flush i
  swapS _ _ _ h := h.setM _ _
  sleep _ _ h := h.setQ _
  wakeS _ _ _ h := h.wake _ _
  remote _ h := h.remote
  note _ _ h := h.note i _
theorem tot_pick (h : Tot N W R s) (n kind who : Int) : Tot N W R (s.pick n kind who) := by
  unfold Ms.pick
  split
  · split
    · exact (kept_stepM (tot_kept n who.toNat) h _ _).setT _ _ (st_stepM (h.st _) s _)
    · split
      · exact h.flush _
      · split
        · unfold Ms.rouse
          split
          · exact (((h.setQ _).rise _).note _ _)
          · exact h
        · exact h
  · exact h
theorem tot_run (n : Int) (l : List Ent) (h : Tot N W R s) : Tot N W R (s.run n l) := by
  unfold Ms.run
  induction l generalizing s with
  | nil => exact h
  | cons x l ih => exact ih (tot_pick h n x.a x.v)
end
theorem tot_start (p : Pgm) : Tot p.codes.length p.mem.length p.room.toNat (newM p) := by
  refine ⟨by unfold newM; simp, rfl, rfl, fun i => ?_, fun i => by rw [newM_side]; exact Nat.zero_le _⟩
  unfold newM Ms.side
  simp only [List.getD_eq_getElem?_getD, List.getElem?_map]
  cases p.codes[i]? <;> exact ⟨by show (0 : Int) ≤ 0; decide, by show (0 : Int) ≤ 3; decide⟩
end Go.Proofs.YthbenfnanhpcoaaGreatDoor.Mc
