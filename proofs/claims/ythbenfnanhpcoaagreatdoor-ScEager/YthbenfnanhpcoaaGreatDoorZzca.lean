/-
  The youngest entry of an address, one more entry behind. By plain lists; no program, no condition.
-/
import Derived.Test.YthbenfnanhpcoaaGreatDoorZzag
import Derived.Test.YthbenfnanhpcoaaGreatDoorZzbv
import Derived.Test.YthbenfnanhpcoaaGreatDoorZzbw
import Derived.Test.YthbenfnanhpcoaaGreatDoorZzabMem
namespace Go.Proofs.YthbenfnanhpcoaaGreatDoor.Mc
set_option linter.unusedVariables false

theorem findR_snoc (addr : Int) (l : List Ent) (x : Ent) : Bf.findR addr (l ++ [x]) = if x.a = addr then some x.v else Bf.findR addr l := by
  rw [Bf.findR_append]
  by_cases h : x.a = addr <;> simp [Bf.findR, h]
end Go.Proofs.YthbenfnanhpcoaaGreatDoor.Mc

namespace Go.Proofs.YthbenfnanhpcoaaGreatDoor.Mc
set_option linter.unusedVariables false
set_option maxRecDepth 20000

/-- memory, once the buffer is empty -/
def dm (mem : List Int) (buf : List Ent) : List Int := buf.foldl (fun m e => m.set e.a.toNat e.v) mem
theorem dm_snoc (mem : List Int) (buf : List Ent) (e : Ent) : dm mem (buf ++ [e]) = (dm mem buf).set e.a.toNat e.v := by simp [dm]
theorem dm_len : ∀ (buf : List Ent) (mem : List Int), (dm mem buf).length = mem.length
  | [], mem => rfl
  | e :: l, mem => (dm_len l (mem.set e.a.toNat e.v)).trans (by simp)
theorem dm_get {mem : List Int} {m : Int} (hm : 0 ≤ m) : ∀ r : List Ent, (∀ e ∈ r, 0 ≤ e.a ∧ e.a < mem.length) → (dm mem r.reverse).getD m.toNat 0 = (match Bf.findR m r.reverse with | some v => v | none => mem.getD m.toNat 0)
  | [], h => rfl
  | e :: r, h => by
    have he := h e List.mem_cons_self
    rw [List.reverse_cons, dm_snoc, findR_snoc]
    by_cases x : e.a = m
    · rw [if_pos x, x, List.getD_eq_getElem?_getD, List.getElem?_set, if_pos rfl, if_pos (by rw [dm_len]; omega)]
      rfl
    · rw [if_neg x, ← dm_get hm r (fun z hz => h z (List.mem_cons_of_mem _ hz)), List.getD_eq_getElem?_getD, List.getElem?_set, if_neg (by omega), ← List.getD_eq_getElem?_getD]
structure Aln (a b : Ms) : Prop where
  la : a.sides.length = 1
  lb : b.sides.length = 1
  t : (a.side 0).t = (b.side 0).t
  code : (a.side 0).code = (b.side 0).code
  mem : b.mem = dm a.mem (a.side 0).buf
  slp : a.slp = b.slp
  rng : ∀ e ∈ (a.side 0).buf, 0 ≤ e.a ∧ e.a < a.mem.length
  few : (a.side 0).buf.length ≤ a.room
  pos : 1 ≤ a.room
theorem side0_set {s : Ms} (h : s.sides.length = 1) (d : Sd) : (s.setS 0 d).side 0 = d := by rw [side_set (by omega), if_pos rfl]
theorem setS_many {s : Ms} (h : s.sides.length = 1) (i : Nat) (hi : i ≠ 0) (d : Sd) : s.setS i d = s := by
  unfold Ms.setS
  rw [List.set_eq_of_length_le (by omega)]
theorem Aln.note {a b : Ms} (h : Aln a b) (i : Nat) (x y : Ev) : Aln (a.note i x) (b.note i y) := ⟨h.la, h.lb, h.t, h.code, h.mem, h.slp, h.rng, h.few, h.pos⟩
theorem Aln.noteA {a b : Ms} (h : Aln a b) (i : Nat) (x : Ev) : Aln (a.note i x) b := ⟨h.la, h.lb, h.t, h.code, h.mem, h.slp, h.rng, h.few, h.pos⟩
theorem Aln.setQ {a b : Ms} (h : Aln a b) (l : List Ent) : Aln (a.setQ l) (b.setQ l) := ⟨h.la, h.lb, h.t, h.code, h.mem, rfl, h.rng, h.few, h.pos⟩
theorem Aln.setT {a b : Ms} (h : Aln a b) (i : Nat) (t : Th) : Aln (a.setT i t) (b.setT i t) := by
  by_cases hi : i = 0
  · subst hi
    have ea : (a.setT 0 t).side 0 = ⟨(a.side 0).code, t, (a.side 0).buf⟩ := side0_set h.la _
    have eb : (b.setT 0 t).side 0 = ⟨(b.side 0).code, t, (b.side 0).buf⟩ := side0_set h.lb _
    exact ⟨(setS_len _ _ _).trans h.la, (setS_len _ _ _).trans h.lb, by rw [ea, eb], by rw [ea, eb]; exact h.code, by rw [ea]; exact h.mem, h.slp, by rw [ea]; exact h.rng, by rw [ea]; exact h.few, h.pos⟩
  · rw [show a.setT i t = a from setS_many h.la i hi _, show b.setT i t = b from setS_many h.lb i hi _]
    exact h
theorem Aln.rise {a b : Ms} (h : Aln a b) (x : Int) : Aln (a.rise x) (b.rise x) := by
  unfold Ms.rise
  by_cases hx : x.toNat = 0
  · rw [hx, h.t]
    exact h.setT _ _
  · rw [show a.setT x.toNat _ = a from setS_many h.la _ hx _, show b.setT x.toNat _ = b from setS_many h.lb _ hx _]
    exact h
theorem Aln.rises {a b : Ms} (h : Aln a b) : ∀ l : List Int, Aln (l.foldl Ms.rise a) (l.foldl Ms.rise b) := by
  intro l
  induction l generalizing a b with
  | nil => exact h
  | cons x l ih => exact ih (h.rise x)
theorem Aln.wake {a b : Ms} (h : Aln a b) (m v : Int) : Aln (a.wake m v) (b.wake m v) := by
  have e : a.sift m v.toNat = b.sift m v.toNat := by unfold Ms.sift; rw [h.slp]
  unfold Ms.wake
  rw [e]
  exact (h.setQ _).rises _
theorem Aln.load {a b : Ms} (h : Aln a b) (m : Int) (hm : 0 ≤ m) : a.load 0 m = b.mem.getD m.toNat 0 := by
  have := dm_get (mem := a.mem) hm (a.side 0).buf.reverse (fun e he => h.rng e (List.mem_reverse.1 he))
  rw [List.reverse_reverse] at this
  rw [h.mem, this]
  rfl
theorem Aln.none {a b : Ms} (h : Aln a b) (hb : (a.side 0).buf = []) : b.mem = a.mem := by rw [h.mem, hb]; rfl
theorem Aln.setM {a b : Ms} (h : Aln a b) (hb : (a.side 0).buf = []) (m v : Int) : Aln (a.setM m v) (b.setM m v) := by
  refine ⟨h.la, h.lb, h.t, h.code, ?_, h.slp, fun e he => ?_, h.few, h.pos⟩
  · show b.mem.set m.toNat v = dm (a.mem.set m.toNat v) (a.side 0).buf
    rw [hb, h.none hb]; rfl
  · have he' : e ∈ (a.side 0).buf := he
    rw [hb] at he'
    cases he'
theorem Aln.put {a b : Ms} (h : Aln a b) (m v : Int) (hm : 0 ≤ m ∧ m < a.mem.length) (hf : (a.side 0).buf.length < a.room) : Aln (a.store 0 m v) (b.setM m v) := by
  have ea : (a.store 0 m v).side 0 = ⟨(a.side 0).code, (a.side 0).t, (a.side 0).buf ++ [⟨m, v⟩]⟩ := by
    unfold Ms.store Ms.setB Bf.putL
    rw [if_pos hf]
    exact side0_set h.la _
  refine ⟨(setS_len _ _ _).trans h.la, h.lb, by rw [ea]; exact h.t, by rw [ea]; exact h.code, ?_, h.slp, ?_, ?_, h.pos⟩
  · rw [ea]
    show b.mem.set m.toNat v = dm a.mem ((a.side 0).buf ++ [⟨m, v⟩])
    rw [dm_snoc, h.mem]
  · rw [ea]
    intro e he
    rcases List.mem_append.1 he with he | he
    · exact h.rng e he
    · rw [show e = ⟨m, v⟩ by simpa using he]; exact hm
  · rw [ea]
    show ((a.side 0).buf ++ [_]).length ≤ a.room
    rw [List.length_append]
    exact hf
/-- the buffer's first store comes into memory -/
theorem Aln.flush {a b : Ms} (h : Aln a b) : Aln (a.flush 0) b := by
  cases hb : (a.side 0).buf with
  | nil => rw [flush_none hb]; exact h
  | cons e l =>
    have ef : a.flush 0 = ((a.setB 0 l).setM e.a e.v).note 0 ⟨3, 0, 0, e.a, e.v, 0, 0, false⟩ := by unfold Ms.flush; rw [hb]
    have es : ((((a.setB 0 l).setM e.a e.v).note 0 ⟨3, 0, 0, e.a, e.v, 0, 0, false⟩)).side 0 = ⟨(a.side 0).code, (a.side 0).t, l⟩ := side0_set h.la _
    have hm := h.mem
    have hr := h.rng
    have hf := h.few
    rw [hb] at hm hr hf
    rw [ef]
    refine ⟨(setS_len _ _ _).trans h.la, h.lb, by rw [es]; exact h.t, by rw [es]; exact h.code, by rw [es]; exact hm, h.slp, ?_, ?_, h.pos⟩
    · rw [es]
      intro z hz
      show 0 ≤ z.a ∧ z.a < (a.mem.set _ _).length
      rw [List.length_set]
      exact hr z (List.mem_cons_of_mem _ hz)
    · rw [es]
      show l.length ≤ a.room
      have : (e :: l).length = l.length + 1 := rfl
      omega
theorem remote_one {s : Ms} (h1 : s.sides.length = 1) (h : (s.side 0).buf = []) : s.remote = s := by
  unfold Ms.remote
  rw [h1]
  show s.drain 0 (s.side 0).buf.length = s
  exact drain_none 0 s h
/-- what a step adds to what befell: nothing, or one event that is no flush -/
def Adds (a : Ms) (q : Ms) : Prop := q.evs = a.evs ∨ ∃ x : Ev, q.evs = a.evs ++ [x] ∧ x.kind ≠ 3
def Alo (a : Ms) (q r : Th × Ms) : Prop := q.1 = r.1 ∧ Aln q.2 r.2 ∧ Adds a q.2
section
variable {a b : Ms} {n : Int} {t : Th} {c : Ins}
theorem adds_note (a s : Ms) (x : Ev) (hs : s.evs = a.evs) (hk : x.kind ≠ 3) : Adds a (s.note 0 x) := .inr ⟨evOf x 0, by show s.evs ++ [_] = _; rw [hs], hk⟩
theorem aln_end (h : Aln a b) (st ev : Int) (he : ev ≠ 3) : Alo a (endM (port n 0) t a st ev) (endM (portS n 0) t b st ev) := ⟨rfl, h.note 0 _ _, adds_note a a _ rfl he⟩
theorem aln_load (h : Aln a b) (m : Int) (hm : 0 ≤ m) : Alo a (loadedM (port n 0) t c a m) (loadedM (portS n 0) t c b m) := by
  refine ⟨?_, h.note 0 _ _, adds_note a a _ rfl (by show (1 : Int) ≠ 3; decide)⟩
  show t.put c.a (a.load 0 m) = t.put c.a (b.mem.getD m.toNat 0)
  rw [h.load m hm]
theorem aln_store (h : Aln a b) (m : Int) (hm : 0 ≤ m ∧ m < a.mem.length) (hf : (a.side 0).buf.length < a.room) : Alo a (storedM (port n 0) t c a m) (storedM (portS n 0) t c b m) :=
  ⟨rfl, (h.put m (t.reg c.a) hm hf).note 0 _ _, adds_note a _ _ rfl (by show (2 : Int) ≠ 3; decide)⟩
theorem aln_wait (h : Aln a b) (m : Int) (hm : 0 ≤ m) : Alo a (waitedM (port n 0) t c a m) (waitedM (portS n 0) t c b m) := by
  have e : (port n 0).load a m = (portS n 0).load b m := h.load m hm
  unfold waitedM
  rw [e]
  split
  · refine ⟨rfl, ?_, ?_⟩
    · show Aln ((a.note 0 _).setQ (Kq.sleepL 0 m a.slp)) ((b.note 0 _).setQ (Kq.sleepL 0 m b.slp))
      rw [h.slp]
      exact (h.note 0 _ _).setQ _
    · exact adds_note a a ⟨8, 0, t.pc, m, (portS n 0).load b m, 0, 0, true⟩ rfl (by show (8 : Int) ≠ 3; decide)
  · exact ⟨rfl, h.note 0 _ _, adds_note a a _ rfl (by show (8 : Int) ≠ 3; decide)⟩
theorem aln_woke (h : Aln a b) (m : Int) : Alo a (wokeM (port n 0) t c a m) (wokeM (portS n 0) t c b m) := by
  have e : a.woken m (t.reg c.a) = b.woken m (t.reg c.a) := by unfold Ms.woken Ms.sift; rw [h.slp]
  obtain ⟨h1, -, -, -⟩ := rises (s := a) (a.sift m (t.reg c.a).toNat).out (a.setQ (a.sift m (t.reg c.a).toNat).left)
  refine ⟨?_, (h.wake m (t.reg c.a)).note 0 _ _, adds_note a (a.wake m (t.reg c.a)) _ h1 (by show (9 : Int) ≠ 3; decide)⟩
  show t.put c.a (a.woken m (t.reg c.a)) = t.put c.a (b.woken m (t.reg c.a))
  rw [e]
theorem aln_swap (h : Aln a b) (m : Int) (hm : 0 ≤ m) (hb : (a.side 0).buf = []) : Alo a (swappedM (port n 0) t c a m) (swappedM (portS n 0) t c b m) := by
  have e : (port n 0).load a m = (portS n 0).load b m := h.load m hm
  unfold swappedM swapM
  rw [e]
  refine ⟨rfl, ?_, ?_⟩
  · show Aln (Ms.note (if (insteadM t c ((portS n 0).load b m)).2 then a.setM m _ else a) 0 _) (Ms.note (if (insteadM t c ((portS n 0).load b m)).2 then b.setM m _ else b) 0 _)
    split
    · exact (h.setM hb m _).note 0 _ _
    · exact h.note 0 _ _
  · show Adds a (Ms.note (if (insteadM t c ((portS n 0).load b m)).2 then a.setM m _ else a) 0 _)
    split
    · exact adds_note a _ _ rfl (by show (4 : Int) ≠ 3; decide)
    · exact adds_note a _ _ rfl (by show (4 : Int) ≠ 3; decide)
theorem aln_asked (h : Aln a b) (hn : (a.mem.length : Int) = n) (h0 : 0 ≤ addrM t c) (hm : inMemM (port n 0) t c = true) (hh : heldM (port n 0) c a = false) (ha : askB c.op = true) : Alo a (askedM (port n 0) t c a) (askedM (portS n 0) t c b) := by
  have hm' : 0 ≤ addrM t c ∧ addrM t c < a.mem.length := by
    have : addrM t c < n := by simpa [inMemM, port] using hm
    omega
  unfold askedM
  split
  · exact aln_load h _ h0
  · rename_i h16
    split
    · rename_i h17
      refine aln_store h _ hm' ?_
      have hf := h.few
      unfold heldM at hh
      rw [h17, show drainB 17 = false from by decide] at hh
      have h2 : (port n 0).room a = true := by simpa using hh
      have h3 : (!(Bf.fullB (a.side 0).buf a.room)) = true := h2
      have : (a.side 0).buf.length ≠ a.room := fun e => by
        unfold Bf.fullB at h3
        rw [e] at h3
        simp at h3
      omega
    · rename_i h17
      have hb := held_empty hh (ask_drain ha h16 h17)
      split
      · exact aln_wait h _ h0
      · split
        · exact aln_woke h _
        · exact aln_swap h _ h0 hb
theorem aln_alone (h : Aln a b) (hh : heldM (port n 0) c a = false) : Alo a (aloneM (port n 0) t c a) (aloneM (portS n 0) t c b) := by
  have z : ∀ x : Ev, x.kind ≠ 3 → Adds a (a.note 0 x) := fun x hx => adds_note a a x rfl hx
  unfold aloneM
  split
  · exact ⟨rfl, h, .inl rfl⟩
  · split
    · exact ⟨rfl, h, .inl rfl⟩
    · split
      · exact ⟨rfl, h.note 0 _ _, z _ (by show (5 : Int) ≠ 3; decide)⟩
      · split
        · exact ⟨rfl, h.note 0 _ _, z _ (by show (6 : Int) ≠ 3; decide)⟩
        · split
          · rename_i e
            have hb := held_empty hh (by rw [e]; decide)
            refine ⟨rfl, ?_, ?_⟩
            · show Aln (a.remote.note 0 _) (b.note 0 _)
              rw [remote_one h.la hb]
              exact h.note 0 _ _
            · show Adds a (a.remote.note 0 _)
              rw [remote_one h.la hb]
              exact z _ (by show (10 : Int) ≠ 3; decide)
          · split
            · exact ⟨rfl, h.note 0 _ _, z _ (by show (7 : Int) ≠ 3; decide)⟩
            · exact ⟨rfl, h, .inl rfl⟩
theorem aln_done (h : Aln a b) (hn : (a.mem.length : Int) = n) (h0 : 0 ≤ addrM t c) (hm : askB c.op = true → inMemM (port n 0) t c = true) (hh : heldM (port n 0) c a = false) : Alo a (doneM (port n 0) t c a) (doneM (portS n 0) t c b) := by
  unfold doneM
  split
  · exact aln_end h 2 12 (by decide)
  · split
    · exact ⟨rfl, h, .inl rfl⟩
    · have key : ∀ q r : Th × Ms, Alo a q r → Alo a (onM q) (onM r) := fun q r hq => ⟨by unfold onM; rw [hq.1], hq.2⟩
      refine key _ _ ?_
      split
      · rename_i ha
        exact aln_asked h hn h0 (hm ha) hh ha
      · split
        · exact ⟨rfl, h, .inl rfl⟩
        · exact aln_alone h hh
end
/-- a step: the buffer's first store alone comes into memory, or the other machine does the same step -/
theorem aln_stepM {a b : Ms} {n : Int} {t : Th} (h : Aln a b) (hn : (a.mem.length : Int) = n) (code : List Ins) (hc : ∀ x ∈ code, InsOk x) :
    (stepM (port n 0) t code a = (t, a.flush 0) ∧ (a.side 0).buf ≠ []) ∨ Alo a (stepM (port n 0) t code a) (stepM (portS n 0) t code b) := by
  unfold stepM
  split
  · exact .inr ⟨rfl, h, .inl rfl⟩
  · split
    · exact .inr (aln_end h 2 12 (by decide))
    · have hk : 0 ≤ (code.getD t.pc.toNat ins0).k := by
        rw [List.getD_eq_getElem?_getD]
        cases he : code[t.pc.toNat]? with
        | none => exact Int.le_refl 0
        | some x => exact (hc x (List.mem_of_getElem? he)).k0
      generalize code.getD t.pc.toNat ins0 = c at hk
      have h0 : 0 ≤ addrM t c := by
        unfold addrM
        split
        · exact wrap_nn _
        · exact hk
      have hs : heldM (portS n 0) c b = false := by
        unfold heldM
        show (if drainB c.op then !true else c.op == 17 && !true) = false
        split <;> simp
      unfold atM
      rw [hs, show inMemM (portS n 0) t c = inMemM (port n 0) t c from rfl]
      split
      · exact .inr (aln_end h 3 13 (by decide))
      · rename_i hr
        cases hh : heldM (port n 0) c a with
        | true =>
          left
          refine ⟨by simp; rfl, fun hb => ?_⟩
          unfold heldM at hh
          split at hh
          · have : (port n 0).empty a = true := by
              show (((a.side 0).buf.length : Int) == 0) = true
              rw [hb]; rfl
            rw [this] at hh
            cases hh
          · have hr1 : (port n 0).room a = true := by
              show (!(Bf.fullB (a.side 0).buf a.room)) = true
              have := h.pos
              rw [hb]
              unfold Bf.fullB
              simp
              omega
            rw [hr1] at hh
            simp at hh
        | false =>
          right
          refine aln_done h hn h0 (fun ha => ?_) hh
          simp only [Bool.or_eq_true, Bool.and_eq_true, not_or, not_and, Bool.not_eq_true, Bool.not_eq_false'] at hr
          exact hr.2 ha
theorem flush_side {s : Ms} (h1 : s.sides.length = 1) : ((s.flush 0).side 0).t = (s.side 0).t ∧ ((s.flush 0).side 0).code = (s.side 0).code := by
  cases hb : (s.side 0).buf with
  | nil => rw [flush_none hb]; exact ⟨rfl, rfl⟩
  | cons e l =>
    have ef : s.flush 0 = ((s.setB 0 l).setM e.a e.v).note 0 ⟨3, 0, 0, e.a, e.v, 0, 0, false⟩ := by unfold Ms.flush; rw [hb]
    have es : ((((s.setB 0 l).setM e.a e.v).note 0 ⟨3, 0, 0, e.a, e.v, 0, 0, false⟩)).side 0 = ⟨(s.side 0).code, (s.side 0).t, l⟩ := side0_set h1 _
    rw [ef, es]
    exact ⟨rfl, rfl⟩
theorem flush_ev {s : Ms} (hb : (s.side 0).buf ≠ []) : ∃ x : Ev, (s.flush 0).evs = s.evs ++ [x] ∧ x.kind = 3 := by
  cases h : (s.side 0).buf with
  | nil => exact absurd h hb
  | cons e l => exact ⟨evOf ⟨3, 0, 0, e.a, e.v, 0, 0, false⟩ 0, by unfold Ms.flush; rw [h]; rfl, rfl⟩
/-- a step of the machine: the buffer's first store alone came into memory (an event of that kind, and the thread stands where it stood), or the other machine does the same step (no event, or one of another kind) -/
theorem aln_step {a b : Ms} {n : Int} (h : Aln a b) (hn : (a.mem.length : Int) = n) (hc : ∀ x ∈ (a.side 0).code, InsOk x) :
    (Aln (a.step n 0) b ∧ (∃ x : Ev, (a.step n 0).evs = a.evs ++ [x] ∧ x.kind = 3) ∧ ((a.step n 0).side 0).t = (a.side 0).t) ∨ (Aln (a.step n 0) (b.stepS n 0) ∧ Adds a (a.step n 0)) := by
  have hat : a.step n 0 = (stepM (port n 0) (a.side 0).t (a.side 0).code a).2.setT 0 (stepM (port n 0) (a.side 0).t (a.side 0).code a).1 := rfl
  have hbt : b.stepS n 0 = (stepM (portS n 0) (a.side 0).t (a.side 0).code b).2.setT 0 (stepM (portS n 0) (a.side 0).t (a.side 0).code b).1 := by rw [h.t, h.code]; rfl
  rcases aln_stepM (t := (a.side 0).t) h hn (a.side 0).code hc with ⟨h1, h2⟩ | ⟨h1, h2, h3⟩
  · left
    rw [hat, h1]
    have hf := h.flush
    obtain ⟨q1, q2⟩ := flush_side h.la
    have e : ((a.flush 0).setT 0 (a.side 0).t).side 0 = ⟨((a.flush 0).side 0).code, (a.side 0).t, ((a.flush 0).side 0).buf⟩ := side0_set hf.la _
    refine ⟨?_, flush_ev h2, by show (((a.flush 0).setT 0 (a.side 0).t).side 0).t = _; rw [e]⟩
    show Aln ((a.flush 0).setT 0 (a.side 0).t) b
    exact ⟨(setS_len _ _ _).trans hf.la, hf.lb, by rw [e]; exact h.t, by rw [e]; exact hf.code, by rw [e]; exact hf.mem, hf.slp, by rw [e]; exact hf.rng, by rw [e]; exact hf.few, hf.pos⟩
  · right
    rw [hat, hbt, ← h1]
    exact ⟨h2.setT 0 _, h3⟩
end Go.Proofs.YthbenfnanhpcoaaGreatDoor.Mc

namespace Go.Proofs.YthbenfnanhpcoaaGreatDoor.Mc
open Go.ChangeShapes Go.WideShapes Go.ChangeAt Go.RowKit
set_option linter.unusedVariables false
set_option maxRecDepth 20000

theorem pick_step {s : Ms} (h : s.sides.length = 1) (n : Int) : s.pick n 0 0 = s.step n 0 := by
  unfold Ms.pick
  rw [if_pos (by omega), if_pos rfl]
  rfl
theorem pick_stepS {s : Ms} (h : s.sides.length = 1) (n : Int) : s.pickS n 0 0 = s.stepS n 0 := by
  unfold Ms.pickS
  rw [if_pos (by omega), if_pos rfl]
  rfl
theorem pick_flush {s : Ms} (h : s.sides.length = 1) (n : Int) : s.pick n 1 0 = s.flush 0 := by
  unfold Ms.pick
  rw [if_pos (by omega), if_neg (by decide), if_pos rfl]
  rfl
/-- the same thread; memory once the buffer is empty; no more befell than so much -/
structure Alm (a b : Nat) (s q : Ms) : Prop where
  al : Aln q s
  ea : s.evs.length ≤ a
  eb : q.evs.length ≤ b
  sa : Short s
  sb : Short q
theorem Alm.one {a b : Nat} {s q : Ms} (h : Alm a b s q) : s.sides.length = 1 ∧ q.sides.length = 1 := ⟨h.al.lb, h.al.la⟩
theorem Alm.flush {a b : Nat} {s q : Ms} (h : Alm a b s q) (n : Int) : Alm a (b + 1) s (q.pick n 1 0) := by
  have h1 := h.eb
  have h2 := evs_pick1 q n 0
  refine ⟨?_, h.ea, by omega, h.sa, short_pick h.sb n 1 0⟩
  rw [pick_flush h.al.la]
  exact h.al.flush
theorem Alm.most {a b b' : Nat} {s q : Ms} (h : Alm a b s q) (hb : b ≤ b') : Alm a b' s q := ⟨h.al, h.ea, Nat.le_trans h.eb hb, h.sa, h.sb⟩
/-- what a turn of the thread makes: a flush alone; nothing told; something told that is no flush -/
def Turn (a b : Nat) (n : Int) (s q q1 : Ms) : Prop :=
  (∃ x : Ev, q1.evs = q.evs ++ [x] ∧ x.kind = 3 ∧ (q1.side 0).t = (q.side 0).t ∧ Alm (a + 1) (b + 1) s q1)
  ∨ (q1.evs = q.evs ∧ Alm (a + 1) (b + 1) (s.pickS n 0 0) q1)
  ∨ ∃ x : Ev, q1.evs = q.evs ++ [x] ∧ x.kind ≠ 3 ∧ Alm (a + 1) (b + 1) (s.pickS n 0 0) q1
theorem Alm.turn {a b : Nat} {n : Int} {s q : Ms} (h : Alm a b s q) (hn : (q.mem.length : Int) = n) (hc : ∀ x ∈ (q.side 0).code, InsOk x) : Turn a b n s q (q.pick n 0 0) := by
  have h1 := h.eb
  have h2 := h.ea
  have s1 := short_pick h.sb n 0 0
  have s2 := short_pickS h.sa n 0 0
  have e2 := evs_pickS (s := s) (n := n) 0 0
  rw [pick_step h.al.la] at s1 ⊢
  rw [pick_stepS h.al.lb] at s2 e2
  rcases aln_step h.al hn hc with ⟨o, ⟨x, ex, kx⟩, t⟩ | ⟨o, hx | ⟨x, ex, kx⟩⟩
  · exact .inl ⟨x, ex, kx, t, o, by omega, by rw [ex, List.length_append]; simp; omega, h.sa, s1⟩
  · exact .inr (.inl ⟨hx, by rw [pick_stepS h.al.lb]; exact ⟨o, by omega, by rw [hx]; omega, s2, s1⟩⟩)
  · exact .inr (.inr ⟨x, ex, kx, by rw [pick_stepS h.al.lb]; exact ⟨o, by omega, by rw [ex, List.length_append]; simp; omega, s2, s1⟩⟩)
theorem flush_less {s : Ms} (h1 : s.sides.length = 1) {n : Nat} (h : (s.side 0).buf.length ≤ n + 1) : ((s.flush 0).side 0).buf.length ≤ n := by
  cases hb : (s.side 0).buf with
  | nil => rw [flush_none hb, hb]; exact Nat.zero_le _
  | cons e l =>
    have ef : s.flush 0 = ((s.setB 0 l).setM e.a e.v).note 0 ⟨3, 0, 0, e.a, e.v, 0, 0, false⟩ := by unfold Ms.flush; rw [hb]
    have es : ((((s.setB 0 l).setM e.a e.v).note 0 ⟨3, 0, 0, e.a, e.v, 0, 0, false⟩)).side 0 = ⟨(s.side 0).code, (s.side 0).t, l⟩ := side0_set h1 _
    rw [ef, es]
    rw [hb] at h
    simp at h
    exact h
/-- so many flushes are left at most, till the buffer is empty -/
structure All (k : Nat) (s q : Ms) : Prop where
  al : Aln q s
  sb : Short q
  eb : q.evs.length ≤ 3000 + k
  few : (q.side 0).buf.length ≤ 20 - k
theorem Alm.all {a b : Nat} {s q : Ms} (h : Alm a b s q) (hj : b ≤ 3000) (ho : q.okB = true) : All 0 s q := by
  have h1 := h.eb
  have h2 := ok_side ho 0
  exact ⟨h.al, h.sb, by omega, by omega⟩
theorem All.flush {k : Nat} {s q : Ms} (h : All k s q) (hk : k < 20) (n : Int) : All (k + 1) s (q.pick n 1 0) := by
  have h1 := h.eb
  have h2 := evs_pick1 q n 0
  have h3 := h.few
  refine ⟨?_, short_pick h.sb n 1 0, by omega, ?_⟩
  · rw [pick_flush h.al.la]; exact h.al.flush
  · rw [pick_flush h.al.la]; exact flush_less h.al.la (by omega)
theorem All.mem {s q : Ms} (h : All 20 s q) : s.mem = q.mem := by
  refine h.al.none (List.eq_nil_of_length_eq_zero ?_)
  have := h.few
  omega
def zeros6 : List Int := [0, 0, 0, 0, 0, 0]
theorem zeros6_u : ∀ x ∈ zeros6, U32 x := by
  intro x h
  simp [zeros6] at h
  subst h
  exact ⟨by omega, by omega⟩
/-- a program of this code, six words and a room -/
def alP (cb mz : Nat) (x : Cd) (rm : Int) : Pgm := ⟨some ⟨cb, 0, none⟩, 1, [x], some ⟨mz, 0, none⟩, 6, zeros6, rm⟩
theorem al_start {cb mz : Nat} {x : Cd} {rm : Int} (hc : (chkM (alP cb mz x rm)).2.2 = 0) (hs : Short (newM (alP cb mz x rm))) : Alm 0 0 (newM (alP cb mz x rm)) (newM (alP cb mz x rm)) := by
  have h3 : 1 ≤ rm ∧ rm ≤ 16 := (chk_len hc).2.1
  refine ⟨⟨rfl, rfl, rfl, rfl, rfl, rfl, (fun e he => by cases he), Nat.zero_le _, ?_⟩, Nat.zero_le _, Nat.zero_le _, hs, hs⟩
  show 1 ≤ rm.toNat
  omega
theorem alP_at {cb mz : Nat} {x : Cd} {rm : Int} {w : World} (hc : CdAt x w) (h3 : Has w cb (flatOf codeV [x]).toArray 65) (h4 : Has w mz (flatOf wordL zeros6).toArray 39) : PgAt (alP cb mz x rm) w :=
  ⟨h3.rowAt, (fun y hy => by have h : y ∈ [x] := hy; rw [show y = x by simpa using h]; exact hc), h4.rowAt, (fun e => (by cases e)), zeros6_u⟩
end Go.Proofs.YthbenfnanhpcoaaGreatDoor.Mc

namespace Go.Proofs.YthbenfnanhpcoaaGreatDoor.Mc
open Go.ChangeShapes Go.WideShapes Go.ChangeAt Go.RowKit
set_option linter.unusedVariables false

def byteL (x : Int) : List Value := [.int .u8 x]
theorem byteL_len (x : Int) : (byteL x).length = 1 := rfl
theorem wrap_id (n : Int) (h0 : 0 ≤ n) (h1 : n < 4611686018427387904) : IntKind.i64.wrap n = n := by
  rw [IntKind.wrap_i64]
  omega
theorem wrap_few (n : Nat) (h : n < 256) : IntKind.i64.wrap (n : Int) = n := wrap_id _ (by omega) (by omega)
/-- an end: the law answers true -/
def AloEnd (W : World) (r : Ending) (w' : World) : Prop := r = .returned (.bool true) ∧ Gr W w'
end Go.Proofs.YthbenfnanhpcoaaGreatDoor.Mc
