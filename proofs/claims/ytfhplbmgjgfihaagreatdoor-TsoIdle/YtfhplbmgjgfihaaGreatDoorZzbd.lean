/-
  What same answers of a machine and a world that have more events, or more that sleep, than the other: no. No condition but what the law names.
-/
import Derived.Test.YtfhplbmgjgfihaaGreatDoorZzas
import Derived.Test.YtfhplbmgjgfihaaGreatDoorZzar
import Derived.Test.YtfhplbmgjgfihaaGreatDoorZzbb
import Derived.Test.YtfhplbmgjgfihaaGreatDoorZzat
import Derived.Test.YtfhplbmgjgfihaaGreatDoorZzap
import Derived.Test.YtfhplbmgjgfihaaGreatDoorZzau
import Derived.Test.YtfhplbmgjgfihaaGreatDoorZzbcSamA
namespace Go.Proofs.YtfhplbmgjgfihaaGreatDoor.Wl
open Go.Proofs.YtfhplbmgjgfihaaGreatDoor.Mc Go.ChangeShapes Go.WideShapes Go.ChangeAt Go.RowKit
set_option linter.unusedVariables false
set_option maxRecDepth 20000
set_option maxHeartbeats 1000000 in
theorem same_no {k : Mk} {sm s : Ms} {e : Value} {w : World} (hM : Mw k sm e w) {kw : Wk} {v : Wv} (hW : Ws kw v s w) (hev : sm.evs.length ≤ 100000) (h1 : sm.ths.length = s.ths.length) (h2 : sm.mem.length = s.mem.length) (hne : sm.evs.length ≠ s.evs.length ∨ sm.slp.length ≠ s.slp.length) :
    Calls Tryz.prog 10 #[.pointer (some ⟨k.mb, 0, none⟩), .agg (wldA kw.p v s.room)] w fun r w' => r = .returned (.bool false) ∧ Gr w w' := by
  obtain ⟨tv, bv, mv, sv, ev, bl⟩ := v
  obtain ⟨ta, tc, e1, -⟩ := own_at hW.th
  obtain ⟨ba, bc, e2, -⟩ := own_at hW.bf
  obtain ⟨ma, mc, e3, -⟩ := own_at hW.mem
  obtain ⟨sa, sc, e4, -⟩ := own_at hW.slp
  obtain ⟨ea, ec, e5, -⟩ := own_at hW.evs
  dsimp only at e1 e2 e3 e4 e5
  subst e1 e2 e3 e4 e5
  have g0 := (Gr.refl w).alloc (wldA kw.p ⟨.slice ta s.ths.length tc, .slice ba bl.length bc, .slice ma s.mem.length mc, .slice sa s.slp.length sc, .slice ea s.evs.length ec, bl⟩ s.room) 41
  have hb := Has.new w (wldA kw.p ⟨.slice ta s.ths.length tc, .slice ba bl.length bc, .slice ma s.mem.length mc, .slice sa s.slp.length sc, .slice ea s.evs.length ec, bl⟩ s.room) 41
  have HM := hide (fun u (g : Gr w u) => hM.later g)
  have H1 := hide h1
  have H2 := hide h2
  clear hM hW h1 h2
  go_enter Tryz.func10, Tryz.ntmps10
  go_upto_region 1 with (fail)
  change Code.wp _ _ _ _ (w.alloc (.cells (wldA kw.p ⟨.slice ta s.ths.length tc, .slice ba bl.length bc, .slice ma s.mem.length mc, .slice sa s.slp.length sc, .slice ea s.evs.length ec, bl⟩ s.room) 41))
  generalize w.alloc (.cells (wldA kw.p ⟨.slice ta s.ths.length tc, .slice ba bl.length bc, .slice ma s.mem.length mc, .slice sa s.slp.length sc, .slice ea s.evs.length ec, bl⟩ s.room) 41) = w1 at g0 hb ⊢
  generalize w.heap.size = bx at hb ⊢
  have HB := hide hb
  have T1 := hide (threads_calls (HM.out w1 g0))
  have HG0 := hide g0
  clear g0 hb
  go_wp2_with (fail)
  refine T1.out.mono ?_
  rintro r w2 ⟨⟨rfl, -⟩, g⟩
  rw [H1.out]
  have HG1 := hide (HG0.out.trans g)
  have HB1 := hide (HB.out.later g)
  have T2 := hide (mem_calls (HM.out w2 HG1.out))
  rw [H2.out] at T2
  clear g T1 HG0 HB
  go_wp2_with (fail)
  refine T2.out.mono ?_
  rintro r w3 ⟨va, rfl, oa, g⟩
  obtain ⟨aa, ac, rfl, -⟩ := own_at oa
  have HG2 := hide (HG1.out.trans g)
  have HB2 := hide (HB1.out.later g)
  have T3 := hide (events_calls (HM.out w3 HG2.out) hev)
  clear g oa T2 HG1 HB1
  go_wp2_with (fail)
  refine T3.out.mono ?_
  rintro r w4 ⟨vb, rfl, ob2, g⟩
  obtain ⟨ab, ac2, rfl, -⟩ := own_at ob2
  have HG3 := hide (HG2.out.trans g)
  have HB3 := hide (HB2.out.later g)
  have T4 := hide (sleepers_calls (HM.out w4 HG3.out))
  clear g ob2 T3 HG2 HB2
  go_wp2_with (fail)
  refine T4.out.mono ?_
  rintro r w5 ⟨⟨rfl, g⟩, -⟩
  have HG4 := hide (HG3.out.trans g)
  have hb := HB3.out.later g
  have d1 := hb.cell (o := 1) (v := .slice ta s.ths.length tc) rfl
  have d3 := hb.cell (o := 3) (v := .slice ma s.mem.length mc) rfl
  have d5 := hb.cell (o := 5) (v := .slice sa s.slp.length sc) rfl
  have d6 := hb.cell (o := 6) (v := .slice ea s.evs.length ec) rfl
  clear g hb T4 HG3 HB3 H1 H2 HM hev
  generalize sm.evs.length = n1 at hne ⊢
  generalize s.evs.length = n2 at hne d6 ⊢
  generalize sm.slp.length = m1 at hne ⊢
  generalize s.slp.length = m2 at hne d5 ⊢
  by_cases hq : n1 = n2
  · subst hq
    have hm : ((m1 : Int) == m2) = false := by
      have := hne.resolve_left (fun z => z rfl)
      simp; omega
    have hm2 : ((m1 : Int) != m2) = true := by simp [bne, hm]
    clear hne
    go_wp2_with (fail)
    go_ret
    exact ⟨rfl, HG4.out⟩
  · have hm : ((n1 : Int) == n2) = false := by simp; omega
    have hm2 : ((n1 : Int) != n2) = true := by simp [bne, hm]
    clear hne hq
    go_wp2_with (fail)
    go_ret
    exact ⟨rfl, HG4.out⟩
end Go.Proofs.YtfhplbmgjgfihaaGreatDoor.Wl
namespace Go.Proofs.YtfhplbmgjgfihaaGreatDoor.Mc
open Go.ChangeShapes Go.WideShapes Go.ChangeAt Go.RowKit
set_option linter.unusedVariables false
set_option maxRecDepth 20000
theorem newM_side (p : Pgm) (i : Nat) : ((newM p).side i).buf = [] := by
  unfold newM Ms.side
  simp only [List.getD_eq_getElem?_getD, List.getElem?_map]
  cases p.codes[i]? <;> rfl
theorem newM_short {p : Pgm} (h : (chkM p).2.2 = 0) : Short (newM p) := fun i => by
  have hc := chk_codes h
  unfold newM Ms.side
  simp only [List.getD_eq_getElem?_getD, List.getElem?_map]
  cases he : p.codes[i]? with
  | none => exact Nat.zero_le _
  | some x => have := hc x (List.mem_of_getElem? he); show x.l.length ≤ 100000; omega
end Go.Proofs.YtfhplbmgjgfihaaGreatDoor.Mc
namespace Go.Proofs.YtfhplbmgjgfihaaGreatDoor.Mc
set_option linter.unusedVariables false
/-- a port that keeps what is said of its states -/
structure KeptBy {S : Type} (M : Prt S) (P : S → Prop) : Prop where
  loadS : ∀ s m, P s → P (M.loadS s m)
  store : ∀ s m v, P s → P (M.store s m v)
  flush : ∀ s, P s → P (M.flush s)
  swapS : ∀ s m v, P s → P (M.swapS s m v)
  sleep : ∀ s m, P s → P (M.sleep s m)
  wakeS : ∀ s m v, P s → P (M.wakeS s m v)
  remote : ∀ s, P s → P (M.remote s)
  note : ∀ s x, P s → P (M.note s x)
section
variable {S : Type} {M : Prt S} {P : S → Prop}
theorem kept_end (H : KeptBy M P) {s : S} (h : P s) (t : Th) (st ev : Int) : P (endM M t s st ev).2 := H.note _ _ h
theorem kept_asked (H : KeptBy M P) {s : S} (h : P s) (t : Th) (c : Ins) : P (askedM M t c s).2 := by
  unfold askedM
  split
  · exact H.note _ _ (H.loadS _ _ h)
  · split
    · exact H.note _ _ (H.store _ _ _ h)
    · split
      · unfold waitedM
        split
        · exact H.sleep _ _ (H.note _ _ (H.loadS _ _ h))
        · exact H.note _ _ (H.loadS _ _ h)
      · split
        · exact H.note _ _ (H.wakeS _ _ _ h)
        · refine H.note _ _ ?_
          unfold swapM
          split
          · exact H.swapS _ _ _ (H.loadS _ _ h)
          · exact H.loadS _ _ h
theorem kept_alone (H : KeptBy M P) {s : S} (h : P s) (t : Th) (c : Ins) : P (aloneM M t c s).2 := by
  unfold aloneM
  split
  · exact h
  · split
    · exact h
    · split
      · exact H.note _ _ h
      · split
        · exact H.note _ _ h
        · split
          · exact H.note _ _ (H.remote _ h)
          · split
            · exact H.note _ _ h
            · exact h
theorem kept_done (H : KeptBy M P) {s : S} (h : P s) (t : Th) (c : Ins) : P (doneM M t c s).2 := by
  unfold doneM
  split
  · exact kept_end H h t 2 12
  · split
    · exact h
    · show P (if _ then _ else _ : Th × S).2
      split
      · exact kept_asked H h t c
      · split
        · exact h
        · exact kept_alone H h t c
theorem kept_at (H : KeptBy M P) {s : S} (h : P s) (t : Th) (c : Ins) (k : Int) : P (atM M t c k s).2 := by
  unfold atM
  split
  · exact kept_end H h t 3 13
  · split
    · exact H.flush _ h
    · exact kept_done H h t c
theorem kept_stepM (H : KeptBy M P) {s : S} (h : P s) (t : Th) (code : List Ins) : P (stepM M t code s).2 := by
  unfold stepM
  split
  · exact h
  · split
    · exact kept_end H h t 2 12
    · exact kept_at H h t _ _
end
/-- a status -/
def StOk (t : Th) : Prop := 0 ≤ t.st ∧ t.st ≤ 3
section
variable {S : Type} {M : Prt S}
theorem st_done {t : Th} (h : StOk t) (c : Ins) (s : S) : StOk (doneM M t c s).1 := by
  unfold doneM
  split
  · exact ⟨by show (0 : Int) ≤ 2; decide, by show (2 : Int) ≤ 3; decide⟩
  · split
    · exact h
    · show StOk (Th.at (if _ then _ else _ : Th × S).1 _)
      have key : ∀ (q : Th) (x : Int), StOk q → StOk (q.at x) := fun q x hq => hq
      refine key _ _ ?_
      split
      · unfold askedM
        split
        · exact h
        · split
          · exact h
          · split
            · unfold waitedM
              split
              · exact ⟨by show (0 : Int) ≤ 1; decide, by show (1 : Int) ≤ 3; decide⟩
              · exact h
            · split
              · exact h
              · exact h
      · split
        · exact h
        · unfold aloneM
          repeat' split
          all_goals exact h
theorem st_stepM {t : Th} (h : StOk t) (s : S) (code : List Ins) : StOk (stepM M t code s).1 := by
  unfold stepM
  split
  · exact h
  · split
    · exact ⟨by show (0 : Int) ≤ 2; decide, by show (2 : Int) ≤ 3; decide⟩
    · unfold atM
      split
      · exact ⟨by show (0 : Int) ≤ 3; decide, by show (3 : Int) ≤ 3; decide⟩
      · split
        · exact h
        · exact st_done h _ s
end
structure Tot (N W R : Nat) (s : Ms) : Prop where
  n : s.sides.length = N
  w : s.mem.length = W
  r : s.room = R
  st : ∀ i, StOk (s.side i).t
  buf : ∀ i, (s.side i).buf.length ≤ R
section
variable {N W R : Nat} {s : Ms}
theorem Tot.setS (h : Tot N W R s) (i : Nat) (d : Sd) (h1 : StOk d.t) (h2 : d.buf.length ≤ R) : Tot N W R (s.setS i d) := by
  by_cases hi : i < s.sides.length
  · refine ⟨(setS_len s i d).trans h.n, h.w, h.r, fun j => ?_, fun j => ?_⟩
    · rw [side_set hi]
      split
      · exact h1
      · exact h.st j
    · rw [side_set hi]
      split
      · exact h2
      · exact h.buf j
  · have : s.setS i d = s := by
      unfold Ms.setS
      rw [List.set_eq_of_length_le (by omega)]
    rw [this]
    exact h
theorem Tot.setT (h : Tot N W R s) (i : Nat) (t : Th) (ht : StOk t) : Tot N W R (s.setT i t) := h.setS i _ ht (h.buf i)
theorem Tot.setB (h : Tot N W R s) (i : Nat) (l : List Ent) (hl : l.length ≤ R) : Tot N W R (s.setB i l) := h.setS i _ (h.st i) hl
theorem Tot.note (h : Tot N W R s) (i : Nat) (x : Ev) : Tot N W R (s.note i x) := ⟨h.n, h.w, h.r, h.st, h.buf⟩
theorem Tot.setM (h : Tot N W R s) (m v : Int) : Tot N W R (s.setM m v) := ⟨h.n, (by show (s.mem.set _ _).length = W; rw [List.length_set]; exact h.w), h.r, h.st, h.buf⟩
theorem Tot.setQ (h : Tot N W R s) (l : List Ent) : Tot N W R (s.setQ l) := ⟨h.n, h.w, h.r, h.st, h.buf⟩
theorem Tot.flush (h : Tot N W R s) (i : Nat) : Tot N W R (s.flush i) := by
  unfold Ms.flush
  cases hb : (s.side i).buf with
  | nil => exact h
  | cons x l =>
    have := h.buf i
    rw [hb] at this
    exact ((h.setB i l (Nat.le_trans (Nat.le_succ _) this)).setM _ _).note i _
theorem Tot.drain (i : Nat) : ∀ (n : Nat) {s : Ms}, Tot N W R s → Tot N W R (s.drain i n)
  | 0, s, h => h
  | n + 1, s, h => (Tot.drain i n (h.flush i) : Tot N W R ((s.flush i).drain i n))
theorem Tot.remote (h : Tot N W R s) : Tot N W R s.remote := by
  have key : ∀ (l : List Nat) (s : Ms), Tot N W R s → Tot N W R (l.foldl (fun s i => s.drain i (s.side i).buf.length) s) := by
    intro l
    induction l with
    | nil => intro s h; exact h
    | cons i l ih => intro s h; exact ih _ (Tot.drain i _ h)
  exact key _ s h
theorem st_is0 (t : Th) : StOk (t.is 0) := ⟨by show (0 : Int) ≤ 0; decide, by show (0 : Int) ≤ 3; decide⟩
theorem Tot.rise (h : Tot N W R s) (x : Int) : Tot N W R (s.rise x) := h.setT _ _ (st_is0 _)
theorem Tot.wake (h : Tot N W R s) (m v : Int) : Tot N W R (s.wake m v) := by
  have key : ∀ (l : List Int) (s : Ms), Tot N W R s → Tot N W R (l.foldl Ms.rise s) := by
    intro l
    induction l with
    | nil => intro s h; exact h
    | cons i l ih => intro s h; exact ih _ (h.rise i)
  exact key _ _ (h.setQ _)
theorem tot_kept (n : Int) (i : Nat) : KeptBy (port n i) (Tot N W R) where
  loadS _ _ h := h
  store s m v h := h.setB i _ (by
    have := h.buf i
    have hr := h.r
    show (Bf.putL s.room (s.side i).buf ⟨m, v⟩).length ≤ R
    unfold Bf.putL
    split
    · rw [List.length_append]
      show (s.side i).buf.length + 1 ≤ R
      omega
    · exact this)
  flush _ h := h.flush i
  swapS _ _ _ h := h.setM _ _
  sleep _ _ h := h.setQ _
  wakeS _ _ _ h := h.wake _ _
  remote _ h := h.remote
  note _ _ h := h.note i _
theorem tot_pick (h : Tot N W R s) (n kind who : Int) : Tot N W R (s.pick n kind who) := by
  unfold Ms.pick
  split
  · split
    · exact (kept_stepM (tot_kept n who.toNat) h _ _).setT _ _ (st_stepM (h.st _) s _)
    · split
      · exact h.flush _
      · split
        · unfold Ms.rouse
          split
          · exact (((h.setQ _).rise _).note _ _)
          · exact h
        · exact h
  · exact h
end
theorem tot_start (p : Pgm) : Tot p.codes.length p.mem.length p.room.toNat (newM p) := by
  refine ⟨by unfold newM; simp, rfl, rfl, fun i => ?_, fun i => by rw [newM_side]; exact Nat.zero_le _⟩
  unfold newM Ms.side
  simp only [List.getD_eq_getElem?_getD, List.getElem?_map]
  cases p.codes[i]? <;> exact ⟨by show (0 : Int) ≤ 0; decide, by show (0 : Int) ≤ 3; decide⟩
/-- a thread sleeps -/
def Slp (s : Ms) (j : Nat) : Prop := ∃ x ∈ s.slp, x.a = (j : Int)
def stA (s : Ms) (j : Nat) : Int := (s.side j).t.st
theorem idx_slp (who : Int) : ∀ l : List Ent, Kn.idx who l < l.length ↔ ∃ x ∈ l, x.a = who
  | [] => by simp [Kn.idx]
  | x :: l => by
    unfold Kn.idx
    by_cases h : x.a = who
    · rw [if_pos h]
      exact ⟨fun _ => ⟨x, by simp, h⟩, fun _ => by simp⟩
    · rw [if_neg h]
      have ih := idx_slp who l
      constructor
      · intro hk
        obtain ⟨y, hy, e⟩ := ih.1 (by simp at hk; omega)
        exact ⟨y, by simp [hy], e⟩
      · rintro ⟨y, hy, e⟩
        rcases List.mem_cons.1 hy with rfl | hy
        · exact absurd e h
        · have := ih.2 ⟨y, hy, e⟩
          simp
          omega
theorem side_setS (s : Ms) (i : Nat) (d : Sd) (j : Nat) : (s.setS i d).side j = if j = i ∧ i < s.sides.length then d else s.side j := by
  by_cases hi : i < s.sides.length
  · rw [side_set hi]
    by_cases hj : j = i
    · rw [if_pos hj, if_pos ⟨hj, hi⟩]
    · rw [if_neg hj, if_neg (fun h => hj h.1)]
  · rw [if_neg (fun h => hi h.2)]
    unfold Ms.side Ms.setS
    rw [List.set_eq_of_length_le (Nat.le_of_not_lt hi)]
theorem stA_setT (s : Ms) (i : Nat) (t : Th) (j : Nat) : stA (s.setT i t) j = if j = i ∧ i < s.sides.length then t.st else stA s j := by
  unfold stA Ms.setT
  rw [side_setS]
  split <;> rfl
theorem stA_setB (s : Ms) (i : Nat) (l : List Ent) (j : Nat) : stA (s.setB i l) j = stA s j := by
  unfold stA Ms.setB
  rw [side_setS]
  split
  · rename_i h; rw [h.1]
  · rfl
theorem stA_flush (s : Ms) (i j : Nat) : stA (s.flush i) j = stA s j := by
  unfold Ms.flush
  cases (s.side i).buf with
  | nil => rfl
  | cons x l => exact stA_setB s i l j
theorem slp_flush (s : Ms) (i : Nat) : (s.flush i).slp = s.slp := by
  unfold Ms.flush
  cases (s.side i).buf with
  | nil => rfl
  | cons x l => rfl
theorem stA_drain (i j : Nat) : ∀ (n : Nat) (s : Ms), stA (s.drain i n) j = stA s j
  | 0, s => rfl
  | n + 1, s => (stA_drain i j n (s.flush i)).trans (stA_flush s i j)
theorem slp_drain (i : Nat) : ∀ (n : Nat) (s : Ms), (s.drain i n).slp = s.slp
  | 0, s => rfl
  | n + 1, s => (slp_drain i n (s.flush i)).trans (slp_flush s i)
theorem rem_fold (j : Nat) : ∀ (l : List Nat) (s : Ms), stA (l.foldl (fun s i => s.drain i (s.side i).buf.length) s) j = stA s j ∧ (l.foldl (fun s i => s.drain i (s.side i).buf.length) s).slp = s.slp
  | [], s => ⟨rfl, rfl⟩
  | i :: l, s => by
    obtain ⟨h1, h2⟩ := rem_fold j l (s.drain i (s.side i).buf.length)
    exact ⟨h1.trans (stA_drain i j _ s), h2.trans (slp_drain i _ s)⟩
theorem stA_rise (s : Ms) (x : Int) (j : Nat) : stA (s.rise x) j = if j = x.toNat then 0 else stA s j := by
  unfold Ms.rise
  rw [stA_setT]
  by_cases hj : j = x.toNat
  · rw [if_pos hj]
    by_cases hi : x.toNat < s.sides.length
    · rw [if_pos ⟨hj, hi⟩]; rfl
    · rw [if_neg (fun h => hi h.2)]
      unfold stA Ms.side
      rw [List.getD_eq_getElem?_getD, List.getElem?_eq_none (by omega)]
      rfl
  · rw [if_neg hj, if_neg (fun h => hj h.1)]
theorem stA_rises (j : Nat) : ∀ (l : List Int) (s : Ms), (∀ x ∈ l, 0 ≤ x) → stA (l.foldl Ms.rise s) j = if (j : Int) ∈ l then 0 else stA s j
  | [], s, _ => by simp
  | x :: l, s, h => by
    rw [List.foldl_cons, stA_rises j l _ (fun y hy => h y (by simp [hy])), stA_rise]
    have h0 := h x (by simp)
    by_cases h1 : (j : Int) ∈ l
    · rw [if_pos h1, if_pos (by simp [h1])]
    · rw [if_neg h1]
      by_cases h2 : j = x.toNat
      · rw [if_pos h2, if_pos (by rw [List.mem_cons]; left; omega)]
      · rw [if_neg h2, if_neg (fun h3 => (List.mem_cons.1 h3).elim (fun h4 => h2 (by omega)) h1)]
theorem rises_slp : ∀ (l : List Int) (s : Ms), (l.foldl Ms.rise s).slp = s.slp
  | [], s => rfl
  | x :: l, s => rises_slp l (s.rise x)
/-- who is left, and who is woken: all, once -/
theorem sift_perm (st : Nat → Ent → Bool) (nx : Nat → Ent → Nat) : ∀ (l : List Ent) (s : Kq.S3), (((l.foldl (Kq.sift1 st nx) s).left.map Ent.a) ++ (l.foldl (Kq.sift1 st nx) s).out).Perm ((s.left.map Ent.a) ++ s.out ++ l.map Ent.a)
  | [], s => by simp
  | x :: l, s => by
    refine (sift_perm st nx l _).trans ?_
    unfold Kq.sift1
    dsimp only
    cases st s.n x
    · simp only [Bool.false_eq_true, if_false, List.map_append, List.map_cons, List.map_nil]
      rw [List.append_assoc, List.append_assoc, List.append_assoc]
      refine List.Perm.append_left _ ?_
      refine List.perm_append_comm.trans ?_
      rw [List.append_assoc]
      refine List.Perm.append_left _ ?_
      exact List.perm_append_comm
    · simp only [if_true, List.map_cons]
      rw [← List.append_assoc, List.append_assoc _ [x.a]]
      exact List.Perm.refl _
structure Zoth (i : Nat) (s : Ms) : Prop where
  ok : Kn.Ok s.slp
  oth : ∀ j, j ≠ i → (stA s j = 1 ↔ Slp s j)
  not : ¬ Slp s i
theorem Zoth.same {i : Nat} {s s' : Ms} (h : Zoth i s) (h1 : ∀ j, stA s' j = stA s j) (h2 : s'.slp = s.slp) : Zoth i s' := by
  refine ⟨by rw [h2]; exact h.ok, fun j hj => ?_, fun h3 => h.not ?_⟩
  · rw [h1, h.oth j hj]
    unfold Slp
    rw [h2]
  · unfold Slp at h3 ⊢
    rwa [h2] at h3
theorem slp_map (s : Ms) (j : Nat) : Slp s j ↔ (j : Int) ∈ s.slp.map Ent.a := by
  unfold Slp
  rw [List.mem_map]
theorem Zoth.wake {i : Nat} {s : Ms} (h : Zoth i s) (m v : Int) : Zoth i (s.wake m v) := by
  have hp := sift_perm (Kq.stW m) (Kq.nxW m) s.slp ⟨v.toNat, [], []⟩
  have e1 : s.slp.foldl (Kq.sift1 (Kq.stW m) (Kq.nxW m)) ⟨v.toNat, [], []⟩ = s.sift m v.toNat := rfl
  rw [e1] at hp
  simp only [List.map_nil, List.nil_append] at hp
  have hmem : ∀ x, x ∈ s.slp.map Ent.a ↔ x ∈ (s.sift m v.toNat).left.map Ent.a ∨ x ∈ (s.sift m v.toNat).out := fun x => by rw [← hp.mem_iff, List.mem_append]
  have hnd := hp.nodup_iff.2 h.ok.1
  have hdis : ∀ x, x ∈ (s.sift m v.toNat).left.map Ent.a → x ∈ (s.sift m v.toNat).out → False := fun x h1 h2 => (List.nodup_append.1 hnd).2.2 x h1 x h2 rfl
  have hpos : ∀ x ∈ (s.sift m v.toNat).out, 0 ≤ x := fun x hx => by
    obtain ⟨y, hy, rfl⟩ := List.mem_map.1 ((hmem x).2 (Or.inr hx))
    exact (h.ok.2 y hy).1
  have hslp : (s.wake m v).slp = (s.sift m v.toNat).left := rises_slp _ _
  have hst : ∀ j, stA (s.wake m v) j = if (j : Int) ∈ (s.sift m v.toNat).out then 0 else stA s j := fun j => stA_rises j _ (s.setQ (s.sift m v.toNat).left) hpos
  refine ⟨by rw [hslp]; exact h.ok.sub (sift_left _ _ _), fun j hj => ?_, fun h3 => h.not ?_⟩
  · rw [hst, slp_map, hslp]
    have h4 := h.oth j hj
    rw [slp_map, hmem] at h4
    by_cases hx : (j : Int) ∈ (s.sift m v.toNat).out
    · rw [if_pos hx]
      exact ⟨fun h5 => absurd h5 (by decide), fun h5 => (hdis _ h5 hx).elim⟩
    · rw [if_neg hx, h4]
      exact ⟨fun h5 => h5.resolve_right hx, Or.inl⟩
  · rw [slp_map] at h3 ⊢
    rw [hslp] at h3
    exact (hmem _).2 (Or.inl h3)
theorem Zoth.swapped {i : Nat} {s : Ms} (h : Zoth i s) (n : Int) (t : Th) (c : Ins) (m : Int) : Zoth i (swapM (port n i) t c s m) := by
  unfold swapM
  split
  · exact h.same (fun j => rfl) rfl
  · exact h
/-- what is so behind a thread's step -/
def Zend (i : Nat) (q : Th × Ms) : Prop := (∀ j, j ≠ i → (stA q.2 j = 1 ↔ Slp q.2 j)) ∧ (q.1.st = 1 ↔ Slp q.2 i)
theorem Zoth.ends {i : Nat} {s : Ms} (h : Zoth i s) {t : Th} (ht : t.st ≠ 1) : Zend i (t, s) := ⟨h.oth, fun h1 => absurd h1 ht, fun h1 => absurd h1 h.not⟩
theorem Zoth.note {i : Nat} {s : Ms} (h : Zoth i s) (k : Nat) (x : Ev) : Zoth i (s.note k x) := h.same (fun j => rfl) rfl
section
variable {i : Nat} {s : Ms} {n : Int} {t : Th}
theorem zend_asked (h : Zoth i s) (hi : i < 8) (ht : t.st ≠ 1) (c : Ins) : Zend i (askedM (port n i) t c s) := by
  unfold askedM
  split
  · exact (h.note i _).ends ht
  · split
    · exact ((h.same (s' := s.store i _ _) (fun j => stA_setB _ _ _ _) rfl).note i _).ends ht
    · split
      · unfold waitedM
        split
        · have hn : ¬ Kn.idx (i : Int) s.slp < s.slp.length := fun h1 => h.not ((idx_slp _ _).1 h1)
          have e1 : Kq.sleepL (i : Int) (addrM t c) s.slp = s.slp ++ [⟨i, addrM t c⟩] := by
            have e0 : Kq.sleepE (i : Int) s.slp = 0 := by
              unfold Kq.sleepE
              rw [if_neg (by omega), if_neg hn]
            unfold Kq.sleepL
            rw [if_pos e0]
          have e2 : (((s.note i ⟨8, 0, t.pc, addrM t c, s.load i (addrM t c), 0, 0, true⟩).sleep i (addrM t c))).slp = s.slp ++ [⟨i, addrM t c⟩] := e1
          refine ⟨fun j hj => ?_, ?_⟩
          · refine (h.oth j hj).trans ?_
            rw [slp_map, slp_map]
            show _ ↔ _ ∈ List.map Ent.a (Kq.sleepL (i : Int) (addrM t c) s.slp)
            rw [e1, List.map_append, List.mem_append]
            refine ⟨Or.inl, fun h1 => h1.resolve_right fun h2 => ?_⟩
            simp at h2
            omega
          · refine ⟨fun _ => ?_, fun _ => rfl⟩
            rw [slp_map]
            show _ ∈ List.map Ent.a (Kq.sleepL (i : Int) (addrM t c) s.slp)
            rw [e1]
            simp
        · exact (h.note i _).ends ht
      · split
        · exact ((h.wake _ _).note i _).ends ht
        · exact ((h.swapped n t c _).note i _).ends ht
theorem zend_alone (h : Zoth i s) (ht : t.st ≠ 1) (c : Ins) : Zend i (aloneM (port n i) t c s) := by
  unfold aloneM
  split
  · exact h.ends ht
  · split
    · exact h.ends ht
    · split
      · exact (h.note i _).ends ht
      · split
        · exact (h.note i _).ends ht
        · split
          · exact ((h.same (s' := s.remote) (fun j => (rem_fold j _ s).1) (rem_fold 0 _ s).2).note i _).ends ht
          · split
            · exact (h.note i _).ends ht
            · exact h.ends ht
theorem zend_step (h : Zoth i s) (hi : i < 8) (ht : t.st = 0) (code : List Ins) : Zend i (stepM (port n i) t code s) := by
  have h1 : t.st ≠ 1 := by rw [ht]; decide
  unfold stepM
  rw [ht]
  split
  · exact h.ends h1
  · split
    · exact (h.note i _).ends (by show (2 : Int) ≠ 1; decide)
    · unfold atM
      split
      · exact (h.note i _).ends (by show (3 : Int) ≠ 1; decide)
      · split
        · exact (h.same (s' := s.flush i) (fun j => stA_flush _ _ _) (slp_flush _ _)).ends h1
        · unfold doneM
          split
          · exact (h.note i _).ends (by show (2 : Int) ≠ 1; decide)
          · split
            · exact h.ends h1
            · have key : ∀ q : Th × Ms, Zend i q → Zend i (onM q) := fun q hq => hq
              refine key _ ?_
              split
              · exact zend_asked h hi h1 _
              · split
                · exact h.ends h1
                · exact zend_alone h h1 _
end
/-- a thread's status is 1 just if it sleeps -/
def Zrun (s : Ms) : Prop := ∀ j, stA s j = 1 ↔ Slp s j
theorem sides_step (n : Int) (i : Nat) (t : Th) (code : List Ins) (s : Ms) : (stepM (port n i) t code s).2.sides.length = s.sides.length := by
  have h := congrArg List.length (rest_stepM (rest_codes n i) t code s)
  unfold Ms.codes at h
  simpa using h
theorem zrun_pick {s : Ms} (h : Zrun s) (hok : s.okB = true) (hs : Kn.Ok s.slp) (n kind who : Int) : Zrun (s.pick n kind who) := by
  unfold Ms.pick
  split
  · rename_i hw
    have hi : who.toNat < s.sides.length := by omega
    have h8 := (ok_room hok).2
    split
    · by_cases ht : (s.side who.toNat).t.st = 0
      · have hz : Zoth who.toNat s := ⟨hs, fun j _ => h j, fun h1 => by have := (h who.toNat).2 h1; unfold stA at this; omega⟩
        obtain ⟨h1, h2⟩ := zend_step (n := n) hz (by omega) ht (s.side who.toNat).code
        intro j
        unfold Ms.step
        rw [stA_setT, sides_step]
        by_cases hj : j = who.toNat
        · rw [if_pos ⟨hj, hi⟩, hj]
          exact h2
        · rw [if_neg (fun h => hj h.1)]
          exact h1 j hj
      · unfold Ms.step stepM
        rw [if_pos (by simpa using ht)]
        intro j
        rw [stA_setT]
        split
        · rename_i h1
          rw [← h1.1]
          exact h j
        · exact h j
    · split
      · intro j
        rw [stA_flush, h j]
        unfold Slp
        rw [slp_flush]
      · split
        · unfold Ms.rouse
          split
          · intro j
            have e : ((s.setQ (Kq.rouseL (who.toNat : Int) s.slp)).rise who.toNat).slp = s.slp.filter fun x => !(x.a == (who.toNat : Int)) := rfl
            show stA ((s.setQ (Kq.rouseL (who.toNat : Int) s.slp)).rise who.toNat) j = 1 ↔ ∃ x ∈ ((s.setQ (Kq.rouseL (who.toNat : Int) s.slp)).rise who.toNat).slp, x.a = (j : Int)
            rw [stA_rise, e]
            have h1 := h j
            by_cases hj : j = ((who.toNat : Int)).toNat
            · rw [if_pos hj]
              refine ⟨fun h2 => absurd h2 (by decide), ?_⟩
              rintro ⟨x, hx, hxa⟩
              have := (List.mem_filter.1 hx).2
              simp at this
              omega
            · rw [if_neg hj]
              show stA s j = 1 ↔ _
              rw [h1]
              constructor
              · rintro ⟨x, hx, hxa⟩
                exact ⟨x, List.mem_filter.2 ⟨hx, by simp; omega⟩, hxa⟩
              · rintro ⟨x, hx, hxa⟩
                exact ⟨x, (List.mem_filter.1 hx).1, hxa⟩
          · exact h
        · exact h
  · exact h
theorem zrun_start (p : Pgm) : Zrun (newM p) := fun j => by
  have e : stA (newM p) j = 0 := by
    unfold stA newM Ms.side
    simp only [List.getD_eq_getElem?_getD, List.getElem?_map]
    cases p.codes[j]? <;> rfl
  rw [e]
  exact ⟨fun h => absurd h (by decide), fun ⟨x, hx, _⟩ => by cases hx⟩
end Go.Proofs.YtfhplbmgjgfihaaGreatDoor.Mc
namespace Go.Proofs.YtfhplbmgjgfihaaGreatDoor.Wl
open Go.Proofs.YtfhplbmgjgfihaaGreatDoor.Mc Go.ChangeShapes Go.WideShapes Go.ChangeAt Go.RowKit
set_option linter.unusedVariables false
theorem calls_some {P : Program} {f : FuncId} {args : Array Value} {w : World} {R : Ending → World → Prop} (h : Calls P f args w R) : ∃ e w', R e w' := by
  obtain ⟨e, w', fr, h1, -⟩ := h []
  exact ⟨e, w', h1⟩
/-- what a run keeps -/
structure Kept3 (p : Pgm) (s : Ms) : Prop where
  tot : Tot p.codes.length p.mem.length p.room.toNat s
  run : Zrun s
  cod : s.codes = (newM p).codes
theorem kept3_start (p : Pgm) : Kept3 p (newM p) := ⟨tot_start p, zrun_start p, rfl⟩
theorem Kept3.pick {p : Pgm} {s : Ms} (h : Kept3 p s) (hok : s.okB = true) (hs : Kn.Ok s.slp) (n kind who : Int) : Kept3 p (s.pick n kind who) :=
  ⟨tot_pick h.tot n kind who, zrun_pick h.run hok hs n kind who, (codes_pick s n kind who).trans h.cod⟩
theorem codes_newM (p : Pgm) (i : Nat) : (newM p).codes.getD i [] = (p.codes.getD i cd0).l := by
  unfold newM Ms.codes
  rw [List.map_map]
  simp only [List.getD_eq_getElem?_getD, List.getElem?_map]
  cases p.codes[i]? <;> rfl
/-- what holds of a machine that lies in a world -/
theorem fit_of {p : Pgm} {k : Mk} {s : Ms} {e : Value} {w : World} (hM : Mw k s e w) (h : Kept3 p s) (hc : (chkM p).2.2 = 0) (hev : s.evs.length ≤ 90000) : (Fit p s ∧ ∀ i, (s.side i).buf.length ≤ s.room) ∧ s.mem.length = p.mem.length := by
  have hsd : ∀ i, i < s.sides.length → ∃ x, k.ss[i]? = some x := fun i hi => ⟨_, List.getElem?_eq_getElem (by rw [hM.len]; exact hi)⟩
  refine ⟨⟨?_, fun i => by rw [h.tot.r]; exact h.tot.buf i⟩, h.tot.w⟩
  exact {
    num := h.tot.n.symm
    code := fun i _ => by rw [codes_get, h.cod, codes_newM]
    short := fun x hx => Nat.le_trans (chk_codes hc x hx) (by omega)
    th := fun i hi => by
      obtain ⟨x, hx⟩ := hsd i hi
      exact (hM.side i x hx).th
    ent := fun i e he => by
      by_cases hi : i < s.sides.length
      · obtain ⟨x, hx⟩ := hsd i hi
        rw [hM.num]
        exact (hM.side i x hx).ent e he
      · unfold Ms.side at he
        rw [List.getD_eq_getElem?_getD, List.getElem?_eq_none (by omega)] at he
        cases he
    wrd := hM.wrd
    ok := hM.ok
    mem := by rw [hM.num]; exact hM.most
    evs := hev
    slp := hM.slp
    few := hM.few
    run := fun i _ => (h.run i).trans (idx_slp _ _).symm }
theorem all_ready {p : Pgm} {k : Mk} {e : Value} {w : World} (hM : Mw k (newM p) e w) (hN : k.N = p.mem.length) (hc : (chkM p).2.2 = 0) (l : List Ent) (hl : l.length ≤ 600) (a : Option Addr) (hrow : RowAt w a (flatOf slpL l)) (hout : ∀ y, a = some y → 0 < l.length → y.block ∉ k.foot e) :
    ∀ j, j ≤ l.length → (Fit p ((newM p).run p.mem.length (l.take j)) ∧ ∀ i, (((newM p).run p.mem.length (l.take j)).side i).buf.length ≤ ((newM p).run p.mem.length (l.take j)).room) ∧ ((newM p).run p.mem.length (l.take j)).mem.length = p.mem.length := by
  intro j hj
  have hlen : (l.take j).length = j := by rw [List.length_take]; omega
  have hr : RowAt w a (flatOf slpL (l.take j)) := by
    rw [flatOf_take slpL_len]
    exact hrow.take _
  have q := run_does k (Kept3 p) (fun s e w kind who hMw h => h.pick hMw.ok hMw.slp k.N kind who) (l.take j) a 0 (by omega) (newM p) (kept3_start p) (Nat.zero_le _) (newM_short hc) w (k.foot e) ⟨e, hM, rfl⟩ hr (fun y hy h0 => hout y hy (by omega))
  obtain ⟨r, w', ⟨-, hp⟩, hk, hev⟩ := calls_some q
  obtain ⟨e', hM'⟩ := Pst.mw hp
  rw [hN] at hM' hk hev
  exact fit_of hM' hk hc (by omega)
/-- picks that change nothing -/
def Idle (s : Ms) (kind who : Int) : Prop := who < 0 ∨ (s.sides.length : Int) ≤ who ∨ kind < 0 ∨ 2 < kind ∨ (kind = 0 ∧ stA s who.toNat ≠ 0) ∨ (kind = 1 ∧ (s.side who.toNat).buf = []) ∨ (kind = 2 ∧ stA s who.toNat ≠ 1)
theorem idle_same {s : Ms} (hz : Zrun s) (n : Int) {kind who : Int} (h : Idle s kind who) : s.pick n kind who = s := by
  unfold Ms.pick
  split
  · rename_i hw
    rcases h with h | h | h | h | ⟨rfl, h⟩ | ⟨rfl, h⟩ | ⟨rfl, h⟩
    · omega
    · omega
    · rw [if_neg (by omega), if_neg (by omega), if_neg (by omega)]
    · rw [if_neg (by omega), if_neg (by omega), if_neg (by omega)]
    · rw [if_pos rfl]
      unfold stA at h
      unfold Ms.step stepM
      rw [if_pos (by simpa using h)]
      exact setT_same s _
    · rw [if_neg (by omega), if_pos rfl]
      unfold Ms.flush
      rw [h]
    · rw [if_neg (by omega), if_neg (by omega), if_pos rfl]
      unfold Ms.rouse
      rw [if_neg (fun h2 => h ((hz _).2 ((idx_slp _ _).1 h2)))]
  · rfl
theorem flush_more {s : Ms} {i : Nat} (h : (s.side i).buf ≠ []) : (s.flush i).evs.length = s.evs.length + 1 := by
  unfold Ms.flush
  cases hb : (s.side i).buf with
  | nil => exact absurd hb h
  | cons x l =>
    show (s.evs ++ [_]).length = _
    simp
theorem pick_more {s : Ms} (hz : Zrun s) (n : Int) {kind who : Int} (h0 : 0 ≤ who) (h1 : who < s.sides.length) (h : (kind = 1 ∧ (s.side who.toNat).buf ≠ []) ∨ (kind = 2 ∧ stA s who.toNat = 1)) : (s.pick n kind who).evs.length = s.evs.length + 1 := by
  unfold Ms.pick
  rw [if_pos ⟨h0, h1⟩]
  rcases h with ⟨rfl, h⟩ | ⟨rfl, h⟩
  · rw [if_neg (by omega), if_pos rfl]
    exact flush_more h
  · rw [if_neg (by omega), if_neg (by omega), if_pos rfl]
    unfold Ms.rouse
    rw [if_pos ((idx_slp _ _).2 ((hz _).1 h)), evs_note]
    rfl
/-- the world lies there yet, told from an earlier world on -/
theorem Ws.kept {g : Nat} {w5 w3 w w' : World} {p : Pgm} {v : Wv} {s : Ms} {F : List Nat} (h : Ws ⟨g, w5, p⟩ v s w) (q : Kp F w w') (hF : ∀ x ∈ F, x < w5.heap.size) (gW : Gr w3 w') (hl : w3.heap.size ≤ w5.heap.size) (hp : PgAt p w3) : Ws ⟨g, w3, p⟩ v s w' := by
  have row : ∀ {t sz n v xs}, w.ownsRow w5.heap.size t sz v n xs → w'.ownsRow w3.heap.size t sz v n xs := fun h1 => own_lower (own_kept h1 q fun x hx hm => by
    have a := hF x hm
    have b := (h1.lt x hx).1
    omega) hl
  exact ⟨h.box.kept q (fun hm => by
    have a := hF g hm
    have b : w5.heap.size ≤ g := h.lo
    omega), Nat.le_trans hl h.lo, gW, hp, row h.th, row h.bf, h.bn, fun i x hx => row (h.each i x hx), row h.mem, row h.slp, row h.evs⟩
theorem after_pick {k : Mk} {s s' : Ms} {e5 : Value} {g : Nat} {w3 w5 w7 w8 : World} {p : Pgm} {v : Wv} (h5 : Mw k s e5 w5) (hF : ∀ y ∈ k.foot e5, w3.heap.size ≤ y) (hW : Ws ⟨g, w5, p⟩ v s w7) (p2 : Pst (MI k) (k.foot e5) w7 [] s' w8) (g37 : Gr w3 w7) (hp : PgAt p w3) (hl : w3.heap.size ≤ w5.heap.size) :
    ∃ e8, Mw k s' e8 w8 ∧ Ws ⟨g, w3, p⟩ v s w8 ∧ Gr w3 w8 := by
  obtain ⟨F', ⟨e8, h8, -⟩, kp, -⟩ := p2
  have g38 := Kp.gr g37 kp hF
  exact ⟨e8, h8, hW.kept kp (fun x hx => h5.bnd x hx) g38 hl hp, g38⟩
/-- what same answers: yes if the pick changed nothing, no if it added an event -/
def More (s : Ms) (kind who : Int) : Prop := (0 ≤ who ∧ who < s.sides.length) ∧ ((kind = 1 ∧ (s.side who.toNat).buf ≠ []) ∨ (kind = 2 ∧ stA s who.toNat = 1))
def SameQ (A B : Prop) (w : World) (r : Ending) (w' : World) : Prop := ∃ b, r = .returned (.bool b) ∧ (A → b = true) ∧ (B → b = false) ∧ Gr w w'
theorem same_pick {k : Mk} {p : Pgm} {s : Ms} {e5 e8 : Value} {w5 w8 : World} {kw : Wk} {v : Wv} (h5 : Mw k s e5 w5) (h3 : Kept3 p s) (hev : s.evs.length ≤ 90000) (n kind who : Int) (h8 : Mw k (s.pick n kind who) e8 w8) (hW : Ws kw v s w8) :
    Calls Tryz.prog 10 #[.pointer (some ⟨k.mb, 0, none⟩), .agg (wldA kw.p v s.room)] w8 (SameQ (Idle s kind who) (More s kind who) w8) := by
  have hk := h3.pick h5.ok h5.slp n kind who
  have e1 : (s.pick n kind who).ths.length = s.ths.length := by rw [ths_len, ths_len, hk.tot.n, h3.tot.n]
  have e2 : (s.pick n kind who).mem.length = s.mem.length := by rw [hk.tot.w, h3.tot.w]
  have he := evs_pick (n := n) h5.ok kind who
  have hid := fun h => idle_same h3.run n (kind := kind) (who := who) h
  have hmo := fun (h : More s kind who) => pick_more h3.run n h.1.1 h.1.2 h.2
  by_cases hq : (s.pick n kind who).evs.length = s.evs.length ∧ (s.pick n kind who).slp.length = s.slp.length
  · refine (same_any h8 hW (by omega) h5 e1 e2 hq.1 hq.2 (Idle s kind who) hid).mono ?_
    rintro r w' ⟨b, rfl, hb, g⟩
    exact ⟨b, rfl, hb, fun h => by
      have := hmo h
      omega, g⟩
  · refine (same_no h8 hW (by omega) e1 e2 (by omega)).mono ?_
    rintro r w' ⟨rfl, g⟩
    exact ⟨false, rfl, fun h => absurd (by rw [hid h]; exact ⟨rfl, rfl⟩) hq, fun _ => rfl, g⟩
theorem st_at {w : World} {b o : Nat} {l : List Th} (h : RowAt w (some ⟨b, o, none⟩) (flatOf thR l)) {i : Nat} (hi : i < l.length) : w.cell? ⟨b, o + i * 10 + 9, none⟩ = some (.int .i64 (l.getD i thZ).st) := by
  have c := h.cell thR_len hi thZ 9 (by omega)
  rw [Nat.add_assoc, c]
  simp [thR]
end Go.Proofs.YtfhplbmgjgfihaaGreatDoor.Wl
