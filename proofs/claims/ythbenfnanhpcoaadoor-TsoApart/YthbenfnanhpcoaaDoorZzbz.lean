/-
  A thread's step over two ports that answer alike comes to the same. No program, no condition.
-/
import Derived.Test.YthbenfnanhpcoaaDoorZzag
import Derived.Test.YthbenfnanhpcoaaDoorZzbo
import Derived.Test.YthbenfnanhpcoaaDoorZzbk
namespace Go.Proofs.YthbenfnanhpcoaaDoor.Mc
set_option linter.unusedVariables false

/-- two ports answer alike, as long as their states stay alike -/
structure SimP {S T : Type} (M : Prt S) (N : Prt T) (R : S → T → Prop) : Prop where
  size : M.size = N.size
  load : ∀ a b m, R a b → M.load a m = N.load b m
  loadS : ∀ a b m, R a b → R (M.loadS a m) (N.loadS b m)
  room : ∀ a b, R a b → M.room a = N.room b
  store : ∀ a b m v, R a b → R (M.store a m v) (N.store b m v)
  empty : ∀ a b, R a b → M.empty a = N.empty b
  flush : ∀ a b, R a b → R (M.flush a) (N.flush b)
  swapS : ∀ a b m v, R a b → R (M.swapS a m v) (N.swapS b m v)
  sleep : ∀ a b m, R a b → R (M.sleep a m) (N.sleep b m)
  wake : ∀ a b m v, R a b → M.wake a m v = N.wake b m v
  wakeS : ∀ a b m v, R a b → R (M.wakeS a m v) (N.wakeS b m v)
  remote : ∀ a b, R a b → R (M.remote a) (N.remote b)
  note : ∀ a b x, R a b → R (M.note a x) (N.note b x)

section
variable {S T : Type} {M : Prt S} {N : Prt T} {R : S → T → Prop}
def Alk {S T : Type} (R : S → T → Prop) (p : Th × S) (q : Th × T) : Prop := p.1 = q.1 ∧ R p.2 q.2
theorem sim_end (H : SimP M N R) {a : S} {b : T} (h : R a b) (t : Th) (st ev : Int) : Alk R (endM M t a st ev) (endM N t b st ev) := ⟨rfl, H.note _ _ _ h⟩
theorem sim_loaded (H : SimP M N R) {a : S} {b : T} (h : R a b) (t : Th) (i : Ins) (m : Int) : Alk R (loadedM M t i a m) (loadedM N t i b m) := by
  unfold loadedM
  rw [H.load a b m h]
  exact ⟨rfl, H.note _ _ _ (H.loadS _ _ _ h)⟩
theorem sim_stored (H : SimP M N R) {a : S} {b : T} (h : R a b) (t : Th) (i : Ins) (m : Int) : Alk R (storedM M t i a m) (storedM N t i b m) := ⟨rfl, H.note _ _ _ (H.store _ _ _ _ h)⟩
theorem sim_swapped (H : SimP M N R) {a : S} {b : T} (h : R a b) (t : Th) (i : Ins) (m : Int) : Alk R (swappedM M t i a m) (swappedM N t i b m) := by
  unfold swappedM swapM
  rw [H.load a b m h]
  refine ⟨rfl, H.note _ _ _ ?_⟩
  split
  · exact H.swapS _ _ _ _ (H.loadS _ _ _ h)
  · exact H.loadS _ _ _ h
theorem sim_waited (H : SimP M N R) {a : S} {b : T} (h : R a b) (t : Th) (i : Ins) (m : Int) : Alk R (waitedM M t i a m) (waitedM N t i b m) := by
  unfold waitedM
  rw [H.load a b m h]
  split
  · exact ⟨rfl, H.sleep _ _ _ (H.note _ _ _ (H.loadS _ _ _ h))⟩
  · exact ⟨rfl, H.note _ _ _ (H.loadS _ _ _ h)⟩
theorem sim_woke (H : SimP M N R) {a : S} {b : T} (h : R a b) (t : Th) (i : Ins) (m : Int) : Alk R (wokeM M t i a m) (wokeM N t i b m) := by
  unfold wokeM
  rw [H.wake a b m _ h]
  exact ⟨rfl, H.note _ _ _ (H.wakeS _ _ _ _ h)⟩
theorem sim_asked (H : SimP M N R) {a : S} {b : T} (h : R a b) (t : Th) (i : Ins) : Alk R (askedM M t i a) (askedM N t i b) := by
  unfold askedM
  split
  · exact sim_loaded H h t i _
  · split
    · exact sim_stored H h t i _
    · split
      · exact sim_waited H h t i _
      · split
        · exact sim_woke H h t i _
        · exact sim_swapped H h t i _
theorem sim_alone (H : SimP M N R) {a : S} {b : T} (h : R a b) (t : Th) (i : Ins) : Alk R (aloneM M t i a) (aloneM N t i b) := by
  unfold aloneM
  split
  · exact ⟨rfl, h⟩
  · split
    · exact ⟨rfl, h⟩
    · split
      · exact ⟨rfl, H.note _ _ _ h⟩
      · split
        · exact ⟨rfl, H.note _ _ _ h⟩
        · split
          · exact ⟨rfl, H.note _ _ _ (H.remote _ _ h)⟩
          · split
            · exact ⟨rfl, H.note _ _ _ h⟩
            · exact ⟨rfl, h⟩
theorem sim_on {p : Th × S} {q : Th × T} (k : Alk R p q) : Alk R (onM p) (onM q) := by
  unfold onM
  rw [k.1]
  exact ⟨rfl, k.2⟩
theorem sim_done (H : SimP M N R) {a : S} {b : T} (h : R a b) (t : Th) (i : Ins) : Alk R (doneM M t i a) (doneM N t i b) := by
  unfold doneM
  split
  · exact sim_end H h t _ _
  · split
    · exact ⟨rfl, h⟩
    · refine sim_on ?_
      split
      · exact sim_asked H h t i
      · split
        · exact ⟨rfl, h⟩
        · exact sim_alone H h t i
theorem sim_at (H : SimP M N R) {a : S} {b : T} (h : R a b) (t : Th) (i : Ins) (n : Int) : Alk R (atM M t i n a) (atM N t i n b) := by
  have e1 : inMemM M t i = inMemM N t i := by unfold inMemM; rw [H.size]
  have e2 : heldM M i a = heldM N i b := by unfold heldM; rw [H.empty a b h, H.room a b h]
  unfold atM
  rw [e1, e2]
  split
  · exact sim_end H h t _ _
  · split
    · exact ⟨rfl, H.flush _ _ h⟩
    · exact sim_done H h t i
theorem sim_stepM (H : SimP M N R) {a : S} {b : T} (h : R a b) (t : Th) (code : List Ins) : Alk R (stepM M t code a) (stepM N t code b) := by
  unfold stepM
  split
  · exact ⟨rfl, h⟩
  · split
    · exact sim_end H h t _ _
    · exact sim_at H h t _ _
end
end Go.Proofs.YthbenfnanhpcoaaDoor.Mc

namespace Go.Proofs.YthbenfnanhpcoaaDoor.Mc
set_option linter.unusedVariables false

structure Apt (a b : Ms) : Prop where
  la : a.sides.length = 2
  lb : b.sides.length = 1
  s0 : a.side 0 = b.side 0
  b1 : (a.side 1).buf = []
  c1 : ∀ c ∈ (a.side 1).code, askB c.op = false ∧ c.op ≠ 25
  mem : a.mem = b.mem
  slp : a.slp = b.slp
  room : a.room = b.room
  own : ∀ x ∈ a.slp, x.a = 0

theorem Apt.setS0 {a b : Ms} (h : Apt a b) (d : Sd) : Apt (a.setS 0 d) (b.setS 0 d) := by
  have ha : 0 < a.sides.length := by rw [h.la]; omega
  have hb : 0 < b.sides.length := by rw [h.lb]; omega
  have e1 : (a.setS 0 d).side 1 = a.side 1 := by rw [side_set ha]; rfl
  exact ⟨by rw [setS_len]; exact h.la, by rw [setS_len]; exact h.lb, by rw [side_set ha, side_set hb, if_pos rfl, if_pos rfl], by rw [e1]; exact h.b1, by rw [e1]; exact h.c1, h.mem, h.slp, h.room, h.own⟩
theorem Apt.note {a b : Ms} (h : Apt a b) (i : Nat) (x : Ev) : Apt (a.note i x) (b.note i x) := ⟨h.la, h.lb, h.s0, h.b1, h.c1, h.mem, h.slp, h.room, h.own⟩
theorem Apt.note1 {a b : Ms} (h : Apt a b) (i : Nat) (x : Ev) : Apt (a.note i x) b := ⟨h.la, h.lb, h.s0, h.b1, h.c1, h.mem, h.slp, h.room, h.own⟩
theorem Apt.setM {a b : Ms} (h : Apt a b) (m v : Int) : Apt (a.setM m v) (b.setM m v) := ⟨h.la, h.lb, h.s0, h.b1, h.c1, by show a.mem.set _ _ = b.mem.set _ _; rw [h.mem], h.slp, h.room, h.own⟩
theorem Apt.setQ {a b : Ms} (h : Apt a b) (l : List Ent) (hl : ∀ x ∈ l, x.a = 0) : Apt (a.setQ l) (b.setQ l) := ⟨h.la, h.lb, h.s0, h.b1, h.c1, h.mem, rfl, h.room, hl⟩
theorem Apt.setT0 {a b : Ms} (h : Apt a b) (t : Th) : Apt (a.setT 0 t) (b.setT 0 t) := by
  unfold Ms.setT
  rw [h.s0]
  exact h.setS0 _
theorem Apt.setB0 {a b : Ms} (h : Apt a b) (l : List Ent) : Apt (a.setB 0 l) (b.setB 0 l) := by
  unfold Ms.setB
  rw [h.s0]
  exact h.setS0 _
theorem Apt.flush0 {a b : Ms} (h : Apt a b) : Apt (a.flush 0) (b.flush 0) := by
  unfold Ms.flush
  rw [h.s0]
  cases (b.side 0).buf with
  | nil => exact h
  | cons x l => exact ((h.setB0 l).setM _ _).note _ _
theorem Apt.drain0 : ∀ (n : Nat) {a b : Ms}, Apt a b → Apt (a.drain 0 n) (b.drain 0 n)
  | 0, a, b, h => h
  | n + 1, a, b, h => Apt.drain0 n h.flush0
theorem Apt.remote {a b : Ms} (h : Apt a b) : Apt a.remote b.remote := by
  unfold Ms.remote
  rw [h.la, h.lb]
  show Apt ((a.drain 0 (a.side 0).buf.length).drain 1 ((a.drain 0 (a.side 0).buf.length).side 1).buf.length) (b.drain 0 (b.side 0).buf.length)
  rw [h.s0]
  have h1 := h.drain0 (b.side 0).buf.length
  rw [h1.b1]
  exact h1
theorem Apt.riseF : ∀ (l : List Int) {a b : Ms}, Apt a b → (∀ x ∈ l, x = 0) → Apt (l.foldl Ms.rise a) (l.foldl Ms.rise b)
  | [], a, b, h, _ => h
  | x :: l, a, b, h, hl => by
    have hx : x = 0 := hl x List.mem_cons_self
    subst hx
    refine Apt.riseF l ?_ fun y hy => hl y (List.mem_cons_of_mem _ hy)
    show Apt (a.setT 0 ((a.side 0).t.is 0)) (b.setT 0 ((b.side 0).t.is 0))
    rw [h.s0]
    exact h.setT0 _
theorem Apt.wake {a b : Ms} (h : Apt a b) (m v : Int) : Apt (a.wake m v) (b.wake m v) ∧ a.woken m v = b.woken m v := by
  have e : a.sift m v.toNat = b.sift m v.toNat := by unfold Ms.sift; rw [h.slp]
  refine ⟨?_, by unfold Ms.woken; rw [e]⟩
  have hsub : (a.sift m v.toNat).left.Sublist a.slp := sift_left _ _ _
  have hout : ∀ z ∈ (a.sift m v.toNat).out, z = 0 := by
    intro z hz
    rcases sift_out _ _ a.slp _ z hz with h0 | ⟨x, hx, rfl⟩
    · cases h0
    · exact h.own x hx
  unfold Ms.wake
  rw [← e]
  exact Apt.riseF _ (h.setQ _ fun x hx => h.own x (hsub.subset hx)) hout
theorem Apt.sleep {a b : Ms} (h : Apt a b) (m : Int) : Apt (a.sleep 0 m) (b.sleep 0 m) := by
  unfold Ms.sleep
  rw [← h.slp]
  refine h.setQ _ fun x hx => ?_
  unfold Kq.sleepL at hx
  split at hx
  · rcases List.mem_append.1 hx with hx | hx
    · exact h.own x hx
    · rw [show x = ⟨0, m⟩ by simpa using hx]
  · exact h.own x hx
theorem apt_sim (n : Int) : SimP (port n 0) (port n 0) Apt where
  size := rfl
  load a b m h := by show a.load 0 m = b.load 0 m; unfold Ms.load; rw [h.s0, h.mem]
  loadS a b m h := h
  room a b h := by show (!(Bf.fullB (a.side 0).buf a.room)) = !(Bf.fullB (b.side 0).buf b.room); rw [h.s0, h.room]
  store a b m v h := by show Apt (a.setB 0 _) (b.setB 0 _); rw [h.s0, h.room]; exact h.setB0 _
  empty a b h := by show (((a.side 0).buf.length : Int) == 0) = (((b.side 0).buf.length : Int) == 0); rw [h.s0]
  flush a b h := h.flush0
  swapS a b m v h := h.setM m v
  sleep a b m h := h.sleep m
  wake a b m v h := (h.wake m v).2
  wakeS a b m v h := (h.wake m v).1
  remote a b h := h.remote
  note a b x h := h.note 0 x
/-- the other thread's own step -/
theorem apt_other {a b : Ms} (h : Apt a b) (n : Int) (t : Th) (code : List Ins) (hc : ∀ c ∈ code, askB c.op = false ∧ c.op ≠ 25) : Apt (stepM (port n 1) t code a).2 b := by
  unfold stepM
  split
  · exact h
  · split
    · exact h.note1 _ _
    · have hi : askB (code.getD t.pc.toNat ins0).op = false ∧ (code.getD t.pc.toNat ins0).op ≠ 25 := by
        rw [List.getD_eq_getElem?_getD]
        cases he : code[t.pc.toNat]? with
        | none => exact ⟨by decide, by decide⟩
        | some x => exact hc x (List.mem_of_getElem? he)
      generalize code.getD t.pc.toNat ins0 = i at hi
      unfold atM
      split
      · exact h.note1 _ _
      · split
        · show Apt (a.flush 1) b
          unfold Ms.flush
          rw [h.b1]
          exact h
        · unfold doneM
          split
          · exact h.note1 _ _
          · split
            · exact h
            · show Apt (if askB i.op then askedM (port n 1) t i a else _ : Th × Ms).2 b
              rw [hi.1]
              show Apt (if aluB i.op then _ else aloneM (port n 1) t i a : Th × Ms).2 b
              split
              · exact h
              · unfold aloneM
                split
                · exact h
                · split
                  · exact h
                  · split
                    · exact h.note1 _ _
                    · split
                      · exact h.note1 _ _
                      · split
                        · rename_i h25; exact absurd h25 hi.2
                        · split
                          · exact h.note1 _ _
                          · exact h
theorem idx_none {who : Int} : ∀ {l : List Ent}, (∀ x ∈ l, x.a ≠ who) → Kn.idx who l = l.length
  | [], _ => rfl
  | x :: l, h => by
    show (if x.a = who then 0 else Kn.idx who l + 1) = _
    rw [if_neg (h x List.mem_cons_self), idx_none fun y hy => h y (List.mem_cons_of_mem _ hy)]
    rfl
theorem apt_pick0 {a b : Ms} (h : Apt a b) (n kind : Int) : Apt (a.pick n kind 0) (b.pick n kind 0) := by
  unfold Ms.pick
  have q2 : (0 : Int) ≤ 0 ∧ (0 : Int) < ((2 : Nat) : Int) := by omega
  have q1 : (0 : Int) ≤ 0 ∧ (0 : Int) < ((1 : Nat) : Int) := by omega
  rw [h.la, h.lb, if_pos q2, if_pos q1]
  split
  · unfold Ms.step
    have q := sim_stepM (apt_sim n) h (a.side 0).t (a.side 0).code
    show Apt ((stepM (port n 0) (a.side 0).t (a.side 0).code a).2.setT 0 (stepM (port n 0) (a.side 0).t (a.side 0).code a).1) ((stepM (port n 0) (b.side 0).t (b.side 0).code b).2.setT 0 (stepM (port n 0) (b.side 0).t (b.side 0).code b).1)
    rw [h.s0] at q ⊢
    rw [q.1]
    exact q.2.setT0 _
  · split
    · exact h.flush0
    · split
      · show Apt (a.rouse 0) (b.rouse 0)
        unfold Ms.rouse
        rw [← h.slp]
        split
        · refine Apt.note ?_ _ _
          have h1 : Apt (a.setQ (Kq.rouseL 0 a.slp)) (b.setQ (Kq.rouseL 0 a.slp)) := h.setQ _ fun x hx => h.own x (List.mem_filter.1 hx).1
          exact Apt.riseF [0] h1 (fun x hx => by simpa using hx)
        · exact h
      · exact h
theorem apt_pick1 {a b : Ms} (h : Apt a b) (n kind who : Int) (hw : who ≠ 0) : Apt (a.pick n kind who) b := by
  unfold Ms.pick
  split
  · rename_i hb
    rw [h.la] at hb
    have : who = 1 := by omega
    subst this
    split
    · show Apt ((stepM (port n 1) (a.side 1).t (a.side 1).code a).2.setT 1 (stepM (port n 1) (a.side 1).t (a.side 1).code a).1) b
      have q := apt_other h n (a.side 1).t (a.side 1).code h.c1
      generalize stepM (port n 1) (a.side 1).t (a.side 1).code a = r at q
      have h1 : 1 < r.2.sides.length := by rw [q.la]; omega
      have e0 : (r.2.setT 1 r.1).side 0 = r.2.side 0 := by unfold Ms.setT; rw [side_set h1]; rfl
      have e1 : (r.2.setT 1 r.1).side 1 = ⟨(r.2.side 1).code, r.1, (r.2.side 1).buf⟩ := by unfold Ms.setT; rw [side_set h1]; rfl
      exact ⟨by unfold Ms.setT; rw [setS_len]; exact q.la, q.lb, by rw [e0]; exact q.s0, by rw [e1]; exact q.b1, by rw [e1]; exact q.c1, q.mem, q.slp, q.room, q.own⟩
    · split
      · show Apt (a.flush 1) b
        unfold Ms.flush
        rw [h.b1]
        exact h
      · split
        · show Apt (a.rouse 1) b
          unfold Ms.rouse
          rw [idx_none (who := ((1 : Nat) : Int)) (fun x hx => by rw [h.own x hx]; decide), if_neg (by omega)]
          exact h
        · exact h
  · exact h
end Go.Proofs.YthbenfnanhpcoaaDoor.Mc

namespace Go.Proofs.YthbenfnanhpcoaaDoor.Mc
open Go.ChangeShapes Go.WideShapes Go.ChangeAt Go.RowKit
set_option linter.unusedVariables false

def zeros9 : List Int := [0, 0, 0, 0, 0, 0, 0, 0, 0]
theorem zeros9_u : ∀ x ∈ zeros9, U32 x := by
  intro x h
  simp [zeros9] at h
  subst h
  exact ⟨by omega, by omega⟩
/-- a program of these codes, nine words and a room -/
def apP (cb cc : Nat) (cs : List Cd) (mz : Nat) (rm : Int) : Pgm := ⟨some ⟨cb, 0, none⟩, cc, cs, some ⟨mz, 0, none⟩, 9, zeros9, rm⟩
theorem ap_one {cb cc cb' cc' mz : Nat} {x y : Cd} {rm : Int} (h : (chkM (apP cb cc [x, y] mz rm)).2.2 = 0) : (chkM (apP cb' cc' [x] mz rm)).2.2 = 0 := by
  have h1 := chk_len h
  have h2 : (chkP 0 [x, y]).2.2 = 0 := by
    unfold chkM at h
    rw [if_neg (by omega), if_neg (by omega)] at h
    exact h
  have hx := chkP_all _ _ h2 x (by simp)
  obtain ⟨-, h3, -⟩ := h1
  have h3' : 1 ≤ rm ∧ rm ≤ 16 := h3
  have e : chkM (apP cb' cc' [x] mz rm) = chkP 0 [x] := by
    unfold chkM
    rw [if_neg (by show ¬ (((1 : Nat) < 1 ∨ 8 < 1) ∨ (rm < 1 ∨ 16 < rm)); omega), if_neg (by show ¬ 1024 < 9; omega)]
    rfl
  rw [e]
  show (if (chkC x.l).2 = 0 then chkP 1 [] else (((0 : Nat) : Int), (chkC x.l).1, (chkC x.l).2)).2.2 = 0
  rw [if_pos hx]
  rfl
theorem ap_start {cb cc cb' cc' mz : Nat} {x y : Cd} {rm : Int} (hy : ∀ c ∈ y.l, askB c.op = false ∧ c.op ≠ 25) : Apt (newM (apP cb cc [x, y] mz rm)) (newM (apP cb' cc' [x] mz rm)) :=
  ⟨rfl, rfl, rfl, rfl, hy, rfl, rfl, rfl, fun z hz => by cases hz⟩
/-- picks of the first thread alone -/
def runB (s : Ms) (n : Int) (l : List Ent) : Ms := l.foldl (fun s x => if x.v = 0 then s.pick n x.a x.v else s) s
theorem runB_snoc (s : Ms) (n : Int) (l : List Ent) (j : Nat) (h : j < l.length) : runB s n (l.take (j + 1)) = if (l.getD j ent0).v = 0 then (runB s n (l.take j)).pick n (l.getD j ent0).a (l.getD j ent0).v else runB s n (l.take j) := by
  have e : l.take (j + 1) = l.take j ++ [l.getD j ent0] := by
    rw [List.take_add_one, List.getElem?_eq_getElem h, List.getD_eq_getElem?_getD, List.getElem?_eq_getElem h]
    rfl
  rw [e]
  unfold runB
  rw [List.foldl_append]
  rfl
theorem ap_run (n : Int) : ∀ (l : List Ent) {a b : Ms}, Apt a b → Apt (a.run n l) (runB b n l)
  | [], a, b, h => h
  | x :: l, a, b, h => by
    show Apt ((a.pick n x.a x.v).run n l) (runB (if x.v = 0 then b.pick n x.a x.v else b) n l)
    by_cases hx : x.v = 0
    · rw [if_pos hx, hx]
      exact ap_run n l (apt_pick0 h n x.a)
    · rw [if_neg hx]
      exact ap_run n l (apt_pick1 h n x.a x.v hx)
end Go.Proofs.YthbenfnanhpcoaaDoor.Mc
