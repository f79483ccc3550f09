/-
  What befell a machine without buffers, held against its memory, by plain lists: what is loaded was stored last. No program; no condition but what each law names.
-/
import Derived.Test.YthbenfnanhpcoaaDoorZzbi
import Derived.Test.YthbenfnanhpcoaaDoorZzbu
import Derived.Test.YthbenfnanhpcoaaDoorZzbh
import Derived.Deep.CutBlock
import Derived.BigQuiet
import Derived.Deep.QuietTactic
import Derived.Deep.LoopGhost
namespace Go.Proofs.YthbenfnanhpcoaaDoor.Mc
set_option linter.unusedVariables false

/-- memory behind an event, if it tells what it has to -/
def seeS (mem : List Int) (x : Ev) : Option (List Int) :=
  if x.kind = 2 then (if inR x.addr mem.length then some (mem.set x.addr.toNat x.value) else none)
  else if x.kind = 4 then (if inR x.addr mem.length && mem.getD x.addr.toNat 0 == x.old then some (mem.set x.addr.toNat x.value) else none)
  else if x.kind = 1 ∨ x.kind = 8 then (if inR x.addr mem.length && mem.getD x.addr.toNat 0 == x.value then some mem else none)
  else some mem
def seeS1 (p : Option (List Int)) (x : Ev) : Option (List Int) := match p with
  | none => none
  | some m => seeS m x
def seeSL (first : List Int) (l : List Ev) : Option (List Int) := l.foldl seeS1 (some first)
theorem seeSL_snoc (first : List Int) (l : List Ev) (x : Ev) : seeSL first (l ++ [x]) = seeS1 (seeSL first l) x := by simp [seeSL]
structure GoodS (first : List Int) (s : Ms) : Prop where
  see : seeSL first s.evs = some s.mem
  len : s.mem.length = first.length
theorem GoodS.same {first : List Int} {s s' : Ms} (h : GoodS first s) (he : s'.evs = s.evs) (hm : s'.mem = s.mem) : GoodS first s' := ⟨by rw [he, hm]; exact h.see, by rw [hm]; exact h.len⟩
theorem GoodS.add {first : List Int} {s s' : Ms} {x : Ev} (h : GoodS first s) (he : s'.evs = s.evs ++ [x]) (hm : seeS s.mem x = some s'.mem) (hl : s'.mem.length = s.mem.length) : GoodS first s' := by
  refine ⟨?_, hl.trans h.len⟩
  rw [he, seeSL_snoc, h.see]
  exact hm
theorem GoodS.plain {first : List Int} {s : Ms} (h : GoodS first s) (i : Nat) (x : Ev) (hk : x.kind ≠ 1 ∧ x.kind ≠ 2 ∧ x.kind ≠ 4 ∧ x.kind ≠ 8) : GoodS first (s.note i x) := by
  refine h.add (x := evOf x i) rfl ?_ rfl
  show (if x.kind = 2 then _ else if x.kind = 4 then _ else if x.kind = 1 ∨ x.kind = 8 then _ else _) = _
  rw [if_neg hk.2.1, if_neg hk.2.2.1, if_neg (by omega)]
  rfl
theorem GoodS.tells {first : List Int} {s : Ms} (h : GoodS first s) (i : Nat) (x : Ev) (hk : x.kind = 1 ∨ x.kind = 8) (ha : 0 ≤ x.addr ∧ x.addr < s.mem.length) (hv : s.mem.getD x.addr.toNat 0 = x.value) : GoodS first (s.note i x) := by
  refine h.add (x := evOf x i) rfl ?_ rfl
  show (if x.kind = 2 then _ else if x.kind = 4 then _ else if x.kind = 1 ∨ x.kind = 8 then (if inR x.addr s.mem.length && s.mem.getD x.addr.toNat 0 == x.value then some s.mem else none) else _) = _
  rw [if_neg (by omega), if_neg (by omega), if_pos hk, inR_of ha, hv]
  simp
  rfl
section
variable {first : List Int} {s : Ms} {i : Nat} {n : Int} {t : Th} {c : Ins}
theorem goodS_end (h : GoodS first s) (st ev : Int) (he : ev = 12 ∨ ev = 13) : GoodS first (endM (portS n i) t s st ev).2 :=
  h.plain i (evt ev t.pc) (by show ev ≠ 1 ∧ ev ≠ 2 ∧ ev ≠ 4 ∧ ev ≠ 8; omega)
theorem goodS_load (h : GoodS first s) (m : Int) (hm : 0 ≤ m ∧ m < s.mem.length) : GoodS first (loadedM (portS n i) t c s m).2 :=
  h.tells i ⟨1, 0, t.pc, m, s.mem.getD m.toNat 0, 0, 0, false⟩ (.inl rfl) hm rfl
theorem goodS_store (h : GoodS first s) (m : Int) (hm : 0 ≤ m ∧ m < s.mem.length) : GoodS first (storedM (portS n i) t c s m).2 := by
  refine h.add (x := evOf ⟨2, 0, t.pc, m, t.reg c.a, 0, 0, false⟩ i) rfl ?_ (by show (s.mem.set _ _).length = _; simp)
  show (if inR m s.mem.length then some (s.mem.set m.toNat (t.reg c.a)) else none) = some (s.mem.set m.toNat (t.reg c.a))
  rw [inR_of hm]; rfl
theorem goodS_wait (h : GoodS first s) (m : Int) (hm : 0 ≤ m ∧ m < s.mem.length) : GoodS first (waitedM (portS n i) t c s m).2 := by
  have hg : ∀ b, GoodS first (s.note i ⟨8, 0, t.pc, m, s.mem.getD m.toNat 0, 0, 0, b⟩) := fun b => h.tells i _ (.inr rfl) hm rfl
  unfold waitedM
  split
  · exact (hg true).same rfl rfl
  · exact hg false
theorem goodS_woke (h : GoodS first s) (m : Int) : GoodS first (wokeM (portS n i) t c s m).2 := by
  obtain ⟨h1, h2, h3, h4⟩ := rises (s := s) (s.sift m (t.reg c.a).toNat).out (s.setQ (s.sift m (t.reg c.a).toNat).left)
  have hg : GoodS first (s.wake m (t.reg c.a)) := h.same h1 h2
  exact hg.plain i ⟨9, 0, t.pc, m, (portS n i).wake s m (t.reg c.a), 0, 0, false⟩ (by show (9 : Int) ≠ 1 ∧ (9 : Int) ≠ 2 ∧ (9 : Int) ≠ 4 ∧ (9 : Int) ≠ 8; decide)
theorem goodS_swap (h : GoodS first s) (m : Int) (hm : 0 ≤ m ∧ m < s.mem.length) : GoodS first (swappedM (portS n i) t c s m).2 := by
  have key : (swapM (portS n i) t c s m).evs = s.evs ∧ (swapM (portS n i) t c s m).mem = s.mem.set m.toNat (insteadM t c (s.mem.getD m.toNat 0)).1 := by
    show (if (insteadM t c (s.mem.getD m.toNat 0)).2 then s.setM m (insteadM t c (s.mem.getD m.toNat 0)).1 else s).evs = _ ∧ (if (insteadM t c (s.mem.getD m.toNat 0)).2 then s.setM m (insteadM t c (s.mem.getD m.toNat 0)).1 else s).mem = _
    cases hx : (insteadM t c (s.mem.getD m.toNat 0)).2 with
    | true => exact ⟨rfl, rfl⟩
    | false =>
      refine ⟨rfl, ?_⟩
      rw [instead_no hx, set_self (by omega)]; rfl
  obtain ⟨k1, k3⟩ := key
  refine h.add (x := evOf ⟨4, 0, t.pc, m, (insteadM t c (s.mem.getD m.toNat 0)).1, s.mem.getD m.toNat 0, 0, (insteadM t c (s.mem.getD m.toNat 0)).2⟩ i) ?_ ?_ ?_
  · show (swapM (portS n i) t c s m).evs ++ _ = _
    rw [k1]; rfl
  · show (if inR m s.mem.length && s.mem.getD m.toNat 0 == s.mem.getD m.toNat 0 then some (s.mem.set m.toNat (insteadM t c (s.mem.getD m.toNat 0)).1) else none) = some (swapM (portS n i) t c s m).mem
    rw [k3, inR_of hm]; simp
  · show (swapM (portS n i) t c s m).mem.length = _
    rw [k3]; simp
theorem goodS_asked (h : GoodS first s) (hn : (s.mem.length : Int) = n) (h0 : 0 ≤ addrM t c) (hm : inMemM (portS n i) t c = true) : GoodS first (askedM (portS n i) t c s).2 := by
  have hm' : 0 ≤ addrM t c ∧ addrM t c < s.mem.length := by
    have : addrM t c < n := by simpa [inMemM, portS] using hm
    omega
  unfold askedM
  split
  · exact goodS_load h _ hm'
  · split
    · exact goodS_store h _ hm'
    · split
      · exact goodS_wait h _ hm'
      · split
        · exact goodS_woke h _
        · exact goodS_swap h _ hm'
theorem goodS_alone (h : GoodS first s) : GoodS first (aloneM (portS n i) t c s).2 := by
  have g : ∀ (x : Ev), x.kind = 5 ∨ x.kind = 6 ∨ x.kind = 7 ∨ x.kind = 10 → GoodS first (s.note i x) := fun x hx => h.plain i x (by omega)
  unfold aloneM
  split
  · exact h
  · split
    · exact h
    · split
      · exact g (evt 5 t.pc) (.inl rfl)
      · split
        · exact g _ (.inr (.inl rfl))
        · split
          · exact g (evt 10 t.pc) (.inr (.inr (.inr rfl)))
          · split
            · exact g _ (.inr (.inr (.inl rfl)))
            · exact h
theorem goodS_done (h : GoodS first s) (hn : (s.mem.length : Int) = n) (h0 : 0 ≤ addrM t c) (hm : askB c.op = true → inMemM (portS n i) t c = true) : GoodS first (doneM (portS n i) t c s).2 := by
  unfold doneM
  split
  · exact goodS_end h 2 12 (.inl rfl)
  · split
    · exact h
    · split
      · rename_i ha
        exact goodS_asked h hn h0 (hm ha)
      · split
        · exact h
        · exact goodS_alone h
theorem goodS_at (h : GoodS first s) (hn : (s.mem.length : Int) = n) (hc : 0 ≤ c.k) (k : Int) : GoodS first (atM (portS n i) t c k s).2 := by
  have h0 : 0 ≤ addrM t c := by
    unfold addrM
    split
    · exact wrap_nn _
    · exact hc
  unfold atM
  split
  · exact goodS_end h 3 13 (.inr rfl)
  · rename_i hr
    split
    · exact h
    · refine goodS_done h hn h0 (fun ha => ?_)
      simp only [Bool.or_eq_true, Bool.and_eq_true, not_or, not_and, Bool.not_eq_true, Bool.not_eq_false'] at hr
      exact hr.2 ha
theorem goodS_stepM (h : GoodS first s) (hn : (s.mem.length : Int) = n) (code : List Ins) (hc : ∀ x ∈ code, InsOk x) : GoodS first (stepM (portS n i) t code s).2 := by
  unfold stepM
  split
  · exact h
  · split
    · exact goodS_end h 2 12 (.inl rfl)
    · refine goodS_at h hn ?_ _
      rw [List.getD_eq_getElem?_getD]
      cases he : code[t.pc.toNat]? with
      | none => exact Int.le_refl 0
      | some x => exact (hc x (List.mem_of_getElem? he)).k0
theorem goodS_step (h : GoodS first s) (hn : (s.mem.length : Int) = n) (hc : ∀ x ∈ (s.side i).code, InsOk x) : GoodS first (s.stepS n i) :=
  (goodS_stepM (i := i) (t := (s.side i).t) h hn (s.side i).code hc).same rfl rfl
theorem goodS_rouse (h : GoodS first s) : GoodS first (s.rouse i) := by
  unfold Ms.rouse
  split
  · have h1 : GoodS first ((s.setQ (Kq.rouseL i s.slp)).rise i) := h.same rfl rfl
    exact h1.plain i ⟨11, 0, 0, 0, 0, 0, 0, false⟩ (by show (11 : Int) ≠ 1 ∧ (11 : Int) ≠ 2 ∧ (11 : Int) ≠ 4 ∧ (11 : Int) ≠ 8; decide)
  · exact h
end
theorem goodS_pick {first : List Int} {s : Ms} {n : Int} (hn : (s.mem.length : Int) = n) (hc : ∀ (i : Nat), i < s.sides.length → ∀ x ∈ (s.side i).code, InsOk x) (h : GoodS first s) (kind who : Int) : GoodS first (s.pickS n kind who) := by
  unfold Ms.pickS
  split
  · rename_i hwho
    split
    · exact goodS_step h hn (hc _ (by omega))
    · split
      · exact goodS_rouse h
      · exact h
  · exact h

/-- what came last into a word, by the events so far -/
def lastB (a : Int) (d : Int) (x : Ev) : Int := if x.addr = a ∧ (x.kind = 2 ∨ x.kind = 4) then x.value else d
def lastE (a d : Int) (l : List Ev) : Int := l.foldl (lastB a) d
theorem lastE_snoc (a d : Int) (l : List Ev) (x : Ev) : lastE a d (l ++ [x]) = lastB a (lastE a d l) x := by simp [lastE]
theorem seeS_len {m m' : List Int} {x : Ev} (h : seeS m x = some m') : m'.length = m.length := by
  unfold seeS at h
  repeat' split at h
  all_goals first
    | (cases h; simp; done)
    | (cases h)
theorem seeS_none : ∀ l : List Ev, l.foldl seeS1 none = none
  | [] => rfl
  | x :: l => seeS_none l
theorem seeS_last {m m' : List Int} {x : Ev} (h : seeS m x = some m') (A : Nat) (hA : A < m.length) : m'.getD A 0 = lastB A (m.getD A 0) x := by
  have key : ∀ v : Int, inR x.addr m.length = true → (m.set x.addr.toNat v).getD A 0 = if x.addr = (A : Int) then v else m.getD A 0 := by
    intro v hi
    obtain ⟨k, hk, hl⟩ := inR_is hi
    rw [hk]
    show (m.set k v).getD A 0 = _
    rw [List.getD_eq_getElem?_getD, List.getElem?_set]
    by_cases e : k = A
    · subst e
      rw [if_pos rfl, if_pos hl, if_pos rfl]; rfl
    · rw [if_neg e, if_neg (by omega), List.getD_eq_getElem?_getD]
  unfold seeS at h
  unfold lastB
  by_cases k2 : x.kind = 2
  · rw [if_pos k2] at h
    split at h
    · rename_i hi
      cases h
      rw [key _ hi]
      by_cases e : x.addr = (A : Int)
      · rw [if_pos e, if_pos ⟨e, .inl k2⟩]
      · rw [if_neg e, if_neg (fun z => e z.1)]
    · cases h
  · rw [if_neg k2] at h
    by_cases k4 : x.kind = 4
    · rw [if_pos k4] at h
      split at h
      · rename_i hi
        cases h
        simp only [Bool.and_eq_true] at hi
        rw [key _ hi.1]
        by_cases e : x.addr = (A : Int)
        · rw [if_pos e, if_pos ⟨e, .inr k4⟩]
        · rw [if_neg e, if_neg (fun z => e z.1)]
      · cases h
    · rw [if_neg k4] at h
      rw [if_neg (by omega)]
      split at h
      · split at h
        · cases h; rfl
        · cases h
      · cases h; rfl
theorem seeSL_len : ∀ (l : List Ev) (first m : List Int), seeSL first l = some m → m.length = first.length
  | [], first, m, h => by cases h; rfl
  | x :: l, first, m, h => by
    have h' : l.foldl seeS1 (seeS first x) = some m := h
    cases hs : seeS first x with
    | none => rw [hs, seeS_none] at h'; cases h'
    | some m1 =>
      rw [hs] at h'
      exact (seeSL_len l m1 m h').trans (seeS_len hs)
theorem seeSL_last (A : Nat) : ∀ (l : List Ev) (first m : List Int), seeSL first l = some m → A < first.length → m.getD A 0 = lastE A (first.getD A 0) l
  | [], first, m, h, hA => by cases h; rfl
  | x :: l, first, m, h, hA => by
    have h' : l.foldl seeS1 (seeS first x) = some m := h
    cases hs : seeS first x with
    | none => rw [hs, seeS_none] at h'; cases h'
    | some m1 =>
      rw [hs] at h'
      rw [seeSL_last A l m1 m h' (by rw [seeS_len hs]; exact hA), seeS_last hs A hA]
      rfl
/-- each event tells what was stored last -/
def SeesS (first : List Int) (l : List Ev) : Prop := ∃ m, seeSL first l = some m
theorem seesS_at {first : List Int} {l : List Ev} (h : SeesS first l) {j : Nat} (hj : j < l.length) (hk : (l.getD j ev0).kind = 1 ∨ (l.getD j ev0).kind = 4 ∨ (l.getD j ev0).kind = 8) :
    ∃ A : Nat, (l.getD j ev0).addr = A ∧ A < first.length ∧ lastE A (first.getD A 0) (l.take j) = (if (l.getD j ev0).kind = 4 then (l.getD j ev0).old else (l.getD j ev0).value) := by
  obtain ⟨q, hq⟩ := h
  have e : l = l.take (j + 1) ++ l.drop (j + 1) := (List.take_append_drop _ _).symm
  have hT := take_snoc' hj ev0
  have h1 : seeSL first l = (l.drop (j + 1)).foldl seeS1 (seeSL first (l.take (j + 1))) := by
    unfold seeSL
    rw [← List.foldl_append, ← e]
  rw [hq, hT, seeSL_snoc] at h1
  cases hp : seeSL first (l.take j) with
  | none =>
    rw [hp] at h1
    rw [show seeS1 none (l.getD j ev0) = none from rfl, seeS_none] at h1
    cases h1
  | some m =>
    rw [hp] at h1
    have h2 : some q = (l.drop (j + 1)).foldl seeS1 (seeS m (l.getD j ev0)) := h1
    have hlen := seeSL_len _ _ _ hp
    generalize l.getD j ev0 = x at hk h2 ⊢
    cases hs : seeS m x with
    | none => rw [hs, seeS_none] at h2; cases h2
    | some m' =>
      have fin : ∀ v : Int, (inR x.addr m.length && m.getD x.addr.toNat 0 == v) = true → ∃ A : Nat, x.addr = A ∧ A < first.length ∧ lastE A (first.getD A 0) (l.take j) = v := by
        intro v hv
        simp only [Bool.and_eq_true, beq_iff_eq] at hv
        obtain ⟨A, hA, hl⟩ := inR_is hv.1
        refine ⟨A, hA, by omega, ?_⟩
        rw [← seeSL_last A _ _ _ hp (by omega), ← hv.2, hA]
        rfl
      unfold seeS at hs
      rw [if_neg (by omega)] at hs
      by_cases k4 : x.kind = 4
      · rw [if_pos k4] at hs ⊢
        split at hs
        · rename_i hv; exact fin _ hv
        · cases hs
      · rw [if_neg k4] at hs ⊢
        rw [if_pos (by omega)] at hs
        split at hs
        · rename_i hv; exact fin _ hv
        · cases hs
end Go.Proofs.YthbenfnanhpcoaaDoor.Mc

namespace Go.Proofs.YthbenfnanhpcoaaDoor.Sc
open Go.Proofs.YthbenfnanhpcoaaDoor.Mc Go.ChangeShapes Go.WideShapes Go.ChangeAt Go.RowKit
set_option linter.unusedVariables false
set_option maxRecDepth 20000

set_option maxHeartbeats 2000000 in
theorem seesS_calls (a : Option Addr) (c : Nat) (l : List Ev) (hn : l.length ≤ 100000) (fa : Option Addr) (fc : Nat) (first : List Int) (hfl : first.length ≤ 2000) (hok : SeesS first l) (w : World) (h : RowAt w a (flatOf evL l)) (hf : RowAt w fa (flatOf wordL first)) :
    Calls Tryd.prog 23 #[.slice a l.length c, .slice fa first.length fc] w fun r w' => r = .returned (.int .i64 1) ∧ Gr w w' := by
  have HH := hide h
  have HF := hide hf
  have HK := hide (fun j (hj : j < l.length) hk => seesS_at hok hj hk)
  have g0 := Gr.refl w
  clear h hf hok
  go_enter Tryd.func23, Tryd.ntmps23
  go_wp2_with (fail)
  go_loopw [5] (fun v wr => ∃ j : Nat, j ≤ l.length ∧ v = .int .i64 j ∧ Gr w wr) (fun v _ => l.length - (intOf v).toNat)
  case atStart => exact ⟨0, by omega, rfl, g0⟩
  case round =>
    clear g0
    obtain ⟨j, hj, rfl, g⟩ := hrel
    by_cases hlt : j < l.length
    · have hlt' : (j : Int) < l.length := by omega
      have rw1 := HH.out.later g
      obtain ⟨b, off, had, -⟩ := rw1.get (by rw [flatOf_length evL_len]; omega)
      subst had
      have HKJ := hide (HK.out j hlt)
      have c0 := rw1.cell evL_len hlt ev0 0 (by omega)
      have c1 := rw1.cell evL_len hlt ev0 1 (by omega)
      have c2 := rw1.cell evL_len hlt ev0 2 (by omega)
      have c3 := rw1.cell evL_len hlt ev0 3 (by omega)
      have c4 := rw1.cell evL_len hlt ev0 4 (by omega)
      have c5 := rw1.cell evL_len hlt ev0 5 (by omega)
      have c6 := rw1.cell evL_len hlt ev0 6 (by omega)
      have c7 := rw1.cell evL_len hlt ev0 7 (by omega)
      generalize l.getD j ev0 = x at c0 c1 c2 c3 c4 c5 c6 c7 HKJ
      simp only [evL, List.getElem?_cons_zero, List.getElem?_cons_succ, Nat.add_zero, ← Nat.add_assoc] at c0 c1 c2 c3 c4 c5 c6 c7
      clear rw1
      go_upto_region 5 with (fail)
      change Code.wp _ _ _ _ (wr.alloc (.cells (evA x) 78))
      have d := Has.new wr (evA x) 78
      have g1 := g.alloc (evA x) 78
      generalize wr.alloc (.cells (evA x) 78) = w2 at d g1 ⊢
      generalize wr.heap.size = xb at d ⊢
      clear c0 c1 c2 c3 c4 c5 c6 c7 g
      have d0 := d.cell (o := 0) (v := .int .i64 x.kind) rfl
      by_cases hk : x.kind = 1 ∨ x.kind = 4 ∨ x.kind = 8
      · obtain ⟨A, hA, hAl, hla⟩ := HKJ.out hk
        have hA0 : ¬ (A : Int) < 0 := by omega
        have hA1 : (A : Int) < first.length := by omega
        have hd0 : decide ((A : Int) < 0) = false := by simp
        have hd1 : decide ((first.length : Int) ≤ (A : Int)) = false := by simp; omega
        have hd2 : decide (first.length ≤ A) = false := by simp; omega
        have d3 := d.cell (o := 3) (v := .int .i64 x.addr) rfl
        rw [hA] at d3
        have d4 := d.cell (o := 4) (v := .int .u32 x.value) rfl
        have d5 := d.cell (o := 5) (v := .int .u32 x.old) rfl
        have f1 := HF.out.later g1
        obtain ⟨fb, fo, hfa, -⟩ := f1.get (by rw [flatOf_length wordL_len]; omega)
        subst hfa
        have f0 := f1.cell wordL_len hAl 0 0 (by omega)
        simp only [wordL, List.getElem?_cons_zero, Nat.mul_one, Nat.add_zero] at f0
        have D := hide d
        have HG1 := hide g1
        generalize hdd : first.getD A 0 = dd at f0 hla
        have HXA := hide hA
        clear d f1 hA hdd HKJ
        rcases hk with k | k | k
        all_goals (
          simp only [k, if_true, if_false, Int.reduceEq] at hla
          rw [k] at d0
          have HLA := hide hla
          have HXK := hide k
          clear hla k
          go_upto_region 10 with (fail)
          go_loopg [7, 8] j (fun n v u wx => ∃ m : Nat, m + n = j ∧ (v = .int .u32 (lastE A dd (l.take m)) ∧ u = .int .i64 m) ∧ Gr w2 wx)
          case atStart => exact ⟨0, by omega, ⟨rfl, rfl⟩, Gr.refl w2⟩
          case round =>
            clear d0 d3 d4 d5 f0 g1
            obtain ⟨m, hm, ⟨rfl, rfl⟩, gx⟩ := hrel
            have Dx := D.out.later gx
            have d3 := Dx.cell (o := 3) (v := .int .i64 x.addr) rfl
            rw [HXA.out] at d3
            by_cases hmj : m < j
            · have hmj' : (m : Int) < j := by omega
              have hml : m < l.length := by omega
              have hml' : (m : Int) < l.length := by omega
              have rx := HH.out.later (HG1.out.trans gx)
              have HT := hide (take_snoc' hml ev0)
              have c0 := rx.cell evL_len hml ev0 0 (by omega)
              have c3 := rx.cell evL_len hml ev0 3 (by omega)
              have c4 := rx.cell evL_len hml ev0 4 (by omega)
              generalize l.getD m ev0 = y at c0 c3 c4 HT
              simp only [evL, List.getElem?_cons_zero, List.getElem?_cons_succ, Nat.add_zero, ← Nat.add_assoc] at c0 c3 c4
              have GX := hide gx
              have HL : Hid (lastE A dd (l.take (m + 1)) = lastB A (lastE A dd (l.take m)) y) := by show _ = _; rw [HT.out, lastE_snoc]
              generalize lastE A dd (l.take m) = z at HL
              clear rx Dx gx HT
              by_cases ya : y.addr = (A : Int)
              · have ya' : (y.addr == (A : Int)) = true := by simpa using ya
                by_cases y2 : y.kind = 2
                · have y2' : (y.kind == 2) = true := by simpa using y2
                  have HV : Hid (lastE A dd (l.take (m + 1)) = y.value) := by show _ = _; rw [HL.out]; unfold lastB; rw [if_pos ⟨ya, .inl y2⟩]
                  clear ya y2
                  go_upto_region 12 with (fail)
                  go_quiet (fail)
                  have gq := hide (GX.out.drewN nq)
                  have c4' : (wr.drewN nq).cell? ⟨b, off + m * 8 + 4, none⟩ = some (.int .u32 y.value) := c4
                  clear c0 c3 c4 d3
                  generalize wr.drewN nq = wy at gq c4' ⊢
                  go_wp2_with (fail)
                  go_roundg (j - (m + 1))
                  case measure => omega
                  case rel => exact ⟨m + 1, by omega, ⟨by rw [HV.out], by go_num⟩, gq.out⟩
                · have y2' : (y.kind == 2) = false := by simpa using y2
                  by_cases y4 : y.kind = 4
                  · have y4' : (y.kind == 4) = true := by simpa using y4
                    have HV : Hid (lastE A dd (l.take (m + 1)) = y.value) := by show _ = _; rw [HL.out]; unfold lastB; rw [if_pos ⟨ya, .inr y4⟩]
                    clear ya y2 y4
                    go_upto_region 12 with (fail)
                    go_quiet (fail)
                    have gq := hide (GX.out.drewN nq)
                    have c4' : (wr.drewN nq).cell? ⟨b, off + m * 8 + 4, none⟩ = some (.int .u32 y.value) := c4
                    clear c0 c3 c4 d3
                    generalize wr.drewN nq = wy at gq c4' ⊢
                    go_wp2_with (fail)
                    go_roundg (j - (m + 1))
                    case measure => omega
                    case rel => exact ⟨m + 1, by omega, ⟨by rw [HV.out], by go_num⟩, gq.out⟩
                  · have y4' : (y.kind == 4) = false := by simpa using y4
                    have HV : Hid (lastE A dd (l.take (m + 1)) = z) := by show _ = _; rw [HL.out]; unfold lastB; rw [if_neg (by omega)]
                    clear ya y2 y4
                    go_upto_region 12 with (fail)
                    go_quiet (fail)
                    have gq := hide (GX.out.drewN nq)
                    clear c0 c3 c4 d3
                    generalize wr.drewN nq = wy at gq ⊢
                    go_wp2_with (fail)
                    go_roundg (j - (m + 1))
                    case measure => omega
                    case rel => exact ⟨m + 1, by omega, ⟨by rw [HV.out], by go_num⟩, gq.out⟩
              · have ya' : (y.addr == (A : Int)) = false := by simpa using ya
                have HV : Hid (lastE A dd (l.take (m + 1)) = z) := by show _ = _; rw [HL.out]; unfold lastB; rw [if_neg (fun q => ya q.1)]
                clear ya
                go_upto_region 12 with (fail)
                go_quiet (fail)
                have gq := hide (GX.out.drewN nq)
                clear c0 c3 c4 d3
                generalize wr.drewN nq = wy at gq ⊢
                go_wp2_with (fail)
                go_roundg (j - (m + 1))
                case measure => omega
                case rel => exact ⟨m + 1, by omega, ⟨by rw [HV.out], by go_num⟩, gq.out⟩
            · have hmj' : m = j := by omega
              subst hmj'
              have d0 := Dx.cell (o := 0) (v := .int .i64 x.kind) rfl
              have d4 := Dx.cell (o := 4) (v := .int .u32 x.value) rfl
              have d5 := Dx.cell (o := 5) (v := .int .u32 x.old) rfl
              rw [HXK.out] at d0
              have HG := hide (HG1.out.trans gx)
              rw [HLA.out]
              clear Dx gx
              go_wp2_with (fail)
              exact ⟨⟨m + 1, by omega, by go_num, HG.out⟩, by simp [intOf]; omega⟩
          )
      · have hk1 : (x.kind == 1) = false := by simp; omega
        have hb1 : (x.kind != 1) = true := by simp; omega
        have hb4 : (x.kind != 4) = true := by simp; omega
        have hb8 : (x.kind != 8) = true := by simp; omega
        have hn1 : x.kind ≠ 1 := by omega
        have hn4 : x.kind ≠ 4 := by omega
        have hn8 : x.kind ≠ 8 := by omega
        have hk4 : (x.kind == 4) = false := by simp; omega
        have hk8 : (x.kind == 8) = false := by simp; omega
        have HG := hide g1
        clear d g1 hk
        go_wp2_with (fail)
        exact ⟨⟨j + 1, by omega, by go_num, HG.out⟩, by simp [intOf]; omega⟩
    · have hj' : j = l.length := by omega
      subst hj'
      have HG := hide g
      clear g
      go_wp2_with (fail)
      go_ret
      exact ⟨rfl, HG.out⟩
end Go.Proofs.YthbenfnanhpcoaaDoor.Sc
