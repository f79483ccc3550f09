/-
  A thread's step, and a pick, keep what is told of memory and buffers. No program; no condition but what each law names.
-/
import Derived.Test.YthbenfnanhpcoaaGreatDoorZtbl
namespace Go.Proofs.YthbenfnanhpcoaaGreatDoor.Mc
set_option linter.unusedVariables false

theorem ask_drain {op : Int} (h : askB op = true) (h1 : op ≠ 16) (h2 : op ≠ 17) : drainB op = true := by
  unfold askB at h
  simp only [Bool.and_eq_true] at h
  obtain ⟨n, rfl, hn⟩ := isB_nat h.1
  unfold drainB
  rw [h.1]
  have key : ∀ m : Fin 28, (kB m.val == 2) = true → m.val ≠ 16 → m.val ≠ 17 → kD m.val = true := by decide
  have := key ⟨n, hn⟩ (by simpa using h.2) (by show n ≠ 16; omega) (by show n ≠ 17; omega)
  simpa using this
def Keeps (first : List Int) (s : Ms) (q : Th × Ms) : Prop := Good first q.2 ∧ q.2.sides.length = s.sides.length
theorem held_empty {n : Int} {i : Nat} {c : Ins} {s : Ms} (hh : heldM (port n i) c s = false) (hd : drainB c.op = true) : (s.side i).buf = [] := by
  unfold heldM at hh
  rw [if_pos hd] at hh
  have h1 : (port n i).empty s = true := by simpa using hh
  have : (((s.side i).buf.length : Int) == 0) = true := h1
  have h0 : (s.side i).buf.length = 0 := by simpa using this
  exact List.eq_nil_of_length_eq_zero h0
theorem set_self {l : List Int} {a : Nat} (h : a < l.length) : l.set a (l.getD a 0) = l := by
  apply List.ext_getElem?
  intro j
  rw [List.getElem?_set]
  split
  · rename_i e; subst e
    simp [List.getD_eq_getElem?_getD, h]
  · rfl
theorem instead_no {t : Th} {c : Ins} {old : Int} (h : (insteadM t c old).2 = false) : (insteadM t c old).1 = old := by
  unfold insteadM at h ⊢
  split at h
  · cases h
  · rename_i h1
    rw [if_neg h1]
    split at h
    · rename_i h2
      rw [if_pos h2]
      split at h
      · cases h
      · rename_i h3; rw [if_neg h3]
    · cases h
theorem Good.setQ {first : List Int} {s : Ms} (h : Good first s) (l : List Ent) : Good first (s.setQ l) := h.same rfl rfl rfl fun _ _ => rfl

section
variable {first : List Int} {s : Ms} {i : Nat} {n : Int} {t : Th} {c : Ins}

theorem good_end (h : Good first s) (hi : i < s.sides.length) (st ev : Int) (he : ev = 12 ∨ ev = 13) : Keeps first s (endM (port n i) t s st ev) := by
  refine ⟨h.plain hi (evt ev t.pc) ?_, rfl⟩
  show ev = 12 ∨ ev = 13 ∨ _
  omega
theorem good_load (h : Good first s) (hi : i < s.sides.length) (m : Int) (hm : 0 ≤ m ∧ m < s.mem.length) : Keeps first s (loadedM (port n i) t c s m) := by
  refine ⟨h.note hi ⟨1, 0, t.pc, m, s.load i m, 0, 0, false⟩ (show (1 : Int) ≠ 2 by decide) (show (1 : Int) ≠ 3 by decide) ?_ rfl, rfl⟩
  show (match Bf.findR m ((waitE (i : Int) s.evs).map entE) with
    | some v => if v == s.load i m then some s.mem else none
    | none => if inR m s.mem.length && s.mem.getD m.toNat 0 == s.load i m then some s.mem else none) = some s.mem
  rw [h.buf i hi]
  unfold Ms.load
  cases hf : Bf.findR m (s.side i).buf with
  | some v => simp
  | none => simp [inR_of hm]
theorem good_store (h : Good first s) (hi : i < s.sides.length) (hf : (s.side i).buf.length ≤ s.room) (hh : Bf.fullB (s.side i).buf s.room = false) (m : Int) (hm : 0 ≤ m ∧ m < s.mem.length) : Keeps first s (storedM (port n i) t c s m) := by
  have hlt : (s.side i).buf.length < s.room := by
    unfold Bf.fullB at hh
    have : (s.side i).buf.length ≠ s.room := fun e => by simp [e] at hh
    omega
  refine ⟨?_, setS_len _ _ _⟩
  refine h.add (i := i) (x := evOf ⟨2, 0, t.pc, m, t.reg c.a, 0, 0, false⟩ i) rfl rfl (setS_len _ _ _) rfl rfl rfl (fun _ => hm) fun j hj => ?_
  show ((s.setB i (Bf.putL s.room (s.side i).buf ⟨m, t.reg c.a⟩)).side j).buf = _
  unfold Ms.setB
  rw [side_set hi]
  split
  · rename_i e; subst e
    show Bf.putL s.room (s.side j).buf ⟨m, t.reg c.a⟩ = _
    unfold Bf.putL
    rw [if_pos hlt]; rfl
  · rfl
theorem good_wait (h : Good first s) (hi : i < s.sides.length) (hb : (s.side i).buf = []) (m : Int) (hm : 0 ≤ m ∧ m < s.mem.length) : Keeps first s (waitedM (port n i) t c s m) := by
  have hl : s.load i m = s.mem.getD m.toNat 0 := by unfold Ms.load; rw [hb]; rfl
  have hg : ∀ b, Good first (s.note i ⟨8, 0, t.pc, m, s.load i m, 0, 0, b⟩) := by
    intro b
    refine h.note hi _ (by show (8 : Int) ≠ 2; decide) (by show (8 : Int) ≠ 3; decide) ?_ ?_
    · show (if inR m s.mem.length && s.mem.getD m.toNat 0 == s.load i m then some s.mem else none) = some s.mem
      rw [inR_of hm, hl]; simp
    · show (waitE (i : Int) s.evs).isEmpty = true
      rw [h.noWait hi hb]; rfl
  unfold waitedM
  split
  · exact ⟨(hg true).setQ _, rfl⟩
  · exact ⟨hg false, rfl⟩
theorem good_woke (h : Good first s) (hi : i < s.sides.length) (hb : (s.side i).buf = []) (m : Int) : Keeps first s (wokeM (port n i) t c s m) := by
  obtain ⟨h1, h2, h3, h4⟩ := rises (s := s) (s.sift m (t.reg c.a).toNat).out (s.setQ (s.sift m (t.reg c.a).toNat).left)
  have hg : Good first (s.wake m (t.reg c.a)) := h.same h1 h2 h3 fun j _ => h4 j
  have hl : (s.wake m (t.reg c.a)).sides.length = s.sides.length := h3
  refine ⟨hg.clear (i := i) (by rw [hl]; exact hi) ((h4 i).trans hb) ⟨9, 0, t.pc, m, (port n i).wake s m (t.reg c.a), 0, 0, false⟩ (.inr (.inl rfl)), hl⟩
theorem good_swap (h : Good first s) (hi : i < s.sides.length) (hb : (s.side i).buf = []) (m : Int) (hm : 0 ≤ m ∧ m < s.mem.length) : Keeps first s (swappedM (port n i) t c s m) := by
  have hl : s.load i m = s.mem.getD m.toNat 0 := by unfold Ms.load; rw [hb]; rfl
  have key : (swapM (port n i) t c s m).evs = s.evs ∧ (swapM (port n i) t c s m).sides = s.sides ∧ (swapM (port n i) t c s m).mem = s.mem.set m.toNat (insteadM t c (s.load i m)).1 := by
    show (if (insteadM t c (s.load i m)).2 then s.setM m (insteadM t c (s.load i m)).1 else s).evs = _ ∧ (if (insteadM t c (s.load i m)).2 then s.setM m (insteadM t c (s.load i m)).1 else s).sides = _ ∧ (if (insteadM t c (s.load i m)).2 then s.setM m (insteadM t c (s.load i m)).1 else s).mem = _
    cases hx : (insteadM t c (s.load i m)).2 with
    | true => exact ⟨rfl, rfl, rfl⟩
    | false =>
      refine ⟨rfl, rfl, ?_⟩
      rw [instead_no hx, hl, set_self (by omega)]; rfl
  obtain ⟨k1, k2, k3⟩ := key
  refine ⟨?_, congrArg List.length k2⟩
  refine h.add (i := i) (x := evOf ⟨4, 0, t.pc, m, (insteadM t c (s.load i m)).1, s.load i m, 0, (insteadM t c (s.load i m)).2⟩ i) rfl ?_ (congrArg List.length k2) ?_ ?_ ?_ (fun e => by cases e) fun j hj => ?_
  · show (swapM (port n i) t c s m).evs ++ _ = _
    rw [k1]; rfl
  · show (if inR m s.mem.length && s.mem.getD m.toNat 0 == s.load i m then some (s.mem.set m.toNat (insteadM t c (s.load i m)).1) else none) = some (swapM (port n i) t c s m).mem
    rw [k3, inR_of hm, ← hl]; simp
  · show (waitE (i : Int) s.evs).isEmpty = true
    rw [h.noWait hi hb]; rfl
  · show (swapM (port n i) t c s m).mem.length = _
    rw [k3]; simp
  · show ((swapM (port n i) t c s m).sides.getD j sd0).buf = _
    rw [k2]
    split <;> rfl
theorem good_asked (h : Good first s) (hi : i < s.sides.length) (hf : (s.side i).buf.length ≤ s.room) (hn : (s.mem.length : Int) = n) (h0 : 0 ≤ addrM t c) (hm : inMemM (port n i) t c = true) (hh : heldM (port n i) c s = false) (ha : askB c.op = true) : Keeps first s (askedM (port n i) t c s) := by
  have hm' : 0 ≤ addrM t c ∧ addrM t c < s.mem.length := by
    have : addrM t c < n := by simpa [inMemM, port] using hm
    omega
  unfold askedM
  split
  · exact good_load h hi _ hm'
  · rename_i h16
    split
    · rename_i h17
      refine good_store h hi hf ?_ _ hm'
      unfold heldM at hh
      rw [h17] at hh
      have hd : drainB 17 = false := by decide
      rw [hd] at hh
      have h2 : (port n i).room s = true := by simpa using hh
      show Bf.fullB _ _ = false
      have h3 : (!(Bf.fullB (s.side i).buf s.room)) = true := h2
      simpa using h3
    · rename_i h17
      have hb := held_empty hh (ask_drain ha h16 h17)
      split
      · exact good_wait h hi hb _ hm'
      · split
        · exact good_woke h hi hb _
        · exact good_swap h hi hb _ hm'
theorem good_alone (h : Good first s) (hi : i < s.sides.length) (hh : heldM (port n i) c s = false) : Keeps first s (aloneM (port n i) t c s) := by
  unfold aloneM
  split
  · exact ⟨h, rfl⟩
  · split
    · exact ⟨h, rfl⟩
    · split
      · rename_i e
        exact ⟨h.clear hi (held_empty hh (by rw [e]; decide)) (evt 5 t.pc) (.inl rfl), rfl⟩
      · split
        · exact ⟨h.plain hi _ (.inr (.inr (.inl rfl))), rfl⟩
        · split
          · obtain ⟨⟨h1, h2⟩, h3⟩ := h.remote
            exact ⟨h1.clear (i := i) (by rw [h2]; exact hi) (h3 i hi) (evt 10 t.pc) (.inr (.inr rfl)), h2⟩
          · split
            · exact ⟨h.plain hi _ (.inr (.inr (.inr (.inl rfl)))), rfl⟩
            · exact ⟨h, rfl⟩
theorem good_done (h : Good first s) (hi : i < s.sides.length) (hf : (s.side i).buf.length ≤ s.room) (hn : (s.mem.length : Int) = n) (h0 : 0 ≤ addrM t c) (hm : askB c.op = true → inMemM (port n i) t c = true) (hh : heldM (port n i) c s = false) : Keeps first s (doneM (port n i) t c s) := by
  unfold doneM
  split
  · exact good_end h hi 2 12 (.inl rfl)
  · split
    · exact ⟨h, rfl⟩
    · split
      · rename_i ha
        exact good_asked h hi hf hn h0 (hm ha) hh ha
      · split
        · exact ⟨h, rfl⟩
        · exact good_alone h hi hh
theorem wrap_nn (x : Int) : 0 ≤ IntKind.u32.wrap x := (u32_wrap x).1
theorem good_at (h : Good first s) (hi : i < s.sides.length) (hf : (s.side i).buf.length ≤ s.room) (hn : (s.mem.length : Int) = n) (hc : 0 ≤ c.k) (k : Int) : Keeps first s (atM (port n i) t c k s) := by
  have h0 : 0 ≤ addrM t c := by
    unfold addrM
    split
    · exact wrap_nn _
    · exact hc
  unfold atM
  split
  · exact good_end h hi 3 13 (.inr rfl)
  · rename_i hr
    split
    · exact ⟨h.flush hi, flush_len _ _⟩
    · rename_i hh
      refine good_done h hi hf hn h0 (fun ha => ?_) (by simpa using hh)
      simp only [Bool.or_eq_true, Bool.and_eq_true, not_or, not_and, Bool.not_eq_true, Bool.not_eq_false'] at hr
      exact hr.2 ha
theorem good_stepM (h : Good first s) (hi : i < s.sides.length) (hf : (s.side i).buf.length ≤ s.room) (hn : (s.mem.length : Int) = n) (code : List Ins) (hc : ∀ x ∈ code, InsOk x) : Keeps first s (stepM (port n i) t code s) := by
  unfold stepM
  split
  · exact ⟨h, rfl⟩
  · split
    · exact good_end h hi 2 12 (.inl rfl)
    · rename_i hp
      refine good_at h hi hf hn ?_ _
      rw [List.getD_eq_getElem?_getD]
      cases he : code[t.pc.toNat]? with
      | none => exact Int.le_refl 0
      | some x => exact (hc x (List.mem_of_getElem? he)).k0
theorem good_step (h : Good first s) (hi : i < s.sides.length) (hf : (s.side i).buf.length ≤ s.room) (hn : (s.mem.length : Int) = n) (hc : ∀ x ∈ (s.side i).code, InsOk x) : Good first (s.step n i) := by
  obtain ⟨h1, h2⟩ := good_stepM (t := (s.side i).t) h hi hf hn (s.side i).code hc
  exact h1.setT (by rw [h2]; exact hi) _
theorem good_rouse (h : Good first s) (hi : i < s.sides.length) : Good first (s.rouse i) := by
  unfold Ms.rouse
  split
  · have h1 := (h.setQ (Kq.rouseL i s.slp)).setT (i := i) hi (((s.setQ (Kq.rouseL i s.slp)).side i).t.is 0)
    exact h1.plain (i := i) (by unfold Ms.setT; rw [setS_len]; exact hi) ⟨11, 0, 0, 0, 0, 0, 0, false⟩ (.inr (.inr (.inr (.inr rfl))))
  · exact h
end
/-- a machine that lies in a world keeps it, whatever is picked -/
theorem good_pick {first : List Int} {k : Mk} {s : Ms} {e : Value} {w : World} (hw : Mw k s e w) (h : Good first s) (kind who : Int) : Good first (s.pick k.N kind who) := by
  unfold Ms.pick
  split
  · rename_i hwho
    have hi : who.toNat < s.sides.length := by omega
    obtain ⟨x, hx⟩ : ∃ x, k.ss[who.toNat]? = some x := ⟨_, List.getElem?_eq_getElem (by rw [hw.len]; exact hi)⟩
    obtain ⟨B, sr, r, f, ib⟩ := hw.sr hx
    have hs := hw.side _ x hx
    split
    · exact good_step h hi ib.len (by rw [hw.num]) hs.ins
    · split
      · exact h.flush hi
      · split
        · exact good_rouse h hi
        · exact h
  · exact h
end Go.Proofs.YthbenfnanhpcoaaGreatDoor.Mc
