/-
  Machines without buffers, by the same plain lists: what each thread's port makes of one; what picks do. No program, no condition.
-/
import Derived.Test.YthbenfnanhpcoaaGreatDoorZzbi
import Derived.Test.YthbenfnanhpcoaaGreatDoorZzbg
import Derived.Test.YthbenfnanhpcoaaGreatDoorZzbd
import Derived.Test.YthbenfnanhpcoaaGreatDoorZzaw
import Derived.Test.YthbenfnanhpcoaaGreatDoorZzax
namespace Go.Proofs.YthbenfnanhpcoaaGreatDoor.Mc
set_option linter.unusedVariables false

/-- a thread's port, where stores are in memory at once -/
def portS (n : Int) (i : Nat) : Prt Ms where
  size := n
  fuel := Ms.fuel
  load s m := s.mem.getD m.toNat 0
  loadS s _ := s
  room _ := true
  store s m v := s.setM m v
  empty _ := true
  flush s := s
  swap s m v := s.mem.getD m.toNat 0
  swapS s m v := s.setM m v
  sleep s m := s.sleep i m
  wake s m v := s.woken m v
  wakeS s m v := s.wake m v
  remote s := s
  note s x := s.note i x
/-- a thread's step -/
def Ms.stepS (s : Ms) (n : Int) (i : Nat) : Ms :=
  (stepM (portS n i) (s.side i).t (s.side i).code s).2.setT i (stepM (portS n i) (s.side i).t (s.side i).code s).1
/-- a pick -/
def Ms.pickS (s : Ms) (n : Int) (kind who : Int) : Ms :=
  if 0 ≤ who ∧ who < s.sides.length then
    (if kind = 0 then s.stepS n who.toNat else if kind = 2 then s.rouse who.toNat else s)
  else s
/-- what picks do, one behind the other -/
def Ms.runS (s : Ms) (n : Int) (l : List Ent) : Ms := l.foldl (fun s x => s.pickS n x.a x.v) s
theorem runS_snoc (s : Ms) (n : Int) (l : List Ent) (j : Nat) (h : j < l.length) : s.runS n (l.take (j + 1)) = (s.runS n (l.take j)).pickS n (l.getD j ent0).a (l.getD j ent0).v := by
  have e : l.take (j + 1) = l.take j ++ [l.getD j ent0] := by
    rw [List.take_add_one, List.getElem?_eq_getElem h, List.getD_eq_getElem?_getD, List.getElem?_eq_getElem h]
    rfl
  rw [e]
  unfold Ms.runS
  rw [List.foldl_append]
  rfl
theorem restS_codes (n : Int) (i : Nat) : Rest (portS n i) Ms.codes where
  loadS _ _ := rfl
  store _ _ _ := rfl
  flush _ := rfl
  swapS _ _ _ := rfl
  sleep _ _ := rfl
  wakeS _ _ _ := codes_wake _ _ _
  remote _ := rfl
  note _ _ := rfl
theorem codes_pickS (s : Ms) (n kind who : Int) : (s.pickS n kind who).codes = s.codes := by
  unfold Ms.pickS
  split
  · split
    · exact (codes_setT _ _ _).trans (rest_stepM (restS_codes _ _) _ _ _)
    · split
      · unfold Ms.rouse
        split
        · exact codes_setT _ _ _
        · rfl
      · rfl
  · rfl
theorem short_pickS {s : Ms} (h : Short s) (n kind who : Int) : Short (s.pickS n kind who) := fun i => by
  rw [codes_get, codes_pickS, ← codes_get]
  exact h i
section
variable {s : Ms} {i : Nat} {n : Int} {t : Th} {c : Ins}
theorem evsS_asked : (askedM (portS n i) t c s).2.evs.length ≤ s.evs.length + 1 := by
  unfold askedM
  split
  · show (s.note i _).evs.length ≤ _
    rw [evs_note]; omega
  · split
    · show ((s.setM _ _).note i _).evs.length ≤ _
      rw [evs_note]
      show s.evs.length + 1 ≤ _
      omega
    · split
      · unfold waitedM
        split
        · show (s.note i _).evs.length ≤ _
          rw [evs_note]; omega
        · show (s.note i _).evs.length ≤ _
          rw [evs_note]; omega
      · split
        · show ((s.wake _ _).note i _).evs.length ≤ _
          rw [evs_note, evs_wake]; omega
        · show ((swapM (portS n i) t c s _).note i _).evs.length ≤ _
          rw [evs_note]
          have : (swapM (portS n i) t c s (addrM t c)).evs = s.evs := by
            unfold swapM
            split <;> rfl
          rw [this]; omega
theorem evsS_alone : (aloneM (portS n i) t c s).2.evs.length ≤ s.evs.length + 1 := by
  unfold aloneM
  split
  · exact Nat.le_add_right _ _
  · split
    · exact Nat.le_add_right _ _
    · split
      · show (s.note i _).evs.length ≤ _
        rw [evs_note]; omega
      · split
        · show (s.note i _).evs.length ≤ _
          rw [evs_note]; omega
        · split
          · show (s.note i _).evs.length ≤ _
            rw [evs_note]; omega
          · split
            · show (s.note i _).evs.length ≤ _
              rw [evs_note]; omega
            · exact Nat.le_add_right _ _
theorem evsS_end (st ev : Int) : (endM (portS n i) t s st ev).2.evs.length ≤ s.evs.length + 1 := by
  show (s.note i _).evs.length ≤ _
  rw [evs_note]; omega
theorem evsS_stepM (code : List Ins) : (stepM (portS n i) t code s).2.evs.length ≤ s.evs.length + 1 := by
  unfold stepM
  split
  · exact Nat.le_add_right _ _
  · split
    · exact evsS_end 2 12
    · unfold atM
      split
      · exact evsS_end 3 13
      · split
        · exact Nat.le_add_right _ _
        · unfold doneM
          split
          · exact evsS_end 2 12
          · split
            · exact Nat.le_add_right _ _
            · show (if _ then _ else _ : Th × Ms).2.evs.length ≤ _
              split
              · exact evsS_asked
              · split
                · exact Nat.le_add_right _ _
                · exact evsS_alone
theorem evs_pickS (kind who : Int) : (s.pickS n kind who).evs.length ≤ s.evs.length + 1 := by
  unfold Ms.pickS
  split
  · split
    · exact evsS_stepM _
    · split
      · unfold Ms.rouse
        split
        · rw [evs_note]
          show s.evs.length + 1 ≤ _
          omega
        · exact Nat.le_add_right _ _
      · exact Nat.le_add_right _ _
  · exact Nat.le_add_right _ _
end
end Go.Proofs.YthbenfnanhpcoaaGreatDoor.Mc

namespace Go.Proofs.YthbenfnanhpcoaaGreatDoor.Sc
open Go.Proofs.YthbenfnanhpcoaaGreatDoor.Mc Go.ChangeShapes Go.WideShapes Go.ChangeAt Go.RowKit
set_option linter.unusedVariables false
set_option maxRecDepth 20000

theorem word_u {k : Mk} {s : Ms} {e : Value} {w : World} (h : Mw k s e w) (m : Int) : U32 (s.mem.getD m.toNat 0) := by
  rw [List.getD_eq_getElem?_getD]
  rcases Nat.lt_or_ge m.toNat s.mem.length with q | q
  · rw [List.getElem?_eq_getElem q]; exact h.wrd _ (List.getElem_mem q)
  · rw [List.getElem?_eq_none q]; exact ⟨by decide, by decide⟩
theorem port_ok (k : Mk) (i : Nat) (x : Sk) (hx : k.ss[i]? = some x) (hk : k.N ≤ 100000) : Sp.PortOk (MI k) (portS k.N i) (fnsT k.mb x.g) where
  inv := mi_inv k
  size := ⟨by show (0 : Int) ≤ k.N; omega, by show (k.N : Int) ≤ _; omega⟩
  load := fun s w m h0 h1 hq => by
    obtain ⟨n, rfl⟩ := nat_of h0
    exact ⟨fun _ _ => by simp [fnsT, go_sem], load_does k s n (by have : (n : Int) < k.N := h1; omega) w⟩
  loadU := fun F s w m h => by
    obtain ⟨e, h, -⟩ := h
    exact word_u h m
  loadF := fun s m => Nat.le_add_right _ _
  room := fun s w hq => ⟨fun _ _ => by simp [fnsT, go_sem], yes_does k s w⟩
  store := fun s w m v h0 h1 hu hr hq => by
    obtain ⟨n, rfl⟩ := nat_of h0
    exact ⟨fun _ _ => by simp [fnsT, go_sem], store_does k s n (by have : (n : Int) < k.N := h1; omega) v hu w⟩
  storeF := fun s m v => fuel_swap s m v
  empty := fun s w hq => ⟨fun _ _ => by simp [fnsT, go_sem], yes_does k s w⟩
  flush := fun s w hq => ⟨fun _ _ => by simp [fnsT, go_sem], nothing_does k s w⟩
  swap := fun s w m v h0 h1 hu hq => by
    obtain ⟨n, rfl⟩ := nat_of h0
    exact ⟨fun _ _ => by simp [fnsT, go_sem], swap_does k s n (by have : (n : Int) < k.N := h1; omega) v hu w⟩
  swapF := fun s m v => fuel_swap s m v
  sleep := fun s w m h0 h1 hq => ⟨fun _ _ => by simp [fnsT, go_sem], sleep_does k i x hx s m w⟩
  wake := fun s w m v h0 h1 hu hq => by
    obtain ⟨n, rfl, hn⟩ := u32_nat hu
    exact ⟨fun _ _ => by simp [fnsT, go_sem], wake_does k s m n hn w⟩
  wakeU := fun F s w m v h => by
    show U32 (IntKind.u32.wrap _)
    rw [IntKind.wrap_u32]
    exact ⟨by omega, by omega⟩
  wakeF := fun s m v => fuel_wake s m v
  remote := fun s w hq => ⟨fun _ _ => by simp [fnsT, go_sem], nothing_does k s w⟩
  remoteF := fun s => Nat.le_add_right _ _
  note := fun s w v hq => ⟨fun _ _ => by simp [fnsT, go_sem], note_does k i x hx s v (fuel_evs hq) w⟩
  noteF := fun s v => fuel_note s i v
end Go.Proofs.YthbenfnanhpcoaaGreatDoor.Sc

namespace Go.Proofs.YthbenfnanhpcoaaGreatDoor.Sc
open Go.Proofs.YthbenfnanhpcoaaGreatDoor.Mc Go.ChangeShapes Go.WideShapes Go.ChangeAt Go.RowKit
set_option linter.unusedVariables false
set_option maxRecDepth 20000

theorem infoP11 (z : Int) (f : Sp.Fns) : (Tryz.prog.info? 103).map (·.size) = some (Sp.portA z f).toList.length := by
  show _ = some 11
  kernel_rfl
set_option maxHeartbeats 1000000 in
theorem step_does (k : Mk) (i : Nat) (x : Sk) (hx : k.ss[i]? = some x) (s : Ms) (hq : 1000 ≤ s.fuel) (hc : (s.side i).code.length ≤ 100000) (w : World) :
    Does (MI k) s w 46 #[.pointer (some ⟨x.g, 0, none⟩)] (.tuple #[]) (s.stepS k.N i) := by
  rintro F ⟨e, h, rfl⟩
  have h1 := h.later (Gr.refl w).drew
  obtain ⟨B, sr, -⟩ := h1.sr hx
  have hs := h1.side i x hx
  obtain ⟨ad, cap, hcv, hrow, -, -, -⟩ := own_at hs.code
  have HC := Sp.step_does (port_ok k i x hx h.most) hs.th (s.side i).code hs.ins (by omega) ad cap s hq w.drew hrow (k.foot e) ⟨e, h1, rfl⟩
  have HH := hide h
  have rT := sr.rT
  have rP := sr.rP
  have c2 := sr.c2
  rw [hcv] at c2
  have iT := infoT10 hs.th
  have iP := infoP11 k.N (fnsT k.mb x.g)
  have HST : Hid (s.stepS k.N i = (stepM (portS k.N i) (s.side i).t (s.side i).code s).2.setT i (stepM (portS k.N i) (s.side i).t (s.side i).code s).1) := by show _ = _; rfl
  rw [HST.out]
  have HT : Hid (ThOk (stepM (portS k.N i) (s.side i).t (s.side i).code s).1) := by
    exact Sp.stepM_ok (port_ok k i x hx h.most) ⟨e, h1, rfl⟩ hs.th _ hs.ins
  generalize stepM (portS k.N i) (s.side i).t (s.side i).code s = r2 at HC HT ⊢
  obtain ⟨t2, s2⟩ := r2
  clear h h1 sr hs
  go_enter Tryz.func46, Tryz.ntmps46
  go_wp2_with (fail)
  refine begin_late 17 [13, 14, 15, 16] (fun w' => w' = w.drew) (by kernel_rfl) rfl ?_
  have hH : w.drew = w.drew := rfl
  refine AnyL.takeP 0 (some 2) (.pointer (some ⟨x.g, 0, none⟩)) rfl rfl (by kernel_rfl) (by kernel_rfl) (by kernel_rfl) (by kernel_rfl) (fun _ _ _ h => h) (by kernel_rfl) (fun w' => by go_simp) (fun _ => hH) ?_
  simp only [Act.put, List.setIfInBounds_toArray, List.set_cons_zero, List.set_cons_succ]
  refine AnyL.takeP 1 (some 3) (.pointer (some ⟨x.g, 0, none⟩)) rfl rfl (by kernel_rfl) (by kernel_rfl) (by kernel_rfl) (by kernel_rfl) (fun _ _ _ h => h) (by kernel_rfl) (fun w' => by go_simp) (fun _ => hH) ?_
  simp only [Act.put, List.setIfInBounds_toArray, List.set_cons_zero, List.set_cons_succ]
  refine AnyL.takeP 2 (some 4) (.pointer (some ⟨x.g, 0, none⟩)) rfl rfl (by kernel_rfl) (by kernel_rfl) (by kernel_rfl) (by kernel_rfl) (fun _ _ _ h => h) (by kernel_rfl) (fun w' => by go_simp) (fun _ => hH) ?_
  simp only [Act.put, List.setIfInBounds_toArray, List.set_cons_zero, List.set_cons_succ]
  refine AnyL.takeP 3 (some 5) (.pointer (some ⟨x.g, 3, none⟩)) rfl rfl (by kernel_rfl) (by kernel_rfl) (by kernel_rfl) (by kernel_rfl) (fun _ _ _ h => h) (by kernel_rfl) (fun w' => by go_simp) (fun _ => hH) ?_
  simp only [Act.put, List.setIfInBounds_toArray, List.set_cons_zero, List.set_cons_succ]
  refine AnyL.take 4 (some 6) (.agg (thC (s.side i).t)) rfl rfl (by kernel_rfl) (by kernel_rfl) (by kernel_rfl) (by kernel_rfl) (fun _ _ _ h => h) (yieldsIf_load_mid (by kernel_rfl) 42 _ rfl x.g 3 rfl (thL (s.side i).t) _ (fun w' hw' => by subst hw'; exact rT) Tryz.underlying42 rfl iT) hH ?_
  simp only [Act.put, List.setIfInBounds_toArray, List.set_cons_zero, List.set_cons_succ]
  refine AnyL.takeP 5 (some 7) (.pointer (some ⟨x.g, 0, none⟩)) rfl rfl (by kernel_rfl) (by kernel_rfl) (by kernel_rfl) (by kernel_rfl) (fun _ _ _ h => h) (by kernel_rfl) (fun w' => by go_simp) (fun _ => hH) ?_
  simp only [Act.put, List.setIfInBounds_toArray, List.set_cons_zero, List.set_cons_succ]
  refine AnyL.takeP 6 (some 8) (.pointer (some ⟨x.g, 0, none⟩)) rfl rfl (by kernel_rfl) (by kernel_rfl) (by kernel_rfl) (by kernel_rfl) (fun _ _ _ h => h) (by kernel_rfl) (fun w' => by go_simp) (fun _ => hH) ?_
  simp only [Act.put, List.setIfInBounds_toArray, List.set_cons_zero, List.set_cons_succ]
  refine AnyL.takeP 7 (some 9) (.pointer (some ⟨x.g, 2, none⟩)) rfl rfl (by kernel_rfl) (by kernel_rfl) (by kernel_rfl) (by kernel_rfl) (fun _ _ _ h => h) (by kernel_rfl) (fun w' => by go_simp) (fun _ => hH) ?_
  simp only [Act.put, List.setIfInBounds_toArray, List.set_cons_zero, List.set_cons_succ]
  refine AnyL.take 8 (some 10) (.slice ad (s.side i).code.length cap) rfl rfl (by kernel_rfl) (by kernel_rfl) (by kernel_rfl) (by kernel_rfl) (fun _ _ _ h => h) (yields_held _ (by kernel_rfl) (fun w' hw' => by subst hw'; go_simp)) hH ?_
  simp only [Act.put, List.setIfInBounds_toArray, List.set_cons_zero, List.set_cons_succ]
  refine AnyL.takeP 9 (some 11) (.pointer (some ⟨x.g, 0, none⟩)) rfl rfl (by kernel_rfl) (by kernel_rfl) (by kernel_rfl) (by kernel_rfl) (fun _ _ _ h => h) (by kernel_rfl) (fun w' => by go_simp) (fun _ => hH) ?_
  simp only [Act.put, List.setIfInBounds_toArray, List.set_cons_zero, List.set_cons_succ]
  refine AnyL.takeP 10 (some 12) (.pointer (some ⟨x.g, 0, none⟩)) rfl rfl (by kernel_rfl) (by kernel_rfl) (by kernel_rfl) (by kernel_rfl) (fun _ _ _ h => h) (by kernel_rfl) (fun w' => by go_simp) (fun _ => hH) ?_
  simp only [Act.put, List.setIfInBounds_toArray, List.set_cons_zero, List.set_cons_succ]
  refine AnyL.takeP 11 (some 13) (.pointer (some ⟨x.g, 13, none⟩)) rfl rfl (by kernel_rfl) (by kernel_rfl) (by kernel_rfl) (by kernel_rfl) (fun _ _ _ h => h) (by kernel_rfl) (fun w' => by go_simp) (fun _ => hH) ?_
  simp only [Act.put, List.setIfInBounds_toArray, List.set_cons_zero, List.set_cons_succ]
  refine AnyL.take 12 (some 14) (.agg (Sp.portA k.N (fnsT k.mb x.g))) rfl rfl (by kernel_rfl) (by kernel_rfl) (by kernel_rfl) (by kernel_rfl) (fun _ _ _ h => h) (yieldsIf_load_mid (by kernel_rfl) 103 _ rfl x.g 13 rfl (Sp.portA k.N (fnsT k.mb x.g)).toList _ (fun w' hw' => by subst hw'; exact rP) Tryz.underlying103 rfl iP) hH ?_
  simp only [Act.put, List.setIfInBounds_toArray, List.set_cons_zero, List.set_cons_succ]
  refine AnyL.one 13 (by kernel_rfl) rfl (by kernel_rfl) ?_
  refine wp_call (some 15) rfl _ _ (by kernel_rfl) HC ?_
  rintro r u ⟨rfl, p⟩
  refine ⟨_, rfl, late (by kernel_rfl), ?_⟩
  obtain ⟨F', ⟨e2, h2, rfl⟩, kp, nn, -, -⟩ := p
  obtain ⟨B2, sr2, iB2⟩ := h2.sr hx
  have q := Kq.kp_setCells (b := x.g) (thL t2) 3 u
  have hB := Kq.setCells_has (thL t2) 3 u _ sr2.has
  rw [side_setT sr2.th HT.out] at hB
  have h4 := h2.setS hx q (B := B2) (d := ⟨(s2.side i).code, t2, (s2.side i).buf⟩) hB iB2 rfl HT.out (h2.side i x hx).ent
  have thr := sr2.has.there 3 (thC t2).size (by rw [side_size sr2.th]; unfold thC; rw [List.size_toArray, thL_len HT.out]; omega)
  have i2 : (Tryz.prog.info? 42).map (·.size) = some (thC t2).size := by unfold thC; rw [List.size_toArray]; exact infoT10 HT.out
  have o2 : (thC t2).all (·.oneCell') = true := by
    simp [thC, thL, Value.oneCell']
  have kp3 := (((Gr.refl w).drew.kp (k.foot e)).trans kp (fun _ h => h) (fun _ h => .inl h))
  have hp := mi_post HH.out h4 (kp3.trans q (fun _ h => h) (fun y hy => (nn y (mem_foot.2 (.inr (.inr (.inr (.inr (.inl ⟨x, mem_get hx, by rw [show y = x.g by simpa using hy]⟩))))))).1)) (fun y hy => (nn y (mem_foot.2 (.inr (.inr (.inr (.inl hy)))))).1)
  have HP := hide hp
  refine AnyL.one 14 (by kernel_rfl) rfl (by kernel_rfl) ?_
  refine wp_value (some 16) rfl (.pointer (some ⟨x.g, 0, none⟩)) (by go_simp) ?_
  refine ⟨late (by kernel_rfl), ?_⟩
  refine AnyL.one 15 (by kernel_rfl) rfl (by kernel_rfl) ?_
  refine wp_value (some 17) rfl (.pointer (some ⟨x.g, 3, none⟩)) (by go_simp) ?_
  refine ⟨late (by kernel_rfl), ?_⟩
  refine AnyL.one 16 (by kernel_rfl) rfl (by kernel_rfl) ?_
  refine wp_store_mid 42 _ _ rfl x.g 3 (thC t2) (by kernel_rfl) (by kernel_rfl) thr i2 o2 ?_
  refine ⟨late (by kernel_rfl), ?_⟩
  refine AnyL.done (by kernel_rfl) ?_
  clear HC rT rP c2 iT iP hp h4 hB q kp kp3 nn sr2 h2 iB2 thr i2 o2 hH hrow
  go_wp2_with (fail)
  go_end0
  exact ⟨rfl, HP.out⟩
end Go.Proofs.YthbenfnanhpcoaaGreatDoor.Sc
