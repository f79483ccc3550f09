/-
  How many events a pick adds, by plain lists. No program; no condition but what each law names.
-/
import Derived.Test.YthbenfnanhpcoaaGreatDoorZtbmPStp
import Derived.Test.YthbenfnanhpcoaaGreatDoorZtbl
namespace Go.Proofs.YthbenfnanhpcoaaGreatDoor.Mc
set_option linter.unusedVariables false

section
variable {s : Ms} {i : Nat} {n : Int} {t : Th} {c : Ins}
theorem evs_note (s : Ms) (i : Nat) (x : Ev) : (s.note i x).evs.length = s.evs.length + 1 := by simp [Ms.note]
theorem evs_remote (h : s.okB = true) : s.remote.evs.length ≤ s.evs.length + 128 := by
  have h1 := (remote_fold (List.range s.sides.length) s h).2
  have h2 := (ok_room h).2
  rw [List.length_range] at h1
  unfold Ms.remote
  omega
theorem evs_wake (s : Ms) (m v : Int) : (s.wake m v).evs = s.evs := (rises (s := s) (s.sift m v.toNat).out (s.setQ (s.sift m v.toNat).left)).1
theorem evs_end (st ev : Int) : (endM (port n i) t s st ev).2.evs.length ≤ s.evs.length + 130 := by
  show (s.note i _).evs.length ≤ _
  rw [evs_note]; omega
theorem evs_asked : (askedM (port n i) t c s).2.evs.length ≤ s.evs.length + 130 := by
  unfold askedM
  split
  · show (s.note i _).evs.length ≤ _
    rw [evs_note]; omega
  · split
    · show ((s.store i _ _).note i _).evs.length ≤ _
      rw [evs_note]
      show s.evs.length + 1 ≤ _
      omega
    · split
      · unfold waitedM
        split
        · show (s.note i _).evs.length ≤ _
          rw [evs_note]; omega
        · show (s.note i _).evs.length ≤ _
          rw [evs_note]; omega
      · split
        · show ((s.wake _ _).note i _).evs.length ≤ _
          rw [evs_note, evs_wake]; omega
        · show ((swapM (port n i) t c s _).note i _).evs.length ≤ _
          rw [evs_note]
          have : (swapM (port n i) t c s (addrM t c)).evs = s.evs := by
            unfold swapM
            split <;> rfl
          rw [this]; omega
theorem evs_alone (h : s.okB = true) : (aloneM (port n i) t c s).2.evs.length ≤ s.evs.length + 130 := by
  unfold aloneM
  split
  · exact Nat.le_add_right _ _
  · split
    · exact Nat.le_add_right _ _
    · split
      · show (s.note i _).evs.length ≤ _
        rw [evs_note]; omega
      · split
        · show (s.note i _).evs.length ≤ _
          rw [evs_note]; omega
        · split
          · show (s.remote.note i _).evs.length ≤ _
            have := evs_remote h
            rw [evs_note]; omega
          · split
            · show (s.note i _).evs.length ≤ _
              rw [evs_note]; omega
            · exact Nat.le_add_right _ _
theorem evs_stepM (h : s.okB = true) (code : List Ins) : (stepM (port n i) t code s).2.evs.length ≤ s.evs.length + 130 := by
  unfold stepM
  split
  · exact Nat.le_add_right _ _
  · split
    · exact evs_end 2 12
    · unfold atM
      split
      · exact evs_end 3 13
      · split
        · have := evs_flush s i
          show (s.flush i).evs.length ≤ _
          omega
        · unfold doneM
          split
          · exact evs_end 2 12
          · split
            · exact Nat.le_add_right _ _
            · show (if _ then _ else _ : Th × Ms).2.evs.length ≤ _
              split
              · exact evs_asked
              · split
                · exact Nat.le_add_right _ _
                · exact evs_alone h
theorem evs_pick (h : s.okB = true) (kind who : Int) : (s.pick n kind who).evs.length ≤ s.evs.length + 130 := by
  unfold Ms.pick
  split
  · split
    · exact evs_stepM h _
    · split
      · have := evs_flush s who.toNat
        omega
      · split
        · unfold Ms.rouse
          split
          · rw [evs_note]
            show s.evs.length + 1 ≤ _
            omega
          · exact Nat.le_add_right _ _
        · exact Nat.le_add_right _ _
  · exact Nat.le_add_right _ _
end
/-- what picks do, one behind the other -/
def Ms.run (s : Ms) (n : Int) (l : List Ent) : Ms := l.foldl (fun s x => s.pick n x.a x.v) s
theorem run_snoc (s : Ms) (n : Int) (l : List Ent) (j : Nat) (h : j < l.length) : s.run n (l.take (j + 1)) = (s.run n (l.take j)).pick n (l.getD j ent0).a (l.getD j ent0).v := by
  have e : l.take (j + 1) = l.take j ++ [l.getD j ent0] := by
    rw [List.take_add_one, List.getElem?_eq_getElem h, List.getD_eq_getElem?_getD, List.getElem?_eq_getElem h]
    rfl
  rw [e]
  unfold Ms.run
  rw [List.foldl_append]
  rfl
end Go.Proofs.YthbenfnanhpcoaaGreatDoor.Mc

namespace Go.Proofs.YthbenfnanhpcoaaGreatDoor.Mc
set_option linter.unusedVariables false

def Ms.codes (s : Ms) : List (List Ins) := s.sides.map Sd.code
theorem codes_get (s : Ms) (i : Nat) : (s.side i).code = s.codes.getD i [] := by
  unfold Ms.side Ms.codes
  simp only [List.getD_eq_getElem?_getD, List.getElem?_map]
  cases s.sides[i]? <;> rfl
theorem codes_setS {s : Ms} {i : Nat} {d : Sd} (h : d.code = (s.side i).code) : (s.setS i d).codes = s.codes := by
  unfold Ms.codes Ms.setS
  show (s.sides.set i d).map Sd.code = _
  apply List.ext_getElem?
  intro j
  simp only [List.getElem?_map, List.getElem?_set]
  split
  · rename_i e; subst e
    split
    · rename_i hi
      have : s.side i = s.sides[i] := by
        unfold Ms.side
        rw [List.getD_eq_getElem?_getD, List.getElem?_eq_getElem hi]; rfl
      rw [this] at h
      simp [h, hi]
    · rename_i hi; simp [List.getElem?_eq_none (Nat.le_of_not_lt hi)]
  · rfl
theorem codes_setT (s : Ms) (i : Nat) (t : Th) : (s.setT i t).codes = s.codes := codes_setS rfl
theorem codes_setB (s : Ms) (i : Nat) (l : List Ent) : (s.setB i l).codes = s.codes := codes_setS rfl
theorem codes_flush (s : Ms) (i : Nat) : (s.flush i).codes = s.codes := by
  unfold Ms.flush
  cases (s.side i).buf with
  | nil => rfl
  | cons x l => exact codes_setB s i l
theorem codes_drain (i : Nat) : ∀ (n : Nat) (s : Ms), (s.drain i n).codes = s.codes
  | 0, s => rfl
  | n + 1, s => (codes_drain i n (s.flush i)).trans (codes_flush s i)
theorem codes_remF : ∀ (l : List Nat) (s : Ms), (l.foldl (fun s i => s.drain i (s.side i).buf.length) s).codes = s.codes
  | [], s => rfl
  | i :: l, s => (codes_remF l _).trans (codes_drain i _ s)
theorem codes_rises : ∀ (l : List Int) (s : Ms), (l.foldl Ms.rise s).codes = s.codes
  | [], s => rfl
  | x :: l, s => (codes_rises l (s.rise x)).trans (codes_setT _ _ _)
theorem codes_wake (s : Ms) (m v : Int) : (s.wake m v).codes = s.codes := codes_rises _ _
/-- a port that leaves what is asked of its states as it is -/
structure Rest {S A : Type} (M : Prt S) (f : S → A) : Prop where
  loadS : ∀ s m, f (M.loadS s m) = f s
  store : ∀ s m v, f (M.store s m v) = f s
  flush : ∀ s, f (M.flush s) = f s
  swapS : ∀ s m v, f (M.swapS s m v) = f s
  sleep : ∀ s m, f (M.sleep s m) = f s
  wakeS : ∀ s m v, f (M.wakeS s m v) = f s
  remote : ∀ s, f (M.remote s) = f s
  note : ∀ s x, f (M.note s x) = f s
theorem rest_stepM {S A : Type} {M : Prt S} {f : S → A} (H : Rest M f) (t : Th) (code : List Ins) (s : S) : f (stepM M t code s).2 = f s := by
  unfold stepM
  split
  · rfl
  · split
    · exact H.note _ _
    · unfold atM
      split
      · exact H.note _ _
      · split
        · exact H.flush _
        · unfold doneM
          split
          · exact H.note _ _
          · split
            · rfl
            · show f (if _ then _ else _ : Th × S).2 = _
              split
              · unfold askedM
                split
                · exact (H.note _ _).trans (H.loadS _ _)
                · split
                  · exact (H.note _ _).trans (H.store _ _ _)
                  · split
                    · unfold waitedM
                      split
                      · exact (H.sleep _ _).trans ((H.note _ _).trans (H.loadS _ _))
                      · exact (H.note _ _).trans (H.loadS _ _)
                    · split
                      · exact (H.note _ _).trans (H.wakeS _ _ _)
                      · refine (H.note _ _).trans ?_
                        unfold swapM
                        split
                        · exact (H.swapS _ _ _).trans (H.loadS _ _)
                        · exact H.loadS _ _
              · split
                · rfl
                · unfold aloneM
                  split
                  · rfl
                  · split
                    · rfl
                    · split
                      · exact H.note _ _
                      · split
                        · exact H.note _ _
                        · split
                          · exact (H.note _ _).trans (H.remote _)
                          · split
                            · exact H.note _ _
                            · rfl
theorem rest_codes (n : Int) (i : Nat) : Rest (port n i) Ms.codes where
  loadS _ _ := rfl
  store _ _ _ := codes_setB _ _ _
  flush _ := codes_flush _ _
  swapS _ _ _ := rfl
  sleep _ _ := rfl
  wakeS _ _ _ := codes_wake _ _ _
  remote _ := codes_remF _ _
  note _ _ := rfl
theorem codes_pick (s : Ms) (n kind who : Int) : (s.pick n kind who).codes = s.codes := by
  unfold Ms.pick
  split
  · split
    · exact (codes_setT _ _ _).trans (rest_stepM (rest_codes _ _) _ _ _)
    · split
      · exact codes_flush _ _
      · split
        · unfold Ms.rouse
          split
          · exact codes_setT _ _ _
          · rfl
        · rfl
  · rfl
theorem codes_run (n : Int) : ∀ (l : List Ent) (s : Ms), (s.run n l).codes = s.codes
  | [], s => rfl
  | x :: l, s => (codes_run n l (s.pick n x.a x.v)).trans (codes_pick s n x.a x.v)
/-- no code is longer than may be -/
def Short (s : Ms) : Prop := ∀ i, (s.side i).code.length ≤ 100000
theorem short_pick {s : Ms} (h : Short s) (n kind who : Int) : Short (s.pick n kind who) := fun i => by
  rw [codes_get, codes_pick, ← codes_get]
  exact h i
end Go.Proofs.YthbenfnanhpcoaaGreatDoor.Mc

namespace Go.Proofs.YthbenfnanhpcoaaGreatDoor.Mc
open Go.ChangeShapes Go.WideShapes Go.ChangeAt Go.RowKit
set_option linter.unusedVariables false
set_option maxRecDepth 20000

theorem fuel_few {s : Ms} (h : s.okB = true) (he : s.evs.length ≤ 94000) : 1000 ≤ s.fuel := by
  unfold Ms.fuel
  rw [if_pos h]
  omega
set_option maxHeartbeats 1000000 in
theorem run_does (k : Mk) (P : Ms → Prop) (hP : ∀ s e w kind who, Mw k s e w → P s → P (s.pick k.N kind who)) (l : List Ent) (a : Option Addr) (c : Nat) (hl : l.length ≤ 600) (s : Ms) (hs : P s) (he : s.evs.length ≤ 10000) (hc : Short s) (w : World) (F : List Nat) (hI : MI k F s w)
    (hrow : RowAt w a (flatOf slpL l)) (hout : ∀ y, a = some y → 0 < l.length → y.block ∉ F) :
    Calls Tryz.prog 10 #[.pointer (some ⟨k.mb, 0, none⟩), .slice a l.length c] w fun r w' => (r = .returned (.tuple #[]) ∧ Pst (MI k) F w [] (s.run k.N l) w') ∧ P (s.run k.N l) ∧ (s.run k.N l).evs.length ≤ 10000 + 130 * l.length := by
  have p0 := Pst.start (mi_inv k) hI
  have HT := hide (fun j h => run_snoc s k.N l j h)
  have HP := hide hP
  have hs0 : P (s.run k.N (l.take 0)) := hs
  have hc0 : Short (s.run k.N (l.take 0)) := hc
  have he0 : (s.run k.N (l.take 0)).evs.length ≤ 10000 + 130 * 0 := he
  have p00 : Pst (MI k) F w [] (s.run k.N (l.take 0)) w := p0
  clear hI p0 hP hs hc he
  go_enter Tryz.func10, Tryz.ntmps10
  go_wp2_with (fail)
  go_loopw [8] (fun v wr => ∃ j : Nat, j ≤ l.length ∧ v = .int .i64 j ∧ Pst (MI k) F w [] (s.run k.N (l.take j)) wr ∧ P (s.run k.N (l.take j)) ∧ Short (s.run k.N (l.take j)) ∧ (s.run k.N (l.take j)).evs.length ≤ 10000 + 130 * j) (fun v _ => l.length - (intOf v).toNat)
  case atStart => exact ⟨0, by omega, rfl, p00, hs0, hc0, he0⟩
  case round =>
    clear p00 hs0 hc0 he0
    obtain ⟨j, hj, rfl, p, hs, hc, he⟩ := hrel
    by_cases hlt : j < l.length
    · have hlt' : (j : Int) < l.length := by omega
      have rw1 : RowAt wr a (flatOf slpL l) := by
        obtain ⟨F', -, kp, -⟩ := p
        exact hrow.kept kp fun y hy => hout y hy (by omega)
      obtain ⟨b, off, had, -⟩ := rw1.get (by rw [flatOf_length slpL_len]; omega)
      subst had
      have c0 := rw1.cell slpL_len hlt ent0 0 (by omega)
      have c1 := rw1.cell slpL_len hlt ent0 1 (by omega)
      have HS := hide (HT.out j hlt)
      generalize l.getD j ent0 = x at c0 c1 HS
      simp only [slpL, List.getElem?_cons_zero, List.getElem?_cons_succ, Nat.add_zero, ← Nat.add_assoc] at c0 c1
      generalize s.run k.N (l.take j) = sj at p hs hc he HS
      obtain ⟨e1, h1⟩ := Pst.mw p
      have hf := fuel_few h1.ok (by omega)
      have HD := hide (fun wx => pick_does k sj x.a x.v hf hc wx)
      have hp1 := HP.out sj e1 wr x.a x.v h1 hs
      have hc1 := short_pick hc k.N x.a x.v
      have he1 := evs_pick (n := k.N) h1.ok x.a x.v
      have PP := hide p
      have G1 := (Gr.refl wr).alloc #[.int .i64 x.a, .int .i64 x.v] 48
      clear p rw1 h1 hs hf hc
      go_wp2_with (fail)
      refine ((HD.out _).go (PP.out.gr (mi_inv k) G1)).mono ?_
      rintro r u ⟨⟨rfl, -⟩, p1⟩
      have PQ := hide p1
      clear p1 c0 c1 G1 HD
      go_wp2_with (fail)
      exact ⟨⟨j + 1, by omega, by go_num, by rw [HS.out]; exact PQ.out, by rw [HS.out]; exact hp1, by rw [HS.out]; exact hc1, by rw [HS.out]; omega⟩, by simp [intOf]; omega⟩
    · have hj' : j = l.length := by omega
      subst hj'
      rw [List.take_length] at p hs he
      have PP := hide p
      clear p
      go_wp2_with (fail)
      go_end0
      exact ⟨⟨rfl, PP.out⟩, hs, he⟩
end Go.Proofs.YthbenfnanhpcoaaGreatDoor.Mc
