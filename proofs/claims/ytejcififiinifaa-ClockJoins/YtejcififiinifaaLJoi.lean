/-
  ClockJoins: Join is the least clock that knows both, Meet the greatest one that both know; in whatever order. No condition.
-/
import Derived.Test.YtejcififiinifaaPur
namespace Go.Proofs.Ytejcififiinifaa
open Go.ChangeShapes Go.WideShapes Go.ChangeAt Go.RowKit
set_option linter.unusedVariables false
set_option maxRecDepth 20000


set_option maxHeartbeats 8000000 in
theorem clockJoins_walk (f g e : Nat → Int) (w : World) : Calls Try.prog 5 #[.agg (ckC f), .agg (ckC g), .agg (ckC e)] w fun r u => r = .returned (.bool true) ∧ Gr w u := by
  obtain ⟨b0, b1, b2, bg⟩ := start3 w (ckC f) (ckC g) 23 23 (ckC e) 23
  have hB : Bks w [(w.heap.size, 23, ckC f), (w.heap.size + 1, 23, ckC g), (w.heap.size + 1 + 1, 23, ckC e)] _ := (((Bks.nil bg).add b2).add b1).add b0
  clear b0 b1 b2 bg
  go_enter Try.func5, Try.ntmps5
  go_upto_region 1 with (fail)
  generalize ((w.alloc (.cells (ckC f) 23)).alloc (.cells (ckC g) 23)).alloc (.cells (ckC e) 23) = w1 at hB ⊢
  go_wp2_with (fail)
  refine (awake_calls _).mono ?_
  rintro _ w2 ⟨rfl, hg⟩
  replace hB := hB.later hg
  clear hg
  go_wp2_with (fail)
  refine begin_grow 9 [] (Bks w _) (by kernel_rfl) rfl (Bks.stab _ _) (hB.later ((Gr.refl _).drew)) ?_
  refine AnyG.take 0 14 (.agg (ckC f)) rfl rfl (by kernel_rfl) (yg_load cktA (by kernel_rfl) _ rfl w.heap.size rfl f 23 (fun _ h => h.get (by simp))) ?_
  simp only [Act.put, List.setIfInBounds_toArray, List.set_cons_zero, List.set_cons_succ]
  refine AnyG.take 1 15 (.agg (ckC g)) rfl rfl (by kernel_rfl) (yg_load cktA (by kernel_rfl) _ rfl (w.heap.size + 1) rfl g 23 (fun _ h => h.get (by simp))) ?_
  simp only [Act.put, List.setIfInBounds_toArray, List.set_cons_zero, List.set_cons_succ]
  refine AnyG.take 2 16 (.agg (ckC e)) rfl rfl (by kernel_rfl) (yg_load cktA (by kernel_rfl) _ rfl (w.heap.size + 1 + 1) rfl e 23 (fun _ h => h.get (by simp))) ?_
  simp only [Act.put, List.setIfInBounds_toArray, List.set_cons_zero, List.set_cons_succ]
  refine AnyG.var3 3 4 5 6 7 8 7 8 9 zeroC (fitsC f) (fitsC g) (fitsC e) (by kernel_rfl) rfl rfl rfl rfl rfl rfl ⟨rfl, rfl, rfl⟩ ⟨rfl, rfl, rfl⟩ ⟨rfl, rfl, rfl⟩ _ _ _ _ _ _ ⟨rfl, rfl, rfl⟩ ⟨rfl, rfl, rfl⟩ ⟨rfl, rfl, rfl⟩ (by decide) (by decide) (fun _ _ _ => rfl) (fun _ _ _ => rfl) (fun _ _ _ => rfl) (fun _ _ _ => rfl) (fun _ _ _ => rfl) (fun _ _ _ => rfl) ?_
  clear hB
  intro p q s b hB
  simp only [Act.put, List.setIfInBounds_toArray, List.set_cons_zero, List.set_cons_succ]
  have mp : (p, 25, ckC f) ∈ [(s, 25, ckC e), (q, 25, ckC g), (p, 25, ckC f), (w.heap.size, 23, ckC f), (w.heap.size + 1, 23, ckC g), (w.heap.size + 1 + 1, 23, ckC e)] := by simp
  have mq : (q, 25, ckC g) ∈ [(s, 25, ckC e), (q, 25, ckC g), (p, 25, ckC f), (w.heap.size, 23, ckC f), (w.heap.size + 1, 23, ckC g), (w.heap.size + 1 + 1, 23, ckC e)] := by simp
  have ms : (s, 25, ckC e) ∈ [(s, 25, ckC e), (q, 25, ckC g), (p, 25, ckC f), (w.heap.size, 23, ckC f), (w.heap.size + 1, 23, ckC g), (w.heap.size + 1 + 1, 23, ckC e)] := by simp
  generalize [(s, 25, ckC e), (q, 25, ckC g), (p, 25, ckC f), (w.heap.size, 23, ckC f), (w.heap.size + 1, 23, ckC g), (w.heap.size + 1 + 1, 23, ckC e)] = L at hB mp mq ms
  go_wp2_with (fail)
  refine begin_grow 10 [] (Bks w L) (by kernel_rfl) rfl (Bks.stab _ _) (hB.later ((Gr.refl _).drew)) ?_
  refine AnyG.take 0 17 (.agg (ckC (f))) rfl rfl (by kernel_rfl) (yg_load cktC (by kernel_rfl) _ rfl p rfl (f) 25 (fun _ h => h.get mp)) ?_
  simp only [Act.put, List.setIfInBounds_toArray, List.set_cons_zero, List.set_cons_succ]
  refine AnyG.take 1 18 (.agg (ckC (g))) rfl rfl (by kernel_rfl) (yg_load cktC (by kernel_rfl) _ rfl q rfl (g) 25 (fun _ h => h.get mq)) ?_
  simp only [Act.put, List.setIfInBounds_toArray, List.set_cons_zero, List.set_cons_succ]
  refine AnyG.take 2 19 (.agg (ckC (joinF (f) (g)))) rfl rfl (by kernel_rfl) (yg_call 12 #[.agg (ckC (f)), .agg (ckC (g))] (by kernel_rfl) (fun _ => by kernel_rfl) (join_calls (f) (g))) ?_
  simp only [Act.put, List.setIfInBounds_toArray, List.set_cons_zero, List.set_cons_succ]
  refine AnyG.take 3 20 (.agg (ckC (f))) rfl rfl (by kernel_rfl) (yg_load cktC (by kernel_rfl) _ rfl p rfl (f) 25 (fun _ h => h.get mp)) ?_
  simp only [Act.put, List.setIfInBounds_toArray, List.set_cons_zero, List.set_cons_succ]
  refine AnyG.take 4 21 (.agg (ckC (g))) rfl rfl (by kernel_rfl) (yg_load cktC (by kernel_rfl) _ rfl q rfl (g) 25 (fun _ h => h.get mq)) ?_
  simp only [Act.put, List.setIfInBounds_toArray, List.set_cons_zero, List.set_cons_succ]
  refine AnyG.take 5 22 (.agg (ckC (meetF (f) (g)))) rfl rfl (by kernel_rfl) (yg_call 13 #[.agg (ckC (f)), .agg (ckC (g))] (by kernel_rfl) (fun _ => by kernel_rfl) (meet_calls (f) (g))) ?_
  simp only [Act.put, List.setIfInBounds_toArray, List.set_cons_zero, List.set_cons_succ]
  refine AnyG.var2 6 7 8 9 10 11 zeroC (fitsC (joinF f g)) (fitsC (meetF f g)) (by kernel_rfl) rfl rfl rfl rfl ⟨rfl, rfl, rfl⟩ ⟨rfl, rfl, rfl⟩ _ _ _ _ ⟨rfl, rfl, rfl⟩ ⟨rfl, rfl, rfl⟩ (by decide) (fun _ _ => rfl) (fun _ _ => rfl) (fun _ _ => rfl) (fun _ _ => rfl) ?_
  clear hB
  intro j m x hB
  simp only [Act.put, List.setIfInBounds_toArray, List.set_cons_zero, List.set_cons_succ]
  replace mp := List.mem_cons_of_mem (m, 25, ckC (meetF f g)) (List.mem_cons_of_mem (j, 25, ckC (joinF f g)) mp)
  replace mq := List.mem_cons_of_mem (m, 25, ckC (meetF f g)) (List.mem_cons_of_mem (j, 25, ckC (joinF f g)) mq)
  replace ms := List.mem_cons_of_mem (m, 25, ckC (meetF f g)) (List.mem_cons_of_mem (j, 25, ckC (joinF f g)) ms)
  have mj := List.mem_cons_of_mem (m, 25, ckC (meetF f g)) (List.mem_cons_self (a := (j, 25, ckC (joinF f g))) (l := L))
  have mm := List.mem_cons_self (a := (m, 25, ckC (meetF f g))) (l := (j, 25, ckC (joinF f g)) :: L)
  generalize (m, 25, ckC (meetF f g)) :: (j, 25, ckC (joinF f g)) :: L = M at hB mp mq ms mj mm
  go_wp2_with (fail)
  refine begin_grow 36 [] (Bks w M) (by kernel_rfl) rfl (Bks.stab _ _) (hB.later ((Gr.refl _).drew)) ?_
  refine AnyG.take 0 23 (.agg (ckC (joinF f g))) rfl rfl (by kernel_rfl) (yg_load cktC (by kernel_rfl) _ rfl j rfl (joinF f g) 25 (fun _ h => h.get mj)) ?_
  simp only [Act.put, List.setIfInBounds_toArray, List.set_cons_zero, List.set_cons_succ]
  refine AnyG.take 1 24 (.agg (ckC (f))) rfl rfl (by kernel_rfl) (yg_load cktC (by kernel_rfl) _ rfl p rfl (f) 25 (fun _ h => h.get mp)) ?_
  simp only [Act.put, List.setIfInBounds_toArray, List.set_cons_zero, List.set_cons_succ]
  refine AnyG.take 2 25 (.bool true) rfl rfl (by kernel_rfl) (yg_call 9 #[.agg (ckC (joinF f g)), .agg (ckC (f))] (by kernel_rfl) (fun _ => by kernel_rfl) (kn_is (kn_join_l f g))) ?_
  simp only [Act.put, List.setIfInBounds_toArray, List.set_cons_zero, List.set_cons_succ]
  refine AnyG.take 3 26 (.bool false) rfl rfl (by kernel_rfl) (yg_pure (by kernel_rfl) (fun _ => by kernel_rfl)) ?_
  simp only [Act.put, List.setIfInBounds_toArray, List.set_cons_zero, List.set_cons_succ]
  refine AnyG.take 4 27 (.bool false) rfl rfl (by kernel_rfl) (yg_pure (by kernel_rfl) (fun _ => by kernel_rfl)) ?_
  simp only [Act.put, List.setIfInBounds_toArray, List.set_cons_zero, List.set_cons_succ]
  refine AnyG.take 5 28 (.agg (ckC (joinF f g))) rfl rfl (by kernel_rfl) (yg_load cktC (by kernel_rfl) _ rfl j rfl (joinF f g) 25 (fun _ h => h.get mj)) ?_
  simp only [Act.put, List.setIfInBounds_toArray, List.set_cons_zero, List.set_cons_succ]
  refine AnyG.take 6 29 (.agg (ckC (g))) rfl rfl (by kernel_rfl) (yg_load cktC (by kernel_rfl) _ rfl q rfl (g) 25 (fun _ h => h.get mq)) ?_
  simp only [Act.put, List.setIfInBounds_toArray, List.set_cons_zero, List.set_cons_succ]
  refine AnyG.take 7 30 (.bool true) rfl rfl (by kernel_rfl) (yg_call 9 #[.agg (ckC (joinF f g)), .agg (ckC (g))] (by kernel_rfl) (fun _ => by kernel_rfl) (kn_is (kn_join_r f g))) ?_
  simp only [Act.put, List.setIfInBounds_toArray, List.set_cons_zero, List.set_cons_succ]
  refine AnyG.take 8 31 (.bool false) rfl rfl (by kernel_rfl) (yg_pure (by kernel_rfl) (fun _ => by kernel_rfl)) ?_
  simp only [Act.put, List.setIfInBounds_toArray, List.set_cons_zero, List.set_cons_succ]
  refine AnyG.take 9 32 (.bool false) rfl rfl (by kernel_rfl) (yg_pure (by kernel_rfl) (fun _ => by kernel_rfl)) ?_
  simp only [Act.put, List.setIfInBounds_toArray, List.set_cons_zero, List.set_cons_succ]
  refine AnyG.take 10 33 (.bool false) rfl rfl (by kernel_rfl) (yg_pure (by kernel_rfl) (fun _ => by kernel_rfl)) ?_
  simp only [Act.put, List.setIfInBounds_toArray, List.set_cons_zero, List.set_cons_succ]
  refine AnyG.take 11 34 (.agg (ckC (f))) rfl rfl (by kernel_rfl) (yg_load cktC (by kernel_rfl) _ rfl p rfl (f) 25 (fun _ h => h.get mp)) ?_
  simp only [Act.put, List.setIfInBounds_toArray, List.set_cons_zero, List.set_cons_succ]
  refine AnyG.take 12 35 (.agg (ckC (meetF f g))) rfl rfl (by kernel_rfl) (yg_load cktC (by kernel_rfl) _ rfl m rfl (meetF f g) 25 (fun _ h => h.get mm)) ?_
  simp only [Act.put, List.setIfInBounds_toArray, List.set_cons_zero, List.set_cons_succ]
  refine AnyG.take 13 36 (.bool true) rfl rfl (by kernel_rfl) (yg_call 9 #[.agg (ckC (f)), .agg (ckC (meetF f g))] (by kernel_rfl) (fun _ => by kernel_rfl) (kn_is (kn_meet_l f g))) ?_
  simp only [Act.put, List.setIfInBounds_toArray, List.set_cons_zero, List.set_cons_succ]
  refine AnyG.take 14 37 (.bool false) rfl rfl (by kernel_rfl) (yg_pure (by kernel_rfl) (fun _ => by kernel_rfl)) ?_
  simp only [Act.put, List.setIfInBounds_toArray, List.set_cons_zero, List.set_cons_succ]
  refine AnyG.take 15 38 (.bool false) rfl rfl (by kernel_rfl) (yg_pure (by kernel_rfl) (fun _ => by kernel_rfl)) ?_
  simp only [Act.put, List.setIfInBounds_toArray, List.set_cons_zero, List.set_cons_succ]
  refine AnyG.take 16 39 (.bool false) rfl rfl (by kernel_rfl) (yg_pure (by kernel_rfl) (fun _ => by kernel_rfl)) ?_
  simp only [Act.put, List.setIfInBounds_toArray, List.set_cons_zero, List.set_cons_succ]
  refine AnyG.take 17 40 (.agg (ckC (g))) rfl rfl (by kernel_rfl) (yg_load cktC (by kernel_rfl) _ rfl q rfl (g) 25 (fun _ h => h.get mq)) ?_
  simp only [Act.put, List.setIfInBounds_toArray, List.set_cons_zero, List.set_cons_succ]
  refine AnyG.take 18 41 (.agg (ckC (meetF f g))) rfl rfl (by kernel_rfl) (yg_load cktC (by kernel_rfl) _ rfl m rfl (meetF f g) 25 (fun _ h => h.get mm)) ?_
  simp only [Act.put, List.setIfInBounds_toArray, List.set_cons_zero, List.set_cons_succ]
  refine AnyG.take 19 42 (.bool true) rfl rfl (by kernel_rfl) (yg_call 9 #[.agg (ckC (g)), .agg (ckC (meetF f g))] (by kernel_rfl) (fun _ => by kernel_rfl) (kn_is (kn_meet_r f g))) ?_
  simp only [Act.put, List.setIfInBounds_toArray, List.set_cons_zero, List.set_cons_succ]
  refine AnyG.take 20 43 (.bool false) rfl rfl (by kernel_rfl) (yg_pure (by kernel_rfl) (fun _ => by kernel_rfl)) ?_
  simp only [Act.put, List.setIfInBounds_toArray, List.set_cons_zero, List.set_cons_succ]
  refine AnyG.take 21 44 (.bool false) rfl rfl (by kernel_rfl) (yg_pure (by kernel_rfl) (fun _ => by kernel_rfl)) ?_
  simp only [Act.put, List.setIfInBounds_toArray, List.set_cons_zero, List.set_cons_succ]
  refine AnyG.take 22 45 (.bool false) rfl rfl (by kernel_rfl) (yg_pure (by kernel_rfl) (fun _ => by kernel_rfl)) ?_
  simp only [Act.put, List.setIfInBounds_toArray, List.set_cons_zero, List.set_cons_succ]
  refine AnyG.take 23 46 (.agg (ckC (joinF f g))) rfl rfl (by kernel_rfl) (yg_load cktC (by kernel_rfl) _ rfl j rfl (joinF f g) 25 (fun _ h => h.get mj)) ?_
  simp only [Act.put, List.setIfInBounds_toArray, List.set_cons_zero, List.set_cons_succ]
  refine AnyG.take 24 47 (.agg (ckC (g))) rfl rfl (by kernel_rfl) (yg_load cktC (by kernel_rfl) _ rfl q rfl (g) 25 (fun _ h => h.get mq)) ?_
  simp only [Act.put, List.setIfInBounds_toArray, List.set_cons_zero, List.set_cons_succ]
  refine AnyG.take 25 48 (.agg (ckC (f))) rfl rfl (by kernel_rfl) (yg_load cktC (by kernel_rfl) _ rfl p rfl (f) 25 (fun _ h => h.get mp)) ?_
  simp only [Act.put, List.setIfInBounds_toArray, List.set_cons_zero, List.set_cons_succ]
  refine AnyG.take 26 49 (.agg (ckC (joinF (g) (f)))) rfl rfl (by kernel_rfl) (yg_call 12 #[.agg (ckC (g)), .agg (ckC (f))] (by kernel_rfl) (fun _ => by kernel_rfl) (join_calls (g) (f))) ?_
  simp only [Act.put, List.setIfInBounds_toArray, List.set_cons_zero, List.set_cons_succ]
  refine AnyG.take 27 50 (.bool false) rfl rfl (by kernel_rfl) (yg_neq (by kernel_rfl) _ _ rfl (joinF f g) (joinF g f) rfl rfl _ (by rw [join_comm]; rfl)) ?_
  simp only [Act.put, List.setIfInBounds_toArray, List.set_cons_zero, List.set_cons_succ]
  refine AnyG.take 28 51 (.bool false) rfl rfl (by kernel_rfl) (yg_pure (by kernel_rfl) (fun _ => by kernel_rfl)) ?_
  simp only [Act.put, List.setIfInBounds_toArray, List.set_cons_zero, List.set_cons_succ]
  refine AnyG.take 29 52 (.bool false) rfl rfl (by kernel_rfl) (yg_pure (by kernel_rfl) (fun _ => by kernel_rfl)) ?_
  simp only [Act.put, List.setIfInBounds_toArray, List.set_cons_zero, List.set_cons_succ]
  refine AnyG.take 30 53 (.agg (ckC (meetF f g))) rfl rfl (by kernel_rfl) (yg_load cktC (by kernel_rfl) _ rfl m rfl (meetF f g) 25 (fun _ h => h.get mm)) ?_
  simp only [Act.put, List.setIfInBounds_toArray, List.set_cons_zero, List.set_cons_succ]
  refine AnyG.take 31 54 (.agg (ckC (g))) rfl rfl (by kernel_rfl) (yg_load cktC (by kernel_rfl) _ rfl q rfl (g) 25 (fun _ h => h.get mq)) ?_
  simp only [Act.put, List.setIfInBounds_toArray, List.set_cons_zero, List.set_cons_succ]
  refine AnyG.take 32 55 (.agg (ckC (f))) rfl rfl (by kernel_rfl) (yg_load cktC (by kernel_rfl) _ rfl p rfl (f) 25 (fun _ h => h.get mp)) ?_
  simp only [Act.put, List.setIfInBounds_toArray, List.set_cons_zero, List.set_cons_succ]
  refine AnyG.take 33 56 (.agg (ckC (meetF (g) (f)))) rfl rfl (by kernel_rfl) (yg_call 13 #[.agg (ckC (g)), .agg (ckC (f))] (by kernel_rfl) (fun _ => by kernel_rfl) (meet_calls (g) (f))) ?_
  simp only [Act.put, List.setIfInBounds_toArray, List.set_cons_zero, List.set_cons_succ]
  refine AnyG.take 34 57 (.bool false) rfl rfl (by kernel_rfl) (yg_neq (by kernel_rfl) _ _ rfl (meetF f g) (meetF g f) rfl rfl _ (by rw [meet_comm]; rfl)) ?_
  simp only [Act.put, List.setIfInBounds_toArray, List.set_cons_zero, List.set_cons_succ]
  refine AnyG.take 35 58 (.bool false) rfl rfl (by kernel_rfl) (yg_pure (by kernel_rfl) (fun _ => by kernel_rfl)) ?_
  simp only [Act.put, List.setIfInBounds_toArray, List.set_cons_zero, List.set_cons_succ]
  refine AnyG.done (by kernel_rfl) fun y hy => ?_
  replace hB := hy
  clear hy
  have T1 := hide (join_least f g e)
  have T2 := hide (meet_most f g e)
  have hA : ∃ x, Hid (knB e f = x) := ⟨_, rfl⟩
  have hD : ∃ x, Hid (knB f e = x) := ⟨_, rfl⟩
  have hE : ∃ x, Hid (knB e g = x) := ⟨_, rfl⟩
  have hF : ∃ x, Hid (knB g e = x) := ⟨_, rfl⟩
  obtain ⟨xA, HA⟩ := hA
  obtain ⟨xB, HB⟩ := hE
  obtain ⟨xC, HC⟩ := hD
  obtain ⟨xD, HD⟩ := hF
  have HJ : Hid (knB e (joinF f g) = (xA && xB)) := by show knB e (joinF f g) = _; rw [T1.out, HA.out, HB.out]
  have HM : Hid (knB (meetF f g) e = (xC && xD)) := by show knB (meetF f g) e = _; rw [T2.out, HC.out, HD.out]
  clear T1 T2
  go_upto_region 7 with (fail)
  cases xA
  · cases xC
    · go_wp2_with (first
          | (refine load_ck cktC rfl _ rfl p rfl (f) _ (hB.get mp) ?_)
          | (refine load_ck cktC rfl _ rfl q rfl (g) _ (hB.get mq) ?_)
          | (refine load_ck cktC rfl _ rfl s rfl (e) _ (hB.get ms) ?_)
          | (refine load_ck cktC rfl _ rfl j rfl (joinF f g) _ (hB.get mj) ?_)
          | (refine load_ck cktC rfl _ rfl m rfl (meetF f g) _ (hB.get mm) ?_))
      refine (kn_is HA.out _).mono ?_
      rintro _ x ⟨rfl, hg⟩
      replace hB := hB.later hg
      clear hg
      go_wp2_with (first
        | (refine load_ck cktC rfl _ rfl p rfl (f) _ (hB.get mp) ?_)
        | (refine load_ck cktC rfl _ rfl q rfl (g) _ (hB.get mq) ?_)
        | (refine load_ck cktC rfl _ rfl s rfl (e) _ (hB.get ms) ?_)
        | (refine load_ck cktC rfl _ rfl j rfl (joinF f g) _ (hB.get mj) ?_)
        | (refine load_ck cktC rfl _ rfl m rfl (meetF f g) _ (hB.get mm) ?_))
      refine (kn_is HC.out _).mono ?_
      rintro _ x ⟨rfl, hg⟩
      replace hB := hB.later hg
      clear hg
      go_wp2_with (first
        | (refine load_ck cktC rfl _ rfl p rfl (f) _ (hB.get mp) ?_)
        | (refine load_ck cktC rfl _ rfl q rfl (g) _ (hB.get mq) ?_)
        | (refine load_ck cktC rfl _ rfl s rfl (e) _ (hB.get ms) ?_)
        | (refine load_ck cktC rfl _ rfl j rfl (joinF f g) _ (hB.get mj) ?_)
        | (refine load_ck cktC rfl _ rfl m rfl (meetF f g) _ (hB.get mm) ?_))
      refine begin_grow 21 [] (Bks w M) (by kernel_rfl) rfl (Bks.stab _ _) (hB.later ((Gr.refl _).drew)) ?_
      refine AnyG.take 0 89 (.agg (ckC (f))) rfl rfl (by kernel_rfl) (yg_load cktC (by kernel_rfl) _ rfl p rfl (f) 25 (fun _ h => h.get mp)) ?_
      simp only [Act.put, List.setIfInBounds_toArray, List.set_cons_zero, List.set_cons_succ]
      refine AnyG.take 1 90 (.agg (ckC (g))) rfl rfl (by kernel_rfl) (yg_load cktC (by kernel_rfl) _ rfl q rfl (g) 25 (fun _ h => h.get mq)) ?_
      simp only [Act.put, List.setIfInBounds_toArray, List.set_cons_zero, List.set_cons_succ]
      refine AnyG.take 2 91 (.agg (ckC (joinF (f) (g)))) rfl rfl (by kernel_rfl) (yg_call 12 #[.agg (ckC (f)), .agg (ckC (g))] (by kernel_rfl) (fun _ => by kernel_rfl) (join_calls (f) (g))) ?_
      simp only [Act.put, List.setIfInBounds_toArray, List.set_cons_zero, List.set_cons_succ]
      refine AnyG.take 3 92 (.agg (ckC (e))) rfl rfl (by kernel_rfl) (yg_load cktC (by kernel_rfl) _ rfl s rfl (e) 25 (fun _ h => h.get ms)) ?_
      simp only [Act.put, List.setIfInBounds_toArray, List.set_cons_zero, List.set_cons_succ]
      refine AnyG.take 4 93 (.agg (ckC (joinF (joinF f g) (e)))) rfl rfl (by kernel_rfl) (yg_call 12 #[.agg (ckC (joinF f g)), .agg (ckC (e))] (by kernel_rfl) (fun _ => by kernel_rfl) (join_calls (joinF f g) (e))) ?_
      simp only [Act.put, List.setIfInBounds_toArray, List.set_cons_zero, List.set_cons_succ]
      refine AnyG.take 5 94 (.agg (ckC (f))) rfl rfl (by kernel_rfl) (yg_load cktC (by kernel_rfl) _ rfl p rfl (f) 25 (fun _ h => h.get mp)) ?_
      simp only [Act.put, List.setIfInBounds_toArray, List.set_cons_zero, List.set_cons_succ]
      refine AnyG.take 6 95 (.agg (ckC (g))) rfl rfl (by kernel_rfl) (yg_load cktC (by kernel_rfl) _ rfl q rfl (g) 25 (fun _ h => h.get mq)) ?_
      simp only [Act.put, List.setIfInBounds_toArray, List.set_cons_zero, List.set_cons_succ]
      refine AnyG.take 7 96 (.agg (ckC (e))) rfl rfl (by kernel_rfl) (yg_load cktC (by kernel_rfl) _ rfl s rfl (e) 25 (fun _ h => h.get ms)) ?_
      simp only [Act.put, List.setIfInBounds_toArray, List.set_cons_zero, List.set_cons_succ]
      refine AnyG.take 8 97 (.agg (ckC (joinF (g) (e)))) rfl rfl (by kernel_rfl) (yg_call 12 #[.agg (ckC (g)), .agg (ckC (e))] (by kernel_rfl) (fun _ => by kernel_rfl) (join_calls (g) (e))) ?_
      simp only [Act.put, List.setIfInBounds_toArray, List.set_cons_zero, List.set_cons_succ]
      refine AnyG.take 9 98 (.agg (ckC (joinF (f) (joinF g e)))) rfl rfl (by kernel_rfl) (yg_call 12 #[.agg (ckC (f)), .agg (ckC (joinF g e))] (by kernel_rfl) (fun _ => by kernel_rfl) (join_calls (f) (joinF g e))) ?_
      simp only [Act.put, List.setIfInBounds_toArray, List.set_cons_zero, List.set_cons_succ]
      refine AnyG.take 10 99 (.bool true) rfl rfl (by kernel_rfl) (yg_eql (by kernel_rfl) _ _ rfl (joinF (joinF f g) e) (joinF f (joinF g e)) rfl rfl _ (join_assoc f g e)) ?_
      simp only [Act.put, List.setIfInBounds_toArray, List.set_cons_zero, List.set_cons_succ]
      refine AnyG.take 11 100 (.bool true) rfl rfl (by kernel_rfl) (yg_pure (by kernel_rfl) (fun _ => by kernel_rfl)) ?_
      simp only [Act.put, List.setIfInBounds_toArray, List.set_cons_zero, List.set_cons_succ]
      refine AnyG.take 12 101 (.agg (ckC (f))) rfl rfl (by kernel_rfl) (yg_load cktC (by kernel_rfl) _ rfl p rfl (f) 25 (fun _ h => h.get mp)) ?_
      simp only [Act.put, List.setIfInBounds_toArray, List.set_cons_zero, List.set_cons_succ]
      refine AnyG.take 13 102 (.agg (ckC (f))) rfl rfl (by kernel_rfl) (yg_load cktC (by kernel_rfl) _ rfl p rfl (f) 25 (fun _ h => h.get mp)) ?_
      simp only [Act.put, List.setIfInBounds_toArray, List.set_cons_zero, List.set_cons_succ]
      refine AnyG.take 14 103 (.agg (ckC (g))) rfl rfl (by kernel_rfl) (yg_load cktC (by kernel_rfl) _ rfl q rfl (g) 25 (fun _ h => h.get mq)) ?_
      simp only [Act.put, List.setIfInBounds_toArray, List.set_cons_zero, List.set_cons_succ]
      refine AnyG.take 15 104 (.agg (ckC (meetF (f) (g)))) rfl rfl (by kernel_rfl) (yg_call 13 #[.agg (ckC (f)), .agg (ckC (g))] (by kernel_rfl) (fun _ => by kernel_rfl) (meet_calls (f) (g))) ?_
      simp only [Act.put, List.setIfInBounds_toArray, List.set_cons_zero, List.set_cons_succ]
      refine AnyG.take 16 105 (.agg (ckC (joinF (f) (meetF f g)))) rfl rfl (by kernel_rfl) (yg_call 12 #[.agg (ckC (f)), .agg (ckC (meetF f g))] (by kernel_rfl) (fun _ => by kernel_rfl) (join_calls (f) (meetF f g))) ?_
      simp only [Act.put, List.setIfInBounds_toArray, List.set_cons_zero, List.set_cons_succ]
      refine AnyG.take 17 106 (.agg (ckC (f))) rfl rfl (by kernel_rfl) (yg_load cktC (by kernel_rfl) _ rfl p rfl (f) 25 (fun _ h => h.get mp)) ?_
      simp only [Act.put, List.setIfInBounds_toArray, List.set_cons_zero, List.set_cons_succ]
      refine AnyG.take 18 107 (.bool true) rfl rfl (by kernel_rfl) (yg_eql (by kernel_rfl) _ _ rfl (joinF f (meetF f g)) (f) rfl rfl _ (join_meet f g)) ?_
      simp only [Act.put, List.setIfInBounds_toArray, List.set_cons_zero, List.set_cons_succ]
      refine AnyG.take 19 108 (.bool true) rfl rfl (by kernel_rfl) (yg_pure (by kernel_rfl) (fun _ => by kernel_rfl)) ?_
      simp only [Act.put, List.setIfInBounds_toArray, List.set_cons_zero, List.set_cons_succ]
      refine AnyG.take 20 6 (.bool true) rfl rfl (by kernel_rfl) (yg_pure (by kernel_rfl) (fun _ => by kernel_rfl)) ?_
      simp only [Act.put, List.setIfInBounds_toArray, List.set_cons_zero, List.set_cons_succ]
      refine AnyG.done (by kernel_rfl) fun y hy => ?_
      replace hB := hy
      clear hy
      go_wp2_with (fail)
      go_ret
      exact ⟨rfl, hB.gr⟩
    · cases xD
      · go_wp2_with (first
            | (refine load_ck cktC rfl _ rfl p rfl (f) _ (hB.get mp) ?_)
            | (refine load_ck cktC rfl _ rfl q rfl (g) _ (hB.get mq) ?_)
            | (refine load_ck cktC rfl _ rfl s rfl (e) _ (hB.get ms) ?_)
            | (refine load_ck cktC rfl _ rfl j rfl (joinF f g) _ (hB.get mj) ?_)
            | (refine load_ck cktC rfl _ rfl m rfl (meetF f g) _ (hB.get mm) ?_))
        refine (kn_is HA.out _).mono ?_
        rintro _ x ⟨rfl, hg⟩
        replace hB := hB.later hg
        clear hg
        go_wp2_with (first
          | (refine load_ck cktC rfl _ rfl p rfl (f) _ (hB.get mp) ?_)
          | (refine load_ck cktC rfl _ rfl q rfl (g) _ (hB.get mq) ?_)
          | (refine load_ck cktC rfl _ rfl s rfl (e) _ (hB.get ms) ?_)
          | (refine load_ck cktC rfl _ rfl j rfl (joinF f g) _ (hB.get mj) ?_)
          | (refine load_ck cktC rfl _ rfl m rfl (meetF f g) _ (hB.get mm) ?_))
        refine (kn_is HC.out _).mono ?_
        rintro _ x ⟨rfl, hg⟩
        replace hB := hB.later hg
        clear hg
        go_wp2_with (first
          | (refine load_ck cktC rfl _ rfl p rfl (f) _ (hB.get mp) ?_)
          | (refine load_ck cktC rfl _ rfl q rfl (g) _ (hB.get mq) ?_)
          | (refine load_ck cktC rfl _ rfl s rfl (e) _ (hB.get ms) ?_)
          | (refine load_ck cktC rfl _ rfl j rfl (joinF f g) _ (hB.get mj) ?_)
          | (refine load_ck cktC rfl _ rfl m rfl (meetF f g) _ (hB.get mm) ?_))
        refine (kn_is HD.out _).mono ?_
        rintro _ x ⟨rfl, hg⟩
        replace hB := hB.later hg
        clear hg
        go_wp2_with (first
          | (refine load_ck cktC rfl _ rfl p rfl (f) _ (hB.get mp) ?_)
          | (refine load_ck cktC rfl _ rfl q rfl (g) _ (hB.get mq) ?_)
          | (refine load_ck cktC rfl _ rfl s rfl (e) _ (hB.get ms) ?_)
          | (refine load_ck cktC rfl _ rfl j rfl (joinF f g) _ (hB.get mj) ?_)
          | (refine load_ck cktC rfl _ rfl m rfl (meetF f g) _ (hB.get mm) ?_))
        refine begin_grow 21 [] (Bks w M) (by kernel_rfl) rfl (Bks.stab _ _) (hB.later ((Gr.refl _).drew)) ?_
        refine AnyG.take 0 89 (.agg (ckC (f))) rfl rfl (by kernel_rfl) (yg_load cktC (by kernel_rfl) _ rfl p rfl (f) 25 (fun _ h => h.get mp)) ?_
        simp only [Act.put, List.setIfInBounds_toArray, List.set_cons_zero, List.set_cons_succ]
        refine AnyG.take 1 90 (.agg (ckC (g))) rfl rfl (by kernel_rfl) (yg_load cktC (by kernel_rfl) _ rfl q rfl (g) 25 (fun _ h => h.get mq)) ?_
        simp only [Act.put, List.setIfInBounds_toArray, List.set_cons_zero, List.set_cons_succ]
        refine AnyG.take 2 91 (.agg (ckC (joinF (f) (g)))) rfl rfl (by kernel_rfl) (yg_call 12 #[.agg (ckC (f)), .agg (ckC (g))] (by kernel_rfl) (fun _ => by kernel_rfl) (join_calls (f) (g))) ?_
        simp only [Act.put, List.setIfInBounds_toArray, List.set_cons_zero, List.set_cons_succ]
        refine AnyG.take 3 92 (.agg (ckC (e))) rfl rfl (by kernel_rfl) (yg_load cktC (by kernel_rfl) _ rfl s rfl (e) 25 (fun _ h => h.get ms)) ?_
        simp only [Act.put, List.setIfInBounds_toArray, List.set_cons_zero, List.set_cons_succ]
        refine AnyG.take 4 93 (.agg (ckC (joinF (joinF f g) (e)))) rfl rfl (by kernel_rfl) (yg_call 12 #[.agg (ckC (joinF f g)), .agg (ckC (e))] (by kernel_rfl) (fun _ => by kernel_rfl) (join_calls (joinF f g) (e))) ?_
        simp only [Act.put, List.setIfInBounds_toArray, List.set_cons_zero, List.set_cons_succ]
        refine AnyG.take 5 94 (.agg (ckC (f))) rfl rfl (by kernel_rfl) (yg_load cktC (by kernel_rfl) _ rfl p rfl (f) 25 (fun _ h => h.get mp)) ?_
        simp only [Act.put, List.setIfInBounds_toArray, List.set_cons_zero, List.set_cons_succ]
        refine AnyG.take 6 95 (.agg (ckC (g))) rfl rfl (by kernel_rfl) (yg_load cktC (by kernel_rfl) _ rfl q rfl (g) 25 (fun _ h => h.get mq)) ?_
        simp only [Act.put, List.setIfInBounds_toArray, List.set_cons_zero, List.set_cons_succ]
        refine AnyG.take 7 96 (.agg (ckC (e))) rfl rfl (by kernel_rfl) (yg_load cktC (by kernel_rfl) _ rfl s rfl (e) 25 (fun _ h => h.get ms)) ?_
        simp only [Act.put, List.setIfInBounds_toArray, List.set_cons_zero, List.set_cons_succ]
        refine AnyG.take 8 97 (.agg (ckC (joinF (g) (e)))) rfl rfl (by kernel_rfl) (yg_call 12 #[.agg (ckC (g)), .agg (ckC (e))] (by kernel_rfl) (fun _ => by kernel_rfl) (join_calls (g) (e))) ?_
        simp only [Act.put, List.setIfInBounds_toArray, List.set_cons_zero, List.set_cons_succ]
        refine AnyG.take 9 98 (.agg (ckC (joinF (f) (joinF g e)))) rfl rfl (by kernel_rfl) (yg_call 12 #[.agg (ckC (f)), .agg (ckC (joinF g e))] (by kernel_rfl) (fun _ => by kernel_rfl) (join_calls (f) (joinF g e))) ?_
        simp only [Act.put, List.setIfInBounds_toArray, List.set_cons_zero, List.set_cons_succ]
        refine AnyG.take 10 99 (.bool true) rfl rfl (by kernel_rfl) (yg_eql (by kernel_rfl) _ _ rfl (joinF (joinF f g) e) (joinF f (joinF g e)) rfl rfl _ (join_assoc f g e)) ?_
        simp only [Act.put, List.setIfInBounds_toArray, List.set_cons_zero, List.set_cons_succ]
        refine AnyG.take 11 100 (.bool true) rfl rfl (by kernel_rfl) (yg_pure (by kernel_rfl) (fun _ => by kernel_rfl)) ?_
        simp only [Act.put, List.setIfInBounds_toArray, List.set_cons_zero, List.set_cons_succ]
        refine AnyG.take 12 101 (.agg (ckC (f))) rfl rfl (by kernel_rfl) (yg_load cktC (by kernel_rfl) _ rfl p rfl (f) 25 (fun _ h => h.get mp)) ?_
        simp only [Act.put, List.setIfInBounds_toArray, List.set_cons_zero, List.set_cons_succ]
        refine AnyG.take 13 102 (.agg (ckC (f))) rfl rfl (by kernel_rfl) (yg_load cktC (by kernel_rfl) _ rfl p rfl (f) 25 (fun _ h => h.get mp)) ?_
        simp only [Act.put, List.setIfInBounds_toArray, List.set_cons_zero, List.set_cons_succ]
        refine AnyG.take 14 103 (.agg (ckC (g))) rfl rfl (by kernel_rfl) (yg_load cktC (by kernel_rfl) _ rfl q rfl (g) 25 (fun _ h => h.get mq)) ?_
        simp only [Act.put, List.setIfInBounds_toArray, List.set_cons_zero, List.set_cons_succ]
        refine AnyG.take 15 104 (.agg (ckC (meetF (f) (g)))) rfl rfl (by kernel_rfl) (yg_call 13 #[.agg (ckC (f)), .agg (ckC (g))] (by kernel_rfl) (fun _ => by kernel_rfl) (meet_calls (f) (g))) ?_
        simp only [Act.put, List.setIfInBounds_toArray, List.set_cons_zero, List.set_cons_succ]
        refine AnyG.take 16 105 (.agg (ckC (joinF (f) (meetF f g)))) rfl rfl (by kernel_rfl) (yg_call 12 #[.agg (ckC (f)), .agg (ckC (meetF f g))] (by kernel_rfl) (fun _ => by kernel_rfl) (join_calls (f) (meetF f g))) ?_
        simp only [Act.put, List.setIfInBounds_toArray, List.set_cons_zero, List.set_cons_succ]
        refine AnyG.take 17 106 (.agg (ckC (f))) rfl rfl (by kernel_rfl) (yg_load cktC (by kernel_rfl) _ rfl p rfl (f) 25 (fun _ h => h.get mp)) ?_
        simp only [Act.put, List.setIfInBounds_toArray, List.set_cons_zero, List.set_cons_succ]
        refine AnyG.take 18 107 (.bool true) rfl rfl (by kernel_rfl) (yg_eql (by kernel_rfl) _ _ rfl (joinF f (meetF f g)) (f) rfl rfl _ (join_meet f g)) ?_
        simp only [Act.put, List.setIfInBounds_toArray, List.set_cons_zero, List.set_cons_succ]
        refine AnyG.take 19 108 (.bool true) rfl rfl (by kernel_rfl) (yg_pure (by kernel_rfl) (fun _ => by kernel_rfl)) ?_
        simp only [Act.put, List.setIfInBounds_toArray, List.set_cons_zero, List.set_cons_succ]
        refine AnyG.take 20 6 (.bool true) rfl rfl (by kernel_rfl) (yg_pure (by kernel_rfl) (fun _ => by kernel_rfl)) ?_
        simp only [Act.put, List.setIfInBounds_toArray, List.set_cons_zero, List.set_cons_succ]
        refine AnyG.done (by kernel_rfl) fun y hy => ?_
        replace hB := hy
        clear hy
        go_wp2_with (fail)
        go_ret
        exact ⟨rfl, hB.gr⟩
      · go_wp2_with (first
            | (refine load_ck cktC rfl _ rfl p rfl (f) _ (hB.get mp) ?_)
            | (refine load_ck cktC rfl _ rfl q rfl (g) _ (hB.get mq) ?_)
            | (refine load_ck cktC rfl _ rfl s rfl (e) _ (hB.get ms) ?_)
            | (refine load_ck cktC rfl _ rfl j rfl (joinF f g) _ (hB.get mj) ?_)
            | (refine load_ck cktC rfl _ rfl m rfl (meetF f g) _ (hB.get mm) ?_))
        refine (kn_is HA.out _).mono ?_
        rintro _ x ⟨rfl, hg⟩
        replace hB := hB.later hg
        clear hg
        go_wp2_with (first
          | (refine load_ck cktC rfl _ rfl p rfl (f) _ (hB.get mp) ?_)
          | (refine load_ck cktC rfl _ rfl q rfl (g) _ (hB.get mq) ?_)
          | (refine load_ck cktC rfl _ rfl s rfl (e) _ (hB.get ms) ?_)
          | (refine load_ck cktC rfl _ rfl j rfl (joinF f g) _ (hB.get mj) ?_)
          | (refine load_ck cktC rfl _ rfl m rfl (meetF f g) _ (hB.get mm) ?_))
        refine (kn_is HC.out _).mono ?_
        rintro _ x ⟨rfl, hg⟩
        replace hB := hB.later hg
        clear hg
        go_wp2_with (first
          | (refine load_ck cktC rfl _ rfl p rfl (f) _ (hB.get mp) ?_)
          | (refine load_ck cktC rfl _ rfl q rfl (g) _ (hB.get mq) ?_)
          | (refine load_ck cktC rfl _ rfl s rfl (e) _ (hB.get ms) ?_)
          | (refine load_ck cktC rfl _ rfl j rfl (joinF f g) _ (hB.get mj) ?_)
          | (refine load_ck cktC rfl _ rfl m rfl (meetF f g) _ (hB.get mm) ?_))
        refine (kn_is HD.out _).mono ?_
        rintro _ x ⟨rfl, hg⟩
        replace hB := hB.later hg
        clear hg
        go_wp2_with (first
          | (refine load_ck cktC rfl _ rfl p rfl (f) _ (hB.get mp) ?_)
          | (refine load_ck cktC rfl _ rfl q rfl (g) _ (hB.get mq) ?_)
          | (refine load_ck cktC rfl _ rfl s rfl (e) _ (hB.get ms) ?_)
          | (refine load_ck cktC rfl _ rfl j rfl (joinF f g) _ (hB.get mj) ?_)
          | (refine load_ck cktC rfl _ rfl m rfl (meetF f g) _ (hB.get mm) ?_))
        refine (kn_is HM.out _).mono ?_
        rintro _ x ⟨rfl, hg⟩
        replace hB := hB.later hg
        clear hg
        go_wp2_with (first
          | (refine load_ck cktC rfl _ rfl p rfl (f) _ (hB.get mp) ?_)
          | (refine load_ck cktC rfl _ rfl q rfl (g) _ (hB.get mq) ?_)
          | (refine load_ck cktC rfl _ rfl s rfl (e) _ (hB.get ms) ?_)
          | (refine load_ck cktC rfl _ rfl j rfl (joinF f g) _ (hB.get mj) ?_)
          | (refine load_ck cktC rfl _ rfl m rfl (meetF f g) _ (hB.get mm) ?_))
        refine begin_grow 21 [] (Bks w M) (by kernel_rfl) rfl (Bks.stab _ _) (hB.later ((Gr.refl _).drew)) ?_
        refine AnyG.take 0 89 (.agg (ckC (f))) rfl rfl (by kernel_rfl) (yg_load cktC (by kernel_rfl) _ rfl p rfl (f) 25 (fun _ h => h.get mp)) ?_
        simp only [Act.put, List.setIfInBounds_toArray, List.set_cons_zero, List.set_cons_succ]
        refine AnyG.take 1 90 (.agg (ckC (g))) rfl rfl (by kernel_rfl) (yg_load cktC (by kernel_rfl) _ rfl q rfl (g) 25 (fun _ h => h.get mq)) ?_
        simp only [Act.put, List.setIfInBounds_toArray, List.set_cons_zero, List.set_cons_succ]
        refine AnyG.take 2 91 (.agg (ckC (joinF (f) (g)))) rfl rfl (by kernel_rfl) (yg_call 12 #[.agg (ckC (f)), .agg (ckC (g))] (by kernel_rfl) (fun _ => by kernel_rfl) (join_calls (f) (g))) ?_
        simp only [Act.put, List.setIfInBounds_toArray, List.set_cons_zero, List.set_cons_succ]
        refine AnyG.take 3 92 (.agg (ckC (e))) rfl rfl (by kernel_rfl) (yg_load cktC (by kernel_rfl) _ rfl s rfl (e) 25 (fun _ h => h.get ms)) ?_
        simp only [Act.put, List.setIfInBounds_toArray, List.set_cons_zero, List.set_cons_succ]
        refine AnyG.take 4 93 (.agg (ckC (joinF (joinF f g) (e)))) rfl rfl (by kernel_rfl) (yg_call 12 #[.agg (ckC (joinF f g)), .agg (ckC (e))] (by kernel_rfl) (fun _ => by kernel_rfl) (join_calls (joinF f g) (e))) ?_
        simp only [Act.put, List.setIfInBounds_toArray, List.set_cons_zero, List.set_cons_succ]
        refine AnyG.take 5 94 (.agg (ckC (f))) rfl rfl (by kernel_rfl) (yg_load cktC (by kernel_rfl) _ rfl p rfl (f) 25 (fun _ h => h.get mp)) ?_
        simp only [Act.put, List.setIfInBounds_toArray, List.set_cons_zero, List.set_cons_succ]
        refine AnyG.take 6 95 (.agg (ckC (g))) rfl rfl (by kernel_rfl) (yg_load cktC (by kernel_rfl) _ rfl q rfl (g) 25 (fun _ h => h.get mq)) ?_
        simp only [Act.put, List.setIfInBounds_toArray, List.set_cons_zero, List.set_cons_succ]
        refine AnyG.take 7 96 (.agg (ckC (e))) rfl rfl (by kernel_rfl) (yg_load cktC (by kernel_rfl) _ rfl s rfl (e) 25 (fun _ h => h.get ms)) ?_
        simp only [Act.put, List.setIfInBounds_toArray, List.set_cons_zero, List.set_cons_succ]
        refine AnyG.take 8 97 (.agg (ckC (joinF (g) (e)))) rfl rfl (by kernel_rfl) (yg_call 12 #[.agg (ckC (g)), .agg (ckC (e))] (by kernel_rfl) (fun _ => by kernel_rfl) (join_calls (g) (e))) ?_
        simp only [Act.put, List.setIfInBounds_toArray, List.set_cons_zero, List.set_cons_succ]
        refine AnyG.take 9 98 (.agg (ckC (joinF (f) (joinF g e)))) rfl rfl (by kernel_rfl) (yg_call 12 #[.agg (ckC (f)), .agg (ckC (joinF g e))] (by kernel_rfl) (fun _ => by kernel_rfl) (join_calls (f) (joinF g e))) ?_
        simp only [Act.put, List.setIfInBounds_toArray, List.set_cons_zero, List.set_cons_succ]
        refine AnyG.take 10 99 (.bool true) rfl rfl (by kernel_rfl) (yg_eql (by kernel_rfl) _ _ rfl (joinF (joinF f g) e) (joinF f (joinF g e)) rfl rfl _ (join_assoc f g e)) ?_
        simp only [Act.put, List.setIfInBounds_toArray, List.set_cons_zero, List.set_cons_succ]
        refine AnyG.take 11 100 (.bool true) rfl rfl (by kernel_rfl) (yg_pure (by kernel_rfl) (fun _ => by kernel_rfl)) ?_
        simp only [Act.put, List.setIfInBounds_toArray, List.set_cons_zero, List.set_cons_succ]
        refine AnyG.take 12 101 (.agg (ckC (f))) rfl rfl (by kernel_rfl) (yg_load cktC (by kernel_rfl) _ rfl p rfl (f) 25 (fun _ h => h.get mp)) ?_
        simp only [Act.put, List.setIfInBounds_toArray, List.set_cons_zero, List.set_cons_succ]
        refine AnyG.take 13 102 (.agg (ckC (f))) rfl rfl (by kernel_rfl) (yg_load cktC (by kernel_rfl) _ rfl p rfl (f) 25 (fun _ h => h.get mp)) ?_
        simp only [Act.put, List.setIfInBounds_toArray, List.set_cons_zero, List.set_cons_succ]
        refine AnyG.take 14 103 (.agg (ckC (g))) rfl rfl (by kernel_rfl) (yg_load cktC (by kernel_rfl) _ rfl q rfl (g) 25 (fun _ h => h.get mq)) ?_
        simp only [Act.put, List.setIfInBounds_toArray, List.set_cons_zero, List.set_cons_succ]
        refine AnyG.take 15 104 (.agg (ckC (meetF (f) (g)))) rfl rfl (by kernel_rfl) (yg_call 13 #[.agg (ckC (f)), .agg (ckC (g))] (by kernel_rfl) (fun _ => by kernel_rfl) (meet_calls (f) (g))) ?_
        simp only [Act.put, List.setIfInBounds_toArray, List.set_cons_zero, List.set_cons_succ]
        refine AnyG.take 16 105 (.agg (ckC (joinF (f) (meetF f g)))) rfl rfl (by kernel_rfl) (yg_call 12 #[.agg (ckC (f)), .agg (ckC (meetF f g))] (by kernel_rfl) (fun _ => by kernel_rfl) (join_calls (f) (meetF f g))) ?_
        simp only [Act.put, List.setIfInBounds_toArray, List.set_cons_zero, List.set_cons_succ]
        refine AnyG.take 17 106 (.agg (ckC (f))) rfl rfl (by kernel_rfl) (yg_load cktC (by kernel_rfl) _ rfl p rfl (f) 25 (fun _ h => h.get mp)) ?_
        simp only [Act.put, List.setIfInBounds_toArray, List.set_cons_zero, List.set_cons_succ]
        refine AnyG.take 18 107 (.bool true) rfl rfl (by kernel_rfl) (yg_eql (by kernel_rfl) _ _ rfl (joinF f (meetF f g)) (f) rfl rfl _ (join_meet f g)) ?_
        simp only [Act.put, List.setIfInBounds_toArray, List.set_cons_zero, List.set_cons_succ]
        refine AnyG.take 19 108 (.bool true) rfl rfl (by kernel_rfl) (yg_pure (by kernel_rfl) (fun _ => by kernel_rfl)) ?_
        simp only [Act.put, List.setIfInBounds_toArray, List.set_cons_zero, List.set_cons_succ]
        refine AnyG.take 20 6 (.bool true) rfl rfl (by kernel_rfl) (yg_pure (by kernel_rfl) (fun _ => by kernel_rfl)) ?_
        simp only [Act.put, List.setIfInBounds_toArray, List.set_cons_zero, List.set_cons_succ]
        refine AnyG.done (by kernel_rfl) fun y hy => ?_
        replace hB := hy
        clear hy
        go_wp2_with (fail)
        go_ret
        exact ⟨rfl, hB.gr⟩
  · cases xB
    · cases xC
      · go_wp2_with (first
            | (refine load_ck cktC rfl _ rfl p rfl (f) _ (hB.get mp) ?_)
            | (refine load_ck cktC rfl _ rfl q rfl (g) _ (hB.get mq) ?_)
            | (refine load_ck cktC rfl _ rfl s rfl (e) _ (hB.get ms) ?_)
            | (refine load_ck cktC rfl _ rfl j rfl (joinF f g) _ (hB.get mj) ?_)
            | (refine load_ck cktC rfl _ rfl m rfl (meetF f g) _ (hB.get mm) ?_))
        refine (kn_is HA.out _).mono ?_
        rintro _ x ⟨rfl, hg⟩
        replace hB := hB.later hg
        clear hg
        go_wp2_with (first
          | (refine load_ck cktC rfl _ rfl p rfl (f) _ (hB.get mp) ?_)
          | (refine load_ck cktC rfl _ rfl q rfl (g) _ (hB.get mq) ?_)
          | (refine load_ck cktC rfl _ rfl s rfl (e) _ (hB.get ms) ?_)
          | (refine load_ck cktC rfl _ rfl j rfl (joinF f g) _ (hB.get mj) ?_)
          | (refine load_ck cktC rfl _ rfl m rfl (meetF f g) _ (hB.get mm) ?_))
        refine (kn_is HB.out _).mono ?_
        rintro _ x ⟨rfl, hg⟩
        replace hB := hB.later hg
        clear hg
        go_wp2_with (first
          | (refine load_ck cktC rfl _ rfl p rfl (f) _ (hB.get mp) ?_)
          | (refine load_ck cktC rfl _ rfl q rfl (g) _ (hB.get mq) ?_)
          | (refine load_ck cktC rfl _ rfl s rfl (e) _ (hB.get ms) ?_)
          | (refine load_ck cktC rfl _ rfl j rfl (joinF f g) _ (hB.get mj) ?_)
          | (refine load_ck cktC rfl _ rfl m rfl (meetF f g) _ (hB.get mm) ?_))
        refine (kn_is HC.out _).mono ?_
        rintro _ x ⟨rfl, hg⟩
        replace hB := hB.later hg
        clear hg
        go_wp2_with (first
          | (refine load_ck cktC rfl _ rfl p rfl (f) _ (hB.get mp) ?_)
          | (refine load_ck cktC rfl _ rfl q rfl (g) _ (hB.get mq) ?_)
          | (refine load_ck cktC rfl _ rfl s rfl (e) _ (hB.get ms) ?_)
          | (refine load_ck cktC rfl _ rfl j rfl (joinF f g) _ (hB.get mj) ?_)
          | (refine load_ck cktC rfl _ rfl m rfl (meetF f g) _ (hB.get mm) ?_))
        refine begin_grow 21 [] (Bks w M) (by kernel_rfl) rfl (Bks.stab _ _) (hB.later ((Gr.refl _).drew)) ?_
        refine AnyG.take 0 89 (.agg (ckC (f))) rfl rfl (by kernel_rfl) (yg_load cktC (by kernel_rfl) _ rfl p rfl (f) 25 (fun _ h => h.get mp)) ?_
        simp only [Act.put, List.setIfInBounds_toArray, List.set_cons_zero, List.set_cons_succ]
        refine AnyG.take 1 90 (.agg (ckC (g))) rfl rfl (by kernel_rfl) (yg_load cktC (by kernel_rfl) _ rfl q rfl (g) 25 (fun _ h => h.get mq)) ?_
        simp only [Act.put, List.setIfInBounds_toArray, List.set_cons_zero, List.set_cons_succ]
        refine AnyG.take 2 91 (.agg (ckC (joinF (f) (g)))) rfl rfl (by kernel_rfl) (yg_call 12 #[.agg (ckC (f)), .agg (ckC (g))] (by kernel_rfl) (fun _ => by kernel_rfl) (join_calls (f) (g))) ?_
        simp only [Act.put, List.setIfInBounds_toArray, List.set_cons_zero, List.set_cons_succ]
        refine AnyG.take 3 92 (.agg (ckC (e))) rfl rfl (by kernel_rfl) (yg_load cktC (by kernel_rfl) _ rfl s rfl (e) 25 (fun _ h => h.get ms)) ?_
        simp only [Act.put, List.setIfInBounds_toArray, List.set_cons_zero, List.set_cons_succ]
        refine AnyG.take 4 93 (.agg (ckC (joinF (joinF f g) (e)))) rfl rfl (by kernel_rfl) (yg_call 12 #[.agg (ckC (joinF f g)), .agg (ckC (e))] (by kernel_rfl) (fun _ => by kernel_rfl) (join_calls (joinF f g) (e))) ?_
        simp only [Act.put, List.setIfInBounds_toArray, List.set_cons_zero, List.set_cons_succ]
        refine AnyG.take 5 94 (.agg (ckC (f))) rfl rfl (by kernel_rfl) (yg_load cktC (by kernel_rfl) _ rfl p rfl (f) 25 (fun _ h => h.get mp)) ?_
        simp only [Act.put, List.setIfInBounds_toArray, List.set_cons_zero, List.set_cons_succ]
        refine AnyG.take 6 95 (.agg (ckC (g))) rfl rfl (by kernel_rfl) (yg_load cktC (by kernel_rfl) _ rfl q rfl (g) 25 (fun _ h => h.get mq)) ?_
        simp only [Act.put, List.setIfInBounds_toArray, List.set_cons_zero, List.set_cons_succ]
        refine AnyG.take 7 96 (.agg (ckC (e))) rfl rfl (by kernel_rfl) (yg_load cktC (by kernel_rfl) _ rfl s rfl (e) 25 (fun _ h => h.get ms)) ?_
        simp only [Act.put, List.setIfInBounds_toArray, List.set_cons_zero, List.set_cons_succ]
        refine AnyG.take 8 97 (.agg (ckC (joinF (g) (e)))) rfl rfl (by kernel_rfl) (yg_call 12 #[.agg (ckC (g)), .agg (ckC (e))] (by kernel_rfl) (fun _ => by kernel_rfl) (join_calls (g) (e))) ?_
        simp only [Act.put, List.setIfInBounds_toArray, List.set_cons_zero, List.set_cons_succ]
        refine AnyG.take 9 98 (.agg (ckC (joinF (f) (joinF g e)))) rfl rfl (by kernel_rfl) (yg_call 12 #[.agg (ckC (f)), .agg (ckC (joinF g e))] (by kernel_rfl) (fun _ => by kernel_rfl) (join_calls (f) (joinF g e))) ?_
        simp only [Act.put, List.setIfInBounds_toArray, List.set_cons_zero, List.set_cons_succ]
        refine AnyG.take 10 99 (.bool true) rfl rfl (by kernel_rfl) (yg_eql (by kernel_rfl) _ _ rfl (joinF (joinF f g) e) (joinF f (joinF g e)) rfl rfl _ (join_assoc f g e)) ?_
        simp only [Act.put, List.setIfInBounds_toArray, List.set_cons_zero, List.set_cons_succ]
        refine AnyG.take 11 100 (.bool true) rfl rfl (by kernel_rfl) (yg_pure (by kernel_rfl) (fun _ => by kernel_rfl)) ?_
        simp only [Act.put, List.setIfInBounds_toArray, List.set_cons_zero, List.set_cons_succ]
        refine AnyG.take 12 101 (.agg (ckC (f))) rfl rfl (by kernel_rfl) (yg_load cktC (by kernel_rfl) _ rfl p rfl (f) 25 (fun _ h => h.get mp)) ?_
        simp only [Act.put, List.setIfInBounds_toArray, List.set_cons_zero, List.set_cons_succ]
        refine AnyG.take 13 102 (.agg (ckC (f))) rfl rfl (by kernel_rfl) (yg_load cktC (by kernel_rfl) _ rfl p rfl (f) 25 (fun _ h => h.get mp)) ?_
        simp only [Act.put, List.setIfInBounds_toArray, List.set_cons_zero, List.set_cons_succ]
        refine AnyG.take 14 103 (.agg (ckC (g))) rfl rfl (by kernel_rfl) (yg_load cktC (by kernel_rfl) _ rfl q rfl (g) 25 (fun _ h => h.get mq)) ?_
        simp only [Act.put, List.setIfInBounds_toArray, List.set_cons_zero, List.set_cons_succ]
        refine AnyG.take 15 104 (.agg (ckC (meetF (f) (g)))) rfl rfl (by kernel_rfl) (yg_call 13 #[.agg (ckC (f)), .agg (ckC (g))] (by kernel_rfl) (fun _ => by kernel_rfl) (meet_calls (f) (g))) ?_
        simp only [Act.put, List.setIfInBounds_toArray, List.set_cons_zero, List.set_cons_succ]
        refine AnyG.take 16 105 (.agg (ckC (joinF (f) (meetF f g)))) rfl rfl (by kernel_rfl) (yg_call 12 #[.agg (ckC (f)), .agg (ckC (meetF f g))] (by kernel_rfl) (fun _ => by kernel_rfl) (join_calls (f) (meetF f g))) ?_
        simp only [Act.put, List.setIfInBounds_toArray, List.set_cons_zero, List.set_cons_succ]
        refine AnyG.take 17 106 (.agg (ckC (f))) rfl rfl (by kernel_rfl) (yg_load cktC (by kernel_rfl) _ rfl p rfl (f) 25 (fun _ h => h.get mp)) ?_
        simp only [Act.put, List.setIfInBounds_toArray, List.set_cons_zero, List.set_cons_succ]
        refine AnyG.take 18 107 (.bool true) rfl rfl (by kernel_rfl) (yg_eql (by kernel_rfl) _ _ rfl (joinF f (meetF f g)) (f) rfl rfl _ (join_meet f g)) ?_
        simp only [Act.put, List.setIfInBounds_toArray, List.set_cons_zero, List.set_cons_succ]
        refine AnyG.take 19 108 (.bool true) rfl rfl (by kernel_rfl) (yg_pure (by kernel_rfl) (fun _ => by kernel_rfl)) ?_
        simp only [Act.put, List.setIfInBounds_toArray, List.set_cons_zero, List.set_cons_succ]
        refine AnyG.take 20 6 (.bool true) rfl rfl (by kernel_rfl) (yg_pure (by kernel_rfl) (fun _ => by kernel_rfl)) ?_
        simp only [Act.put, List.setIfInBounds_toArray, List.set_cons_zero, List.set_cons_succ]
        refine AnyG.done (by kernel_rfl) fun y hy => ?_
        replace hB := hy
        clear hy
        go_wp2_with (fail)
        go_ret
        exact ⟨rfl, hB.gr⟩
      · cases xD
        · go_wp2_with (first
              | (refine load_ck cktC rfl _ rfl p rfl (f) _ (hB.get mp) ?_)
              | (refine load_ck cktC rfl _ rfl q rfl (g) _ (hB.get mq) ?_)
              | (refine load_ck cktC rfl _ rfl s rfl (e) _ (hB.get ms) ?_)
              | (refine load_ck cktC rfl _ rfl j rfl (joinF f g) _ (hB.get mj) ?_)
              | (refine load_ck cktC rfl _ rfl m rfl (meetF f g) _ (hB.get mm) ?_))
          refine (kn_is HA.out _).mono ?_
          rintro _ x ⟨rfl, hg⟩
          replace hB := hB.later hg
          clear hg
          go_wp2_with (first
            | (refine load_ck cktC rfl _ rfl p rfl (f) _ (hB.get mp) ?_)
            | (refine load_ck cktC rfl _ rfl q rfl (g) _ (hB.get mq) ?_)
            | (refine load_ck cktC rfl _ rfl s rfl (e) _ (hB.get ms) ?_)
            | (refine load_ck cktC rfl _ rfl j rfl (joinF f g) _ (hB.get mj) ?_)
            | (refine load_ck cktC rfl _ rfl m rfl (meetF f g) _ (hB.get mm) ?_))
          refine (kn_is HB.out _).mono ?_
          rintro _ x ⟨rfl, hg⟩
          replace hB := hB.later hg
          clear hg
          go_wp2_with (first
            | (refine load_ck cktC rfl _ rfl p rfl (f) _ (hB.get mp) ?_)
            | (refine load_ck cktC rfl _ rfl q rfl (g) _ (hB.get mq) ?_)
            | (refine load_ck cktC rfl _ rfl s rfl (e) _ (hB.get ms) ?_)
            | (refine load_ck cktC rfl _ rfl j rfl (joinF f g) _ (hB.get mj) ?_)
            | (refine load_ck cktC rfl _ rfl m rfl (meetF f g) _ (hB.get mm) ?_))
          refine (kn_is HC.out _).mono ?_
          rintro _ x ⟨rfl, hg⟩
          replace hB := hB.later hg
          clear hg
          go_wp2_with (first
            | (refine load_ck cktC rfl _ rfl p rfl (f) _ (hB.get mp) ?_)
            | (refine load_ck cktC rfl _ rfl q rfl (g) _ (hB.get mq) ?_)
            | (refine load_ck cktC rfl _ rfl s rfl (e) _ (hB.get ms) ?_)
            | (refine load_ck cktC rfl _ rfl j rfl (joinF f g) _ (hB.get mj) ?_)
            | (refine load_ck cktC rfl _ rfl m rfl (meetF f g) _ (hB.get mm) ?_))
          refine (kn_is HD.out _).mono ?_
          rintro _ x ⟨rfl, hg⟩
          replace hB := hB.later hg
          clear hg
          go_wp2_with (first
            | (refine load_ck cktC rfl _ rfl p rfl (f) _ (hB.get mp) ?_)
            | (refine load_ck cktC rfl _ rfl q rfl (g) _ (hB.get mq) ?_)
            | (refine load_ck cktC rfl _ rfl s rfl (e) _ (hB.get ms) ?_)
            | (refine load_ck cktC rfl _ rfl j rfl (joinF f g) _ (hB.get mj) ?_)
            | (refine load_ck cktC rfl _ rfl m rfl (meetF f g) _ (hB.get mm) ?_))
          refine begin_grow 21 [] (Bks w M) (by kernel_rfl) rfl (Bks.stab _ _) (hB.later ((Gr.refl _).drew)) ?_
          refine AnyG.take 0 89 (.agg (ckC (f))) rfl rfl (by kernel_rfl) (yg_load cktC (by kernel_rfl) _ rfl p rfl (f) 25 (fun _ h => h.get mp)) ?_
          simp only [Act.put, List.setIfInBounds_toArray, List.set_cons_zero, List.set_cons_succ]
          refine AnyG.take 1 90 (.agg (ckC (g))) rfl rfl (by kernel_rfl) (yg_load cktC (by kernel_rfl) _ rfl q rfl (g) 25 (fun _ h => h.get mq)) ?_
          simp only [Act.put, List.setIfInBounds_toArray, List.set_cons_zero, List.set_cons_succ]
          refine AnyG.take 2 91 (.agg (ckC (joinF (f) (g)))) rfl rfl (by kernel_rfl) (yg_call 12 #[.agg (ckC (f)), .agg (ckC (g))] (by kernel_rfl) (fun _ => by kernel_rfl) (join_calls (f) (g))) ?_
          simp only [Act.put, List.setIfInBounds_toArray, List.set_cons_zero, List.set_cons_succ]
          refine AnyG.take 3 92 (.agg (ckC (e))) rfl rfl (by kernel_rfl) (yg_load cktC (by kernel_rfl) _ rfl s rfl (e) 25 (fun _ h => h.get ms)) ?_
          simp only [Act.put, List.setIfInBounds_toArray, List.set_cons_zero, List.set_cons_succ]
          refine AnyG.take 4 93 (.agg (ckC (joinF (joinF f g) (e)))) rfl rfl (by kernel_rfl) (yg_call 12 #[.agg (ckC (joinF f g)), .agg (ckC (e))] (by kernel_rfl) (fun _ => by kernel_rfl) (join_calls (joinF f g) (e))) ?_
          simp only [Act.put, List.setIfInBounds_toArray, List.set_cons_zero, List.set_cons_succ]
          refine AnyG.take 5 94 (.agg (ckC (f))) rfl rfl (by kernel_rfl) (yg_load cktC (by kernel_rfl) _ rfl p rfl (f) 25 (fun _ h => h.get mp)) ?_
          simp only [Act.put, List.setIfInBounds_toArray, List.set_cons_zero, List.set_cons_succ]
          refine AnyG.take 6 95 (.agg (ckC (g))) rfl rfl (by kernel_rfl) (yg_load cktC (by kernel_rfl) _ rfl q rfl (g) 25 (fun _ h => h.get mq)) ?_
          simp only [Act.put, List.setIfInBounds_toArray, List.set_cons_zero, List.set_cons_succ]
          refine AnyG.take 7 96 (.agg (ckC (e))) rfl rfl (by kernel_rfl) (yg_load cktC (by kernel_rfl) _ rfl s rfl (e) 25 (fun _ h => h.get ms)) ?_
          simp only [Act.put, List.setIfInBounds_toArray, List.set_cons_zero, List.set_cons_succ]
          refine AnyG.take 8 97 (.agg (ckC (joinF (g) (e)))) rfl rfl (by kernel_rfl) (yg_call 12 #[.agg (ckC (g)), .agg (ckC (e))] (by kernel_rfl) (fun _ => by kernel_rfl) (join_calls (g) (e))) ?_
          simp only [Act.put, List.setIfInBounds_toArray, List.set_cons_zero, List.set_cons_succ]
          refine AnyG.take 9 98 (.agg (ckC (joinF (f) (joinF g e)))) rfl rfl (by kernel_rfl) (yg_call 12 #[.agg (ckC (f)), .agg (ckC (joinF g e))] (by kernel_rfl) (fun _ => by kernel_rfl) (join_calls (f) (joinF g e))) ?_
          simp only [Act.put, List.setIfInBounds_toArray, List.set_cons_zero, List.set_cons_succ]
          refine AnyG.take 10 99 (.bool true) rfl rfl (by kernel_rfl) (yg_eql (by kernel_rfl) _ _ rfl (joinF (joinF f g) e) (joinF f (joinF g e)) rfl rfl _ (join_assoc f g e)) ?_
          simp only [Act.put, List.setIfInBounds_toArray, List.set_cons_zero, List.set_cons_succ]
          refine AnyG.take 11 100 (.bool true) rfl rfl (by kernel_rfl) (yg_pure (by kernel_rfl) (fun _ => by kernel_rfl)) ?_
          simp only [Act.put, List.setIfInBounds_toArray, List.set_cons_zero, List.set_cons_succ]
          refine AnyG.take 12 101 (.agg (ckC (f))) rfl rfl (by kernel_rfl) (yg_load cktC (by kernel_rfl) _ rfl p rfl (f) 25 (fun _ h => h.get mp)) ?_
          simp only [Act.put, List.setIfInBounds_toArray, List.set_cons_zero, List.set_cons_succ]
          refine AnyG.take 13 102 (.agg (ckC (f))) rfl rfl (by kernel_rfl) (yg_load cktC (by kernel_rfl) _ rfl p rfl (f) 25 (fun _ h => h.get mp)) ?_
          simp only [Act.put, List.setIfInBounds_toArray, List.set_cons_zero, List.set_cons_succ]
          refine AnyG.take 14 103 (.agg (ckC (g))) rfl rfl (by kernel_rfl) (yg_load cktC (by kernel_rfl) _ rfl q rfl (g) 25 (fun _ h => h.get mq)) ?_
          simp only [Act.put, List.setIfInBounds_toArray, List.set_cons_zero, List.set_cons_succ]
          refine AnyG.take 15 104 (.agg (ckC (meetF (f) (g)))) rfl rfl (by kernel_rfl) (yg_call 13 #[.agg (ckC (f)), .agg (ckC (g))] (by kernel_rfl) (fun _ => by kernel_rfl) (meet_calls (f) (g))) ?_
          simp only [Act.put, List.setIfInBounds_toArray, List.set_cons_zero, List.set_cons_succ]
          refine AnyG.take 16 105 (.agg (ckC (joinF (f) (meetF f g)))) rfl rfl (by kernel_rfl) (yg_call 12 #[.agg (ckC (f)), .agg (ckC (meetF f g))] (by kernel_rfl) (fun _ => by kernel_rfl) (join_calls (f) (meetF f g))) ?_
          simp only [Act.put, List.setIfInBounds_toArray, List.set_cons_zero, List.set_cons_succ]
          refine AnyG.take 17 106 (.agg (ckC (f))) rfl rfl (by kernel_rfl) (yg_load cktC (by kernel_rfl) _ rfl p rfl (f) 25 (fun _ h => h.get mp)) ?_
          simp only [Act.put, List.setIfInBounds_toArray, List.set_cons_zero, List.set_cons_succ]
          refine AnyG.take 18 107 (.bool true) rfl rfl (by kernel_rfl) (yg_eql (by kernel_rfl) _ _ rfl (joinF f (meetF f g)) (f) rfl rfl _ (join_meet f g)) ?_
          simp only [Act.put, List.setIfInBounds_toArray, List.set_cons_zero, List.set_cons_succ]
          refine AnyG.take 19 108 (.bool true) rfl rfl (by kernel_rfl) (yg_pure (by kernel_rfl) (fun _ => by kernel_rfl)) ?_
          simp only [Act.put, List.setIfInBounds_toArray, List.set_cons_zero, List.set_cons_succ]
          refine AnyG.take 20 6 (.bool true) rfl rfl (by kernel_rfl) (yg_pure (by kernel_rfl) (fun _ => by kernel_rfl)) ?_
          simp only [Act.put, List.setIfInBounds_toArray, List.set_cons_zero, List.set_cons_succ]
          refine AnyG.done (by kernel_rfl) fun y hy => ?_
          replace hB := hy
          clear hy
          go_wp2_with (fail)
          go_ret
          exact ⟨rfl, hB.gr⟩
        · go_wp2_with (first
              | (refine load_ck cktC rfl _ rfl p rfl (f) _ (hB.get mp) ?_)
              | (refine load_ck cktC rfl _ rfl q rfl (g) _ (hB.get mq) ?_)
              | (refine load_ck cktC rfl _ rfl s rfl (e) _ (hB.get ms) ?_)
              | (refine load_ck cktC rfl _ rfl j rfl (joinF f g) _ (hB.get mj) ?_)
              | (refine load_ck cktC rfl _ rfl m rfl (meetF f g) _ (hB.get mm) ?_))
          refine (kn_is HA.out _).mono ?_
          rintro _ x ⟨rfl, hg⟩
          replace hB := hB.later hg
          clear hg
          go_wp2_with (first
            | (refine load_ck cktC rfl _ rfl p rfl (f) _ (hB.get mp) ?_)
            | (refine load_ck cktC rfl _ rfl q rfl (g) _ (hB.get mq) ?_)
            | (refine load_ck cktC rfl _ rfl s rfl (e) _ (hB.get ms) ?_)
            | (refine load_ck cktC rfl _ rfl j rfl (joinF f g) _ (hB.get mj) ?_)
            | (refine load_ck cktC rfl _ rfl m rfl (meetF f g) _ (hB.get mm) ?_))
          refine (kn_is HB.out _).mono ?_
          rintro _ x ⟨rfl, hg⟩
          replace hB := hB.later hg
          clear hg
          go_wp2_with (first
            | (refine load_ck cktC rfl _ rfl p rfl (f) _ (hB.get mp) ?_)
            | (refine load_ck cktC rfl _ rfl q rfl (g) _ (hB.get mq) ?_)
            | (refine load_ck cktC rfl _ rfl s rfl (e) _ (hB.get ms) ?_)
            | (refine load_ck cktC rfl _ rfl j rfl (joinF f g) _ (hB.get mj) ?_)
            | (refine load_ck cktC rfl _ rfl m rfl (meetF f g) _ (hB.get mm) ?_))
          refine (kn_is HC.out _).mono ?_
          rintro _ x ⟨rfl, hg⟩
          replace hB := hB.later hg
          clear hg
          go_wp2_with (first
            | (refine load_ck cktC rfl _ rfl p rfl (f) _ (hB.get mp) ?_)
            | (refine load_ck cktC rfl _ rfl q rfl (g) _ (hB.get mq) ?_)
            | (refine load_ck cktC rfl _ rfl s rfl (e) _ (hB.get ms) ?_)
            | (refine load_ck cktC rfl _ rfl j rfl (joinF f g) _ (hB.get mj) ?_)
            | (refine load_ck cktC rfl _ rfl m rfl (meetF f g) _ (hB.get mm) ?_))
          refine (kn_is HD.out _).mono ?_
          rintro _ x ⟨rfl, hg⟩
          replace hB := hB.later hg
          clear hg
          go_wp2_with (first
            | (refine load_ck cktC rfl _ rfl p rfl (f) _ (hB.get mp) ?_)
            | (refine load_ck cktC rfl _ rfl q rfl (g) _ (hB.get mq) ?_)
            | (refine load_ck cktC rfl _ rfl s rfl (e) _ (hB.get ms) ?_)
            | (refine load_ck cktC rfl _ rfl j rfl (joinF f g) _ (hB.get mj) ?_)
            | (refine load_ck cktC rfl _ rfl m rfl (meetF f g) _ (hB.get mm) ?_))
          refine (kn_is HM.out _).mono ?_
          rintro _ x ⟨rfl, hg⟩
          replace hB := hB.later hg
          clear hg
          go_wp2_with (first
            | (refine load_ck cktC rfl _ rfl p rfl (f) _ (hB.get mp) ?_)
            | (refine load_ck cktC rfl _ rfl q rfl (g) _ (hB.get mq) ?_)
            | (refine load_ck cktC rfl _ rfl s rfl (e) _ (hB.get ms) ?_)
            | (refine load_ck cktC rfl _ rfl j rfl (joinF f g) _ (hB.get mj) ?_)
            | (refine load_ck cktC rfl _ rfl m rfl (meetF f g) _ (hB.get mm) ?_))
          refine begin_grow 21 [] (Bks w M) (by kernel_rfl) rfl (Bks.stab _ _) (hB.later ((Gr.refl _).drew)) ?_
          refine AnyG.take 0 89 (.agg (ckC (f))) rfl rfl (by kernel_rfl) (yg_load cktC (by kernel_rfl) _ rfl p rfl (f) 25 (fun _ h => h.get mp)) ?_
          simp only [Act.put, List.setIfInBounds_toArray, List.set_cons_zero, List.set_cons_succ]
          refine AnyG.take 1 90 (.agg (ckC (g))) rfl rfl (by kernel_rfl) (yg_load cktC (by kernel_rfl) _ rfl q rfl (g) 25 (fun _ h => h.get mq)) ?_
          simp only [Act.put, List.setIfInBounds_toArray, List.set_cons_zero, List.set_cons_succ]
          refine AnyG.take 2 91 (.agg (ckC (joinF (f) (g)))) rfl rfl (by kernel_rfl) (yg_call 12 #[.agg (ckC (f)), .agg (ckC (g))] (by kernel_rfl) (fun _ => by kernel_rfl) (join_calls (f) (g))) ?_
          simp only [Act.put, List.setIfInBounds_toArray, List.set_cons_zero, List.set_cons_succ]
          refine AnyG.take 3 92 (.agg (ckC (e))) rfl rfl (by kernel_rfl) (yg_load cktC (by kernel_rfl) _ rfl s rfl (e) 25 (fun _ h => h.get ms)) ?_
          simp only [Act.put, List.setIfInBounds_toArray, List.set_cons_zero, List.set_cons_succ]
          refine AnyG.take 4 93 (.agg (ckC (joinF (joinF f g) (e)))) rfl rfl (by kernel_rfl) (yg_call 12 #[.agg (ckC (joinF f g)), .agg (ckC (e))] (by kernel_rfl) (fun _ => by kernel_rfl) (join_calls (joinF f g) (e))) ?_
          simp only [Act.put, List.setIfInBounds_toArray, List.set_cons_zero, List.set_cons_succ]
          refine AnyG.take 5 94 (.agg (ckC (f))) rfl rfl (by kernel_rfl) (yg_load cktC (by kernel_rfl) _ rfl p rfl (f) 25 (fun _ h => h.get mp)) ?_
          simp only [Act.put, List.setIfInBounds_toArray, List.set_cons_zero, List.set_cons_succ]
          refine AnyG.take 6 95 (.agg (ckC (g))) rfl rfl (by kernel_rfl) (yg_load cktC (by kernel_rfl) _ rfl q rfl (g) 25 (fun _ h => h.get mq)) ?_
          simp only [Act.put, List.setIfInBounds_toArray, List.set_cons_zero, List.set_cons_succ]
          refine AnyG.take 7 96 (.agg (ckC (e))) rfl rfl (by kernel_rfl) (yg_load cktC (by kernel_rfl) _ rfl s rfl (e) 25 (fun _ h => h.get ms)) ?_
          simp only [Act.put, List.setIfInBounds_toArray, List.set_cons_zero, List.set_cons_succ]
          refine AnyG.take 8 97 (.agg (ckC (joinF (g) (e)))) rfl rfl (by kernel_rfl) (yg_call 12 #[.agg (ckC (g)), .agg (ckC (e))] (by kernel_rfl) (fun _ => by kernel_rfl) (join_calls (g) (e))) ?_
          simp only [Act.put, List.setIfInBounds_toArray, List.set_cons_zero, List.set_cons_succ]
          refine AnyG.take 9 98 (.agg (ckC (joinF (f) (joinF g e)))) rfl rfl (by kernel_rfl) (yg_call 12 #[.agg (ckC (f)), .agg (ckC (joinF g e))] (by kernel_rfl) (fun _ => by kernel_rfl) (join_calls (f) (joinF g e))) ?_
          simp only [Act.put, List.setIfInBounds_toArray, List.set_cons_zero, List.set_cons_succ]
          refine AnyG.take 10 99 (.bool true) rfl rfl (by kernel_rfl) (yg_eql (by kernel_rfl) _ _ rfl (joinF (joinF f g) e) (joinF f (joinF g e)) rfl rfl _ (join_assoc f g e)) ?_
          simp only [Act.put, List.setIfInBounds_toArray, List.set_cons_zero, List.set_cons_succ]
          refine AnyG.take 11 100 (.bool true) rfl rfl (by kernel_rfl) (yg_pure (by kernel_rfl) (fun _ => by kernel_rfl)) ?_
          simp only [Act.put, List.setIfInBounds_toArray, List.set_cons_zero, List.set_cons_succ]
          refine AnyG.take 12 101 (.agg (ckC (f))) rfl rfl (by kernel_rfl) (yg_load cktC (by kernel_rfl) _ rfl p rfl (f) 25 (fun _ h => h.get mp)) ?_
          simp only [Act.put, List.setIfInBounds_toArray, List.set_cons_zero, List.set_cons_succ]
          refine AnyG.take 13 102 (.agg (ckC (f))) rfl rfl (by kernel_rfl) (yg_load cktC (by kernel_rfl) _ rfl p rfl (f) 25 (fun _ h => h.get mp)) ?_
          simp only [Act.put, List.setIfInBounds_toArray, List.set_cons_zero, List.set_cons_succ]
          refine AnyG.take 14 103 (.agg (ckC (g))) rfl rfl (by kernel_rfl) (yg_load cktC (by kernel_rfl) _ rfl q rfl (g) 25 (fun _ h => h.get mq)) ?_
          simp only [Act.put, List.setIfInBounds_toArray, List.set_cons_zero, List.set_cons_succ]
          refine AnyG.take 15 104 (.agg (ckC (meetF (f) (g)))) rfl rfl (by kernel_rfl) (yg_call 13 #[.agg (ckC (f)), .agg (ckC (g))] (by kernel_rfl) (fun _ => by kernel_rfl) (meet_calls (f) (g))) ?_
          simp only [Act.put, List.setIfInBounds_toArray, List.set_cons_zero, List.set_cons_succ]
          refine AnyG.take 16 105 (.agg (ckC (joinF (f) (meetF f g)))) rfl rfl (by kernel_rfl) (yg_call 12 #[.agg (ckC (f)), .agg (ckC (meetF f g))] (by kernel_rfl) (fun _ => by kernel_rfl) (join_calls (f) (meetF f g))) ?_
          simp only [Act.put, List.setIfInBounds_toArray, List.set_cons_zero, List.set_cons_succ]
          refine AnyG.take 17 106 (.agg (ckC (f))) rfl rfl (by kernel_rfl) (yg_load cktC (by kernel_rfl) _ rfl p rfl (f) 25 (fun _ h => h.get mp)) ?_
          simp only [Act.put, List.setIfInBounds_toArray, List.set_cons_zero, List.set_cons_succ]
          refine AnyG.take 18 107 (.bool true) rfl rfl (by kernel_rfl) (yg_eql (by kernel_rfl) _ _ rfl (joinF f (meetF f g)) (f) rfl rfl _ (join_meet f g)) ?_
          simp only [Act.put, List.setIfInBounds_toArray, List.set_cons_zero, List.set_cons_succ]
          refine AnyG.take 19 108 (.bool true) rfl rfl (by kernel_rfl) (yg_pure (by kernel_rfl) (fun _ => by kernel_rfl)) ?_
          simp only [Act.put, List.setIfInBounds_toArray, List.set_cons_zero, List.set_cons_succ]
          refine AnyG.take 20 6 (.bool true) rfl rfl (by kernel_rfl) (yg_pure (by kernel_rfl) (fun _ => by kernel_rfl)) ?_
          simp only [Act.put, List.setIfInBounds_toArray, List.set_cons_zero, List.set_cons_succ]
          refine AnyG.done (by kernel_rfl) fun y hy => ?_
          replace hB := hy
          clear hy
          go_wp2_with (fail)
          go_ret
          exact ⟨rfl, hB.gr⟩
    · cases xC
      · go_wp2_with (first
            | (refine load_ck cktC rfl _ rfl p rfl (f) _ (hB.get mp) ?_)
            | (refine load_ck cktC rfl _ rfl q rfl (g) _ (hB.get mq) ?_)
            | (refine load_ck cktC rfl _ rfl s rfl (e) _ (hB.get ms) ?_)
            | (refine load_ck cktC rfl _ rfl j rfl (joinF f g) _ (hB.get mj) ?_)
            | (refine load_ck cktC rfl _ rfl m rfl (meetF f g) _ (hB.get mm) ?_))
        refine (kn_is HA.out _).mono ?_
        rintro _ x ⟨rfl, hg⟩
        replace hB := hB.later hg
        clear hg
        go_wp2_with (first
          | (refine load_ck cktC rfl _ rfl p rfl (f) _ (hB.get mp) ?_)
          | (refine load_ck cktC rfl _ rfl q rfl (g) _ (hB.get mq) ?_)
          | (refine load_ck cktC rfl _ rfl s rfl (e) _ (hB.get ms) ?_)
          | (refine load_ck cktC rfl _ rfl j rfl (joinF f g) _ (hB.get mj) ?_)
          | (refine load_ck cktC rfl _ rfl m rfl (meetF f g) _ (hB.get mm) ?_))
        refine (kn_is HB.out _).mono ?_
        rintro _ x ⟨rfl, hg⟩
        replace hB := hB.later hg
        clear hg
        go_wp2_with (first
          | (refine load_ck cktC rfl _ rfl p rfl (f) _ (hB.get mp) ?_)
          | (refine load_ck cktC rfl _ rfl q rfl (g) _ (hB.get mq) ?_)
          | (refine load_ck cktC rfl _ rfl s rfl (e) _ (hB.get ms) ?_)
          | (refine load_ck cktC rfl _ rfl j rfl (joinF f g) _ (hB.get mj) ?_)
          | (refine load_ck cktC rfl _ rfl m rfl (meetF f g) _ (hB.get mm) ?_))
        refine (kn_is HJ.out _).mono ?_
        rintro _ x ⟨rfl, hg⟩
        replace hB := hB.later hg
        clear hg
        go_wp2_with (first
          | (refine load_ck cktC rfl _ rfl p rfl (f) _ (hB.get mp) ?_)
          | (refine load_ck cktC rfl _ rfl q rfl (g) _ (hB.get mq) ?_)
          | (refine load_ck cktC rfl _ rfl s rfl (e) _ (hB.get ms) ?_)
          | (refine load_ck cktC rfl _ rfl j rfl (joinF f g) _ (hB.get mj) ?_)
          | (refine load_ck cktC rfl _ rfl m rfl (meetF f g) _ (hB.get mm) ?_))
        refine (kn_is HC.out _).mono ?_
        rintro _ x ⟨rfl, hg⟩
        replace hB := hB.later hg
        clear hg
        go_wp2_with (first
          | (refine load_ck cktC rfl _ rfl p rfl (f) _ (hB.get mp) ?_)
          | (refine load_ck cktC rfl _ rfl q rfl (g) _ (hB.get mq) ?_)
          | (refine load_ck cktC rfl _ rfl s rfl (e) _ (hB.get ms) ?_)
          | (refine load_ck cktC rfl _ rfl j rfl (joinF f g) _ (hB.get mj) ?_)
          | (refine load_ck cktC rfl _ rfl m rfl (meetF f g) _ (hB.get mm) ?_))
        refine begin_grow 21 [] (Bks w M) (by kernel_rfl) rfl (Bks.stab _ _) (hB.later ((Gr.refl _).drew)) ?_
        refine AnyG.take 0 89 (.agg (ckC (f))) rfl rfl (by kernel_rfl) (yg_load cktC (by kernel_rfl) _ rfl p rfl (f) 25 (fun _ h => h.get mp)) ?_
        simp only [Act.put, List.setIfInBounds_toArray, List.set_cons_zero, List.set_cons_succ]
        refine AnyG.take 1 90 (.agg (ckC (g))) rfl rfl (by kernel_rfl) (yg_load cktC (by kernel_rfl) _ rfl q rfl (g) 25 (fun _ h => h.get mq)) ?_
        simp only [Act.put, List.setIfInBounds_toArray, List.set_cons_zero, List.set_cons_succ]
        refine AnyG.take 2 91 (.agg (ckC (joinF (f) (g)))) rfl rfl (by kernel_rfl) (yg_call 12 #[.agg (ckC (f)), .agg (ckC (g))] (by kernel_rfl) (fun _ => by kernel_rfl) (join_calls (f) (g))) ?_
        simp only [Act.put, List.setIfInBounds_toArray, List.set_cons_zero, List.set_cons_succ]
        refine AnyG.take 3 92 (.agg (ckC (e))) rfl rfl (by kernel_rfl) (yg_load cktC (by kernel_rfl) _ rfl s rfl (e) 25 (fun _ h => h.get ms)) ?_
        simp only [Act.put, List.setIfInBounds_toArray, List.set_cons_zero, List.set_cons_succ]
        refine AnyG.take 4 93 (.agg (ckC (joinF (joinF f g) (e)))) rfl rfl (by kernel_rfl) (yg_call 12 #[.agg (ckC (joinF f g)), .agg (ckC (e))] (by kernel_rfl) (fun _ => by kernel_rfl) (join_calls (joinF f g) (e))) ?_
        simp only [Act.put, List.setIfInBounds_toArray, List.set_cons_zero, List.set_cons_succ]
        refine AnyG.take 5 94 (.agg (ckC (f))) rfl rfl (by kernel_rfl) (yg_load cktC (by kernel_rfl) _ rfl p rfl (f) 25 (fun _ h => h.get mp)) ?_
        simp only [Act.put, List.setIfInBounds_toArray, List.set_cons_zero, List.set_cons_succ]
        refine AnyG.take 6 95 (.agg (ckC (g))) rfl rfl (by kernel_rfl) (yg_load cktC (by kernel_rfl) _ rfl q rfl (g) 25 (fun _ h => h.get mq)) ?_
        simp only [Act.put, List.setIfInBounds_toArray, List.set_cons_zero, List.set_cons_succ]
        refine AnyG.take 7 96 (.agg (ckC (e))) rfl rfl (by kernel_rfl) (yg_load cktC (by kernel_rfl) _ rfl s rfl (e) 25 (fun _ h => h.get ms)) ?_
        simp only [Act.put, List.setIfInBounds_toArray, List.set_cons_zero, List.set_cons_succ]
        refine AnyG.take 8 97 (.agg (ckC (joinF (g) (e)))) rfl rfl (by kernel_rfl) (yg_call 12 #[.agg (ckC (g)), .agg (ckC (e))] (by kernel_rfl) (fun _ => by kernel_rfl) (join_calls (g) (e))) ?_
        simp only [Act.put, List.setIfInBounds_toArray, List.set_cons_zero, List.set_cons_succ]
        refine AnyG.take 9 98 (.agg (ckC (joinF (f) (joinF g e)))) rfl rfl (by kernel_rfl) (yg_call 12 #[.agg (ckC (f)), .agg (ckC (joinF g e))] (by kernel_rfl) (fun _ => by kernel_rfl) (join_calls (f) (joinF g e))) ?_
        simp only [Act.put, List.setIfInBounds_toArray, List.set_cons_zero, List.set_cons_succ]
        refine AnyG.take 10 99 (.bool true) rfl rfl (by kernel_rfl) (yg_eql (by kernel_rfl) _ _ rfl (joinF (joinF f g) e) (joinF f (joinF g e)) rfl rfl _ (join_assoc f g e)) ?_
        simp only [Act.put, List.setIfInBounds_toArray, List.set_cons_zero, List.set_cons_succ]
        refine AnyG.take 11 100 (.bool true) rfl rfl (by kernel_rfl) (yg_pure (by kernel_rfl) (fun _ => by kernel_rfl)) ?_
        simp only [Act.put, List.setIfInBounds_toArray, List.set_cons_zero, List.set_cons_succ]
        refine AnyG.take 12 101 (.agg (ckC (f))) rfl rfl (by kernel_rfl) (yg_load cktC (by kernel_rfl) _ rfl p rfl (f) 25 (fun _ h => h.get mp)) ?_
        simp only [Act.put, List.setIfInBounds_toArray, List.set_cons_zero, List.set_cons_succ]
        refine AnyG.take 13 102 (.agg (ckC (f))) rfl rfl (by kernel_rfl) (yg_load cktC (by kernel_rfl) _ rfl p rfl (f) 25 (fun _ h => h.get mp)) ?_
        simp only [Act.put, List.setIfInBounds_toArray, List.set_cons_zero, List.set_cons_succ]
        refine AnyG.take 14 103 (.agg (ckC (g))) rfl rfl (by kernel_rfl) (yg_load cktC (by kernel_rfl) _ rfl q rfl (g) 25 (fun _ h => h.get mq)) ?_
        simp only [Act.put, List.setIfInBounds_toArray, List.set_cons_zero, List.set_cons_succ]
        refine AnyG.take 15 104 (.agg (ckC (meetF (f) (g)))) rfl rfl (by kernel_rfl) (yg_call 13 #[.agg (ckC (f)), .agg (ckC (g))] (by kernel_rfl) (fun _ => by kernel_rfl) (meet_calls (f) (g))) ?_
        simp only [Act.put, List.setIfInBounds_toArray, List.set_cons_zero, List.set_cons_succ]
        refine AnyG.take 16 105 (.agg (ckC (joinF (f) (meetF f g)))) rfl rfl (by kernel_rfl) (yg_call 12 #[.agg (ckC (f)), .agg (ckC (meetF f g))] (by kernel_rfl) (fun _ => by kernel_rfl) (join_calls (f) (meetF f g))) ?_
        simp only [Act.put, List.setIfInBounds_toArray, List.set_cons_zero, List.set_cons_succ]
        refine AnyG.take 17 106 (.agg (ckC (f))) rfl rfl (by kernel_rfl) (yg_load cktC (by kernel_rfl) _ rfl p rfl (f) 25 (fun _ h => h.get mp)) ?_
        simp only [Act.put, List.setIfInBounds_toArray, List.set_cons_zero, List.set_cons_succ]
        refine AnyG.take 18 107 (.bool true) rfl rfl (by kernel_rfl) (yg_eql (by kernel_rfl) _ _ rfl (joinF f (meetF f g)) (f) rfl rfl _ (join_meet f g)) ?_
        simp only [Act.put, List.setIfInBounds_toArray, List.set_cons_zero, List.set_cons_succ]
        refine AnyG.take 19 108 (.bool true) rfl rfl (by kernel_rfl) (yg_pure (by kernel_rfl) (fun _ => by kernel_rfl)) ?_
        simp only [Act.put, List.setIfInBounds_toArray, List.set_cons_zero, List.set_cons_succ]
        refine AnyG.take 20 6 (.bool true) rfl rfl (by kernel_rfl) (yg_pure (by kernel_rfl) (fun _ => by kernel_rfl)) ?_
        simp only [Act.put, List.setIfInBounds_toArray, List.set_cons_zero, List.set_cons_succ]
        refine AnyG.done (by kernel_rfl) fun y hy => ?_
        replace hB := hy
        clear hy
        go_wp2_with (fail)
        go_ret
        exact ⟨rfl, hB.gr⟩
      · cases xD
        · go_wp2_with (first
              | (refine load_ck cktC rfl _ rfl p rfl (f) _ (hB.get mp) ?_)
              | (refine load_ck cktC rfl _ rfl q rfl (g) _ (hB.get mq) ?_)
              | (refine load_ck cktC rfl _ rfl s rfl (e) _ (hB.get ms) ?_)
              | (refine load_ck cktC rfl _ rfl j rfl (joinF f g) _ (hB.get mj) ?_)
              | (refine load_ck cktC rfl _ rfl m rfl (meetF f g) _ (hB.get mm) ?_))
          refine (kn_is HA.out _).mono ?_
          rintro _ x ⟨rfl, hg⟩
          replace hB := hB.later hg
          clear hg
          go_wp2_with (first
            | (refine load_ck cktC rfl _ rfl p rfl (f) _ (hB.get mp) ?_)
            | (refine load_ck cktC rfl _ rfl q rfl (g) _ (hB.get mq) ?_)
            | (refine load_ck cktC rfl _ rfl s rfl (e) _ (hB.get ms) ?_)
            | (refine load_ck cktC rfl _ rfl j rfl (joinF f g) _ (hB.get mj) ?_)
            | (refine load_ck cktC rfl _ rfl m rfl (meetF f g) _ (hB.get mm) ?_))
          refine (kn_is HB.out _).mono ?_
          rintro _ x ⟨rfl, hg⟩
          replace hB := hB.later hg
          clear hg
          go_wp2_with (first
            | (refine load_ck cktC rfl _ rfl p rfl (f) _ (hB.get mp) ?_)
            | (refine load_ck cktC rfl _ rfl q rfl (g) _ (hB.get mq) ?_)
            | (refine load_ck cktC rfl _ rfl s rfl (e) _ (hB.get ms) ?_)
            | (refine load_ck cktC rfl _ rfl j rfl (joinF f g) _ (hB.get mj) ?_)
            | (refine load_ck cktC rfl _ rfl m rfl (meetF f g) _ (hB.get mm) ?_))
          refine (kn_is HJ.out _).mono ?_
          rintro _ x ⟨rfl, hg⟩
          replace hB := hB.later hg
          clear hg
          go_wp2_with (first
            | (refine load_ck cktC rfl _ rfl p rfl (f) _ (hB.get mp) ?_)
            | (refine load_ck cktC rfl _ rfl q rfl (g) _ (hB.get mq) ?_)
            | (refine load_ck cktC rfl _ rfl s rfl (e) _ (hB.get ms) ?_)
            | (refine load_ck cktC rfl _ rfl j rfl (joinF f g) _ (hB.get mj) ?_)
            | (refine load_ck cktC rfl _ rfl m rfl (meetF f g) _ (hB.get mm) ?_))
          refine (kn_is HC.out _).mono ?_
          rintro _ x ⟨rfl, hg⟩
          replace hB := hB.later hg
          clear hg
          go_wp2_with (first
            | (refine load_ck cktC rfl _ rfl p rfl (f) _ (hB.get mp) ?_)
            | (refine load_ck cktC rfl _ rfl q rfl (g) _ (hB.get mq) ?_)
            | (refine load_ck cktC rfl _ rfl s rfl (e) _ (hB.get ms) ?_)
            | (refine load_ck cktC rfl _ rfl j rfl (joinF f g) _ (hB.get mj) ?_)
            | (refine load_ck cktC rfl _ rfl m rfl (meetF f g) _ (hB.get mm) ?_))
          refine (kn_is HD.out _).mono ?_
          rintro _ x ⟨rfl, hg⟩
          replace hB := hB.later hg
          clear hg
          go_wp2_with (first
            | (refine load_ck cktC rfl _ rfl p rfl (f) _ (hB.get mp) ?_)
            | (refine load_ck cktC rfl _ rfl q rfl (g) _ (hB.get mq) ?_)
            | (refine load_ck cktC rfl _ rfl s rfl (e) _ (hB.get ms) ?_)
            | (refine load_ck cktC rfl _ rfl j rfl (joinF f g) _ (hB.get mj) ?_)
            | (refine load_ck cktC rfl _ rfl m rfl (meetF f g) _ (hB.get mm) ?_))
          refine begin_grow 21 [] (Bks w M) (by kernel_rfl) rfl (Bks.stab _ _) (hB.later ((Gr.refl _).drew)) ?_
          refine AnyG.take 0 89 (.agg (ckC (f))) rfl rfl (by kernel_rfl) (yg_load cktC (by kernel_rfl) _ rfl p rfl (f) 25 (fun _ h => h.get mp)) ?_
          simp only [Act.put, List.setIfInBounds_toArray, List.set_cons_zero, List.set_cons_succ]
          refine AnyG.take 1 90 (.agg (ckC (g))) rfl rfl (by kernel_rfl) (yg_load cktC (by kernel_rfl) _ rfl q rfl (g) 25 (fun _ h => h.get mq)) ?_
          simp only [Act.put, List.setIfInBounds_toArray, List.set_cons_zero, List.set_cons_succ]
          refine AnyG.take 2 91 (.agg (ckC (joinF (f) (g)))) rfl rfl (by kernel_rfl) (yg_call 12 #[.agg (ckC (f)), .agg (ckC (g))] (by kernel_rfl) (fun _ => by kernel_rfl) (join_calls (f) (g))) ?_
          simp only [Act.put, List.setIfInBounds_toArray, List.set_cons_zero, List.set_cons_succ]
          refine AnyG.take 3 92 (.agg (ckC (e))) rfl rfl (by kernel_rfl) (yg_load cktC (by kernel_rfl) _ rfl s rfl (e) 25 (fun _ h => h.get ms)) ?_
          simp only [Act.put, List.setIfInBounds_toArray, List.set_cons_zero, List.set_cons_succ]
          refine AnyG.take 4 93 (.agg (ckC (joinF (joinF f g) (e)))) rfl rfl (by kernel_rfl) (yg_call 12 #[.agg (ckC (joinF f g)), .agg (ckC (e))] (by kernel_rfl) (fun _ => by kernel_rfl) (join_calls (joinF f g) (e))) ?_
          simp only [Act.put, List.setIfInBounds_toArray, List.set_cons_zero, List.set_cons_succ]
          refine AnyG.take 5 94 (.agg (ckC (f))) rfl rfl (by kernel_rfl) (yg_load cktC (by kernel_rfl) _ rfl p rfl (f) 25 (fun _ h => h.get mp)) ?_
          simp only [Act.put, List.setIfInBounds_toArray, List.set_cons_zero, List.set_cons_succ]
          refine AnyG.take 6 95 (.agg (ckC (g))) rfl rfl (by kernel_rfl) (yg_load cktC (by kernel_rfl) _ rfl q rfl (g) 25 (fun _ h => h.get mq)) ?_
          simp only [Act.put, List.setIfInBounds_toArray, List.set_cons_zero, List.set_cons_succ]
          refine AnyG.take 7 96 (.agg (ckC (e))) rfl rfl (by kernel_rfl) (yg_load cktC (by kernel_rfl) _ rfl s rfl (e) 25 (fun _ h => h.get ms)) ?_
          simp only [Act.put, List.setIfInBounds_toArray, List.set_cons_zero, List.set_cons_succ]
          refine AnyG.take 8 97 (.agg (ckC (joinF (g) (e)))) rfl rfl (by kernel_rfl) (yg_call 12 #[.agg (ckC (g)), .agg (ckC (e))] (by kernel_rfl) (fun _ => by kernel_rfl) (join_calls (g) (e))) ?_
          simp only [Act.put, List.setIfInBounds_toArray, List.set_cons_zero, List.set_cons_succ]
          refine AnyG.take 9 98 (.agg (ckC (joinF (f) (joinF g e)))) rfl rfl (by kernel_rfl) (yg_call 12 #[.agg (ckC (f)), .agg (ckC (joinF g e))] (by kernel_rfl) (fun _ => by kernel_rfl) (join_calls (f) (joinF g e))) ?_
          simp only [Act.put, List.setIfInBounds_toArray, List.set_cons_zero, List.set_cons_succ]
          refine AnyG.take 10 99 (.bool true) rfl rfl (by kernel_rfl) (yg_eql (by kernel_rfl) _ _ rfl (joinF (joinF f g) e) (joinF f (joinF g e)) rfl rfl _ (join_assoc f g e)) ?_
          simp only [Act.put, List.setIfInBounds_toArray, List.set_cons_zero, List.set_cons_succ]
          refine AnyG.take 11 100 (.bool true) rfl rfl (by kernel_rfl) (yg_pure (by kernel_rfl) (fun _ => by kernel_rfl)) ?_
          simp only [Act.put, List.setIfInBounds_toArray, List.set_cons_zero, List.set_cons_succ]
          refine AnyG.take 12 101 (.agg (ckC (f))) rfl rfl (by kernel_rfl) (yg_load cktC (by kernel_rfl) _ rfl p rfl (f) 25 (fun _ h => h.get mp)) ?_
          simp only [Act.put, List.setIfInBounds_toArray, List.set_cons_zero, List.set_cons_succ]
          refine AnyG.take 13 102 (.agg (ckC (f))) rfl rfl (by kernel_rfl) (yg_load cktC (by kernel_rfl) _ rfl p rfl (f) 25 (fun _ h => h.get mp)) ?_
          simp only [Act.put, List.setIfInBounds_toArray, List.set_cons_zero, List.set_cons_succ]
          refine AnyG.take 14 103 (.agg (ckC (g))) rfl rfl (by kernel_rfl) (yg_load cktC (by kernel_rfl) _ rfl q rfl (g) 25 (fun _ h => h.get mq)) ?_
          simp only [Act.put, List.setIfInBounds_toArray, List.set_cons_zero, List.set_cons_succ]
          refine AnyG.take 15 104 (.agg (ckC (meetF (f) (g)))) rfl rfl (by kernel_rfl) (yg_call 13 #[.agg (ckC (f)), .agg (ckC (g))] (by kernel_rfl) (fun _ => by kernel_rfl) (meet_calls (f) (g))) ?_
          simp only [Act.put, List.setIfInBounds_toArray, List.set_cons_zero, List.set_cons_succ]
          refine AnyG.take 16 105 (.agg (ckC (joinF (f) (meetF f g)))) rfl rfl (by kernel_rfl) (yg_call 12 #[.agg (ckC (f)), .agg (ckC (meetF f g))] (by kernel_rfl) (fun _ => by kernel_rfl) (join_calls (f) (meetF f g))) ?_
          simp only [Act.put, List.setIfInBounds_toArray, List.set_cons_zero, List.set_cons_succ]
          refine AnyG.take 17 106 (.agg (ckC (f))) rfl rfl (by kernel_rfl) (yg_load cktC (by kernel_rfl) _ rfl p rfl (f) 25 (fun _ h => h.get mp)) ?_
          simp only [Act.put, List.setIfInBounds_toArray, List.set_cons_zero, List.set_cons_succ]
          refine AnyG.take 18 107 (.bool true) rfl rfl (by kernel_rfl) (yg_eql (by kernel_rfl) _ _ rfl (joinF f (meetF f g)) (f) rfl rfl _ (join_meet f g)) ?_
          simp only [Act.put, List.setIfInBounds_toArray, List.set_cons_zero, List.set_cons_succ]
          refine AnyG.take 19 108 (.bool true) rfl rfl (by kernel_rfl) (yg_pure (by kernel_rfl) (fun _ => by kernel_rfl)) ?_
          simp only [Act.put, List.setIfInBounds_toArray, List.set_cons_zero, List.set_cons_succ]
          refine AnyG.take 20 6 (.bool true) rfl rfl (by kernel_rfl) (yg_pure (by kernel_rfl) (fun _ => by kernel_rfl)) ?_
          simp only [Act.put, List.setIfInBounds_toArray, List.set_cons_zero, List.set_cons_succ]
          refine AnyG.done (by kernel_rfl) fun y hy => ?_
          replace hB := hy
          clear hy
          go_wp2_with (fail)
          go_ret
          exact ⟨rfl, hB.gr⟩
        · go_wp2_with (first
              | (refine load_ck cktC rfl _ rfl p rfl (f) _ (hB.get mp) ?_)
              | (refine load_ck cktC rfl _ rfl q rfl (g) _ (hB.get mq) ?_)
              | (refine load_ck cktC rfl _ rfl s rfl (e) _ (hB.get ms) ?_)
              | (refine load_ck cktC rfl _ rfl j rfl (joinF f g) _ (hB.get mj) ?_)
              | (refine load_ck cktC rfl _ rfl m rfl (meetF f g) _ (hB.get mm) ?_))
          refine (kn_is HA.out _).mono ?_
          rintro _ x ⟨rfl, hg⟩
          replace hB := hB.later hg
          clear hg
          go_wp2_with (first
            | (refine load_ck cktC rfl _ rfl p rfl (f) _ (hB.get mp) ?_)
            | (refine load_ck cktC rfl _ rfl q rfl (g) _ (hB.get mq) ?_)
            | (refine load_ck cktC rfl _ rfl s rfl (e) _ (hB.get ms) ?_)
            | (refine load_ck cktC rfl _ rfl j rfl (joinF f g) _ (hB.get mj) ?_)
            | (refine load_ck cktC rfl _ rfl m rfl (meetF f g) _ (hB.get mm) ?_))
          refine (kn_is HB.out _).mono ?_
          rintro _ x ⟨rfl, hg⟩
          replace hB := hB.later hg
          clear hg
          go_wp2_with (first
            | (refine load_ck cktC rfl _ rfl p rfl (f) _ (hB.get mp) ?_)
            | (refine load_ck cktC rfl _ rfl q rfl (g) _ (hB.get mq) ?_)
            | (refine load_ck cktC rfl _ rfl s rfl (e) _ (hB.get ms) ?_)
            | (refine load_ck cktC rfl _ rfl j rfl (joinF f g) _ (hB.get mj) ?_)
            | (refine load_ck cktC rfl _ rfl m rfl (meetF f g) _ (hB.get mm) ?_))
          refine (kn_is HJ.out _).mono ?_
          rintro _ x ⟨rfl, hg⟩
          replace hB := hB.later hg
          clear hg
          go_wp2_with (first
            | (refine load_ck cktC rfl _ rfl p rfl (f) _ (hB.get mp) ?_)
            | (refine load_ck cktC rfl _ rfl q rfl (g) _ (hB.get mq) ?_)
            | (refine load_ck cktC rfl _ rfl s rfl (e) _ (hB.get ms) ?_)
            | (refine load_ck cktC rfl _ rfl j rfl (joinF f g) _ (hB.get mj) ?_)
            | (refine load_ck cktC rfl _ rfl m rfl (meetF f g) _ (hB.get mm) ?_))
          refine (kn_is HC.out _).mono ?_
          rintro _ x ⟨rfl, hg⟩
          replace hB := hB.later hg
          clear hg
          go_wp2_with (first
            | (refine load_ck cktC rfl _ rfl p rfl (f) _ (hB.get mp) ?_)
            | (refine load_ck cktC rfl _ rfl q rfl (g) _ (hB.get mq) ?_)
            | (refine load_ck cktC rfl _ rfl s rfl (e) _ (hB.get ms) ?_)
            | (refine load_ck cktC rfl _ rfl j rfl (joinF f g) _ (hB.get mj) ?_)
            | (refine load_ck cktC rfl _ rfl m rfl (meetF f g) _ (hB.get mm) ?_))
          refine (kn_is HD.out _).mono ?_
          rintro _ x ⟨rfl, hg⟩
          replace hB := hB.later hg
          clear hg
          go_wp2_with (first
            | (refine load_ck cktC rfl _ rfl p rfl (f) _ (hB.get mp) ?_)
            | (refine load_ck cktC rfl _ rfl q rfl (g) _ (hB.get mq) ?_)
            | (refine load_ck cktC rfl _ rfl s rfl (e) _ (hB.get ms) ?_)
            | (refine load_ck cktC rfl _ rfl j rfl (joinF f g) _ (hB.get mj) ?_)
            | (refine load_ck cktC rfl _ rfl m rfl (meetF f g) _ (hB.get mm) ?_))
          refine (kn_is HM.out _).mono ?_
          rintro _ x ⟨rfl, hg⟩
          replace hB := hB.later hg
          clear hg
          go_wp2_with (first
            | (refine load_ck cktC rfl _ rfl p rfl (f) _ (hB.get mp) ?_)
            | (refine load_ck cktC rfl _ rfl q rfl (g) _ (hB.get mq) ?_)
            | (refine load_ck cktC rfl _ rfl s rfl (e) _ (hB.get ms) ?_)
            | (refine load_ck cktC rfl _ rfl j rfl (joinF f g) _ (hB.get mj) ?_)
            | (refine load_ck cktC rfl _ rfl m rfl (meetF f g) _ (hB.get mm) ?_))
          refine begin_grow 21 [] (Bks w M) (by kernel_rfl) rfl (Bks.stab _ _) (hB.later ((Gr.refl _).drew)) ?_
          refine AnyG.take 0 89 (.agg (ckC (f))) rfl rfl (by kernel_rfl) (yg_load cktC (by kernel_rfl) _ rfl p rfl (f) 25 (fun _ h => h.get mp)) ?_
          simp only [Act.put, List.setIfInBounds_toArray, List.set_cons_zero, List.set_cons_succ]
          refine AnyG.take 1 90 (.agg (ckC (g))) rfl rfl (by kernel_rfl) (yg_load cktC (by kernel_rfl) _ rfl q rfl (g) 25 (fun _ h => h.get mq)) ?_
          simp only [Act.put, List.setIfInBounds_toArray, List.set_cons_zero, List.set_cons_succ]
          refine AnyG.take 2 91 (.agg (ckC (joinF (f) (g)))) rfl rfl (by kernel_rfl) (yg_call 12 #[.agg (ckC (f)), .agg (ckC (g))] (by kernel_rfl) (fun _ => by kernel_rfl) (join_calls (f) (g))) ?_
          simp only [Act.put, List.setIfInBounds_toArray, List.set_cons_zero, List.set_cons_succ]
          refine AnyG.take 3 92 (.agg (ckC (e))) rfl rfl (by kernel_rfl) (yg_load cktC (by kernel_rfl) _ rfl s rfl (e) 25 (fun _ h => h.get ms)) ?_
          simp only [Act.put, List.setIfInBounds_toArray, List.set_cons_zero, List.set_cons_succ]
          refine AnyG.take 4 93 (.agg (ckC (joinF (joinF f g) (e)))) rfl rfl (by kernel_rfl) (yg_call 12 #[.agg (ckC (joinF f g)), .agg (ckC (e))] (by kernel_rfl) (fun _ => by kernel_rfl) (join_calls (joinF f g) (e))) ?_
          simp only [Act.put, List.setIfInBounds_toArray, List.set_cons_zero, List.set_cons_succ]
          refine AnyG.take 5 94 (.agg (ckC (f))) rfl rfl (by kernel_rfl) (yg_load cktC (by kernel_rfl) _ rfl p rfl (f) 25 (fun _ h => h.get mp)) ?_
          simp only [Act.put, List.setIfInBounds_toArray, List.set_cons_zero, List.set_cons_succ]
          refine AnyG.take 6 95 (.agg (ckC (g))) rfl rfl (by kernel_rfl) (yg_load cktC (by kernel_rfl) _ rfl q rfl (g) 25 (fun _ h => h.get mq)) ?_
          simp only [Act.put, List.setIfInBounds_toArray, List.set_cons_zero, List.set_cons_succ]
          refine AnyG.take 7 96 (.agg (ckC (e))) rfl rfl (by kernel_rfl) (yg_load cktC (by kernel_rfl) _ rfl s rfl (e) 25 (fun _ h => h.get ms)) ?_
          simp only [Act.put, List.setIfInBounds_toArray, List.set_cons_zero, List.set_cons_succ]
          refine AnyG.take 8 97 (.agg (ckC (joinF (g) (e)))) rfl rfl (by kernel_rfl) (yg_call 12 #[.agg (ckC (g)), .agg (ckC (e))] (by kernel_rfl) (fun _ => by kernel_rfl) (join_calls (g) (e))) ?_
          simp only [Act.put, List.setIfInBounds_toArray, List.set_cons_zero, List.set_cons_succ]
          refine AnyG.take 9 98 (.agg (ckC (joinF (f) (joinF g e)))) rfl rfl (by kernel_rfl) (yg_call 12 #[.agg (ckC (f)), .agg (ckC (joinF g e))] (by kernel_rfl) (fun _ => by kernel_rfl) (join_calls (f) (joinF g e))) ?_
          simp only [Act.put, List.setIfInBounds_toArray, List.set_cons_zero, List.set_cons_succ]
          refine AnyG.take 10 99 (.bool true) rfl rfl (by kernel_rfl) (yg_eql (by kernel_rfl) _ _ rfl (joinF (joinF f g) e) (joinF f (joinF g e)) rfl rfl _ (join_assoc f g e)) ?_
          simp only [Act.put, List.setIfInBounds_toArray, List.set_cons_zero, List.set_cons_succ]
          refine AnyG.take 11 100 (.bool true) rfl rfl (by kernel_rfl) (yg_pure (by kernel_rfl) (fun _ => by kernel_rfl)) ?_
          simp only [Act.put, List.setIfInBounds_toArray, List.set_cons_zero, List.set_cons_succ]
          refine AnyG.take 12 101 (.agg (ckC (f))) rfl rfl (by kernel_rfl) (yg_load cktC (by kernel_rfl) _ rfl p rfl (f) 25 (fun _ h => h.get mp)) ?_
          simp only [Act.put, List.setIfInBounds_toArray, List.set_cons_zero, List.set_cons_succ]
          refine AnyG.take 13 102 (.agg (ckC (f))) rfl rfl (by kernel_rfl) (yg_load cktC (by kernel_rfl) _ rfl p rfl (f) 25 (fun _ h => h.get mp)) ?_
          simp only [Act.put, List.setIfInBounds_toArray, List.set_cons_zero, List.set_cons_succ]
          refine AnyG.take 14 103 (.agg (ckC (g))) rfl rfl (by kernel_rfl) (yg_load cktC (by kernel_rfl) _ rfl q rfl (g) 25 (fun _ h => h.get mq)) ?_
          simp only [Act.put, List.setIfInBounds_toArray, List.set_cons_zero, List.set_cons_succ]
          refine AnyG.take 15 104 (.agg (ckC (meetF (f) (g)))) rfl rfl (by kernel_rfl) (yg_call 13 #[.agg (ckC (f)), .agg (ckC (g))] (by kernel_rfl) (fun _ => by kernel_rfl) (meet_calls (f) (g))) ?_
          simp only [Act.put, List.setIfInBounds_toArray, List.set_cons_zero, List.set_cons_succ]
          refine AnyG.take 16 105 (.agg (ckC (joinF (f) (meetF f g)))) rfl rfl (by kernel_rfl) (yg_call 12 #[.agg (ckC (f)), .agg (ckC (meetF f g))] (by kernel_rfl) (fun _ => by kernel_rfl) (join_calls (f) (meetF f g))) ?_
          simp only [Act.put, List.setIfInBounds_toArray, List.set_cons_zero, List.set_cons_succ]
          refine AnyG.take 17 106 (.agg (ckC (f))) rfl rfl (by kernel_rfl) (yg_load cktC (by kernel_rfl) _ rfl p rfl (f) 25 (fun _ h => h.get mp)) ?_
          simp only [Act.put, List.setIfInBounds_toArray, List.set_cons_zero, List.set_cons_succ]
          refine AnyG.take 18 107 (.bool true) rfl rfl (by kernel_rfl) (yg_eql (by kernel_rfl) _ _ rfl (joinF f (meetF f g)) (f) rfl rfl _ (join_meet f g)) ?_
          simp only [Act.put, List.setIfInBounds_toArray, List.set_cons_zero, List.set_cons_succ]
          refine AnyG.take 19 108 (.bool true) rfl rfl (by kernel_rfl) (yg_pure (by kernel_rfl) (fun _ => by kernel_rfl)) ?_
          simp only [Act.put, List.setIfInBounds_toArray, List.set_cons_zero, List.set_cons_succ]
          refine AnyG.take 20 6 (.bool true) rfl rfl (by kernel_rfl) (yg_pure (by kernel_rfl) (fun _ => by kernel_rfl)) ?_
          simp only [Act.put, List.setIfInBounds_toArray, List.set_cons_zero, List.set_cons_succ]
          refine AnyG.done (by kernel_rfl) fun y hy => ?_
          replace hB := hy
          clear hy
          go_wp2_with (fail)
          go_ret
          exact ⟨rfl, hB.gr⟩
end Go.Proofs.Ytejcififiinifaa
