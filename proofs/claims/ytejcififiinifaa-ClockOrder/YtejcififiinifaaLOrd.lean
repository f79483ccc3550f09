/-
  ClockOrder: of two clocks just one is so; ahead of what is ahead is ahead. No condition.
-/
import Derived.Test.YtejcififiinifaaPur
namespace Go.Proofs.Ytejcififiinifaa
open Go.ChangeShapes Go.WideShapes Go.ChangeAt Go.RowKit
set_option linter.unusedVariables false
set_option maxRecDepth 20000


set_option maxHeartbeats 2000000 in
theorem clockOrder_walk0 (f g e : Nat → Int) (w : World) (he : eqB f g = true) (h1 : ahB f g = false) (h2 : ahB g f = false) (h3 : apB f g = false) : Calls Try.prog 4 #[.agg (ckC f), .agg (ckC g), .agg (ckC e)] w fun r u => r = .returned (.bool true) ∧ Gr w u := by
  have HE := hide he
  have H1 := hide h1
  have H2 := hide h2
  have H3 := hide h3
  have HS := hide (kn_self f)
  have HA := hide (ah_self f)
  clear he h1 h2 h3
  obtain ⟨b0, b1, b2, bg⟩ := start3 w (ckC f) (ckC g) 23 23 (ckC e) 23
  have hB : Bks w [(w.heap.size, 23, ckC f), (w.heap.size + 1, 23, ckC g), (w.heap.size + 1 + 1, 23, ckC e)] _ := (((Bks.nil bg).add b2).add b1).add b0
  clear b0 b1 b2 bg
  go_enter Try.func4, Try.ntmps4
  go_upto_region 1 with (fail)
  generalize ((w.alloc (.cells (ckC f) 23)).alloc (.cells (ckC g) 23)).alloc (.cells (ckC e) 23) = w1 at hB ⊢
  go_wp2_with (fail)
  refine (awake_calls _).mono ?_
  rintro _ w2 ⟨rfl, hg⟩
  replace hB := hB.later hg
  clear hg
  go_wp2_with (fail)
  refine begin_grow 9 [] (Bks w _) (by kernel_rfl) rfl (Bks.stab _ _) (hB.later ((Gr.refl _).drew)) ?_
  refine AnyG.take 0 13 (.agg (ckC f)) rfl rfl (by kernel_rfl) (yg_load cktA (by kernel_rfl) _ rfl w.heap.size rfl f 23 (fun _ h => h.get (by simp))) ?_
  simp only [Act.put, List.setIfInBounds_toArray, List.set_cons_zero, List.set_cons_succ]
  refine AnyG.take 1 14 (.agg (ckC g)) rfl rfl (by kernel_rfl) (yg_load cktA (by kernel_rfl) _ rfl (w.heap.size + 1) rfl g 23 (fun _ h => h.get (by simp))) ?_
  simp only [Act.put, List.setIfInBounds_toArray, List.set_cons_zero, List.set_cons_succ]
  refine AnyG.take 2 15 (.agg (ckC e)) rfl rfl (by kernel_rfl) (yg_load cktA (by kernel_rfl) _ rfl (w.heap.size + 1 + 1) rfl e 23 (fun _ h => h.get (by simp))) ?_
  simp only [Act.put, List.setIfInBounds_toArray, List.set_cons_zero, List.set_cons_succ]
  refine AnyG.var3 3 4 5 6 7 8 7 8 9 zeroC (fitsC f) (fitsC g) (fitsC e) (by kernel_rfl) rfl rfl rfl rfl rfl rfl ⟨rfl, rfl, rfl⟩ ⟨rfl, rfl, rfl⟩ ⟨rfl, rfl, rfl⟩ _ _ _ _ _ _ ⟨rfl, rfl, rfl⟩ ⟨rfl, rfl, rfl⟩ ⟨rfl, rfl, rfl⟩ (by decide) (by decide) (fun _ _ _ => rfl) (fun _ _ _ => rfl) (fun _ _ _ => rfl) (fun _ _ _ => rfl) (fun _ _ _ => rfl) (fun _ _ _ => rfl) ?_
  clear hB
  intro p q s b hB
  simp only [Act.put, List.setIfInBounds_toArray, List.set_cons_zero, List.set_cons_succ]
  have mp : (p, 25, ckC f) ∈ [(s, 25, ckC e), (q, 25, ckC g), (p, 25, ckC f), (w.heap.size, 23, ckC f), (w.heap.size + 1, 23, ckC g), (w.heap.size + 1 + 1, 23, ckC e)] := by simp
  have mq : (q, 25, ckC g) ∈ [(s, 25, ckC e), (q, 25, ckC g), (p, 25, ckC f), (w.heap.size, 23, ckC f), (w.heap.size + 1, 23, ckC g), (w.heap.size + 1 + 1, 23, ckC e)] := by simp
  have ms : (s, 25, ckC e) ∈ [(s, 25, ckC e), (q, 25, ckC g), (p, 25, ckC f), (w.heap.size, 23, ckC f), (w.heap.size + 1, 23, ckC g), (w.heap.size + 1 + 1, 23, ckC e)] := by simp
  generalize [(s, 25, ckC e), (q, 25, ckC g), (p, 25, ckC f), (w.heap.size, 23, ckC f), (w.heap.size + 1, 23, ckC g), (w.heap.size + 1 + 1, 23, ckC e)] = L at hB mp mq ms
  go_wp2_with (first
    | (refine load_ck cktC rfl _ rfl p rfl (f) _ (hB.get mp) ?_)
    | (refine load_ck cktC rfl _ rfl q rfl (g) _ (hB.get mq) ?_)
    | (refine load_ck cktC rfl _ rfl s rfl (e) _ (hB.get ms) ?_)
    | (refine step_eql rfl _ _ rfl f g rfl rfl true HE.out ?_))
  refine (ah_is H1.out _).mono ?_
  rintro _ x ⟨rfl, hg⟩
  replace hB := hB.later hg
  clear hg
  go_wp2_with (first
    | (refine load_ck cktC rfl _ rfl p rfl (f) _ (hB.get mp) ?_)
    | (refine load_ck cktC rfl _ rfl q rfl (g) _ (hB.get mq) ?_)
    | (refine load_ck cktC rfl _ rfl s rfl (e) _ (hB.get ms) ?_))
  refine (ah_is H2.out _).mono ?_
  rintro _ x ⟨rfl, hg⟩
  replace hB := hB.later hg
  clear hg
  go_wp2_with (first
    | (refine load_ck cktC rfl _ rfl p rfl (f) _ (hB.get mp) ?_)
    | (refine load_ck cktC rfl _ rfl q rfl (g) _ (hB.get mq) ?_)
    | (refine load_ck cktC rfl _ rfl s rfl (e) _ (hB.get ms) ?_))
  refine (ap_is H3.out _).mono ?_
  rintro _ x ⟨rfl, hg⟩
  replace hB := hB.later hg
  clear hg
  go_wp2_with (first
    | (refine load_ck cktC rfl _ rfl p rfl (f) _ (hB.get mp) ?_)
    | (refine load_ck cktC rfl _ rfl q rfl (g) _ (hB.get mq) ?_)
    | (refine load_ck cktC rfl _ rfl s rfl (e) _ (hB.get ms) ?_))
  refine (ah_is H1.out _).mono ?_
  rintro _ x ⟨rfl, hg⟩
  replace hB := hB.later hg
  clear hg
  go_wp2_with (first
    | (refine load_ck cktC rfl _ rfl p rfl (f) _ (hB.get mp) ?_)
    | (refine load_ck cktC rfl _ rfl q rfl (g) _ (hB.get mq) ?_)
    | (refine load_ck cktC rfl _ rfl s rfl (e) _ (hB.get ms) ?_))
  refine (kn_is HS.out _).mono ?_
  rintro _ x ⟨rfl, hg⟩
  replace hB := hB.later hg
  clear hg
  go_wp2_with (first
    | (refine load_ck cktC rfl _ rfl p rfl (f) _ (hB.get mp) ?_)
    | (refine load_ck cktC rfl _ rfl q rfl (g) _ (hB.get mq) ?_)
    | (refine load_ck cktC rfl _ rfl s rfl (e) _ (hB.get ms) ?_))
  refine (ah_is HA.out _).mono ?_
  rintro _ x ⟨rfl, hg⟩
  replace hB := hB.later hg
  clear hg
  go_wp2_with (first
    | (refine load_ck cktC rfl _ rfl p rfl (f) _ (hB.get mp) ?_)
    | (refine load_ck cktC rfl _ rfl q rfl (g) _ (hB.get mq) ?_)
    | (refine load_ck cktC rfl _ rfl s rfl (e) _ (hB.get ms) ?_))
  go_ret
  exact ⟨rfl, hB.gr⟩

set_option maxHeartbeats 2000000 in
theorem clockOrder_walk1false (f g e : Nat → Int) (w : World) (he : eqB f g = false) (h1 : ahB f g = true) (h2 : ahB g f = false) (h3 : apB f g = false) (h4 : ahB g e = false) : Calls Try.prog 4 #[.agg (ckC f), .agg (ckC g), .agg (ckC e)] w fun r u => r = .returned (.bool true) ∧ Gr w u := by
  have HE := hide he
  have H1 := hide h1
  have H2 := hide h2
  have H3 := hide h3
  have HS := hide (kn_self f)
  have HA := hide (ah_self f)
  have H4 := hide h4
  clear he h1 h2 h3 h4
  obtain ⟨b0, b1, b2, bg⟩ := start3 w (ckC f) (ckC g) 23 23 (ckC e) 23
  have hB : Bks w [(w.heap.size, 23, ckC f), (w.heap.size + 1, 23, ckC g), (w.heap.size + 1 + 1, 23, ckC e)] _ := (((Bks.nil bg).add b2).add b1).add b0
  clear b0 b1 b2 bg
  go_enter Try.func4, Try.ntmps4
  go_upto_region 1 with (fail)
  generalize ((w.alloc (.cells (ckC f) 23)).alloc (.cells (ckC g) 23)).alloc (.cells (ckC e) 23) = w1 at hB ⊢
  go_wp2_with (fail)
  refine (awake_calls _).mono ?_
  rintro _ w2 ⟨rfl, hg⟩
  replace hB := hB.later hg
  clear hg
  go_wp2_with (fail)
  refine begin_grow 9 [] (Bks w _) (by kernel_rfl) rfl (Bks.stab _ _) (hB.later ((Gr.refl _).drew)) ?_
  refine AnyG.take 0 13 (.agg (ckC f)) rfl rfl (by kernel_rfl) (yg_load cktA (by kernel_rfl) _ rfl w.heap.size rfl f 23 (fun _ h => h.get (by simp))) ?_
  simp only [Act.put, List.setIfInBounds_toArray, List.set_cons_zero, List.set_cons_succ]
  refine AnyG.take 1 14 (.agg (ckC g)) rfl rfl (by kernel_rfl) (yg_load cktA (by kernel_rfl) _ rfl (w.heap.size + 1) rfl g 23 (fun _ h => h.get (by simp))) ?_
  simp only [Act.put, List.setIfInBounds_toArray, List.set_cons_zero, List.set_cons_succ]
  refine AnyG.take 2 15 (.agg (ckC e)) rfl rfl (by kernel_rfl) (yg_load cktA (by kernel_rfl) _ rfl (w.heap.size + 1 + 1) rfl e 23 (fun _ h => h.get (by simp))) ?_
  simp only [Act.put, List.setIfInBounds_toArray, List.set_cons_zero, List.set_cons_succ]
  refine AnyG.var3 3 4 5 6 7 8 7 8 9 zeroC (fitsC f) (fitsC g) (fitsC e) (by kernel_rfl) rfl rfl rfl rfl rfl rfl ⟨rfl, rfl, rfl⟩ ⟨rfl, rfl, rfl⟩ ⟨rfl, rfl, rfl⟩ _ _ _ _ _ _ ⟨rfl, rfl, rfl⟩ ⟨rfl, rfl, rfl⟩ ⟨rfl, rfl, rfl⟩ (by decide) (by decide) (fun _ _ _ => rfl) (fun _ _ _ => rfl) (fun _ _ _ => rfl) (fun _ _ _ => rfl) (fun _ _ _ => rfl) (fun _ _ _ => rfl) ?_
  clear hB
  intro p q s b hB
  simp only [Act.put, List.setIfInBounds_toArray, List.set_cons_zero, List.set_cons_succ]
  have mp : (p, 25, ckC f) ∈ [(s, 25, ckC e), (q, 25, ckC g), (p, 25, ckC f), (w.heap.size, 23, ckC f), (w.heap.size + 1, 23, ckC g), (w.heap.size + 1 + 1, 23, ckC e)] := by simp
  have mq : (q, 25, ckC g) ∈ [(s, 25, ckC e), (q, 25, ckC g), (p, 25, ckC f), (w.heap.size, 23, ckC f), (w.heap.size + 1, 23, ckC g), (w.heap.size + 1 + 1, 23, ckC e)] := by simp
  have ms : (s, 25, ckC e) ∈ [(s, 25, ckC e), (q, 25, ckC g), (p, 25, ckC f), (w.heap.size, 23, ckC f), (w.heap.size + 1, 23, ckC g), (w.heap.size + 1 + 1, 23, ckC e)] := by simp
  generalize [(s, 25, ckC e), (q, 25, ckC g), (p, 25, ckC f), (w.heap.size, 23, ckC f), (w.heap.size + 1, 23, ckC g), (w.heap.size + 1 + 1, 23, ckC e)] = L at hB mp mq ms
  go_wp2_with (first
    | (refine load_ck cktC rfl _ rfl p rfl (f) _ (hB.get mp) ?_)
    | (refine load_ck cktC rfl _ rfl q rfl (g) _ (hB.get mq) ?_)
    | (refine load_ck cktC rfl _ rfl s rfl (e) _ (hB.get ms) ?_)
    | (refine step_eql rfl _ _ rfl f g rfl rfl false HE.out ?_))
  refine (ah_is H1.out _).mono ?_
  rintro _ x ⟨rfl, hg⟩
  replace hB := hB.later hg
  clear hg
  go_wp2_with (first
    | (refine load_ck cktC rfl _ rfl p rfl (f) _ (hB.get mp) ?_)
    | (refine load_ck cktC rfl _ rfl q rfl (g) _ (hB.get mq) ?_)
    | (refine load_ck cktC rfl _ rfl s rfl (e) _ (hB.get ms) ?_))
  refine (ah_is H2.out _).mono ?_
  rintro _ x ⟨rfl, hg⟩
  replace hB := hB.later hg
  clear hg
  go_wp2_with (first
    | (refine load_ck cktC rfl _ rfl p rfl (f) _ (hB.get mp) ?_)
    | (refine load_ck cktC rfl _ rfl q rfl (g) _ (hB.get mq) ?_)
    | (refine load_ck cktC rfl _ rfl s rfl (e) _ (hB.get ms) ?_))
  refine (ap_is H3.out _).mono ?_
  rintro _ x ⟨rfl, hg⟩
  replace hB := hB.later hg
  clear hg
  go_wp2_with (first
    | (refine load_ck cktC rfl _ rfl p rfl (f) _ (hB.get mp) ?_)
    | (refine load_ck cktC rfl _ rfl q rfl (g) _ (hB.get mq) ?_)
    | (refine load_ck cktC rfl _ rfl s rfl (e) _ (hB.get ms) ?_))
  refine (ah_is H1.out _).mono ?_
  rintro _ x ⟨rfl, hg⟩
  replace hB := hB.later hg
  clear hg
  go_wp2_with (first
    | (refine load_ck cktC rfl _ rfl p rfl (f) _ (hB.get mp) ?_)
    | (refine load_ck cktC rfl _ rfl q rfl (g) _ (hB.get mq) ?_)
    | (refine load_ck cktC rfl _ rfl s rfl (e) _ (hB.get ms) ?_))
  refine (ah_is H4.out _).mono ?_
  rintro _ x ⟨rfl, hg⟩
  replace hB := hB.later hg
  clear hg
  go_wp2_with (first
    | (refine load_ck cktC rfl _ rfl p rfl (f) _ (hB.get mp) ?_)
    | (refine load_ck cktC rfl _ rfl q rfl (g) _ (hB.get mq) ?_)
    | (refine load_ck cktC rfl _ rfl s rfl (e) _ (hB.get ms) ?_))
  refine (kn_is HS.out _).mono ?_
  rintro _ x ⟨rfl, hg⟩
  replace hB := hB.later hg
  clear hg
  go_wp2_with (first
    | (refine load_ck cktC rfl _ rfl p rfl (f) _ (hB.get mp) ?_)
    | (refine load_ck cktC rfl _ rfl q rfl (g) _ (hB.get mq) ?_)
    | (refine load_ck cktC rfl _ rfl s rfl (e) _ (hB.get ms) ?_))
  refine (ah_is HA.out _).mono ?_
  rintro _ x ⟨rfl, hg⟩
  replace hB := hB.later hg
  clear hg
  go_wp2_with (first
    | (refine load_ck cktC rfl _ rfl p rfl (f) _ (hB.get mp) ?_)
    | (refine load_ck cktC rfl _ rfl q rfl (g) _ (hB.get mq) ?_)
    | (refine load_ck cktC rfl _ rfl s rfl (e) _ (hB.get ms) ?_))
  go_ret
  exact ⟨rfl, hB.gr⟩

set_option maxHeartbeats 2000000 in
theorem clockOrder_walk1true (f g e : Nat → Int) (w : World) (he : eqB f g = false) (h1 : ahB f g = true) (h2 : ahB g f = false) (h3 : apB f g = false) (h4 : ahB g e = true) : Calls Try.prog 4 #[.agg (ckC f), .agg (ckC g), .agg (ckC e)] w fun r u => r = .returned (.bool true) ∧ Gr w u := by
  have HE := hide he
  have H1 := hide h1
  have H2 := hide h2
  have H3 := hide h3
  have HS := hide (kn_self f)
  have HA := hide (ah_self f)
  have H4 := hide h4
  have H5 := hide (ah_trans h1 h4)
  clear he h1 h2 h3 h4
  obtain ⟨b0, b1, b2, bg⟩ := start3 w (ckC f) (ckC g) 23 23 (ckC e) 23
  have hB : Bks w [(w.heap.size, 23, ckC f), (w.heap.size + 1, 23, ckC g), (w.heap.size + 1 + 1, 23, ckC e)] _ := (((Bks.nil bg).add b2).add b1).add b0
  clear b0 b1 b2 bg
  go_enter Try.func4, Try.ntmps4
  go_upto_region 1 with (fail)
  generalize ((w.alloc (.cells (ckC f) 23)).alloc (.cells (ckC g) 23)).alloc (.cells (ckC e) 23) = w1 at hB ⊢
  go_wp2_with (fail)
  refine (awake_calls _).mono ?_
  rintro _ w2 ⟨rfl, hg⟩
  replace hB := hB.later hg
  clear hg
  go_wp2_with (fail)
  refine begin_grow 9 [] (Bks w _) (by kernel_rfl) rfl (Bks.stab _ _) (hB.later ((Gr.refl _).drew)) ?_
  refine AnyG.take 0 13 (.agg (ckC f)) rfl rfl (by kernel_rfl) (yg_load cktA (by kernel_rfl) _ rfl w.heap.size rfl f 23 (fun _ h => h.get (by simp))) ?_
  simp only [Act.put, List.setIfInBounds_toArray, List.set_cons_zero, List.set_cons_succ]
  refine AnyG.take 1 14 (.agg (ckC g)) rfl rfl (by kernel_rfl) (yg_load cktA (by kernel_rfl) _ rfl (w.heap.size + 1) rfl g 23 (fun _ h => h.get (by simp))) ?_
  simp only [Act.put, List.setIfInBounds_toArray, List.set_cons_zero, List.set_cons_succ]
  refine AnyG.take 2 15 (.agg (ckC e)) rfl rfl (by kernel_rfl) (yg_load cktA (by kernel_rfl) _ rfl (w.heap.size + 1 + 1) rfl e 23 (fun _ h => h.get (by simp))) ?_
  simp only [Act.put, List.setIfInBounds_toArray, List.set_cons_zero, List.set_cons_succ]
  refine AnyG.var3 3 4 5 6 7 8 7 8 9 zeroC (fitsC f) (fitsC g) (fitsC e) (by kernel_rfl) rfl rfl rfl rfl rfl rfl ⟨rfl, rfl, rfl⟩ ⟨rfl, rfl, rfl⟩ ⟨rfl, rfl, rfl⟩ _ _ _ _ _ _ ⟨rfl, rfl, rfl⟩ ⟨rfl, rfl, rfl⟩ ⟨rfl, rfl, rfl⟩ (by decide) (by decide) (fun _ _ _ => rfl) (fun _ _ _ => rfl) (fun _ _ _ => rfl) (fun _ _ _ => rfl) (fun _ _ _ => rfl) (fun _ _ _ => rfl) ?_
  clear hB
  intro p q s b hB
  simp only [Act.put, List.setIfInBounds_toArray, List.set_cons_zero, List.set_cons_succ]
  have mp : (p, 25, ckC f) ∈ [(s, 25, ckC e), (q, 25, ckC g), (p, 25, ckC f), (w.heap.size, 23, ckC f), (w.heap.size + 1, 23, ckC g), (w.heap.size + 1 + 1, 23, ckC e)] := by simp
  have mq : (q, 25, ckC g) ∈ [(s, 25, ckC e), (q, 25, ckC g), (p, 25, ckC f), (w.heap.size, 23, ckC f), (w.heap.size + 1, 23, ckC g), (w.heap.size + 1 + 1, 23, ckC e)] := by simp
  have ms : (s, 25, ckC e) ∈ [(s, 25, ckC e), (q, 25, ckC g), (p, 25, ckC f), (w.heap.size, 23, ckC f), (w.heap.size + 1, 23, ckC g), (w.heap.size + 1 + 1, 23, ckC e)] := by simp
  generalize [(s, 25, ckC e), (q, 25, ckC g), (p, 25, ckC f), (w.heap.size, 23, ckC f), (w.heap.size + 1, 23, ckC g), (w.heap.size + 1 + 1, 23, ckC e)] = L at hB mp mq ms
  go_wp2_with (first
    | (refine load_ck cktC rfl _ rfl p rfl (f) _ (hB.get mp) ?_)
    | (refine load_ck cktC rfl _ rfl q rfl (g) _ (hB.get mq) ?_)
    | (refine load_ck cktC rfl _ rfl s rfl (e) _ (hB.get ms) ?_)
    | (refine step_eql rfl _ _ rfl f g rfl rfl false HE.out ?_))
  refine (ah_is H1.out _).mono ?_
  rintro _ x ⟨rfl, hg⟩
  replace hB := hB.later hg
  clear hg
  go_wp2_with (first
    | (refine load_ck cktC rfl _ rfl p rfl (f) _ (hB.get mp) ?_)
    | (refine load_ck cktC rfl _ rfl q rfl (g) _ (hB.get mq) ?_)
    | (refine load_ck cktC rfl _ rfl s rfl (e) _ (hB.get ms) ?_))
  refine (ah_is H2.out _).mono ?_
  rintro _ x ⟨rfl, hg⟩
  replace hB := hB.later hg
  clear hg
  go_wp2_with (first
    | (refine load_ck cktC rfl _ rfl p rfl (f) _ (hB.get mp) ?_)
    | (refine load_ck cktC rfl _ rfl q rfl (g) _ (hB.get mq) ?_)
    | (refine load_ck cktC rfl _ rfl s rfl (e) _ (hB.get ms) ?_))
  refine (ap_is H3.out _).mono ?_
  rintro _ x ⟨rfl, hg⟩
  replace hB := hB.later hg
  clear hg
  go_wp2_with (first
    | (refine load_ck cktC rfl _ rfl p rfl (f) _ (hB.get mp) ?_)
    | (refine load_ck cktC rfl _ rfl q rfl (g) _ (hB.get mq) ?_)
    | (refine load_ck cktC rfl _ rfl s rfl (e) _ (hB.get ms) ?_))
  refine (ah_is H1.out _).mono ?_
  rintro _ x ⟨rfl, hg⟩
  replace hB := hB.later hg
  clear hg
  go_wp2_with (first
    | (refine load_ck cktC rfl _ rfl p rfl (f) _ (hB.get mp) ?_)
    | (refine load_ck cktC rfl _ rfl q rfl (g) _ (hB.get mq) ?_)
    | (refine load_ck cktC rfl _ rfl s rfl (e) _ (hB.get ms) ?_))
  refine (ah_is H4.out _).mono ?_
  rintro _ x ⟨rfl, hg⟩
  replace hB := hB.later hg
  clear hg
  go_wp2_with (first
    | (refine load_ck cktC rfl _ rfl p rfl (f) _ (hB.get mp) ?_)
    | (refine load_ck cktC rfl _ rfl q rfl (g) _ (hB.get mq) ?_)
    | (refine load_ck cktC rfl _ rfl s rfl (e) _ (hB.get ms) ?_))
  refine (ah_is H5.out _).mono ?_
  rintro _ x ⟨rfl, hg⟩
  replace hB := hB.later hg
  clear hg
  go_wp2_with (first
    | (refine load_ck cktC rfl _ rfl p rfl (f) _ (hB.get mp) ?_)
    | (refine load_ck cktC rfl _ rfl q rfl (g) _ (hB.get mq) ?_)
    | (refine load_ck cktC rfl _ rfl s rfl (e) _ (hB.get ms) ?_))
  refine (kn_is HS.out _).mono ?_
  rintro _ x ⟨rfl, hg⟩
  replace hB := hB.later hg
  clear hg
  go_wp2_with (first
    | (refine load_ck cktC rfl _ rfl p rfl (f) _ (hB.get mp) ?_)
    | (refine load_ck cktC rfl _ rfl q rfl (g) _ (hB.get mq) ?_)
    | (refine load_ck cktC rfl _ rfl s rfl (e) _ (hB.get ms) ?_))
  refine (ah_is HA.out _).mono ?_
  rintro _ x ⟨rfl, hg⟩
  replace hB := hB.later hg
  clear hg
  go_wp2_with (first
    | (refine load_ck cktC rfl _ rfl p rfl (f) _ (hB.get mp) ?_)
    | (refine load_ck cktC rfl _ rfl q rfl (g) _ (hB.get mq) ?_)
    | (refine load_ck cktC rfl _ rfl s rfl (e) _ (hB.get ms) ?_))
  go_ret
  exact ⟨rfl, hB.gr⟩

set_option maxHeartbeats 2000000 in
theorem clockOrder_walk2 (f g e : Nat → Int) (w : World) (he : eqB f g = false) (h1 : ahB f g = false) (h2 : ahB g f = true) (h3 : apB f g = false) : Calls Try.prog 4 #[.agg (ckC f), .agg (ckC g), .agg (ckC e)] w fun r u => r = .returned (.bool true) ∧ Gr w u := by
  have HE := hide he
  have H1 := hide h1
  have H2 := hide h2
  have H3 := hide h3
  have HS := hide (kn_self f)
  have HA := hide (ah_self f)
  clear he h1 h2 h3
  obtain ⟨b0, b1, b2, bg⟩ := start3 w (ckC f) (ckC g) 23 23 (ckC e) 23
  have hB : Bks w [(w.heap.size, 23, ckC f), (w.heap.size + 1, 23, ckC g), (w.heap.size + 1 + 1, 23, ckC e)] _ := (((Bks.nil bg).add b2).add b1).add b0
  clear b0 b1 b2 bg
  go_enter Try.func4, Try.ntmps4
  go_upto_region 1 with (fail)
  generalize ((w.alloc (.cells (ckC f) 23)).alloc (.cells (ckC g) 23)).alloc (.cells (ckC e) 23) = w1 at hB ⊢
  go_wp2_with (fail)
  refine (awake_calls _).mono ?_
  rintro _ w2 ⟨rfl, hg⟩
  replace hB := hB.later hg
  clear hg
  go_wp2_with (fail)
  refine begin_grow 9 [] (Bks w _) (by kernel_rfl) rfl (Bks.stab _ _) (hB.later ((Gr.refl _).drew)) ?_
  refine AnyG.take 0 13 (.agg (ckC f)) rfl rfl (by kernel_rfl) (yg_load cktA (by kernel_rfl) _ rfl w.heap.size rfl f 23 (fun _ h => h.get (by simp))) ?_
  simp only [Act.put, List.setIfInBounds_toArray, List.set_cons_zero, List.set_cons_succ]
  refine AnyG.take 1 14 (.agg (ckC g)) rfl rfl (by kernel_rfl) (yg_load cktA (by kernel_rfl) _ rfl (w.heap.size + 1) rfl g 23 (fun _ h => h.get (by simp))) ?_
  simp only [Act.put, List.setIfInBounds_toArray, List.set_cons_zero, List.set_cons_succ]
  refine AnyG.take 2 15 (.agg (ckC e)) rfl rfl (by kernel_rfl) (yg_load cktA (by kernel_rfl) _ rfl (w.heap.size + 1 + 1) rfl e 23 (fun _ h => h.get (by simp))) ?_
  simp only [Act.put, List.setIfInBounds_toArray, List.set_cons_zero, List.set_cons_succ]
  refine AnyG.var3 3 4 5 6 7 8 7 8 9 zeroC (fitsC f) (fitsC g) (fitsC e) (by kernel_rfl) rfl rfl rfl rfl rfl rfl ⟨rfl, rfl, rfl⟩ ⟨rfl, rfl, rfl⟩ ⟨rfl, rfl, rfl⟩ _ _ _ _ _ _ ⟨rfl, rfl, rfl⟩ ⟨rfl, rfl, rfl⟩ ⟨rfl, rfl, rfl⟩ (by decide) (by decide) (fun _ _ _ => rfl) (fun _ _ _ => rfl) (fun _ _ _ => rfl) (fun _ _ _ => rfl) (fun _ _ _ => rfl) (fun _ _ _ => rfl) ?_
  clear hB
  intro p q s b hB
  simp only [Act.put, List.setIfInBounds_toArray, List.set_cons_zero, List.set_cons_succ]
  have mp : (p, 25, ckC f) ∈ [(s, 25, ckC e), (q, 25, ckC g), (p, 25, ckC f), (w.heap.size, 23, ckC f), (w.heap.size + 1, 23, ckC g), (w.heap.size + 1 + 1, 23, ckC e)] := by simp
  have mq : (q, 25, ckC g) ∈ [(s, 25, ckC e), (q, 25, ckC g), (p, 25, ckC f), (w.heap.size, 23, ckC f), (w.heap.size + 1, 23, ckC g), (w.heap.size + 1 + 1, 23, ckC e)] := by simp
  have ms : (s, 25, ckC e) ∈ [(s, 25, ckC e), (q, 25, ckC g), (p, 25, ckC f), (w.heap.size, 23, ckC f), (w.heap.size + 1, 23, ckC g), (w.heap.size + 1 + 1, 23, ckC e)] := by simp
  generalize [(s, 25, ckC e), (q, 25, ckC g), (p, 25, ckC f), (w.heap.size, 23, ckC f), (w.heap.size + 1, 23, ckC g), (w.heap.size + 1 + 1, 23, ckC e)] = L at hB mp mq ms
  go_wp2_with (first
    | (refine load_ck cktC rfl _ rfl p rfl (f) _ (hB.get mp) ?_)
    | (refine load_ck cktC rfl _ rfl q rfl (g) _ (hB.get mq) ?_)
    | (refine load_ck cktC rfl _ rfl s rfl (e) _ (hB.get ms) ?_)
    | (refine step_eql rfl _ _ rfl f g rfl rfl false HE.out ?_))
  refine (ah_is H1.out _).mono ?_
  rintro _ x ⟨rfl, hg⟩
  replace hB := hB.later hg
  clear hg
  go_wp2_with (first
    | (refine load_ck cktC rfl _ rfl p rfl (f) _ (hB.get mp) ?_)
    | (refine load_ck cktC rfl _ rfl q rfl (g) _ (hB.get mq) ?_)
    | (refine load_ck cktC rfl _ rfl s rfl (e) _ (hB.get ms) ?_))
  refine (ah_is H2.out _).mono ?_
  rintro _ x ⟨rfl, hg⟩
  replace hB := hB.later hg
  clear hg
  go_wp2_with (first
    | (refine load_ck cktC rfl _ rfl p rfl (f) _ (hB.get mp) ?_)
    | (refine load_ck cktC rfl _ rfl q rfl (g) _ (hB.get mq) ?_)
    | (refine load_ck cktC rfl _ rfl s rfl (e) _ (hB.get ms) ?_))
  refine (ap_is H3.out _).mono ?_
  rintro _ x ⟨rfl, hg⟩
  replace hB := hB.later hg
  clear hg
  go_wp2_with (first
    | (refine load_ck cktC rfl _ rfl p rfl (f) _ (hB.get mp) ?_)
    | (refine load_ck cktC rfl _ rfl q rfl (g) _ (hB.get mq) ?_)
    | (refine load_ck cktC rfl _ rfl s rfl (e) _ (hB.get ms) ?_))
  refine (ah_is H1.out _).mono ?_
  rintro _ x ⟨rfl, hg⟩
  replace hB := hB.later hg
  clear hg
  go_wp2_with (first
    | (refine load_ck cktC rfl _ rfl p rfl (f) _ (hB.get mp) ?_)
    | (refine load_ck cktC rfl _ rfl q rfl (g) _ (hB.get mq) ?_)
    | (refine load_ck cktC rfl _ rfl s rfl (e) _ (hB.get ms) ?_))
  refine (kn_is HS.out _).mono ?_
  rintro _ x ⟨rfl, hg⟩
  replace hB := hB.later hg
  clear hg
  go_wp2_with (first
    | (refine load_ck cktC rfl _ rfl p rfl (f) _ (hB.get mp) ?_)
    | (refine load_ck cktC rfl _ rfl q rfl (g) _ (hB.get mq) ?_)
    | (refine load_ck cktC rfl _ rfl s rfl (e) _ (hB.get ms) ?_))
  refine (ah_is HA.out _).mono ?_
  rintro _ x ⟨rfl, hg⟩
  replace hB := hB.later hg
  clear hg
  go_wp2_with (first
    | (refine load_ck cktC rfl _ rfl p rfl (f) _ (hB.get mp) ?_)
    | (refine load_ck cktC rfl _ rfl q rfl (g) _ (hB.get mq) ?_)
    | (refine load_ck cktC rfl _ rfl s rfl (e) _ (hB.get ms) ?_))
  go_ret
  exact ⟨rfl, hB.gr⟩

set_option maxHeartbeats 2000000 in
theorem clockOrder_walk3 (f g e : Nat → Int) (w : World) (he : eqB f g = false) (h1 : ahB f g = false) (h2 : ahB g f = false) (h3 : apB f g = true) : Calls Try.prog 4 #[.agg (ckC f), .agg (ckC g), .agg (ckC e)] w fun r u => r = .returned (.bool true) ∧ Gr w u := by
  have HE := hide he
  have H1 := hide h1
  have H2 := hide h2
  have H3 := hide h3
  have HS := hide (kn_self f)
  have HA := hide (ah_self f)
  clear he h1 h2 h3
  obtain ⟨b0, b1, b2, bg⟩ := start3 w (ckC f) (ckC g) 23 23 (ckC e) 23
  have hB : Bks w [(w.heap.size, 23, ckC f), (w.heap.size + 1, 23, ckC g), (w.heap.size + 1 + 1, 23, ckC e)] _ := (((Bks.nil bg).add b2).add b1).add b0
  clear b0 b1 b2 bg
  go_enter Try.func4, Try.ntmps4
  go_upto_region 1 with (fail)
  generalize ((w.alloc (.cells (ckC f) 23)).alloc (.cells (ckC g) 23)).alloc (.cells (ckC e) 23) = w1 at hB ⊢
  go_wp2_with (fail)
  refine (awake_calls _).mono ?_
  rintro _ w2 ⟨rfl, hg⟩
  replace hB := hB.later hg
  clear hg
  go_wp2_with (fail)
  refine begin_grow 9 [] (Bks w _) (by kernel_rfl) rfl (Bks.stab _ _) (hB.later ((Gr.refl _).drew)) ?_
  refine AnyG.take 0 13 (.agg (ckC f)) rfl rfl (by kernel_rfl) (yg_load cktA (by kernel_rfl) _ rfl w.heap.size rfl f 23 (fun _ h => h.get (by simp))) ?_
  simp only [Act.put, List.setIfInBounds_toArray, List.set_cons_zero, List.set_cons_succ]
  refine AnyG.take 1 14 (.agg (ckC g)) rfl rfl (by kernel_rfl) (yg_load cktA (by kernel_rfl) _ rfl (w.heap.size + 1) rfl g 23 (fun _ h => h.get (by simp))) ?_
  simp only [Act.put, List.setIfInBounds_toArray, List.set_cons_zero, List.set_cons_succ]
  refine AnyG.take 2 15 (.agg (ckC e)) rfl rfl (by kernel_rfl) (yg_load cktA (by kernel_rfl) _ rfl (w.heap.size + 1 + 1) rfl e 23 (fun _ h => h.get (by simp))) ?_
  simp only [Act.put, List.setIfInBounds_toArray, List.set_cons_zero, List.set_cons_succ]
  refine AnyG.var3 3 4 5 6 7 8 7 8 9 zeroC (fitsC f) (fitsC g) (fitsC e) (by kernel_rfl) rfl rfl rfl rfl rfl rfl ⟨rfl, rfl, rfl⟩ ⟨rfl, rfl, rfl⟩ ⟨rfl, rfl, rfl⟩ _ _ _ _ _ _ ⟨rfl, rfl, rfl⟩ ⟨rfl, rfl, rfl⟩ ⟨rfl, rfl, rfl⟩ (by decide) (by decide) (fun _ _ _ => rfl) (fun _ _ _ => rfl) (fun _ _ _ => rfl) (fun _ _ _ => rfl) (fun _ _ _ => rfl) (fun _ _ _ => rfl) ?_
  clear hB
  intro p q s b hB
  simp only [Act.put, List.setIfInBounds_toArray, List.set_cons_zero, List.set_cons_succ]
  have mp : (p, 25, ckC f) ∈ [(s, 25, ckC e), (q, 25, ckC g), (p, 25, ckC f), (w.heap.size, 23, ckC f), (w.heap.size + 1, 23, ckC g), (w.heap.size + 1 + 1, 23, ckC e)] := by simp
  have mq : (q, 25, ckC g) ∈ [(s, 25, ckC e), (q, 25, ckC g), (p, 25, ckC f), (w.heap.size, 23, ckC f), (w.heap.size + 1, 23, ckC g), (w.heap.size + 1 + 1, 23, ckC e)] := by simp
  have ms : (s, 25, ckC e) ∈ [(s, 25, ckC e), (q, 25, ckC g), (p, 25, ckC f), (w.heap.size, 23, ckC f), (w.heap.size + 1, 23, ckC g), (w.heap.size + 1 + 1, 23, ckC e)] := by simp
  generalize [(s, 25, ckC e), (q, 25, ckC g), (p, 25, ckC f), (w.heap.size, 23, ckC f), (w.heap.size + 1, 23, ckC g), (w.heap.size + 1 + 1, 23, ckC e)] = L at hB mp mq ms
  go_wp2_with (first
    | (refine load_ck cktC rfl _ rfl p rfl (f) _ (hB.get mp) ?_)
    | (refine load_ck cktC rfl _ rfl q rfl (g) _ (hB.get mq) ?_)
    | (refine load_ck cktC rfl _ rfl s rfl (e) _ (hB.get ms) ?_)
    | (refine step_eql rfl _ _ rfl f g rfl rfl false HE.out ?_))
  refine (ah_is H1.out _).mono ?_
  rintro _ x ⟨rfl, hg⟩
  replace hB := hB.later hg
  clear hg
  go_wp2_with (first
    | (refine load_ck cktC rfl _ rfl p rfl (f) _ (hB.get mp) ?_)
    | (refine load_ck cktC rfl _ rfl q rfl (g) _ (hB.get mq) ?_)
    | (refine load_ck cktC rfl _ rfl s rfl (e) _ (hB.get ms) ?_))
  refine (ah_is H2.out _).mono ?_
  rintro _ x ⟨rfl, hg⟩
  replace hB := hB.later hg
  clear hg
  go_wp2_with (first
    | (refine load_ck cktC rfl _ rfl p rfl (f) _ (hB.get mp) ?_)
    | (refine load_ck cktC rfl _ rfl q rfl (g) _ (hB.get mq) ?_)
    | (refine load_ck cktC rfl _ rfl s rfl (e) _ (hB.get ms) ?_))
  refine (ap_is H3.out _).mono ?_
  rintro _ x ⟨rfl, hg⟩
  replace hB := hB.later hg
  clear hg
  go_wp2_with (first
    | (refine load_ck cktC rfl _ rfl p rfl (f) _ (hB.get mp) ?_)
    | (refine load_ck cktC rfl _ rfl q rfl (g) _ (hB.get mq) ?_)
    | (refine load_ck cktC rfl _ rfl s rfl (e) _ (hB.get ms) ?_))
  refine (ah_is H1.out _).mono ?_
  rintro _ x ⟨rfl, hg⟩
  replace hB := hB.later hg
  clear hg
  go_wp2_with (first
    | (refine load_ck cktC rfl _ rfl p rfl (f) _ (hB.get mp) ?_)
    | (refine load_ck cktC rfl _ rfl q rfl (g) _ (hB.get mq) ?_)
    | (refine load_ck cktC rfl _ rfl s rfl (e) _ (hB.get ms) ?_))
  refine (kn_is HS.out _).mono ?_
  rintro _ x ⟨rfl, hg⟩
  replace hB := hB.later hg
  clear hg
  go_wp2_with (first
    | (refine load_ck cktC rfl _ rfl p rfl (f) _ (hB.get mp) ?_)
    | (refine load_ck cktC rfl _ rfl q rfl (g) _ (hB.get mq) ?_)
    | (refine load_ck cktC rfl _ rfl s rfl (e) _ (hB.get ms) ?_))
  refine (ah_is HA.out _).mono ?_
  rintro _ x ⟨rfl, hg⟩
  replace hB := hB.later hg
  clear hg
  go_wp2_with (first
    | (refine load_ck cktC rfl _ rfl p rfl (f) _ (hB.get mp) ?_)
    | (refine load_ck cktC rfl _ rfl q rfl (g) _ (hB.get mq) ?_)
    | (refine load_ck cktC rfl _ rfl s rfl (e) _ (hB.get ms) ?_))
  go_ret
  exact ⟨rfl, hB.gr⟩

theorem clockOrder_walk (f g e : Nat → Int) (w : World) : Calls Try.prog 4 #[.agg (ckC f), .agg (ckC g), .agg (ckC e)] w fun r u => r = .returned (.bool true) ∧ Gr w u := by
  rcases just_one f g with ⟨h0, h1, h2, h3⟩ | ⟨h0, h1, h2, h3⟩ | ⟨h0, h1, h2, h3⟩ | ⟨h0, h1, h2, h3⟩
  · exact clockOrder_walk0 f g e w h0 h1 h2 h3
  · cases h4 : ahB g e
    · exact clockOrder_walk1false f g e w h0 h1 h2 h3 h4
    · exact clockOrder_walk1true f g e w h0 h1 h2 h3 h4
  · exact clockOrder_walk2 f g e w h0 h1 h2 h3
  · exact clockOrder_walk3 f g e w h0 h1 h2 h3
end Go.Proofs.Ytejcififiinifaa
