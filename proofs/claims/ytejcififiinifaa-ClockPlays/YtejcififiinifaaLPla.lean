/-
  ClockPlays: what is known, ahead and apart, and what two clocks come to, number by number. No condition but that the first's numbers have 32 bits.
-/
import Derived.Test.YtejcififiinifaaPur
namespace Go.Proofs.Ytejcififiinifaa
open Go.ChangeShapes Go.WideShapes Go.ChangeAt Go.RowKit
set_option linter.unusedVariables false
set_option maxRecDepth 20000

theorem max_at (f g : Nat → Int) {k : Nat} (hk : k < 8) : (ckC (joinF f g))[k]? = some (.int .u32 (maxI (f k) (g k))) := ckC_get (joinF f g) hk
theorem min_at (f g : Nat → Int) {k : Nat} (hk : k < 8) : (ckC (meetF f g))[k]? = some (.int .u32 (minI (f k) (g k))) := ckC_get (meetF f g) hk
theorem tick_here {f : Nat → Int} (hf : CkOk f) {k : Nat} (hk : k < 8) : tickF f k k = IntKind.u32.wrap (f k + 1) := by
  have h := hf k hk
  rw [tick_at f hk, upI_wrap h.1 h.2]
  simp [putF]
theorem tick_aside (f : Nat → Int) {k : Nat} {t : Int} (h : (k : Int) ≠ t) : tickF f t k = f k := by
  unfold tickF
  split
  · unfold putF
    rw [if_neg (by omega)]
  · rfl

set_option maxHeartbeats 8000000 in
theorem clockPlays_walk (f g : Nat → Int) (hf : CkOk f) (t : Int) (w : World) : Calls Try.prog 3 #[.agg (ckC f), .agg (ckC g), .int .i64 t] w fun r u => r = .returned (.bool true) ∧ Gr w u := by
  have HF := hide hf
  clear hf
  obtain ⟨b0, b1, bg⟩ := start2 w (ckC f) (ckC g) 23 23
  have hB : Bks w [(w.heap.size, 23, ckC f), (w.heap.size + 1, 23, ckC g)] _ := ((Bks.nil bg).add b1).add b0
  clear b0 b1 bg
  go_enter Try.func3, Try.ntmps3
  go_upto_region 1 with (fail)
  generalize (w.alloc (.cells (ckC f) 23)).alloc (.cells (ckC g) 23) = w1 at hB ⊢
  go_wp2_with (fail)
  refine (awake_calls _).mono ?_
  rintro _ w2 ⟨rfl, hg⟩
  replace hB := hB.later hg
  clear hg
  go_wp2_with (fail)
  refine begin_grow 6 [] (Bks w _) (by kernel_rfl) rfl (Bks.stab _ _) (hB.later ((Gr.refl _).drew)) ?_
  refine AnyG.take 0 18 (.agg (ckC f)) rfl rfl (by kernel_rfl) (yg_load cktA (by kernel_rfl) _ rfl w.heap.size rfl f 23 (fun _ h => h.get (by simp))) ?_
  simp only [Act.put, List.setIfInBounds_toArray, List.set_cons_zero, List.set_cons_succ]
  refine AnyG.take 1 19 (.agg (ckC g)) rfl rfl (by kernel_rfl) (yg_load cktA (by kernel_rfl) _ rfl (w.heap.size + 1) rfl g 23 (fun _ h => h.get (by simp))) ?_
  simp only [Act.put, List.setIfInBounds_toArray, List.set_cons_zero, List.set_cons_succ]
  refine AnyG.var2 2 3 4 5 7 8 zeroC (fitsC f) (fitsC g) (by kernel_rfl) rfl rfl rfl rfl ⟨rfl, rfl, rfl⟩ ⟨rfl, rfl, rfl⟩ _ _ _ _ ⟨rfl, rfl, rfl⟩ ⟨rfl, rfl, rfl⟩ (by decide) (fun _ _ => rfl) (fun _ _ => rfl) (fun _ _ => rfl) (fun _ _ => rfl) ?_
  clear hB
  intro p q b hB
  simp only [Act.put, List.setIfInBounds_toArray, List.set_cons_zero, List.set_cons_succ]
  have mp : (p, 25, ckC f) ∈ [(q, 25, ckC g), (p, 25, ckC f), (w.heap.size, 23, ckC f), (w.heap.size + 1, 23, ckC g)] := by simp
  have mq : (q, 25, ckC g) ∈ [(q, 25, ckC g), (p, 25, ckC f), (w.heap.size, 23, ckC f), (w.heap.size + 1, 23, ckC g)] := by simp
  have m0 : (w.heap.size, 23, ckC f) ∈ [(q, 25, ckC g), (p, 25, ckC f), (w.heap.size, 23, ckC f), (w.heap.size + 1, 23, ckC g)] := by simp
  have m1 : (w.heap.size + 1, 23, ckC g) ∈ [(q, 25, ckC g), (p, 25, ckC f), (w.heap.size, 23, ckC f), (w.heap.size + 1, 23, ckC g)] := by simp
  generalize [(q, 25, ckC g), (p, 25, ckC f), (w.heap.size, 23, ckC f), (w.heap.size + 1, 23, ckC g)] = L at hB mp mq m0 m1
  have HA : Hid (∃ a, knB f g = a) := ⟨_, rfl⟩
  have HB : Hid (∃ a, knB g f = a) := ⟨_, rfl⟩
  obtain ⟨x, hx⟩ := HA.out
  obtain ⟨y, hy⟩ := HB.out
  have HX := hide hx
  have HY := hide hy
  clear hx hy HA HB
  go_wp2_with (fail)
  refine begin_grow 8 [] (Bks w L) (by kernel_rfl) rfl (Bks.stab _ _) (hB.later ((Gr.refl _).drew)) ?_
  have CXY : ∀ w, Calls Try.prog 8 #[.agg (ckC f), .agg (ckC g)] w fun e u => e = .returned (.bool x) ∧ Gr w u := HX.out ▸ rknows_calls f g
  have CYX : ∀ w, Calls Try.prog 8 #[.agg (ckC g), .agg (ckC f)] w fun e u => e = .returned (.bool y) ∧ Gr w u := HY.out ▸ rknows_calls g f
  refine AnyG.take 0 20 (.agg (ckC f)) rfl rfl (by kernel_rfl) (yg_load cktA (by kernel_rfl) _ rfl w.heap.size rfl f 23 (fun _ h => h.get m0)) ?_
  simp only [Act.put, List.setIfInBounds_toArray, List.set_cons_zero, List.set_cons_succ]
  refine AnyG.take 1 21 (.agg (ckC g)) rfl rfl (by kernel_rfl) (yg_load cktA (by kernel_rfl) _ rfl (w.heap.size + 1) rfl g 23 (fun _ h => h.get m1)) ?_
  simp only [Act.put, List.setIfInBounds_toArray, List.set_cons_zero, List.set_cons_succ]
  refine AnyG.take 2 22 (.bool x) rfl rfl (by kernel_rfl) (yg_call 8 #[.agg (ckC f), .agg (ckC g)] (by kernel_rfl) (fun _ => by kernel_rfl) CXY) ?_
  simp only [Act.put, List.setIfInBounds_toArray, List.set_cons_zero, List.set_cons_succ]
  refine AnyG.take 3 23 (.agg (ckC g)) rfl rfl (by kernel_rfl) (yg_load cktA (by kernel_rfl) _ rfl (w.heap.size + 1) rfl g 23 (fun _ h => h.get m1)) ?_
  simp only [Act.put, List.setIfInBounds_toArray, List.set_cons_zero, List.set_cons_succ]
  refine AnyG.take 4 24 (.agg (ckC f)) rfl rfl (by kernel_rfl) (yg_load cktA (by kernel_rfl) _ rfl w.heap.size rfl f 23 (fun _ h => h.get m0)) ?_
  simp only [Act.put, List.setIfInBounds_toArray, List.set_cons_zero, List.set_cons_succ]
  refine AnyG.take 5 25 (.bool y) rfl rfl (by kernel_rfl) (yg_call 8 #[.agg (ckC g), .agg (ckC f)] (by kernel_rfl) (fun _ => by kernel_rfl) CYX) ?_
  simp only [Act.put, List.setIfInBounds_toArray, List.set_cons_zero, List.set_cons_succ]
  refine AnyG.take 6 9 (.bool x) rfl rfl (by kernel_rfl) (yg_pure (by kernel_rfl) (fun _ => by kernel_rfl)) ?_
  simp only [Act.put, List.setIfInBounds_toArray, List.set_cons_zero, List.set_cons_succ]
  refine AnyG.take 7 10 (.bool y) rfl rfl (by kernel_rfl) (yg_pure (by kernel_rfl) (fun _ => by kernel_rfl)) ?_
  simp only [Act.put, List.setIfInBounds_toArray, List.set_cons_zero, List.set_cons_succ]
  refine AnyG.done (by kernel_rfl) fun z hz => ?_
  replace hB := hz
  clear hz CXY CYX
  have HK := HX
  have HH : Hid (ahB f g = (y && !x)) := by
    show ahB f g = _
    unfold ahB
    rw [eqB_kn, HX.out, HY.out]
    cases x <;> cases y <;> rfl
  have HP : Hid (apB f g = (!x && !y)) := by
    show apB f g = _
    unfold apB
    rw [HX.out, HY.out]
  clear HX HY
  cases x <;> cases y
  · go_wp2_with (first
      | (refine load_ck cktC (by kernel_rfl) _ rfl p rfl (f) _ (hB.get mp) ?_)
      | (refine load_ck cktC (by kernel_rfl) _ rfl q rfl (g) _ (hB.get mq) ?_))
    refine (kn_is HK.out _).mono ?_
    rintro _ z ⟨rfl, hg⟩
    replace hB := hB.later hg
    clear hg
    go_wp2_with (first
      | (refine load_ck cktC (by kernel_rfl) _ rfl p rfl (f) _ (hB.get mp) ?_)
      | (refine load_ck cktC (by kernel_rfl) _ rfl q rfl (g) _ (hB.get mq) ?_))
    refine (ah_is HH.out _).mono ?_
    rintro _ z ⟨rfl, hg⟩
    replace hB := hB.later hg
    clear hg
    go_wp2_with (first
      | (refine load_ck cktC (by kernel_rfl) _ rfl p rfl (f) _ (hB.get mp) ?_)
      | (refine load_ck cktC (by kernel_rfl) _ rfl q rfl (g) _ (hB.get mq) ?_))
    refine (ap_is HP.out _).mono ?_
    rintro _ z ⟨rfl, hg⟩
    replace hB := hB.later hg
    clear hg
    clear HK HH HP
    go_wp2_with (fail)
    refine begin_grow 15 [] (Bks w L) (by kernel_rfl) rfl (Bks.stab _ _) (hB.later ((Gr.refl _).drew)) ?_
    refine AnyG.take 0 54 (.agg (ckC f)) rfl rfl (by kernel_rfl) (yg_load cktC (by kernel_rfl) _ rfl p rfl f 25 (fun _ h => h.get mp)) ?_
    simp only [Act.put, List.setIfInBounds_toArray, List.set_cons_zero, List.set_cons_succ]
    refine AnyG.take 1 55 (.agg (ckC g)) rfl rfl (by kernel_rfl) (yg_load cktC (by kernel_rfl) _ rfl q rfl g 25 (fun _ h => h.get mq)) ?_
    simp only [Act.put, List.setIfInBounds_toArray, List.set_cons_zero, List.set_cons_succ]
    refine AnyG.take 2 56 (.agg (ckC (joinF f g))) rfl rfl (by kernel_rfl) (yg_call 12 #[.agg (ckC f), .agg (ckC g)] (by kernel_rfl) (fun _ => by kernel_rfl) (join_calls f g)) ?_
    simp only [Act.put, List.setIfInBounds_toArray, List.set_cons_zero, List.set_cons_succ]
    refine AnyG.take 3 57 (.agg (ckC f)) rfl rfl (by kernel_rfl) (yg_load cktC (by kernel_rfl) _ rfl p rfl f 25 (fun _ h => h.get mp)) ?_
    simp only [Act.put, List.setIfInBounds_toArray, List.set_cons_zero, List.set_cons_succ]
    refine AnyG.take 4 58 (.agg (ckC g)) rfl rfl (by kernel_rfl) (yg_load cktC (by kernel_rfl) _ rfl q rfl g 25 (fun _ h => h.get mq)) ?_
    simp only [Act.put, List.setIfInBounds_toArray, List.set_cons_zero, List.set_cons_succ]
    refine AnyG.take 5 59 (.agg (ckC (meetF f g))) rfl rfl (by kernel_rfl) (yg_call 13 #[.agg (ckC f), .agg (ckC g)] (by kernel_rfl) (fun _ => by kernel_rfl) (meet_calls f g)) ?_
    simp only [Act.put, List.setIfInBounds_toArray, List.set_cons_zero, List.set_cons_succ]
    refine AnyG.take 6 60 (.agg (ckC f)) rfl rfl (by kernel_rfl) (yg_load cktC (by kernel_rfl) _ rfl p rfl f 25 (fun _ h => h.get mp)) ?_
    simp only [Act.put, List.setIfInBounds_toArray, List.set_cons_zero, List.set_cons_succ]
    refine AnyG.take 7 61 (.int .i64 t) rfl rfl (by kernel_rfl) (yg_pure (by kernel_rfl) (fun _ => by kernel_rfl)) ?_
    simp only [Act.put, List.setIfInBounds_toArray, List.set_cons_zero, List.set_cons_succ]
    refine AnyG.take 8 62 (.agg (ckC (tickF f t))) rfl rfl (by kernel_rfl) (yg_call 14 #[.agg (ckC f), .int .i64 t] (by kernel_rfl) (fun _ => by kernel_rfl) (tick_calls f HF.out t)) ?_
    simp only [Act.put, List.setIfInBounds_toArray, List.set_cons_zero, List.set_cons_succ]
    refine AnyG.var3 9 10 11 12 13 14 11 12 13 zeroC (fitsC (joinF f g)) (fitsC (meetF f g)) (fitsC (tickF f t)) (by kernel_rfl) rfl rfl rfl rfl rfl rfl ⟨rfl, rfl, rfl⟩ ⟨rfl, rfl, rfl⟩ ⟨rfl, rfl, rfl⟩ _ _ _ _ _ _ ⟨rfl, rfl, rfl⟩ ⟨rfl, rfl, rfl⟩ ⟨rfl, rfl, rfl⟩ (by decide) (by decide) (fun _ _ _ => rfl) (fun _ _ _ => rfl) (fun _ _ _ => rfl) (fun _ _ _ => rfl) (fun _ _ _ => rfl) (fun _ _ _ => rfl) ?_
    clear hB
    intro j m n b hB
    simp only [Act.put, List.setIfInBounds_toArray, List.set_cons_zero, List.set_cons_succ]
    have mj : (j, 25, ckC (joinF f g)) ∈ (n, 25, ckC (tickF f t)) :: (m, 25, ckC (meetF f g)) :: (j, 25, ckC (joinF f g)) :: L := by simp
    have mm : (m, 25, ckC (meetF f g)) ∈ (n, 25, ckC (tickF f t)) :: (m, 25, ckC (meetF f g)) :: (j, 25, ckC (joinF f g)) :: L := by simp
    have mn : (n, 25, ckC (tickF f t)) ∈ (n, 25, ckC (tickF f t)) :: (m, 25, ckC (meetF f g)) :: (j, 25, ckC (joinF f g)) :: L := by simp
    replace m0 : (w.heap.size, 23, ckC f) ∈ (n, 25, ckC (tickF f t)) :: (m, 25, ckC (meetF f g)) :: (j, 25, ckC (joinF f g)) :: L := by simp [m0]
    replace m1 : (w.heap.size + 1, 23, ckC g) ∈ (n, 25, ckC (tickF f t)) :: (m, 25, ckC (meetF f g)) :: (j, 25, ckC (joinF f g)) :: L := by simp [m1]
    clear mp mq
    generalize (n, 25, ckC (tickF f t)) :: (m, 25, ckC (meetF f g)) :: (j, 25, ckC (joinF f g)) :: L = K at hB mj mm mn m0 m1
    go_wp2_with (fail)
    go_loopw [14] (fun i wr => ∃ k : Nat, k ≤ 8 ∧ i = .int .i64 k ∧ Bks w K wr) (fun i _ => 8 - (intOf i).toNat)
    case atStart => exact ⟨0, by omega, rfl, hB⟩
    case round =>
      clear hB
      obtain ⟨k, hk, rfl, hB⟩ := hrel
      by_cases hlt : k < 8
      · have hlt' : (k : Int) < 8 := by omega
        have c0 : ∀ u, Bks w K u → u.cell? ⟨w.heap.size, k, none⟩ = some (.int .u32 (f k)) := fun u h => (h.get m0).cell (ckC_get f hlt)
        have c1 : ∀ u, Bks w K u → u.cell? ⟨w.heap.size + 1, k, none⟩ = some (.int .u32 (g k)) := fun u h => (h.get m1).cell (ckC_get g hlt)
        have cj : ∀ u, Bks w K u → u.cell? ⟨j, k, none⟩ = some (.int .u32 (maxI (f k) (g k))) := fun u h => (h.get mj).cell (max_at f g hlt)
        have cm : ∀ u, Bks w K u → u.cell? ⟨m, k, none⟩ = some (.int .u32 (minI (f k) (g k))) := fun u h => (h.get mm).cell (min_at f g hlt)
        have cn : ∀ u, Bks w K u → u.cell? ⟨n, k, none⟩ = some (.int .u32 (tickF f t k)) := fun u h => (h.get mn).cell (ckC_get (tickF f t) hlt)
        have hc := c0 _ hB
        by_cases hkt : (k : Int) = t
        · subst hkt
          have hN := tick_here HF.out hlt
          generalize tickF f k k = N at cn hN
          generalize f k = a at c0 cj cm hc hN
          generalize g k = c at c1 cj cm
          have HM : Hid (∃ z, maxI a c = z) := ⟨_, rfl⟩
          have HL : Hid (∃ z, minI a c = z) := ⟨_, rfl⟩
          obtain ⟨M, hM⟩ := HM.out
          obtain ⟨I, hI⟩ := HL.out
          rw [hM] at cj
          rw [hI] at cm
          clear HM HL
          have hw : IntKind.u32.wrap (a + 1) = N := hN.symm
          clear hN
          go_wp2_with (fail)
          refine begin_grow 31 [] (Bks w K) (by kernel_rfl) rfl (Bks.stab _ _) (hB.later ((Gr.refl _).drew)) ?_
          refine AnyG.take 0 75 (.int .i64 k) rfl rfl (by kernel_rfl) (yg_pure (by kernel_rfl) (fun u => by go_simp)) ?_
          simp only [Act.put, List.setIfInBounds_toArray, List.set_cons_zero, List.set_cons_succ]
          refine AnyG.take 1 76 (.pointer (some ⟨j, k, none⟩)) rfl rfl (by kernel_rfl) (yg_pure (by kernel_rfl) (fun u => by go_simp)) ?_
          simp only [Act.put, List.setIfInBounds_toArray, List.set_cons_zero, List.set_cons_succ]
          refine AnyG.take 2 77 (.int .u32 M) rfl rfl (by kernel_rfl) (yg_held (by kernel_rfl) (fun u hu => by have := cj u hu; go_simp)) ?_
          simp only [Act.put, List.setIfInBounds_toArray, List.set_cons_zero, List.set_cons_succ]
          refine AnyG.take 3 78 (.int .i64 k) rfl rfl (by kernel_rfl) (yg_pure (by kernel_rfl) (fun u => by go_simp)) ?_
          simp only [Act.put, List.setIfInBounds_toArray, List.set_cons_zero, List.set_cons_succ]
          refine AnyG.take 4 79 (.pointer (some ⟨w.heap.size, k, none⟩)) rfl rfl (by kernel_rfl) (yg_pure (by kernel_rfl) (fun u => by go_simp)) ?_
          simp only [Act.put, List.setIfInBounds_toArray, List.set_cons_zero, List.set_cons_succ]
          refine AnyG.take 5 80 (.int .u32 a) rfl rfl (by kernel_rfl) (yg_held (by kernel_rfl) (fun u hu => by have := c0 u hu; go_simp)) ?_
          simp only [Act.put, List.setIfInBounds_toArray, List.set_cons_zero, List.set_cons_succ]
          refine AnyG.take 6 81 (.int .i64 k) rfl rfl (by kernel_rfl) (yg_pure (by kernel_rfl) (fun u => by go_simp)) ?_
          simp only [Act.put, List.setIfInBounds_toArray, List.set_cons_zero, List.set_cons_succ]
          refine AnyG.take 7 82 (.pointer (some ⟨w.heap.size + 1, k, none⟩)) rfl rfl (by kernel_rfl) (yg_pure (by kernel_rfl) (fun u => by go_simp)) ?_
          simp only [Act.put, List.setIfInBounds_toArray, List.set_cons_zero, List.set_cons_succ]
          refine AnyG.take 8 83 (.int .u32 c) rfl rfl (by kernel_rfl) (yg_held (by kernel_rfl) (fun u hu => by have := c1 u hu; go_simp)) ?_
          simp only [Act.put, List.setIfInBounds_toArray, List.set_cons_zero, List.set_cons_succ]
          refine AnyG.take 9 84 (.int .u32 M) rfl rfl (by kernel_rfl) (yg_pure (by kernel_rfl) (fun u => by rw [← hM]; unfold maxI; split <;> go_simp <;> omega)) ?_
          simp only [Act.put, List.setIfInBounds_toArray, List.set_cons_zero, List.set_cons_succ]
          refine AnyG.take 10 85 (.bool false) rfl rfl (by kernel_rfl) (yg_pure (by kernel_rfl) (fun u => by go_simp)) ?_
          simp only [Act.put, List.setIfInBounds_toArray, List.set_cons_zero, List.set_cons_succ]
          refine AnyG.take 11 86 (.bool false) rfl rfl (by kernel_rfl) (yg_pure (by kernel_rfl) (fun u => by go_simp)) ?_
          simp only [Act.put, List.setIfInBounds_toArray, List.set_cons_zero, List.set_cons_succ]
          refine AnyG.take 12 87 (.int .i64 k) rfl rfl (by kernel_rfl) (yg_pure (by kernel_rfl) (fun u => by go_simp)) ?_
          simp only [Act.put, List.setIfInBounds_toArray, List.set_cons_zero, List.set_cons_succ]
          refine AnyG.take 13 88 (.pointer (some ⟨m, k, none⟩)) rfl rfl (by kernel_rfl) (yg_pure (by kernel_rfl) (fun u => by go_simp)) ?_
          simp only [Act.put, List.setIfInBounds_toArray, List.set_cons_zero, List.set_cons_succ]
          refine AnyG.take 14 89 (.int .u32 I) rfl rfl (by kernel_rfl) (yg_held (by kernel_rfl) (fun u hu => by have := cm u hu; go_simp)) ?_
          simp only [Act.put, List.setIfInBounds_toArray, List.set_cons_zero, List.set_cons_succ]
          refine AnyG.take 15 90 (.int .i64 k) rfl rfl (by kernel_rfl) (yg_pure (by kernel_rfl) (fun u => by go_simp)) ?_
          simp only [Act.put, List.setIfInBounds_toArray, List.set_cons_zero, List.set_cons_succ]
          refine AnyG.take 16 91 (.pointer (some ⟨w.heap.size, k, none⟩)) rfl rfl (by kernel_rfl) (yg_pure (by kernel_rfl) (fun u => by go_simp)) ?_
          simp only [Act.put, List.setIfInBounds_toArray, List.set_cons_zero, List.set_cons_succ]
          refine AnyG.take 17 92 (.int .u32 a) rfl rfl (by kernel_rfl) (yg_held (by kernel_rfl) (fun u hu => by have := c0 u hu; go_simp)) ?_
          simp only [Act.put, List.setIfInBounds_toArray, List.set_cons_zero, List.set_cons_succ]
          refine AnyG.take 18 93 (.int .i64 k) rfl rfl (by kernel_rfl) (yg_pure (by kernel_rfl) (fun u => by go_simp)) ?_
          simp only [Act.put, List.setIfInBounds_toArray, List.set_cons_zero, List.set_cons_succ]
          refine AnyG.take 19 94 (.pointer (some ⟨w.heap.size + 1, k, none⟩)) rfl rfl (by kernel_rfl) (yg_pure (by kernel_rfl) (fun u => by go_simp)) ?_
          simp only [Act.put, List.setIfInBounds_toArray, List.set_cons_zero, List.set_cons_succ]
          refine AnyG.take 20 95 (.int .u32 c) rfl rfl (by kernel_rfl) (yg_held (by kernel_rfl) (fun u hu => by have := c1 u hu; go_simp)) ?_
          simp only [Act.put, List.setIfInBounds_toArray, List.set_cons_zero, List.set_cons_succ]
          refine AnyG.take 21 96 (.int .u32 I) rfl rfl (by kernel_rfl) (yg_pure (by kernel_rfl) (fun u => by rw [← hI]; unfold minI; split <;> go_simp <;> omega)) ?_
          simp only [Act.put, List.setIfInBounds_toArray, List.set_cons_zero, List.set_cons_succ]
          refine AnyG.take 22 97 (.bool false) rfl rfl (by kernel_rfl) (yg_pure (by kernel_rfl) (fun u => by go_simp)) ?_
          simp only [Act.put, List.setIfInBounds_toArray, List.set_cons_zero, List.set_cons_succ]
          refine AnyG.take 23 98 (.bool false) rfl rfl (by kernel_rfl) (yg_pure (by kernel_rfl) (fun u => by go_simp)) ?_
          simp only [Act.put, List.setIfInBounds_toArray, List.set_cons_zero, List.set_cons_succ]
          refine AnyG.take 24 99 (.bool false) rfl rfl (by kernel_rfl) (yg_pure (by kernel_rfl) (fun u => by go_simp)) ?_
          simp only [Act.put, List.setIfInBounds_toArray, List.set_cons_zero, List.set_cons_succ]
          refine AnyG.take 25 100 (.int .i64 k) rfl rfl (by kernel_rfl) (yg_pure (by kernel_rfl) (fun u => by go_simp)) ?_
          simp only [Act.put, List.setIfInBounds_toArray, List.set_cons_zero, List.set_cons_succ]
          refine AnyG.take 26 101 (.pointer (some ⟨n, k, none⟩)) rfl rfl (by kernel_rfl) (yg_pure (by kernel_rfl) (fun u => by go_simp)) ?_
          simp only [Act.put, List.setIfInBounds_toArray, List.set_cons_zero, List.set_cons_succ]
          refine AnyG.take 27 102 (.int .u32 N) rfl rfl (by kernel_rfl) (yg_held (by kernel_rfl) (fun u hu => by have := cn u hu; go_simp)) ?_
          simp only [Act.put, List.setIfInBounds_toArray, List.set_cons_zero, List.set_cons_succ]
          refine AnyG.take 28 103 (.int .u32 N) rfl rfl (by kernel_rfl) (yg_pure (by kernel_rfl) (fun u => by go_simp)) ?_
          simp only [Act.put, List.setIfInBounds_toArray, List.set_cons_zero, List.set_cons_succ]
          refine AnyG.take 29 104 (.bool false) rfl rfl (by kernel_rfl) (yg_pure (by kernel_rfl) (fun u => by go_simp)) ?_
          simp only [Act.put, List.setIfInBounds_toArray, List.set_cons_zero, List.set_cons_succ]
          refine AnyG.take 30 105 (.bool false) rfl rfl (by kernel_rfl) (yg_pure (by kernel_rfl) (fun u => by go_simp)) ?_
          simp only [Act.put, List.setIfInBounds_toArray, List.set_cons_zero, List.set_cons_succ]
          refine AnyG.done (by kernel_rfl) fun z hz => ?_
          replace hB := hz
          clear hz c0 c1 cj cm cn hc hM hI
          go_wp2_with (fail)
          exact ⟨⟨k + 1, by omega, by go_num, hB⟩, by simp [intOf]; omega⟩
        · have hN := tick_aside f hkt
          generalize tickF f t k = N at cn hN
          subst hN
          generalize f k = a at c0 cj cm hc cn
          generalize g k = c at c1 cj cm
          have HM : Hid (∃ z, maxI a c = z) := ⟨_, rfl⟩
          have HL : Hid (∃ z, minI a c = z) := ⟨_, rfl⟩
          obtain ⟨M, hM⟩ := HM.out
          obtain ⟨I, hI⟩ := HL.out
          rw [hM] at cj
          rw [hI] at cm
          clear HM HL
          go_wp2_with (fail)
          refine begin_grow 31 [] (Bks w K) (by kernel_rfl) rfl (Bks.stab _ _) (hB.later ((Gr.refl _).drew)) ?_
          refine AnyG.take 0 75 (.int .i64 k) rfl rfl (by kernel_rfl) (yg_pure (by kernel_rfl) (fun u => by go_simp)) ?_
          simp only [Act.put, List.setIfInBounds_toArray, List.set_cons_zero, List.set_cons_succ]
          refine AnyG.take 1 76 (.pointer (some ⟨j, k, none⟩)) rfl rfl (by kernel_rfl) (yg_pure (by kernel_rfl) (fun u => by go_simp)) ?_
          simp only [Act.put, List.setIfInBounds_toArray, List.set_cons_zero, List.set_cons_succ]
          refine AnyG.take 2 77 (.int .u32 M) rfl rfl (by kernel_rfl) (yg_held (by kernel_rfl) (fun u hu => by have := cj u hu; go_simp)) ?_
          simp only [Act.put, List.setIfInBounds_toArray, List.set_cons_zero, List.set_cons_succ]
          refine AnyG.take 3 78 (.int .i64 k) rfl rfl (by kernel_rfl) (yg_pure (by kernel_rfl) (fun u => by go_simp)) ?_
          simp only [Act.put, List.setIfInBounds_toArray, List.set_cons_zero, List.set_cons_succ]
          refine AnyG.take 4 79 (.pointer (some ⟨w.heap.size, k, none⟩)) rfl rfl (by kernel_rfl) (yg_pure (by kernel_rfl) (fun u => by go_simp)) ?_
          simp only [Act.put, List.setIfInBounds_toArray, List.set_cons_zero, List.set_cons_succ]
          refine AnyG.take 5 80 (.int .u32 a) rfl rfl (by kernel_rfl) (yg_held (by kernel_rfl) (fun u hu => by have := c0 u hu; go_simp)) ?_
          simp only [Act.put, List.setIfInBounds_toArray, List.set_cons_zero, List.set_cons_succ]
          refine AnyG.take 6 81 (.int .i64 k) rfl rfl (by kernel_rfl) (yg_pure (by kernel_rfl) (fun u => by go_simp)) ?_
          simp only [Act.put, List.setIfInBounds_toArray, List.set_cons_zero, List.set_cons_succ]
          refine AnyG.take 7 82 (.pointer (some ⟨w.heap.size + 1, k, none⟩)) rfl rfl (by kernel_rfl) (yg_pure (by kernel_rfl) (fun u => by go_simp)) ?_
          simp only [Act.put, List.setIfInBounds_toArray, List.set_cons_zero, List.set_cons_succ]
          refine AnyG.take 8 83 (.int .u32 c) rfl rfl (by kernel_rfl) (yg_held (by kernel_rfl) (fun u hu => by have := c1 u hu; go_simp)) ?_
          simp only [Act.put, List.setIfInBounds_toArray, List.set_cons_zero, List.set_cons_succ]
          refine AnyG.take 9 84 (.int .u32 M) rfl rfl (by kernel_rfl) (yg_pure (by kernel_rfl) (fun u => by rw [← hM]; unfold maxI; split <;> go_simp <;> omega)) ?_
          simp only [Act.put, List.setIfInBounds_toArray, List.set_cons_zero, List.set_cons_succ]
          refine AnyG.take 10 85 (.bool false) rfl rfl (by kernel_rfl) (yg_pure (by kernel_rfl) (fun u => by go_simp)) ?_
          simp only [Act.put, List.setIfInBounds_toArray, List.set_cons_zero, List.set_cons_succ]
          refine AnyG.take 11 86 (.bool false) rfl rfl (by kernel_rfl) (yg_pure (by kernel_rfl) (fun u => by go_simp)) ?_
          simp only [Act.put, List.setIfInBounds_toArray, List.set_cons_zero, List.set_cons_succ]
          refine AnyG.take 12 87 (.int .i64 k) rfl rfl (by kernel_rfl) (yg_pure (by kernel_rfl) (fun u => by go_simp)) ?_
          simp only [Act.put, List.setIfInBounds_toArray, List.set_cons_zero, List.set_cons_succ]
          refine AnyG.take 13 88 (.pointer (some ⟨m, k, none⟩)) rfl rfl (by kernel_rfl) (yg_pure (by kernel_rfl) (fun u => by go_simp)) ?_
          simp only [Act.put, List.setIfInBounds_toArray, List.set_cons_zero, List.set_cons_succ]
          refine AnyG.take 14 89 (.int .u32 I) rfl rfl (by kernel_rfl) (yg_held (by kernel_rfl) (fun u hu => by have := cm u hu; go_simp)) ?_
          simp only [Act.put, List.setIfInBounds_toArray, List.set_cons_zero, List.set_cons_succ]
          refine AnyG.take 15 90 (.int .i64 k) rfl rfl (by kernel_rfl) (yg_pure (by kernel_rfl) (fun u => by go_simp)) ?_
          simp only [Act.put, List.setIfInBounds_toArray, List.set_cons_zero, List.set_cons_succ]
          refine AnyG.take 16 91 (.pointer (some ⟨w.heap.size, k, none⟩)) rfl rfl (by kernel_rfl) (yg_pure (by kernel_rfl) (fun u => by go_simp)) ?_
          simp only [Act.put, List.setIfInBounds_toArray, List.set_cons_zero, List.set_cons_succ]
          refine AnyG.take 17 92 (.int .u32 a) rfl rfl (by kernel_rfl) (yg_held (by kernel_rfl) (fun u hu => by have := c0 u hu; go_simp)) ?_
          simp only [Act.put, List.setIfInBounds_toArray, List.set_cons_zero, List.set_cons_succ]
          refine AnyG.take 18 93 (.int .i64 k) rfl rfl (by kernel_rfl) (yg_pure (by kernel_rfl) (fun u => by go_simp)) ?_
          simp only [Act.put, List.setIfInBounds_toArray, List.set_cons_zero, List.set_cons_succ]
          refine AnyG.take 19 94 (.pointer (some ⟨w.heap.size + 1, k, none⟩)) rfl rfl (by kernel_rfl) (yg_pure (by kernel_rfl) (fun u => by go_simp)) ?_
          simp only [Act.put, List.setIfInBounds_toArray, List.set_cons_zero, List.set_cons_succ]
          refine AnyG.take 20 95 (.int .u32 c) rfl rfl (by kernel_rfl) (yg_held (by kernel_rfl) (fun u hu => by have := c1 u hu; go_simp)) ?_
          simp only [Act.put, List.setIfInBounds_toArray, List.set_cons_zero, List.set_cons_succ]
          refine AnyG.take 21 96 (.int .u32 I) rfl rfl (by kernel_rfl) (yg_pure (by kernel_rfl) (fun u => by rw [← hI]; unfold minI; split <;> go_simp <;> omega)) ?_
          simp only [Act.put, List.setIfInBounds_toArray, List.set_cons_zero, List.set_cons_succ]
          refine AnyG.take 22 97 (.bool false) rfl rfl (by kernel_rfl) (yg_pure (by kernel_rfl) (fun u => by go_simp)) ?_
          simp only [Act.put, List.setIfInBounds_toArray, List.set_cons_zero, List.set_cons_succ]
          refine AnyG.take 23 98 (.bool false) rfl rfl (by kernel_rfl) (yg_pure (by kernel_rfl) (fun u => by go_simp)) ?_
          simp only [Act.put, List.setIfInBounds_toArray, List.set_cons_zero, List.set_cons_succ]
          refine AnyG.take 24 99 (.bool false) rfl rfl (by kernel_rfl) (yg_pure (by kernel_rfl) (fun u => by go_simp)) ?_
          simp only [Act.put, List.setIfInBounds_toArray, List.set_cons_zero, List.set_cons_succ]
          refine AnyG.take 25 100 (.int .i64 k) rfl rfl (by kernel_rfl) (yg_pure (by kernel_rfl) (fun u => by go_simp)) ?_
          simp only [Act.put, List.setIfInBounds_toArray, List.set_cons_zero, List.set_cons_succ]
          refine AnyG.take 26 101 (.pointer (some ⟨n, k, none⟩)) rfl rfl (by kernel_rfl) (yg_pure (by kernel_rfl) (fun u => by go_simp)) ?_
          simp only [Act.put, List.setIfInBounds_toArray, List.set_cons_zero, List.set_cons_succ]
          refine AnyG.take 27 102 (.int .u32 a) rfl rfl (by kernel_rfl) (yg_held (by kernel_rfl) (fun u hu => by have := cn u hu; go_simp)) ?_
          simp only [Act.put, List.setIfInBounds_toArray, List.set_cons_zero, List.set_cons_succ]
          refine AnyG.take 28 103 (.int .u32 a) rfl rfl (by kernel_rfl) (yg_pure (by kernel_rfl) (fun u => by go_simp)) ?_
          simp only [Act.put, List.setIfInBounds_toArray, List.set_cons_zero, List.set_cons_succ]
          refine AnyG.take 29 104 (.bool false) rfl rfl (by kernel_rfl) (yg_pure (by kernel_rfl) (fun u => by go_simp)) ?_
          simp only [Act.put, List.setIfInBounds_toArray, List.set_cons_zero, List.set_cons_succ]
          refine AnyG.take 30 105 (.bool false) rfl rfl (by kernel_rfl) (yg_pure (by kernel_rfl) (fun u => by go_simp)) ?_
          simp only [Act.put, List.setIfInBounds_toArray, List.set_cons_zero, List.set_cons_succ]
          refine AnyG.done (by kernel_rfl) fun z hz => ?_
          replace hB := hz
          clear hz c0 c1 cj cm cn hc hM hI
          go_wp2_with (fail)
          exact ⟨⟨k + 1, by omega, by go_num, hB⟩, by simp [intOf]; omega⟩
      · obtain rfl : k = 8 := by omega
        go_wp2_with (fail)
        go_ret
        exact ⟨rfl, hB.gr⟩
  · go_wp2_with (first
      | (refine load_ck cktC (by kernel_rfl) _ rfl p rfl (f) _ (hB.get mp) ?_)
      | (refine load_ck cktC (by kernel_rfl) _ rfl q rfl (g) _ (hB.get mq) ?_))
    refine (kn_is HK.out _).mono ?_
    rintro _ z ⟨rfl, hg⟩
    replace hB := hB.later hg
    clear hg
    go_wp2_with (first
      | (refine load_ck cktC (by kernel_rfl) _ rfl p rfl (f) _ (hB.get mp) ?_)
      | (refine load_ck cktC (by kernel_rfl) _ rfl q rfl (g) _ (hB.get mq) ?_))
    refine (ah_is HH.out _).mono ?_
    rintro _ z ⟨rfl, hg⟩
    replace hB := hB.later hg
    clear hg
    go_wp2_with (first
      | (refine load_ck cktC (by kernel_rfl) _ rfl p rfl (f) _ (hB.get mp) ?_)
      | (refine load_ck cktC (by kernel_rfl) _ rfl q rfl (g) _ (hB.get mq) ?_))
    refine (ap_is HP.out _).mono ?_
    rintro _ z ⟨rfl, hg⟩
    replace hB := hB.later hg
    clear hg
    clear HK HH HP
    go_wp2_with (fail)
    refine begin_grow 15 [] (Bks w L) (by kernel_rfl) rfl (Bks.stab _ _) (hB.later ((Gr.refl _).drew)) ?_
    refine AnyG.take 0 54 (.agg (ckC f)) rfl rfl (by kernel_rfl) (yg_load cktC (by kernel_rfl) _ rfl p rfl f 25 (fun _ h => h.get mp)) ?_
    simp only [Act.put, List.setIfInBounds_toArray, List.set_cons_zero, List.set_cons_succ]
    refine AnyG.take 1 55 (.agg (ckC g)) rfl rfl (by kernel_rfl) (yg_load cktC (by kernel_rfl) _ rfl q rfl g 25 (fun _ h => h.get mq)) ?_
    simp only [Act.put, List.setIfInBounds_toArray, List.set_cons_zero, List.set_cons_succ]
    refine AnyG.take 2 56 (.agg (ckC (joinF f g))) rfl rfl (by kernel_rfl) (yg_call 12 #[.agg (ckC f), .agg (ckC g)] (by kernel_rfl) (fun _ => by kernel_rfl) (join_calls f g)) ?_
    simp only [Act.put, List.setIfInBounds_toArray, List.set_cons_zero, List.set_cons_succ]
    refine AnyG.take 3 57 (.agg (ckC f)) rfl rfl (by kernel_rfl) (yg_load cktC (by kernel_rfl) _ rfl p rfl f 25 (fun _ h => h.get mp)) ?_
    simp only [Act.put, List.setIfInBounds_toArray, List.set_cons_zero, List.set_cons_succ]
    refine AnyG.take 4 58 (.agg (ckC g)) rfl rfl (by kernel_rfl) (yg_load cktC (by kernel_rfl) _ rfl q rfl g 25 (fun _ h => h.get mq)) ?_
    simp only [Act.put, List.setIfInBounds_toArray, List.set_cons_zero, List.set_cons_succ]
    refine AnyG.take 5 59 (.agg (ckC (meetF f g))) rfl rfl (by kernel_rfl) (yg_call 13 #[.agg (ckC f), .agg (ckC g)] (by kernel_rfl) (fun _ => by kernel_rfl) (meet_calls f g)) ?_
    simp only [Act.put, List.setIfInBounds_toArray, List.set_cons_zero, List.set_cons_succ]
    refine AnyG.take 6 60 (.agg (ckC f)) rfl rfl (by kernel_rfl) (yg_load cktC (by kernel_rfl) _ rfl p rfl f 25 (fun _ h => h.get mp)) ?_
    simp only [Act.put, List.setIfInBounds_toArray, List.set_cons_zero, List.set_cons_succ]
    refine AnyG.take 7 61 (.int .i64 t) rfl rfl (by kernel_rfl) (yg_pure (by kernel_rfl) (fun _ => by kernel_rfl)) ?_
    simp only [Act.put, List.setIfInBounds_toArray, List.set_cons_zero, List.set_cons_succ]
    refine AnyG.take 8 62 (.agg (ckC (tickF f t))) rfl rfl (by kernel_rfl) (yg_call 14 #[.agg (ckC f), .int .i64 t] (by kernel_rfl) (fun _ => by kernel_rfl) (tick_calls f HF.out t)) ?_
    simp only [Act.put, List.setIfInBounds_toArray, List.set_cons_zero, List.set_cons_succ]
    refine AnyG.var3 9 10 11 12 13 14 11 12 13 zeroC (fitsC (joinF f g)) (fitsC (meetF f g)) (fitsC (tickF f t)) (by kernel_rfl) rfl rfl rfl rfl rfl rfl ⟨rfl, rfl, rfl⟩ ⟨rfl, rfl, rfl⟩ ⟨rfl, rfl, rfl⟩ _ _ _ _ _ _ ⟨rfl, rfl, rfl⟩ ⟨rfl, rfl, rfl⟩ ⟨rfl, rfl, rfl⟩ (by decide) (by decide) (fun _ _ _ => rfl) (fun _ _ _ => rfl) (fun _ _ _ => rfl) (fun _ _ _ => rfl) (fun _ _ _ => rfl) (fun _ _ _ => rfl) ?_
    clear hB
    intro j m n b hB
    simp only [Act.put, List.setIfInBounds_toArray, List.set_cons_zero, List.set_cons_succ]
    have mj : (j, 25, ckC (joinF f g)) ∈ (n, 25, ckC (tickF f t)) :: (m, 25, ckC (meetF f g)) :: (j, 25, ckC (joinF f g)) :: L := by simp
    have mm : (m, 25, ckC (meetF f g)) ∈ (n, 25, ckC (tickF f t)) :: (m, 25, ckC (meetF f g)) :: (j, 25, ckC (joinF f g)) :: L := by simp
    have mn : (n, 25, ckC (tickF f t)) ∈ (n, 25, ckC (tickF f t)) :: (m, 25, ckC (meetF f g)) :: (j, 25, ckC (joinF f g)) :: L := by simp
    replace m0 : (w.heap.size, 23, ckC f) ∈ (n, 25, ckC (tickF f t)) :: (m, 25, ckC (meetF f g)) :: (j, 25, ckC (joinF f g)) :: L := by simp [m0]
    replace m1 : (w.heap.size + 1, 23, ckC g) ∈ (n, 25, ckC (tickF f t)) :: (m, 25, ckC (meetF f g)) :: (j, 25, ckC (joinF f g)) :: L := by simp [m1]
    clear mp mq
    generalize (n, 25, ckC (tickF f t)) :: (m, 25, ckC (meetF f g)) :: (j, 25, ckC (joinF f g)) :: L = K at hB mj mm mn m0 m1
    go_wp2_with (fail)
    go_loopw [14] (fun i wr => ∃ k : Nat, k ≤ 8 ∧ i = .int .i64 k ∧ Bks w K wr) (fun i _ => 8 - (intOf i).toNat)
    case atStart => exact ⟨0, by omega, rfl, hB⟩
    case round =>
      clear hB
      obtain ⟨k, hk, rfl, hB⟩ := hrel
      by_cases hlt : k < 8
      · have hlt' : (k : Int) < 8 := by omega
        have c0 : ∀ u, Bks w K u → u.cell? ⟨w.heap.size, k, none⟩ = some (.int .u32 (f k)) := fun u h => (h.get m0).cell (ckC_get f hlt)
        have c1 : ∀ u, Bks w K u → u.cell? ⟨w.heap.size + 1, k, none⟩ = some (.int .u32 (g k)) := fun u h => (h.get m1).cell (ckC_get g hlt)
        have cj : ∀ u, Bks w K u → u.cell? ⟨j, k, none⟩ = some (.int .u32 (maxI (f k) (g k))) := fun u h => (h.get mj).cell (max_at f g hlt)
        have cm : ∀ u, Bks w K u → u.cell? ⟨m, k, none⟩ = some (.int .u32 (minI (f k) (g k))) := fun u h => (h.get mm).cell (min_at f g hlt)
        have cn : ∀ u, Bks w K u → u.cell? ⟨n, k, none⟩ = some (.int .u32 (tickF f t k)) := fun u h => (h.get mn).cell (ckC_get (tickF f t) hlt)
        have hc := c0 _ hB
        by_cases hkt : (k : Int) = t
        · subst hkt
          have hN := tick_here HF.out hlt
          generalize tickF f k k = N at cn hN
          generalize f k = a at c0 cj cm hc hN
          generalize g k = c at c1 cj cm
          have HM : Hid (∃ z, maxI a c = z) := ⟨_, rfl⟩
          have HL : Hid (∃ z, minI a c = z) := ⟨_, rfl⟩
          obtain ⟨M, hM⟩ := HM.out
          obtain ⟨I, hI⟩ := HL.out
          rw [hM] at cj
          rw [hI] at cm
          clear HM HL
          have hw : IntKind.u32.wrap (a + 1) = N := hN.symm
          clear hN
          go_wp2_with (fail)
          refine begin_grow 31 [] (Bks w K) (by kernel_rfl) rfl (Bks.stab _ _) (hB.later ((Gr.refl _).drew)) ?_
          refine AnyG.take 0 75 (.int .i64 k) rfl rfl (by kernel_rfl) (yg_pure (by kernel_rfl) (fun u => by go_simp)) ?_
          simp only [Act.put, List.setIfInBounds_toArray, List.set_cons_zero, List.set_cons_succ]
          refine AnyG.take 1 76 (.pointer (some ⟨j, k, none⟩)) rfl rfl (by kernel_rfl) (yg_pure (by kernel_rfl) (fun u => by go_simp)) ?_
          simp only [Act.put, List.setIfInBounds_toArray, List.set_cons_zero, List.set_cons_succ]
          refine AnyG.take 2 77 (.int .u32 M) rfl rfl (by kernel_rfl) (yg_held (by kernel_rfl) (fun u hu => by have := cj u hu; go_simp)) ?_
          simp only [Act.put, List.setIfInBounds_toArray, List.set_cons_zero, List.set_cons_succ]
          refine AnyG.take 3 78 (.int .i64 k) rfl rfl (by kernel_rfl) (yg_pure (by kernel_rfl) (fun u => by go_simp)) ?_
          simp only [Act.put, List.setIfInBounds_toArray, List.set_cons_zero, List.set_cons_succ]
          refine AnyG.take 4 79 (.pointer (some ⟨w.heap.size, k, none⟩)) rfl rfl (by kernel_rfl) (yg_pure (by kernel_rfl) (fun u => by go_simp)) ?_
          simp only [Act.put, List.setIfInBounds_toArray, List.set_cons_zero, List.set_cons_succ]
          refine AnyG.take 5 80 (.int .u32 a) rfl rfl (by kernel_rfl) (yg_held (by kernel_rfl) (fun u hu => by have := c0 u hu; go_simp)) ?_
          simp only [Act.put, List.setIfInBounds_toArray, List.set_cons_zero, List.set_cons_succ]
          refine AnyG.take 6 81 (.int .i64 k) rfl rfl (by kernel_rfl) (yg_pure (by kernel_rfl) (fun u => by go_simp)) ?_
          simp only [Act.put, List.setIfInBounds_toArray, List.set_cons_zero, List.set_cons_succ]
          refine AnyG.take 7 82 (.pointer (some ⟨w.heap.size + 1, k, none⟩)) rfl rfl (by kernel_rfl) (yg_pure (by kernel_rfl) (fun u => by go_simp)) ?_
          simp only [Act.put, List.setIfInBounds_toArray, List.set_cons_zero, List.set_cons_succ]
          refine AnyG.take 8 83 (.int .u32 c) rfl rfl (by kernel_rfl) (yg_held (by kernel_rfl) (fun u hu => by have := c1 u hu; go_simp)) ?_
          simp only [Act.put, List.setIfInBounds_toArray, List.set_cons_zero, List.set_cons_succ]
          refine AnyG.take 9 84 (.int .u32 M) rfl rfl (by kernel_rfl) (yg_pure (by kernel_rfl) (fun u => by rw [← hM]; unfold maxI; split <;> go_simp <;> omega)) ?_
          simp only [Act.put, List.setIfInBounds_toArray, List.set_cons_zero, List.set_cons_succ]
          refine AnyG.take 10 85 (.bool false) rfl rfl (by kernel_rfl) (yg_pure (by kernel_rfl) (fun u => by go_simp)) ?_
          simp only [Act.put, List.setIfInBounds_toArray, List.set_cons_zero, List.set_cons_succ]
          refine AnyG.take 11 86 (.bool false) rfl rfl (by kernel_rfl) (yg_pure (by kernel_rfl) (fun u => by go_simp)) ?_
          simp only [Act.put, List.setIfInBounds_toArray, List.set_cons_zero, List.set_cons_succ]
          refine AnyG.take 12 87 (.int .i64 k) rfl rfl (by kernel_rfl) (yg_pure (by kernel_rfl) (fun u => by go_simp)) ?_
          simp only [Act.put, List.setIfInBounds_toArray, List.set_cons_zero, List.set_cons_succ]
          refine AnyG.take 13 88 (.pointer (some ⟨m, k, none⟩)) rfl rfl (by kernel_rfl) (yg_pure (by kernel_rfl) (fun u => by go_simp)) ?_
          simp only [Act.put, List.setIfInBounds_toArray, List.set_cons_zero, List.set_cons_succ]
          refine AnyG.take 14 89 (.int .u32 I) rfl rfl (by kernel_rfl) (yg_held (by kernel_rfl) (fun u hu => by have := cm u hu; go_simp)) ?_
          simp only [Act.put, List.setIfInBounds_toArray, List.set_cons_zero, List.set_cons_succ]
          refine AnyG.take 15 90 (.int .i64 k) rfl rfl (by kernel_rfl) (yg_pure (by kernel_rfl) (fun u => by go_simp)) ?_
          simp only [Act.put, List.setIfInBounds_toArray, List.set_cons_zero, List.set_cons_succ]
          refine AnyG.take 16 91 (.pointer (some ⟨w.heap.size, k, none⟩)) rfl rfl (by kernel_rfl) (yg_pure (by kernel_rfl) (fun u => by go_simp)) ?_
          simp only [Act.put, List.setIfInBounds_toArray, List.set_cons_zero, List.set_cons_succ]
          refine AnyG.take 17 92 (.int .u32 a) rfl rfl (by kernel_rfl) (yg_held (by kernel_rfl) (fun u hu => by have := c0 u hu; go_simp)) ?_
          simp only [Act.put, List.setIfInBounds_toArray, List.set_cons_zero, List.set_cons_succ]
          refine AnyG.take 18 93 (.int .i64 k) rfl rfl (by kernel_rfl) (yg_pure (by kernel_rfl) (fun u => by go_simp)) ?_
          simp only [Act.put, List.setIfInBounds_toArray, List.set_cons_zero, List.set_cons_succ]
          refine AnyG.take 19 94 (.pointer (some ⟨w.heap.size + 1, k, none⟩)) rfl rfl (by kernel_rfl) (yg_pure (by kernel_rfl) (fun u => by go_simp)) ?_
          simp only [Act.put, List.setIfInBounds_toArray, List.set_cons_zero, List.set_cons_succ]
          refine AnyG.take 20 95 (.int .u32 c) rfl rfl (by kernel_rfl) (yg_held (by kernel_rfl) (fun u hu => by have := c1 u hu; go_simp)) ?_
          simp only [Act.put, List.setIfInBounds_toArray, List.set_cons_zero, List.set_cons_succ]
          refine AnyG.take 21 96 (.int .u32 I) rfl rfl (by kernel_rfl) (yg_pure (by kernel_rfl) (fun u => by rw [← hI]; unfold minI; split <;> go_simp <;> omega)) ?_
          simp only [Act.put, List.setIfInBounds_toArray, List.set_cons_zero, List.set_cons_succ]
          refine AnyG.take 22 97 (.bool false) rfl rfl (by kernel_rfl) (yg_pure (by kernel_rfl) (fun u => by go_simp)) ?_
          simp only [Act.put, List.setIfInBounds_toArray, List.set_cons_zero, List.set_cons_succ]
          refine AnyG.take 23 98 (.bool false) rfl rfl (by kernel_rfl) (yg_pure (by kernel_rfl) (fun u => by go_simp)) ?_
          simp only [Act.put, List.setIfInBounds_toArray, List.set_cons_zero, List.set_cons_succ]
          refine AnyG.take 24 99 (.bool false) rfl rfl (by kernel_rfl) (yg_pure (by kernel_rfl) (fun u => by go_simp)) ?_
          simp only [Act.put, List.setIfInBounds_toArray, List.set_cons_zero, List.set_cons_succ]
          refine AnyG.take 25 100 (.int .i64 k) rfl rfl (by kernel_rfl) (yg_pure (by kernel_rfl) (fun u => by go_simp)) ?_
          simp only [Act.put, List.setIfInBounds_toArray, List.set_cons_zero, List.set_cons_succ]
          refine AnyG.take 26 101 (.pointer (some ⟨n, k, none⟩)) rfl rfl (by kernel_rfl) (yg_pure (by kernel_rfl) (fun u => by go_simp)) ?_
          simp only [Act.put, List.setIfInBounds_toArray, List.set_cons_zero, List.set_cons_succ]
          refine AnyG.take 27 102 (.int .u32 N) rfl rfl (by kernel_rfl) (yg_held (by kernel_rfl) (fun u hu => by have := cn u hu; go_simp)) ?_
          simp only [Act.put, List.setIfInBounds_toArray, List.set_cons_zero, List.set_cons_succ]
          refine AnyG.take 28 103 (.int .u32 N) rfl rfl (by kernel_rfl) (yg_pure (by kernel_rfl) (fun u => by go_simp)) ?_
          simp only [Act.put, List.setIfInBounds_toArray, List.set_cons_zero, List.set_cons_succ]
          refine AnyG.take 29 104 (.bool false) rfl rfl (by kernel_rfl) (yg_pure (by kernel_rfl) (fun u => by go_simp)) ?_
          simp only [Act.put, List.setIfInBounds_toArray, List.set_cons_zero, List.set_cons_succ]
          refine AnyG.take 30 105 (.bool false) rfl rfl (by kernel_rfl) (yg_pure (by kernel_rfl) (fun u => by go_simp)) ?_
          simp only [Act.put, List.setIfInBounds_toArray, List.set_cons_zero, List.set_cons_succ]
          refine AnyG.done (by kernel_rfl) fun z hz => ?_
          replace hB := hz
          clear hz c0 c1 cj cm cn hc hM hI
          go_wp2_with (fail)
          exact ⟨⟨k + 1, by omega, by go_num, hB⟩, by simp [intOf]; omega⟩
        · have hN := tick_aside f hkt
          generalize tickF f t k = N at cn hN
          subst hN
          generalize f k = a at c0 cj cm hc cn
          generalize g k = c at c1 cj cm
          have HM : Hid (∃ z, maxI a c = z) := ⟨_, rfl⟩
          have HL : Hid (∃ z, minI a c = z) := ⟨_, rfl⟩
          obtain ⟨M, hM⟩ := HM.out
          obtain ⟨I, hI⟩ := HL.out
          rw [hM] at cj
          rw [hI] at cm
          clear HM HL
          go_wp2_with (fail)
          refine begin_grow 31 [] (Bks w K) (by kernel_rfl) rfl (Bks.stab _ _) (hB.later ((Gr.refl _).drew)) ?_
          refine AnyG.take 0 75 (.int .i64 k) rfl rfl (by kernel_rfl) (yg_pure (by kernel_rfl) (fun u => by go_simp)) ?_
          simp only [Act.put, List.setIfInBounds_toArray, List.set_cons_zero, List.set_cons_succ]
          refine AnyG.take 1 76 (.pointer (some ⟨j, k, none⟩)) rfl rfl (by kernel_rfl) (yg_pure (by kernel_rfl) (fun u => by go_simp)) ?_
          simp only [Act.put, List.setIfInBounds_toArray, List.set_cons_zero, List.set_cons_succ]
          refine AnyG.take 2 77 (.int .u32 M) rfl rfl (by kernel_rfl) (yg_held (by kernel_rfl) (fun u hu => by have := cj u hu; go_simp)) ?_
          simp only [Act.put, List.setIfInBounds_toArray, List.set_cons_zero, List.set_cons_succ]
          refine AnyG.take 3 78 (.int .i64 k) rfl rfl (by kernel_rfl) (yg_pure (by kernel_rfl) (fun u => by go_simp)) ?_
          simp only [Act.put, List.setIfInBounds_toArray, List.set_cons_zero, List.set_cons_succ]
          refine AnyG.take 4 79 (.pointer (some ⟨w.heap.size, k, none⟩)) rfl rfl (by kernel_rfl) (yg_pure (by kernel_rfl) (fun u => by go_simp)) ?_
          simp only [Act.put, List.setIfInBounds_toArray, List.set_cons_zero, List.set_cons_succ]
          refine AnyG.take 5 80 (.int .u32 a) rfl rfl (by kernel_rfl) (yg_held (by kernel_rfl) (fun u hu => by have := c0 u hu; go_simp)) ?_
          simp only [Act.put, List.setIfInBounds_toArray, List.set_cons_zero, List.set_cons_succ]
          refine AnyG.take 6 81 (.int .i64 k) rfl rfl (by kernel_rfl) (yg_pure (by kernel_rfl) (fun u => by go_simp)) ?_
          simp only [Act.put, List.setIfInBounds_toArray, List.set_cons_zero, List.set_cons_succ]
          refine AnyG.take 7 82 (.pointer (some ⟨w.heap.size + 1, k, none⟩)) rfl rfl (by kernel_rfl) (yg_pure (by kernel_rfl) (fun u => by go_simp)) ?_
          simp only [Act.put, List.setIfInBounds_toArray, List.set_cons_zero, List.set_cons_succ]
          refine AnyG.take 8 83 (.int .u32 c) rfl rfl (by kernel_rfl) (yg_held (by kernel_rfl) (fun u hu => by have := c1 u hu; go_simp)) ?_
          simp only [Act.put, List.setIfInBounds_toArray, List.set_cons_zero, List.set_cons_succ]
          refine AnyG.take 9 84 (.int .u32 M) rfl rfl (by kernel_rfl) (yg_pure (by kernel_rfl) (fun u => by rw [← hM]; unfold maxI; split <;> go_simp <;> omega)) ?_
          simp only [Act.put, List.setIfInBounds_toArray, List.set_cons_zero, List.set_cons_succ]
          refine AnyG.take 10 85 (.bool false) rfl rfl (by kernel_rfl) (yg_pure (by kernel_rfl) (fun u => by go_simp)) ?_
          simp only [Act.put, List.setIfInBounds_toArray, List.set_cons_zero, List.set_cons_succ]
          refine AnyG.take 11 86 (.bool false) rfl rfl (by kernel_rfl) (yg_pure (by kernel_rfl) (fun u => by go_simp)) ?_
          simp only [Act.put, List.setIfInBounds_toArray, List.set_cons_zero, List.set_cons_succ]
          refine AnyG.take 12 87 (.int .i64 k) rfl rfl (by kernel_rfl) (yg_pure (by kernel_rfl) (fun u => by go_simp)) ?_
          simp only [Act.put, List.setIfInBounds_toArray, List.set_cons_zero, List.set_cons_succ]
          refine AnyG.take 13 88 (.pointer (some ⟨m, k, none⟩)) rfl rfl (by kernel_rfl) (yg_pure (by kernel_rfl) (fun u => by go_simp)) ?_
          simp only [Act.put, List.setIfInBounds_toArray, List.set_cons_zero, List.set_cons_succ]
          refine AnyG.take 14 89 (.int .u32 I) rfl rfl (by kernel_rfl) (yg_held (by kernel_rfl) (fun u hu => by have := cm u hu; go_simp)) ?_
          simp only [Act.put, List.setIfInBounds_toArray, List.set_cons_zero, List.set_cons_succ]
          refine AnyG.take 15 90 (.int .i64 k) rfl rfl (by kernel_rfl) (yg_pure (by kernel_rfl) (fun u => by go_simp)) ?_
          simp only [Act.put, List.setIfInBounds_toArray, List.set_cons_zero, List.set_cons_succ]
          refine AnyG.take 16 91 (.pointer (some ⟨w.heap.size, k, none⟩)) rfl rfl (by kernel_rfl) (yg_pure (by kernel_rfl) (fun u => by go_simp)) ?_
          simp only [Act.put, List.setIfInBounds_toArray, List.set_cons_zero, List.set_cons_succ]
          refine AnyG.take 17 92 (.int .u32 a) rfl rfl (by kernel_rfl) (yg_held (by kernel_rfl) (fun u hu => by have := c0 u hu; go_simp)) ?_
          simp only [Act.put, List.setIfInBounds_toArray, List.set_cons_zero, List.set_cons_succ]
          refine AnyG.take 18 93 (.int .i64 k) rfl rfl (by kernel_rfl) (yg_pure (by kernel_rfl) (fun u => by go_simp)) ?_
          simp only [Act.put, List.setIfInBounds_toArray, List.set_cons_zero, List.set_cons_succ]
          refine AnyG.take 19 94 (.pointer (some ⟨w.heap.size + 1, k, none⟩)) rfl rfl (by kernel_rfl) (yg_pure (by kernel_rfl) (fun u => by go_simp)) ?_
          simp only [Act.put, List.setIfInBounds_toArray, List.set_cons_zero, List.set_cons_succ]
          refine AnyG.take 20 95 (.int .u32 c) rfl rfl (by kernel_rfl) (yg_held (by kernel_rfl) (fun u hu => by have := c1 u hu; go_simp)) ?_
          simp only [Act.put, List.setIfInBounds_toArray, List.set_cons_zero, List.set_cons_succ]
          refine AnyG.take 21 96 (.int .u32 I) rfl rfl (by kernel_rfl) (yg_pure (by kernel_rfl) (fun u => by rw [← hI]; unfold minI; split <;> go_simp <;> omega)) ?_
          simp only [Act.put, List.setIfInBounds_toArray, List.set_cons_zero, List.set_cons_succ]
          refine AnyG.take 22 97 (.bool false) rfl rfl (by kernel_rfl) (yg_pure (by kernel_rfl) (fun u => by go_simp)) ?_
          simp only [Act.put, List.setIfInBounds_toArray, List.set_cons_zero, List.set_cons_succ]
          refine AnyG.take 23 98 (.bool false) rfl rfl (by kernel_rfl) (yg_pure (by kernel_rfl) (fun u => by go_simp)) ?_
          simp only [Act.put, List.setIfInBounds_toArray, List.set_cons_zero, List.set_cons_succ]
          refine AnyG.take 24 99 (.bool false) rfl rfl (by kernel_rfl) (yg_pure (by kernel_rfl) (fun u => by go_simp)) ?_
          simp only [Act.put, List.setIfInBounds_toArray, List.set_cons_zero, List.set_cons_succ]
          refine AnyG.take 25 100 (.int .i64 k) rfl rfl (by kernel_rfl) (yg_pure (by kernel_rfl) (fun u => by go_simp)) ?_
          simp only [Act.put, List.setIfInBounds_toArray, List.set_cons_zero, List.set_cons_succ]
          refine AnyG.take 26 101 (.pointer (some ⟨n, k, none⟩)) rfl rfl (by kernel_rfl) (yg_pure (by kernel_rfl) (fun u => by go_simp)) ?_
          simp only [Act.put, List.setIfInBounds_toArray, List.set_cons_zero, List.set_cons_succ]
          refine AnyG.take 27 102 (.int .u32 a) rfl rfl (by kernel_rfl) (yg_held (by kernel_rfl) (fun u hu => by have := cn u hu; go_simp)) ?_
          simp only [Act.put, List.setIfInBounds_toArray, List.set_cons_zero, List.set_cons_succ]
          refine AnyG.take 28 103 (.int .u32 a) rfl rfl (by kernel_rfl) (yg_pure (by kernel_rfl) (fun u => by go_simp)) ?_
          simp only [Act.put, List.setIfInBounds_toArray, List.set_cons_zero, List.set_cons_succ]
          refine AnyG.take 29 104 (.bool false) rfl rfl (by kernel_rfl) (yg_pure (by kernel_rfl) (fun u => by go_simp)) ?_
          simp only [Act.put, List.setIfInBounds_toArray, List.set_cons_zero, List.set_cons_succ]
          refine AnyG.take 30 105 (.bool false) rfl rfl (by kernel_rfl) (yg_pure (by kernel_rfl) (fun u => by go_simp)) ?_
          simp only [Act.put, List.setIfInBounds_toArray, List.set_cons_zero, List.set_cons_succ]
          refine AnyG.done (by kernel_rfl) fun z hz => ?_
          replace hB := hz
          clear hz c0 c1 cj cm cn hc hM hI
          go_wp2_with (fail)
          exact ⟨⟨k + 1, by omega, by go_num, hB⟩, by simp [intOf]; omega⟩
      · obtain rfl : k = 8 := by omega
        go_wp2_with (fail)
        go_ret
        exact ⟨rfl, hB.gr⟩
  · go_wp2_with (first
      | (refine load_ck cktC (by kernel_rfl) _ rfl p rfl (f) _ (hB.get mp) ?_)
      | (refine load_ck cktC (by kernel_rfl) _ rfl q rfl (g) _ (hB.get mq) ?_))
    refine (kn_is HK.out _).mono ?_
    rintro _ z ⟨rfl, hg⟩
    replace hB := hB.later hg
    clear hg
    go_wp2_with (first
      | (refine load_ck cktC (by kernel_rfl) _ rfl p rfl (f) _ (hB.get mp) ?_)
      | (refine load_ck cktC (by kernel_rfl) _ rfl q rfl (g) _ (hB.get mq) ?_))
    refine (ah_is HH.out _).mono ?_
    rintro _ z ⟨rfl, hg⟩
    replace hB := hB.later hg
    clear hg
    go_wp2_with (first
      | (refine load_ck cktC (by kernel_rfl) _ rfl p rfl (f) _ (hB.get mp) ?_)
      | (refine load_ck cktC (by kernel_rfl) _ rfl q rfl (g) _ (hB.get mq) ?_))
    refine (ap_is HP.out _).mono ?_
    rintro _ z ⟨rfl, hg⟩
    replace hB := hB.later hg
    clear hg
    clear HK HH HP
    go_wp2_with (fail)
    refine begin_grow 15 [] (Bks w L) (by kernel_rfl) rfl (Bks.stab _ _) (hB.later ((Gr.refl _).drew)) ?_
    refine AnyG.take 0 54 (.agg (ckC f)) rfl rfl (by kernel_rfl) (yg_load cktC (by kernel_rfl) _ rfl p rfl f 25 (fun _ h => h.get mp)) ?_
    simp only [Act.put, List.setIfInBounds_toArray, List.set_cons_zero, List.set_cons_succ]
    refine AnyG.take 1 55 (.agg (ckC g)) rfl rfl (by kernel_rfl) (yg_load cktC (by kernel_rfl) _ rfl q rfl g 25 (fun _ h => h.get mq)) ?_
    simp only [Act.put, List.setIfInBounds_toArray, List.set_cons_zero, List.set_cons_succ]
    refine AnyG.take 2 56 (.agg (ckC (joinF f g))) rfl rfl (by kernel_rfl) (yg_call 12 #[.agg (ckC f), .agg (ckC g)] (by kernel_rfl) (fun _ => by kernel_rfl) (join_calls f g)) ?_
    simp only [Act.put, List.setIfInBounds_toArray, List.set_cons_zero, List.set_cons_succ]
    refine AnyG.take 3 57 (.agg (ckC f)) rfl rfl (by kernel_rfl) (yg_load cktC (by kernel_rfl) _ rfl p rfl f 25 (fun _ h => h.get mp)) ?_
    simp only [Act.put, List.setIfInBounds_toArray, List.set_cons_zero, List.set_cons_succ]
    refine AnyG.take 4 58 (.agg (ckC g)) rfl rfl (by kernel_rfl) (yg_load cktC (by kernel_rfl) _ rfl q rfl g 25 (fun _ h => h.get mq)) ?_
    simp only [Act.put, List.setIfInBounds_toArray, List.set_cons_zero, List.set_cons_succ]
    refine AnyG.take 5 59 (.agg (ckC (meetF f g))) rfl rfl (by kernel_rfl) (yg_call 13 #[.agg (ckC f), .agg (ckC g)] (by kernel_rfl) (fun _ => by kernel_rfl) (meet_calls f g)) ?_
    simp only [Act.put, List.setIfInBounds_toArray, List.set_cons_zero, List.set_cons_succ]
    refine AnyG.take 6 60 (.agg (ckC f)) rfl rfl (by kernel_rfl) (yg_load cktC (by kernel_rfl) _ rfl p rfl f 25 (fun _ h => h.get mp)) ?_
    simp only [Act.put, List.setIfInBounds_toArray, List.set_cons_zero, List.set_cons_succ]
    refine AnyG.take 7 61 (.int .i64 t) rfl rfl (by kernel_rfl) (yg_pure (by kernel_rfl) (fun _ => by kernel_rfl)) ?_
    simp only [Act.put, List.setIfInBounds_toArray, List.set_cons_zero, List.set_cons_succ]
    refine AnyG.take 8 62 (.agg (ckC (tickF f t))) rfl rfl (by kernel_rfl) (yg_call 14 #[.agg (ckC f), .int .i64 t] (by kernel_rfl) (fun _ => by kernel_rfl) (tick_calls f HF.out t)) ?_
    simp only [Act.put, List.setIfInBounds_toArray, List.set_cons_zero, List.set_cons_succ]
    refine AnyG.var3 9 10 11 12 13 14 11 12 13 zeroC (fitsC (joinF f g)) (fitsC (meetF f g)) (fitsC (tickF f t)) (by kernel_rfl) rfl rfl rfl rfl rfl rfl ⟨rfl, rfl, rfl⟩ ⟨rfl, rfl, rfl⟩ ⟨rfl, rfl, rfl⟩ _ _ _ _ _ _ ⟨rfl, rfl, rfl⟩ ⟨rfl, rfl, rfl⟩ ⟨rfl, rfl, rfl⟩ (by decide) (by decide) (fun _ _ _ => rfl) (fun _ _ _ => rfl) (fun _ _ _ => rfl) (fun _ _ _ => rfl) (fun _ _ _ => rfl) (fun _ _ _ => rfl) ?_
    clear hB
    intro j m n b hB
    simp only [Act.put, List.setIfInBounds_toArray, List.set_cons_zero, List.set_cons_succ]
    have mj : (j, 25, ckC (joinF f g)) ∈ (n, 25, ckC (tickF f t)) :: (m, 25, ckC (meetF f g)) :: (j, 25, ckC (joinF f g)) :: L := by simp
    have mm : (m, 25, ckC (meetF f g)) ∈ (n, 25, ckC (tickF f t)) :: (m, 25, ckC (meetF f g)) :: (j, 25, ckC (joinF f g)) :: L := by simp
    have mn : (n, 25, ckC (tickF f t)) ∈ (n, 25, ckC (tickF f t)) :: (m, 25, ckC (meetF f g)) :: (j, 25, ckC (joinF f g)) :: L := by simp
    replace m0 : (w.heap.size, 23, ckC f) ∈ (n, 25, ckC (tickF f t)) :: (m, 25, ckC (meetF f g)) :: (j, 25, ckC (joinF f g)) :: L := by simp [m0]
    replace m1 : (w.heap.size + 1, 23, ckC g) ∈ (n, 25, ckC (tickF f t)) :: (m, 25, ckC (meetF f g)) :: (j, 25, ckC (joinF f g)) :: L := by simp [m1]
    clear mp mq
    generalize (n, 25, ckC (tickF f t)) :: (m, 25, ckC (meetF f g)) :: (j, 25, ckC (joinF f g)) :: L = K at hB mj mm mn m0 m1
    go_wp2_with (fail)
    go_loopw [14] (fun i wr => ∃ k : Nat, k ≤ 8 ∧ i = .int .i64 k ∧ Bks w K wr) (fun i _ => 8 - (intOf i).toNat)
    case atStart => exact ⟨0, by omega, rfl, hB⟩
    case round =>
      clear hB
      obtain ⟨k, hk, rfl, hB⟩ := hrel
      by_cases hlt : k < 8
      · have hlt' : (k : Int) < 8 := by omega
        have c0 : ∀ u, Bks w K u → u.cell? ⟨w.heap.size, k, none⟩ = some (.int .u32 (f k)) := fun u h => (h.get m0).cell (ckC_get f hlt)
        have c1 : ∀ u, Bks w K u → u.cell? ⟨w.heap.size + 1, k, none⟩ = some (.int .u32 (g k)) := fun u h => (h.get m1).cell (ckC_get g hlt)
        have cj : ∀ u, Bks w K u → u.cell? ⟨j, k, none⟩ = some (.int .u32 (maxI (f k) (g k))) := fun u h => (h.get mj).cell (max_at f g hlt)
        have cm : ∀ u, Bks w K u → u.cell? ⟨m, k, none⟩ = some (.int .u32 (minI (f k) (g k))) := fun u h => (h.get mm).cell (min_at f g hlt)
        have cn : ∀ u, Bks w K u → u.cell? ⟨n, k, none⟩ = some (.int .u32 (tickF f t k)) := fun u h => (h.get mn).cell (ckC_get (tickF f t) hlt)
        have hc := c0 _ hB
        by_cases hkt : (k : Int) = t
        · subst hkt
          have hN := tick_here HF.out hlt
          generalize tickF f k k = N at cn hN
          generalize f k = a at c0 cj cm hc hN
          generalize g k = c at c1 cj cm
          have HM : Hid (∃ z, maxI a c = z) := ⟨_, rfl⟩
          have HL : Hid (∃ z, minI a c = z) := ⟨_, rfl⟩
          obtain ⟨M, hM⟩ := HM.out
          obtain ⟨I, hI⟩ := HL.out
          rw [hM] at cj
          rw [hI] at cm
          clear HM HL
          have hw : IntKind.u32.wrap (a + 1) = N := hN.symm
          clear hN
          go_wp2_with (fail)
          refine begin_grow 31 [] (Bks w K) (by kernel_rfl) rfl (Bks.stab _ _) (hB.later ((Gr.refl _).drew)) ?_
          refine AnyG.take 0 75 (.int .i64 k) rfl rfl (by kernel_rfl) (yg_pure (by kernel_rfl) (fun u => by go_simp)) ?_
          simp only [Act.put, List.setIfInBounds_toArray, List.set_cons_zero, List.set_cons_succ]
          refine AnyG.take 1 76 (.pointer (some ⟨j, k, none⟩)) rfl rfl (by kernel_rfl) (yg_pure (by kernel_rfl) (fun u => by go_simp)) ?_
          simp only [Act.put, List.setIfInBounds_toArray, List.set_cons_zero, List.set_cons_succ]
          refine AnyG.take 2 77 (.int .u32 M) rfl rfl (by kernel_rfl) (yg_held (by kernel_rfl) (fun u hu => by have := cj u hu; go_simp)) ?_
          simp only [Act.put, List.setIfInBounds_toArray, List.set_cons_zero, List.set_cons_succ]
          refine AnyG.take 3 78 (.int .i64 k) rfl rfl (by kernel_rfl) (yg_pure (by kernel_rfl) (fun u => by go_simp)) ?_
          simp only [Act.put, List.setIfInBounds_toArray, List.set_cons_zero, List.set_cons_succ]
          refine AnyG.take 4 79 (.pointer (some ⟨w.heap.size, k, none⟩)) rfl rfl (by kernel_rfl) (yg_pure (by kernel_rfl) (fun u => by go_simp)) ?_
          simp only [Act.put, List.setIfInBounds_toArray, List.set_cons_zero, List.set_cons_succ]
          refine AnyG.take 5 80 (.int .u32 a) rfl rfl (by kernel_rfl) (yg_held (by kernel_rfl) (fun u hu => by have := c0 u hu; go_simp)) ?_
          simp only [Act.put, List.setIfInBounds_toArray, List.set_cons_zero, List.set_cons_succ]
          refine AnyG.take 6 81 (.int .i64 k) rfl rfl (by kernel_rfl) (yg_pure (by kernel_rfl) (fun u => by go_simp)) ?_
          simp only [Act.put, List.setIfInBounds_toArray, List.set_cons_zero, List.set_cons_succ]
          refine AnyG.take 7 82 (.pointer (some ⟨w.heap.size + 1, k, none⟩)) rfl rfl (by kernel_rfl) (yg_pure (by kernel_rfl) (fun u => by go_simp)) ?_
          simp only [Act.put, List.setIfInBounds_toArray, List.set_cons_zero, List.set_cons_succ]
          refine AnyG.take 8 83 (.int .u32 c) rfl rfl (by kernel_rfl) (yg_held (by kernel_rfl) (fun u hu => by have := c1 u hu; go_simp)) ?_
          simp only [Act.put, List.setIfInBounds_toArray, List.set_cons_zero, List.set_cons_succ]
          refine AnyG.take 9 84 (.int .u32 M) rfl rfl (by kernel_rfl) (yg_pure (by kernel_rfl) (fun u => by rw [← hM]; unfold maxI; split <;> go_simp <;> omega)) ?_
          simp only [Act.put, List.setIfInBounds_toArray, List.set_cons_zero, List.set_cons_succ]
          refine AnyG.take 10 85 (.bool false) rfl rfl (by kernel_rfl) (yg_pure (by kernel_rfl) (fun u => by go_simp)) ?_
          simp only [Act.put, List.setIfInBounds_toArray, List.set_cons_zero, List.set_cons_succ]
          refine AnyG.take 11 86 (.bool false) rfl rfl (by kernel_rfl) (yg_pure (by kernel_rfl) (fun u => by go_simp)) ?_
          simp only [Act.put, List.setIfInBounds_toArray, List.set_cons_zero, List.set_cons_succ]
          refine AnyG.take 12 87 (.int .i64 k) rfl rfl (by kernel_rfl) (yg_pure (by kernel_rfl) (fun u => by go_simp)) ?_
          simp only [Act.put, List.setIfInBounds_toArray, List.set_cons_zero, List.set_cons_succ]
          refine AnyG.take 13 88 (.pointer (some ⟨m, k, none⟩)) rfl rfl (by kernel_rfl) (yg_pure (by kernel_rfl) (fun u => by go_simp)) ?_
          simp only [Act.put, List.setIfInBounds_toArray, List.set_cons_zero, List.set_cons_succ]
          refine AnyG.take 14 89 (.int .u32 I) rfl rfl (by kernel_rfl) (yg_held (by kernel_rfl) (fun u hu => by have := cm u hu; go_simp)) ?_
          simp only [Act.put, List.setIfInBounds_toArray, List.set_cons_zero, List.set_cons_succ]
          refine AnyG.take 15 90 (.int .i64 k) rfl rfl (by kernel_rfl) (yg_pure (by kernel_rfl) (fun u => by go_simp)) ?_
          simp only [Act.put, List.setIfInBounds_toArray, List.set_cons_zero, List.set_cons_succ]
          refine AnyG.take 16 91 (.pointer (some ⟨w.heap.size, k, none⟩)) rfl rfl (by kernel_rfl) (yg_pure (by kernel_rfl) (fun u => by go_simp)) ?_
          simp only [Act.put, List.setIfInBounds_toArray, List.set_cons_zero, List.set_cons_succ]
          refine AnyG.take 17 92 (.int .u32 a) rfl rfl (by kernel_rfl) (yg_held (by kernel_rfl) (fun u hu => by have := c0 u hu; go_simp)) ?_
          simp only [Act.put, List.setIfInBounds_toArray, List.set_cons_zero, List.set_cons_succ]
          refine AnyG.take 18 93 (.int .i64 k) rfl rfl (by kernel_rfl) (yg_pure (by kernel_rfl) (fun u => by go_simp)) ?_
          simp only [Act.put, List.setIfInBounds_toArray, List.set_cons_zero, List.set_cons_succ]
          refine AnyG.take 19 94 (.pointer (some ⟨w.heap.size + 1, k, none⟩)) rfl rfl (by kernel_rfl) (yg_pure (by kernel_rfl) (fun u => by go_simp)) ?_
          simp only [Act.put, List.setIfInBounds_toArray, List.set_cons_zero, List.set_cons_succ]
          refine AnyG.take 20 95 (.int .u32 c) rfl rfl (by kernel_rfl) (yg_held (by kernel_rfl) (fun u hu => by have := c1 u hu; go_simp)) ?_
          simp only [Act.put, List.setIfInBounds_toArray, List.set_cons_zero, List.set_cons_succ]
          refine AnyG.take 21 96 (.int .u32 I) rfl rfl (by kernel_rfl) (yg_pure (by kernel_rfl) (fun u => by rw [← hI]; unfold minI; split <;> go_simp <;> omega)) ?_
          simp only [Act.put, List.setIfInBounds_toArray, List.set_cons_zero, List.set_cons_succ]
          refine AnyG.take 22 97 (.bool false) rfl rfl (by kernel_rfl) (yg_pure (by kernel_rfl) (fun u => by go_simp)) ?_
          simp only [Act.put, List.setIfInBounds_toArray, List.set_cons_zero, List.set_cons_succ]
          refine AnyG.take 23 98 (.bool false) rfl rfl (by kernel_rfl) (yg_pure (by kernel_rfl) (fun u => by go_simp)) ?_
          simp only [Act.put, List.setIfInBounds_toArray, List.set_cons_zero, List.set_cons_succ]
          refine AnyG.take 24 99 (.bool false) rfl rfl (by kernel_rfl) (yg_pure (by kernel_rfl) (fun u => by go_simp)) ?_
          simp only [Act.put, List.setIfInBounds_toArray, List.set_cons_zero, List.set_cons_succ]
          refine AnyG.take 25 100 (.int .i64 k) rfl rfl (by kernel_rfl) (yg_pure (by kernel_rfl) (fun u => by go_simp)) ?_
          simp only [Act.put, List.setIfInBounds_toArray, List.set_cons_zero, List.set_cons_succ]
          refine AnyG.take 26 101 (.pointer (some ⟨n, k, none⟩)) rfl rfl (by kernel_rfl) (yg_pure (by kernel_rfl) (fun u => by go_simp)) ?_
          simp only [Act.put, List.setIfInBounds_toArray, List.set_cons_zero, List.set_cons_succ]
          refine AnyG.take 27 102 (.int .u32 N) rfl rfl (by kernel_rfl) (yg_held (by kernel_rfl) (fun u hu => by have := cn u hu; go_simp)) ?_
          simp only [Act.put, List.setIfInBounds_toArray, List.set_cons_zero, List.set_cons_succ]
          refine AnyG.take 28 103 (.int .u32 N) rfl rfl (by kernel_rfl) (yg_pure (by kernel_rfl) (fun u => by go_simp)) ?_
          simp only [Act.put, List.setIfInBounds_toArray, List.set_cons_zero, List.set_cons_succ]
          refine AnyG.take 29 104 (.bool false) rfl rfl (by kernel_rfl) (yg_pure (by kernel_rfl) (fun u => by go_simp)) ?_
          simp only [Act.put, List.setIfInBounds_toArray, List.set_cons_zero, List.set_cons_succ]
          refine AnyG.take 30 105 (.bool false) rfl rfl (by kernel_rfl) (yg_pure (by kernel_rfl) (fun u => by go_simp)) ?_
          simp only [Act.put, List.setIfInBounds_toArray, List.set_cons_zero, List.set_cons_succ]
          refine AnyG.done (by kernel_rfl) fun z hz => ?_
          replace hB := hz
          clear hz c0 c1 cj cm cn hc hM hI
          go_wp2_with (fail)
          exact ⟨⟨k + 1, by omega, by go_num, hB⟩, by simp [intOf]; omega⟩
        · have hN := tick_aside f hkt
          generalize tickF f t k = N at cn hN
          subst hN
          generalize f k = a at c0 cj cm hc cn
          generalize g k = c at c1 cj cm
          have HM : Hid (∃ z, maxI a c = z) := ⟨_, rfl⟩
          have HL : Hid (∃ z, minI a c = z) := ⟨_, rfl⟩
          obtain ⟨M, hM⟩ := HM.out
          obtain ⟨I, hI⟩ := HL.out
          rw [hM] at cj
          rw [hI] at cm
          clear HM HL
          go_wp2_with (fail)
          refine begin_grow 31 [] (Bks w K) (by kernel_rfl) rfl (Bks.stab _ _) (hB.later ((Gr.refl _).drew)) ?_
          refine AnyG.take 0 75 (.int .i64 k) rfl rfl (by kernel_rfl) (yg_pure (by kernel_rfl) (fun u => by go_simp)) ?_
          simp only [Act.put, List.setIfInBounds_toArray, List.set_cons_zero, List.set_cons_succ]
          refine AnyG.take 1 76 (.pointer (some ⟨j, k, none⟩)) rfl rfl (by kernel_rfl) (yg_pure (by kernel_rfl) (fun u => by go_simp)) ?_
          simp only [Act.put, List.setIfInBounds_toArray, List.set_cons_zero, List.set_cons_succ]
          refine AnyG.take 2 77 (.int .u32 M) rfl rfl (by kernel_rfl) (yg_held (by kernel_rfl) (fun u hu => by have := cj u hu; go_simp)) ?_
          simp only [Act.put, List.setIfInBounds_toArray, List.set_cons_zero, List.set_cons_succ]
          refine AnyG.take 3 78 (.int .i64 k) rfl rfl (by kernel_rfl) (yg_pure (by kernel_rfl) (fun u => by go_simp)) ?_
          simp only [Act.put, List.setIfInBounds_toArray, List.set_cons_zero, List.set_cons_succ]
          refine AnyG.take 4 79 (.pointer (some ⟨w.heap.size, k, none⟩)) rfl rfl (by kernel_rfl) (yg_pure (by kernel_rfl) (fun u => by go_simp)) ?_
          simp only [Act.put, List.setIfInBounds_toArray, List.set_cons_zero, List.set_cons_succ]
          refine AnyG.take 5 80 (.int .u32 a) rfl rfl (by kernel_rfl) (yg_held (by kernel_rfl) (fun u hu => by have := c0 u hu; go_simp)) ?_
          simp only [Act.put, List.setIfInBounds_toArray, List.set_cons_zero, List.set_cons_succ]
          refine AnyG.take 6 81 (.int .i64 k) rfl rfl (by kernel_rfl) (yg_pure (by kernel_rfl) (fun u => by go_simp)) ?_
          simp only [Act.put, List.setIfInBounds_toArray, List.set_cons_zero, List.set_cons_succ]
          refine AnyG.take 7 82 (.pointer (some ⟨w.heap.size + 1, k, none⟩)) rfl rfl (by kernel_rfl) (yg_pure (by kernel_rfl) (fun u => by go_simp)) ?_
          simp only [Act.put, List.setIfInBounds_toArray, List.set_cons_zero, List.set_cons_succ]
          refine AnyG.take 8 83 (.int .u32 c) rfl rfl (by kernel_rfl) (yg_held (by kernel_rfl) (fun u hu => by have := c1 u hu; go_simp)) ?_
          simp only [Act.put, List.setIfInBounds_toArray, List.set_cons_zero, List.set_cons_succ]
          refine AnyG.take 9 84 (.int .u32 M) rfl rfl (by kernel_rfl) (yg_pure (by kernel_rfl) (fun u => by rw [← hM]; unfold maxI; split <;> go_simp <;> omega)) ?_
          simp only [Act.put, List.setIfInBounds_toArray, List.set_cons_zero, List.set_cons_succ]
          refine AnyG.take 10 85 (.bool false) rfl rfl (by kernel_rfl) (yg_pure (by kernel_rfl) (fun u => by go_simp)) ?_
          simp only [Act.put, List.setIfInBounds_toArray, List.set_cons_zero, List.set_cons_succ]
          refine AnyG.take 11 86 (.bool false) rfl rfl (by kernel_rfl) (yg_pure (by kernel_rfl) (fun u => by go_simp)) ?_
          simp only [Act.put, List.setIfInBounds_toArray, List.set_cons_zero, List.set_cons_succ]
          refine AnyG.take 12 87 (.int .i64 k) rfl rfl (by kernel_rfl) (yg_pure (by kernel_rfl) (fun u => by go_simp)) ?_
          simp only [Act.put, List.setIfInBounds_toArray, List.set_cons_zero, List.set_cons_succ]
          refine AnyG.take 13 88 (.pointer (some ⟨m, k, none⟩)) rfl rfl (by kernel_rfl) (yg_pure (by kernel_rfl) (fun u => by go_simp)) ?_
          simp only [Act.put, List.setIfInBounds_toArray, List.set_cons_zero, List.set_cons_succ]
          refine AnyG.take 14 89 (.int .u32 I) rfl rfl (by kernel_rfl) (yg_held (by kernel_rfl) (fun u hu => by have := cm u hu; go_simp)) ?_
          simp only [Act.put, List.setIfInBounds_toArray, List.set_cons_zero, List.set_cons_succ]
          refine AnyG.take 15 90 (.int .i64 k) rfl rfl (by kernel_rfl) (yg_pure (by kernel_rfl) (fun u => by go_simp)) ?_
          simp only [Act.put, List.setIfInBounds_toArray, List.set_cons_zero, List.set_cons_succ]
          refine AnyG.take 16 91 (.pointer (some ⟨w.heap.size, k, none⟩)) rfl rfl (by kernel_rfl) (yg_pure (by kernel_rfl) (fun u => by go_simp)) ?_
          simp only [Act.put, List.setIfInBounds_toArray, List.set_cons_zero, List.set_cons_succ]
          refine AnyG.take 17 92 (.int .u32 a) rfl rfl (by kernel_rfl) (yg_held (by kernel_rfl) (fun u hu => by have := c0 u hu; go_simp)) ?_
          simp only [Act.put, List.setIfInBounds_toArray, List.set_cons_zero, List.set_cons_succ]
          refine AnyG.take 18 93 (.int .i64 k) rfl rfl (by kernel_rfl) (yg_pure (by kernel_rfl) (fun u => by go_simp)) ?_
          simp only [Act.put, List.setIfInBounds_toArray, List.set_cons_zero, List.set_cons_succ]
          refine AnyG.take 19 94 (.pointer (some ⟨w.heap.size + 1, k, none⟩)) rfl rfl (by kernel_rfl) (yg_pure (by kernel_rfl) (fun u => by go_simp)) ?_
          simp only [Act.put, List.setIfInBounds_toArray, List.set_cons_zero, List.set_cons_succ]
          refine AnyG.take 20 95 (.int .u32 c) rfl rfl (by kernel_rfl) (yg_held (by kernel_rfl) (fun u hu => by have := c1 u hu; go_simp)) ?_
          simp only [Act.put, List.setIfInBounds_toArray, List.set_cons_zero, List.set_cons_succ]
          refine AnyG.take 21 96 (.int .u32 I) rfl rfl (by kernel_rfl) (yg_pure (by kernel_rfl) (fun u => by rw [← hI]; unfold minI; split <;> go_simp <;> omega)) ?_
          simp only [Act.put, List.setIfInBounds_toArray, List.set_cons_zero, List.set_cons_succ]
          refine AnyG.take 22 97 (.bool false) rfl rfl (by kernel_rfl) (yg_pure (by kernel_rfl) (fun u => by go_simp)) ?_
          simp only [Act.put, List.setIfInBounds_toArray, List.set_cons_zero, List.set_cons_succ]
          refine AnyG.take 23 98 (.bool false) rfl rfl (by kernel_rfl) (yg_pure (by kernel_rfl) (fun u => by go_simp)) ?_
          simp only [Act.put, List.setIfInBounds_toArray, List.set_cons_zero, List.set_cons_succ]
          refine AnyG.take 24 99 (.bool false) rfl rfl (by kernel_rfl) (yg_pure (by kernel_rfl) (fun u => by go_simp)) ?_
          simp only [Act.put, List.setIfInBounds_toArray, List.set_cons_zero, List.set_cons_succ]
          refine AnyG.take 25 100 (.int .i64 k) rfl rfl (by kernel_rfl) (yg_pure (by kernel_rfl) (fun u => by go_simp)) ?_
          simp only [Act.put, List.setIfInBounds_toArray, List.set_cons_zero, List.set_cons_succ]
          refine AnyG.take 26 101 (.pointer (some ⟨n, k, none⟩)) rfl rfl (by kernel_rfl) (yg_pure (by kernel_rfl) (fun u => by go_simp)) ?_
          simp only [Act.put, List.setIfInBounds_toArray, List.set_cons_zero, List.set_cons_succ]
          refine AnyG.take 27 102 (.int .u32 a) rfl rfl (by kernel_rfl) (yg_held (by kernel_rfl) (fun u hu => by have := cn u hu; go_simp)) ?_
          simp only [Act.put, List.setIfInBounds_toArray, List.set_cons_zero, List.set_cons_succ]
          refine AnyG.take 28 103 (.int .u32 a) rfl rfl (by kernel_rfl) (yg_pure (by kernel_rfl) (fun u => by go_simp)) ?_
          simp only [Act.put, List.setIfInBounds_toArray, List.set_cons_zero, List.set_cons_succ]
          refine AnyG.take 29 104 (.bool false) rfl rfl (by kernel_rfl) (yg_pure (by kernel_rfl) (fun u => by go_simp)) ?_
          simp only [Act.put, List.setIfInBounds_toArray, List.set_cons_zero, List.set_cons_succ]
          refine AnyG.take 30 105 (.bool false) rfl rfl (by kernel_rfl) (yg_pure (by kernel_rfl) (fun u => by go_simp)) ?_
          simp only [Act.put, List.setIfInBounds_toArray, List.set_cons_zero, List.set_cons_succ]
          refine AnyG.done (by kernel_rfl) fun z hz => ?_
          replace hB := hz
          clear hz c0 c1 cj cm cn hc hM hI
          go_wp2_with (fail)
          exact ⟨⟨k + 1, by omega, by go_num, hB⟩, by simp [intOf]; omega⟩
      · obtain rfl : k = 8 := by omega
        go_wp2_with (fail)
        go_ret
        exact ⟨rfl, hB.gr⟩
  · go_wp2_with (first
      | (refine load_ck cktC (by kernel_rfl) _ rfl p rfl (f) _ (hB.get mp) ?_)
      | (refine load_ck cktC (by kernel_rfl) _ rfl q rfl (g) _ (hB.get mq) ?_))
    refine (kn_is HK.out _).mono ?_
    rintro _ z ⟨rfl, hg⟩
    replace hB := hB.later hg
    clear hg
    go_wp2_with (first
      | (refine load_ck cktC (by kernel_rfl) _ rfl p rfl (f) _ (hB.get mp) ?_)
      | (refine load_ck cktC (by kernel_rfl) _ rfl q rfl (g) _ (hB.get mq) ?_))
    refine (ah_is HH.out _).mono ?_
    rintro _ z ⟨rfl, hg⟩
    replace hB := hB.later hg
    clear hg
    go_wp2_with (first
      | (refine load_ck cktC (by kernel_rfl) _ rfl p rfl (f) _ (hB.get mp) ?_)
      | (refine load_ck cktC (by kernel_rfl) _ rfl q rfl (g) _ (hB.get mq) ?_))
    refine (ap_is HP.out _).mono ?_
    rintro _ z ⟨rfl, hg⟩
    replace hB := hB.later hg
    clear hg
    clear HK HH HP
    go_wp2_with (fail)
    refine begin_grow 15 [] (Bks w L) (by kernel_rfl) rfl (Bks.stab _ _) (hB.later ((Gr.refl _).drew)) ?_
    refine AnyG.take 0 54 (.agg (ckC f)) rfl rfl (by kernel_rfl) (yg_load cktC (by kernel_rfl) _ rfl p rfl f 25 (fun _ h => h.get mp)) ?_
    simp only [Act.put, List.setIfInBounds_toArray, List.set_cons_zero, List.set_cons_succ]
    refine AnyG.take 1 55 (.agg (ckC g)) rfl rfl (by kernel_rfl) (yg_load cktC (by kernel_rfl) _ rfl q rfl g 25 (fun _ h => h.get mq)) ?_
    simp only [Act.put, List.setIfInBounds_toArray, List.set_cons_zero, List.set_cons_succ]
    refine AnyG.take 2 56 (.agg (ckC (joinF f g))) rfl rfl (by kernel_rfl) (yg_call 12 #[.agg (ckC f), .agg (ckC g)] (by kernel_rfl) (fun _ => by kernel_rfl) (join_calls f g)) ?_
    simp only [Act.put, List.setIfInBounds_toArray, List.set_cons_zero, List.set_cons_succ]
    refine AnyG.take 3 57 (.agg (ckC f)) rfl rfl (by kernel_rfl) (yg_load cktC (by kernel_rfl) _ rfl p rfl f 25 (fun _ h => h.get mp)) ?_
    simp only [Act.put, List.setIfInBounds_toArray, List.set_cons_zero, List.set_cons_succ]
    refine AnyG.take 4 58 (.agg (ckC g)) rfl rfl (by kernel_rfl) (yg_load cktC (by kernel_rfl) _ rfl q rfl g 25 (fun _ h => h.get mq)) ?_
    simp only [Act.put, List.setIfInBounds_toArray, List.set_cons_zero, List.set_cons_succ]
    refine AnyG.take 5 59 (.agg (ckC (meetF f g))) rfl rfl (by kernel_rfl) (yg_call 13 #[.agg (ckC f), .agg (ckC g)] (by kernel_rfl) (fun _ => by kernel_rfl) (meet_calls f g)) ?_
    simp only [Act.put, List.setIfInBounds_toArray, List.set_cons_zero, List.set_cons_succ]
    refine AnyG.take 6 60 (.agg (ckC f)) rfl rfl (by kernel_rfl) (yg_load cktC (by kernel_rfl) _ rfl p rfl f 25 (fun _ h => h.get mp)) ?_
    simp only [Act.put, List.setIfInBounds_toArray, List.set_cons_zero, List.set_cons_succ]
    refine AnyG.take 7 61 (.int .i64 t) rfl rfl (by kernel_rfl) (yg_pure (by kernel_rfl) (fun _ => by kernel_rfl)) ?_
    simp only [Act.put, List.setIfInBounds_toArray, List.set_cons_zero, List.set_cons_succ]
    refine AnyG.take 8 62 (.agg (ckC (tickF f t))) rfl rfl (by kernel_rfl) (yg_call 14 #[.agg (ckC f), .int .i64 t] (by kernel_rfl) (fun _ => by kernel_rfl) (tick_calls f HF.out t)) ?_
    simp only [Act.put, List.setIfInBounds_toArray, List.set_cons_zero, List.set_cons_succ]
    refine AnyG.var3 9 10 11 12 13 14 11 12 13 zeroC (fitsC (joinF f g)) (fitsC (meetF f g)) (fitsC (tickF f t)) (by kernel_rfl) rfl rfl rfl rfl rfl rfl ⟨rfl, rfl, rfl⟩ ⟨rfl, rfl, rfl⟩ ⟨rfl, rfl, rfl⟩ _ _ _ _ _ _ ⟨rfl, rfl, rfl⟩ ⟨rfl, rfl, rfl⟩ ⟨rfl, rfl, rfl⟩ (by decide) (by decide) (fun _ _ _ => rfl) (fun _ _ _ => rfl) (fun _ _ _ => rfl) (fun _ _ _ => rfl) (fun _ _ _ => rfl) (fun _ _ _ => rfl) ?_
    clear hB
    intro j m n b hB
    simp only [Act.put, List.setIfInBounds_toArray, List.set_cons_zero, List.set_cons_succ]
    have mj : (j, 25, ckC (joinF f g)) ∈ (n, 25, ckC (tickF f t)) :: (m, 25, ckC (meetF f g)) :: (j, 25, ckC (joinF f g)) :: L := by simp
    have mm : (m, 25, ckC (meetF f g)) ∈ (n, 25, ckC (tickF f t)) :: (m, 25, ckC (meetF f g)) :: (j, 25, ckC (joinF f g)) :: L := by simp
    have mn : (n, 25, ckC (tickF f t)) ∈ (n, 25, ckC (tickF f t)) :: (m, 25, ckC (meetF f g)) :: (j, 25, ckC (joinF f g)) :: L := by simp
    replace m0 : (w.heap.size, 23, ckC f) ∈ (n, 25, ckC (tickF f t)) :: (m, 25, ckC (meetF f g)) :: (j, 25, ckC (joinF f g)) :: L := by simp [m0]
    replace m1 : (w.heap.size + 1, 23, ckC g) ∈ (n, 25, ckC (tickF f t)) :: (m, 25, ckC (meetF f g)) :: (j, 25, ckC (joinF f g)) :: L := by simp [m1]
    clear mp mq
    generalize (n, 25, ckC (tickF f t)) :: (m, 25, ckC (meetF f g)) :: (j, 25, ckC (joinF f g)) :: L = K at hB mj mm mn m0 m1
    go_wp2_with (fail)
    go_loopw [14] (fun i wr => ∃ k : Nat, k ≤ 8 ∧ i = .int .i64 k ∧ Bks w K wr) (fun i _ => 8 - (intOf i).toNat)
    case atStart => exact ⟨0, by omega, rfl, hB⟩
    case round =>
      clear hB
      obtain ⟨k, hk, rfl, hB⟩ := hrel
      by_cases hlt : k < 8
      · have hlt' : (k : Int) < 8 := by omega
        have c0 : ∀ u, Bks w K u → u.cell? ⟨w.heap.size, k, none⟩ = some (.int .u32 (f k)) := fun u h => (h.get m0).cell (ckC_get f hlt)
        have c1 : ∀ u, Bks w K u → u.cell? ⟨w.heap.size + 1, k, none⟩ = some (.int .u32 (g k)) := fun u h => (h.get m1).cell (ckC_get g hlt)
        have cj : ∀ u, Bks w K u → u.cell? ⟨j, k, none⟩ = some (.int .u32 (maxI (f k) (g k))) := fun u h => (h.get mj).cell (max_at f g hlt)
        have cm : ∀ u, Bks w K u → u.cell? ⟨m, k, none⟩ = some (.int .u32 (minI (f k) (g k))) := fun u h => (h.get mm).cell (min_at f g hlt)
        have cn : ∀ u, Bks w K u → u.cell? ⟨n, k, none⟩ = some (.int .u32 (tickF f t k)) := fun u h => (h.get mn).cell (ckC_get (tickF f t) hlt)
        have hc := c0 _ hB
        by_cases hkt : (k : Int) = t
        · subst hkt
          have hN := tick_here HF.out hlt
          generalize tickF f k k = N at cn hN
          generalize f k = a at c0 cj cm hc hN
          generalize g k = c at c1 cj cm
          have HM : Hid (∃ z, maxI a c = z) := ⟨_, rfl⟩
          have HL : Hid (∃ z, minI a c = z) := ⟨_, rfl⟩
          obtain ⟨M, hM⟩ := HM.out
          obtain ⟨I, hI⟩ := HL.out
          rw [hM] at cj
          rw [hI] at cm
          clear HM HL
          have hw : IntKind.u32.wrap (a + 1) = N := hN.symm
          clear hN
          go_wp2_with (fail)
          refine begin_grow 31 [] (Bks w K) (by kernel_rfl) rfl (Bks.stab _ _) (hB.later ((Gr.refl _).drew)) ?_
          refine AnyG.take 0 75 (.int .i64 k) rfl rfl (by kernel_rfl) (yg_pure (by kernel_rfl) (fun u => by go_simp)) ?_
          simp only [Act.put, List.setIfInBounds_toArray, List.set_cons_zero, List.set_cons_succ]
          refine AnyG.take 1 76 (.pointer (some ⟨j, k, none⟩)) rfl rfl (by kernel_rfl) (yg_pure (by kernel_rfl) (fun u => by go_simp)) ?_
          simp only [Act.put, List.setIfInBounds_toArray, List.set_cons_zero, List.set_cons_succ]
          refine AnyG.take 2 77 (.int .u32 M) rfl rfl (by kernel_rfl) (yg_held (by kernel_rfl) (fun u hu => by have := cj u hu; go_simp)) ?_
          simp only [Act.put, List.setIfInBounds_toArray, List.set_cons_zero, List.set_cons_succ]
          refine AnyG.take 3 78 (.int .i64 k) rfl rfl (by kernel_rfl) (yg_pure (by kernel_rfl) (fun u => by go_simp)) ?_
          simp only [Act.put, List.setIfInBounds_toArray, List.set_cons_zero, List.set_cons_succ]
          refine AnyG.take 4 79 (.pointer (some ⟨w.heap.size, k, none⟩)) rfl rfl (by kernel_rfl) (yg_pure (by kernel_rfl) (fun u => by go_simp)) ?_
          simp only [Act.put, List.setIfInBounds_toArray, List.set_cons_zero, List.set_cons_succ]
          refine AnyG.take 5 80 (.int .u32 a) rfl rfl (by kernel_rfl) (yg_held (by kernel_rfl) (fun u hu => by have := c0 u hu; go_simp)) ?_
          simp only [Act.put, List.setIfInBounds_toArray, List.set_cons_zero, List.set_cons_succ]
          refine AnyG.take 6 81 (.int .i64 k) rfl rfl (by kernel_rfl) (yg_pure (by kernel_rfl) (fun u => by go_simp)) ?_
          simp only [Act.put, List.setIfInBounds_toArray, List.set_cons_zero, List.set_cons_succ]
          refine AnyG.take 7 82 (.pointer (some ⟨w.heap.size + 1, k, none⟩)) rfl rfl (by kernel_rfl) (yg_pure (by kernel_rfl) (fun u => by go_simp)) ?_
          simp only [Act.put, List.setIfInBounds_toArray, List.set_cons_zero, List.set_cons_succ]
          refine AnyG.take 8 83 (.int .u32 c) rfl rfl (by kernel_rfl) (yg_held (by kernel_rfl) (fun u hu => by have := c1 u hu; go_simp)) ?_
          simp only [Act.put, List.setIfInBounds_toArray, List.set_cons_zero, List.set_cons_succ]
          refine AnyG.take 9 84 (.int .u32 M) rfl rfl (by kernel_rfl) (yg_pure (by kernel_rfl) (fun u => by rw [← hM]; unfold maxI; split <;> go_simp <;> omega)) ?_
          simp only [Act.put, List.setIfInBounds_toArray, List.set_cons_zero, List.set_cons_succ]
          refine AnyG.take 10 85 (.bool false) rfl rfl (by kernel_rfl) (yg_pure (by kernel_rfl) (fun u => by go_simp)) ?_
          simp only [Act.put, List.setIfInBounds_toArray, List.set_cons_zero, List.set_cons_succ]
          refine AnyG.take 11 86 (.bool false) rfl rfl (by kernel_rfl) (yg_pure (by kernel_rfl) (fun u => by go_simp)) ?_
          simp only [Act.put, List.setIfInBounds_toArray, List.set_cons_zero, List.set_cons_succ]
          refine AnyG.take 12 87 (.int .i64 k) rfl rfl (by kernel_rfl) (yg_pure (by kernel_rfl) (fun u => by go_simp)) ?_
          simp only [Act.put, List.setIfInBounds_toArray, List.set_cons_zero, List.set_cons_succ]
          refine AnyG.take 13 88 (.pointer (some ⟨m, k, none⟩)) rfl rfl (by kernel_rfl) (yg_pure (by kernel_rfl) (fun u => by go_simp)) ?_
          simp only [Act.put, List.setIfInBounds_toArray, List.set_cons_zero, List.set_cons_succ]
          refine AnyG.take 14 89 (.int .u32 I) rfl rfl (by kernel_rfl) (yg_held (by kernel_rfl) (fun u hu => by have := cm u hu; go_simp)) ?_
          simp only [Act.put, List.setIfInBounds_toArray, List.set_cons_zero, List.set_cons_succ]
          refine AnyG.take 15 90 (.int .i64 k) rfl rfl (by kernel_rfl) (yg_pure (by kernel_rfl) (fun u => by go_simp)) ?_
          simp only [Act.put, List.setIfInBounds_toArray, List.set_cons_zero, List.set_cons_succ]
          refine AnyG.take 16 91 (.pointer (some ⟨w.heap.size, k, none⟩)) rfl rfl (by kernel_rfl) (yg_pure (by kernel_rfl) (fun u => by go_simp)) ?_
          simp only [Act.put, List.setIfInBounds_toArray, List.set_cons_zero, List.set_cons_succ]
          refine AnyG.take 17 92 (.int .u32 a) rfl rfl (by kernel_rfl) (yg_held (by kernel_rfl) (fun u hu => by have := c0 u hu; go_simp)) ?_
          simp only [Act.put, List.setIfInBounds_toArray, List.set_cons_zero, List.set_cons_succ]
          refine AnyG.take 18 93 (.int .i64 k) rfl rfl (by kernel_rfl) (yg_pure (by kernel_rfl) (fun u => by go_simp)) ?_
          simp only [Act.put, List.setIfInBounds_toArray, List.set_cons_zero, List.set_cons_succ]
          refine AnyG.take 19 94 (.pointer (some ⟨w.heap.size + 1, k, none⟩)) rfl rfl (by kernel_rfl) (yg_pure (by kernel_rfl) (fun u => by go_simp)) ?_
          simp only [Act.put, List.setIfInBounds_toArray, List.set_cons_zero, List.set_cons_succ]
          refine AnyG.take 20 95 (.int .u32 c) rfl rfl (by kernel_rfl) (yg_held (by kernel_rfl) (fun u hu => by have := c1 u hu; go_simp)) ?_
          simp only [Act.put, List.setIfInBounds_toArray, List.set_cons_zero, List.set_cons_succ]
          refine AnyG.take 21 96 (.int .u32 I) rfl rfl (by kernel_rfl) (yg_pure (by kernel_rfl) (fun u => by rw [← hI]; unfold minI; split <;> go_simp <;> omega)) ?_
          simp only [Act.put, List.setIfInBounds_toArray, List.set_cons_zero, List.set_cons_succ]
          refine AnyG.take 22 97 (.bool false) rfl rfl (by kernel_rfl) (yg_pure (by kernel_rfl) (fun u => by go_simp)) ?_
          simp only [Act.put, List.setIfInBounds_toArray, List.set_cons_zero, List.set_cons_succ]
          refine AnyG.take 23 98 (.bool false) rfl rfl (by kernel_rfl) (yg_pure (by kernel_rfl) (fun u => by go_simp)) ?_
          simp only [Act.put, List.setIfInBounds_toArray, List.set_cons_zero, List.set_cons_succ]
          refine AnyG.take 24 99 (.bool false) rfl rfl (by kernel_rfl) (yg_pure (by kernel_rfl) (fun u => by go_simp)) ?_
          simp only [Act.put, List.setIfInBounds_toArray, List.set_cons_zero, List.set_cons_succ]
          refine AnyG.take 25 100 (.int .i64 k) rfl rfl (by kernel_rfl) (yg_pure (by kernel_rfl) (fun u => by go_simp)) ?_
          simp only [Act.put, List.setIfInBounds_toArray, List.set_cons_zero, List.set_cons_succ]
          refine AnyG.take 26 101 (.pointer (some ⟨n, k, none⟩)) rfl rfl (by kernel_rfl) (yg_pure (by kernel_rfl) (fun u => by go_simp)) ?_
          simp only [Act.put, List.setIfInBounds_toArray, List.set_cons_zero, List.set_cons_succ]
          refine AnyG.take 27 102 (.int .u32 N) rfl rfl (by kernel_rfl) (yg_held (by kernel_rfl) (fun u hu => by have := cn u hu; go_simp)) ?_
          simp only [Act.put, List.setIfInBounds_toArray, List.set_cons_zero, List.set_cons_succ]
          refine AnyG.take 28 103 (.int .u32 N) rfl rfl (by kernel_rfl) (yg_pure (by kernel_rfl) (fun u => by go_simp)) ?_
          simp only [Act.put, List.setIfInBounds_toArray, List.set_cons_zero, List.set_cons_succ]
          refine AnyG.take 29 104 (.bool false) rfl rfl (by kernel_rfl) (yg_pure (by kernel_rfl) (fun u => by go_simp)) ?_
          simp only [Act.put, List.setIfInBounds_toArray, List.set_cons_zero, List.set_cons_succ]
          refine AnyG.take 30 105 (.bool false) rfl rfl (by kernel_rfl) (yg_pure (by kernel_rfl) (fun u => by go_simp)) ?_
          simp only [Act.put, List.setIfInBounds_toArray, List.set_cons_zero, List.set_cons_succ]
          refine AnyG.done (by kernel_rfl) fun z hz => ?_
          replace hB := hz
          clear hz c0 c1 cj cm cn hc hM hI
          go_wp2_with (fail)
          exact ⟨⟨k + 1, by omega, by go_num, hB⟩, by simp [intOf]; omega⟩
        · have hN := tick_aside f hkt
          generalize tickF f t k = N at cn hN
          subst hN
          generalize f k = a at c0 cj cm hc cn
          generalize g k = c at c1 cj cm
          have HM : Hid (∃ z, maxI a c = z) := ⟨_, rfl⟩
          have HL : Hid (∃ z, minI a c = z) := ⟨_, rfl⟩
          obtain ⟨M, hM⟩ := HM.out
          obtain ⟨I, hI⟩ := HL.out
          rw [hM] at cj
          rw [hI] at cm
          clear HM HL
          go_wp2_with (fail)
          refine begin_grow 31 [] (Bks w K) (by kernel_rfl) rfl (Bks.stab _ _) (hB.later ((Gr.refl _).drew)) ?_
          refine AnyG.take 0 75 (.int .i64 k) rfl rfl (by kernel_rfl) (yg_pure (by kernel_rfl) (fun u => by go_simp)) ?_
          simp only [Act.put, List.setIfInBounds_toArray, List.set_cons_zero, List.set_cons_succ]
          refine AnyG.take 1 76 (.pointer (some ⟨j, k, none⟩)) rfl rfl (by kernel_rfl) (yg_pure (by kernel_rfl) (fun u => by go_simp)) ?_
          simp only [Act.put, List.setIfInBounds_toArray, List.set_cons_zero, List.set_cons_succ]
          refine AnyG.take 2 77 (.int .u32 M) rfl rfl (by kernel_rfl) (yg_held (by kernel_rfl) (fun u hu => by have := cj u hu; go_simp)) ?_
          simp only [Act.put, List.setIfInBounds_toArray, List.set_cons_zero, List.set_cons_succ]
          refine AnyG.take 3 78 (.int .i64 k) rfl rfl (by kernel_rfl) (yg_pure (by kernel_rfl) (fun u => by go_simp)) ?_
          simp only [Act.put, List.setIfInBounds_toArray, List.set_cons_zero, List.set_cons_succ]
          refine AnyG.take 4 79 (.pointer (some ⟨w.heap.size, k, none⟩)) rfl rfl (by kernel_rfl) (yg_pure (by kernel_rfl) (fun u => by go_simp)) ?_
          simp only [Act.put, List.setIfInBounds_toArray, List.set_cons_zero, List.set_cons_succ]
          refine AnyG.take 5 80 (.int .u32 a) rfl rfl (by kernel_rfl) (yg_held (by kernel_rfl) (fun u hu => by have := c0 u hu; go_simp)) ?_
          simp only [Act.put, List.setIfInBounds_toArray, List.set_cons_zero, List.set_cons_succ]
          refine AnyG.take 6 81 (.int .i64 k) rfl rfl (by kernel_rfl) (yg_pure (by kernel_rfl) (fun u => by go_simp)) ?_
          simp only [Act.put, List.setIfInBounds_toArray, List.set_cons_zero, List.set_cons_succ]
          refine AnyG.take 7 82 (.pointer (some ⟨w.heap.size + 1, k, none⟩)) rfl rfl (by kernel_rfl) (yg_pure (by kernel_rfl) (fun u => by go_simp)) ?_
          simp only [Act.put, List.setIfInBounds_toArray, List.set_cons_zero, List.set_cons_succ]
          refine AnyG.take 8 83 (.int .u32 c) rfl rfl (by kernel_rfl) (yg_held (by kernel_rfl) (fun u hu => by have := c1 u hu; go_simp)) ?_
          simp only [Act.put, List.setIfInBounds_toArray, List.set_cons_zero, List.set_cons_succ]
          refine AnyG.take 9 84 (.int .u32 M) rfl rfl (by kernel_rfl) (yg_pure (by kernel_rfl) (fun u => by rw [← hM]; unfold maxI; split <;> go_simp <;> omega)) ?_
          simp only [Act.put, List.setIfInBounds_toArray, List.set_cons_zero, List.set_cons_succ]
          refine AnyG.take 10 85 (.bool false) rfl rfl (by kernel_rfl) (yg_pure (by kernel_rfl) (fun u => by go_simp)) ?_
          simp only [Act.put, List.setIfInBounds_toArray, List.set_cons_zero, List.set_cons_succ]
          refine AnyG.take 11 86 (.bool false) rfl rfl (by kernel_rfl) (yg_pure (by kernel_rfl) (fun u => by go_simp)) ?_
          simp only [Act.put, List.setIfInBounds_toArray, List.set_cons_zero, List.set_cons_succ]
          refine AnyG.take 12 87 (.int .i64 k) rfl rfl (by kernel_rfl) (yg_pure (by kernel_rfl) (fun u => by go_simp)) ?_
          simp only [Act.put, List.setIfInBounds_toArray, List.set_cons_zero, List.set_cons_succ]
          refine AnyG.take 13 88 (.pointer (some ⟨m, k, none⟩)) rfl rfl (by kernel_rfl) (yg_pure (by kernel_rfl) (fun u => by go_simp)) ?_
          simp only [Act.put, List.setIfInBounds_toArray, List.set_cons_zero, List.set_cons_succ]
          refine AnyG.take 14 89 (.int .u32 I) rfl rfl (by kernel_rfl) (yg_held (by kernel_rfl) (fun u hu => by have := cm u hu; go_simp)) ?_
          simp only [Act.put, List.setIfInBounds_toArray, List.set_cons_zero, List.set_cons_succ]
          refine AnyG.take 15 90 (.int .i64 k) rfl rfl (by kernel_rfl) (yg_pure (by kernel_rfl) (fun u => by go_simp)) ?_
          simp only [Act.put, List.setIfInBounds_toArray, List.set_cons_zero, List.set_cons_succ]
          refine AnyG.take 16 91 (.pointer (some ⟨w.heap.size, k, none⟩)) rfl rfl (by kernel_rfl) (yg_pure (by kernel_rfl) (fun u => by go_simp)) ?_
          simp only [Act.put, List.setIfInBounds_toArray, List.set_cons_zero, List.set_cons_succ]
          refine AnyG.take 17 92 (.int .u32 a) rfl rfl (by kernel_rfl) (yg_held (by kernel_rfl) (fun u hu => by have := c0 u hu; go_simp)) ?_
          simp only [Act.put, List.setIfInBounds_toArray, List.set_cons_zero, List.set_cons_succ]
          refine AnyG.take 18 93 (.int .i64 k) rfl rfl (by kernel_rfl) (yg_pure (by kernel_rfl) (fun u => by go_simp)) ?_
          simp only [Act.put, List.setIfInBounds_toArray, List.set_cons_zero, List.set_cons_succ]
          refine AnyG.take 19 94 (.pointer (some ⟨w.heap.size + 1, k, none⟩)) rfl rfl (by kernel_rfl) (yg_pure (by kernel_rfl) (fun u => by go_simp)) ?_
          simp only [Act.put, List.setIfInBounds_toArray, List.set_cons_zero, List.set_cons_succ]
          refine AnyG.take 20 95 (.int .u32 c) rfl rfl (by kernel_rfl) (yg_held (by kernel_rfl) (fun u hu => by have := c1 u hu; go_simp)) ?_
          simp only [Act.put, List.setIfInBounds_toArray, List.set_cons_zero, List.set_cons_succ]
          refine AnyG.take 21 96 (.int .u32 I) rfl rfl (by kernel_rfl) (yg_pure (by kernel_rfl) (fun u => by rw [← hI]; unfold minI; split <;> go_simp <;> omega)) ?_
          simp only [Act.put, List.setIfInBounds_toArray, List.set_cons_zero, List.set_cons_succ]
          refine AnyG.take 22 97 (.bool false) rfl rfl (by kernel_rfl) (yg_pure (by kernel_rfl) (fun u => by go_simp)) ?_
          simp only [Act.put, List.setIfInBounds_toArray, List.set_cons_zero, List.set_cons_succ]
          refine AnyG.take 23 98 (.bool false) rfl rfl (by kernel_rfl) (yg_pure (by kernel_rfl) (fun u => by go_simp)) ?_
          simp only [Act.put, List.setIfInBounds_toArray, List.set_cons_zero, List.set_cons_succ]
          refine AnyG.take 24 99 (.bool false) rfl rfl (by kernel_rfl) (yg_pure (by kernel_rfl) (fun u => by go_simp)) ?_
          simp only [Act.put, List.setIfInBounds_toArray, List.set_cons_zero, List.set_cons_succ]
          refine AnyG.take 25 100 (.int .i64 k) rfl rfl (by kernel_rfl) (yg_pure (by kernel_rfl) (fun u => by go_simp)) ?_
          simp only [Act.put, List.setIfInBounds_toArray, List.set_cons_zero, List.set_cons_succ]
          refine AnyG.take 26 101 (.pointer (some ⟨n, k, none⟩)) rfl rfl (by kernel_rfl) (yg_pure (by kernel_rfl) (fun u => by go_simp)) ?_
          simp only [Act.put, List.setIfInBounds_toArray, List.set_cons_zero, List.set_cons_succ]
          refine AnyG.take 27 102 (.int .u32 a) rfl rfl (by kernel_rfl) (yg_held (by kernel_rfl) (fun u hu => by have := cn u hu; go_simp)) ?_
          simp only [Act.put, List.setIfInBounds_toArray, List.set_cons_zero, List.set_cons_succ]
          refine AnyG.take 28 103 (.int .u32 a) rfl rfl (by kernel_rfl) (yg_pure (by kernel_rfl) (fun u => by go_simp)) ?_
          simp only [Act.put, List.setIfInBounds_toArray, List.set_cons_zero, List.set_cons_succ]
          refine AnyG.take 29 104 (.bool false) rfl rfl (by kernel_rfl) (yg_pure (by kernel_rfl) (fun u => by go_simp)) ?_
          simp only [Act.put, List.setIfInBounds_toArray, List.set_cons_zero, List.set_cons_succ]
          refine AnyG.take 30 105 (.bool false) rfl rfl (by kernel_rfl) (yg_pure (by kernel_rfl) (fun u => by go_simp)) ?_
          simp only [Act.put, List.setIfInBounds_toArray, List.set_cons_zero, List.set_cons_succ]
          refine AnyG.done (by kernel_rfl) fun z hz => ?_
          replace hB := hz
          clear hz c0 c1 cj cm cn hc hM hI
          go_wp2_with (fail)
          exact ⟨⟨k + 1, by omega, by go_num, hB⟩, by simp [intOf]; omega⟩
      · obtain rfl : k = 8 := by omega
        go_wp2_with (fail)
        go_ret
        exact ⟨rfl, hB.gr⟩
end Go.Proofs.Ytejcififiinifaa
