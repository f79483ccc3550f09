/-
  ClockTicks: who ticks is ahead of what it was, unless it starts anew; ticks of unlike threads may be done in either order; who joins knows what ticked. No condition but that numbers have 32 bits.
-/
import Derived.Test.YtejcififiinifaaPur
namespace Go.Proofs.Ytejcififiinifaa
open Go.ChangeShapes Go.WideShapes Go.ChangeAt Go.RowKit
set_option linter.unusedVariables false
set_option maxRecDepth 20000

set_option maxHeartbeats 8000000 in
theorem clockTicks_walk (f : Nat → Int) (hf : CkOk f) (t u : Nat) (ht : t < 256) (hu : u < 256) (w : World) : Calls Try.prog 6 #[.agg (ckC f), .int .u8 t, .int .u8 u] w fun r u => r = .returned (.bool true) ∧ Gr w u := by
  have hB : Bks w [(w.heap.size, 23, ckC f)] (w.alloc (.cells (ckC f) 23)) := (Bks.nil ((Gr.refl w).alloc _ _)).add (Has.new w _ _)
  have HF := hide hf
  clear hf
  go_enter Try.func6, Try.ntmps6
  go_upto_region 1 with (fail)
  generalize (w.alloc (.cells (ckC f) 23)) = w1 at hB ⊢
  go_wp2_with (fail)
  refine (awake_calls _).mono ?_
  rintro _ w2 ⟨rfl, hg⟩
  replace hB := hB.later hg
  clear hg
  go_upto_region 4 with (fail)
  have hi8 : t % 8 < 8 := by omega
  have hk8 : u % 8 < 8 := by omega
  rw [show ((t : Int) % 8) = ((t % 8 : Nat) : Int) by omega, show ((u : Int) % 8) = ((u % 8 : Nat) : Int) by omega]
  generalize t % 8 = i at hi8 ⊢
  generalize u % 8 = k at hk8 ⊢
  have mr0 : (w.heap.size, 23, ckC f) ∈ [(w.heap.size, 23, ckC f)] := List.mem_cons_self
  generalize [(w.heap.size, 23, ckC f)] = L at hB mr0
  have hB1 := (hB.later ((Gr.refl w2).alloc (ckC f) 25)).add (Has.new w2 (ckC f) 25)
  have mr := List.mem_cons_of_mem (w2.heap.size, 25, ckC f) mr0
  have mc := List.mem_cons_self (a := (w2.heap.size, 25, ckC f)) (l := L)
  go_upto_region 5 with (first
    | (refine load_ck cktA rfl _ rfl w.heap.size rfl f 23 (hB.get mr0) ?_)
    | (refine store_new cktC rfl rfl _ _ rfl w2.heap.size rfl rfl f rfl zeroF _ ?_))
  clear hB
  have hok := tick_ok HF.out i
  generalize w2.alloc (.cells (ckC f) 25) = w3 at hB1 ⊢
  generalize w2.heap.size = c at hB1 mr mc ⊢
  clear mr0
  generalize (c, 25, ckC f) :: L = M at hB1 mr mc
  go_wp2_with (first
    | (refine load_ck cktC rfl _ rfl c rfl f 25 (hB1.get mc) ?_))
  refine (tick_calls f HF.out i _).mono ?_
  rintro _ w4 ⟨rfl, hg⟩
  replace hB1 := hB1.later hg
  clear hg
  have hG : Hid (∃ g, tickF f i = g) := ⟨_, rfl⟩
  obtain ⟨g, hg⟩ := hG.out
  have HG := hide hg
  clear hG
  rw [hg]
  have hB := (hB1.later ((Gr.refl w4).alloc (ckC g) 25)).add (Has.new w4 (ckC g) 25)
  replace mr := List.mem_cons_of_mem (w4.heap.size, 25, ckC g) mr
  replace mc := List.mem_cons_of_mem (w4.heap.size, 25, ckC g) mc
  have mn := List.mem_cons_self (a := (w4.heap.size, 25, ckC g)) (l := M)
  clear hg
  go_upto_region 6 with (first
    | (refine store_new cktC rfl rfl _ _ rfl w4.heap.size rfl rfl g rfl zeroF _ ?_))
  clear hB1
  generalize w4.alloc (.cells (ckC g) 25) = w5 at hB ⊢
  generalize w4.heap.size = n at hB mr mc mn ⊢
  generalize (n, 25, ckC g) :: M = K at hB mr mc mn
  have hi8' : (i : Int) < 8 := by omega
  have hc := (hB.get mr).cell (ckC_get f hi8)
  have hn := (hB.get mn).cell (ckC_get g hi8)
  by_cases h : f i = 4294967295
  · obtain ⟨h0, hk⟩ := tick_anew HF.out hi8 h
    rw [HG.out] at h0 hk
    have HK := hide hk
    rw [h] at hc
    rw [h0] at hn
    clear h h0 hk
    go_wp2_with (first
      | (refine load_ck cktC rfl _ rfl c rfl f 25 (hB.get mc) ?_)
      | (refine load_ck cktC rfl _ rfl n rfl g 25 (hB.get mn) ?_))
    refine (kn_is HK.out _).mono ?_
    rintro _ w6 ⟨rfl, hg⟩
    replace hB := hB.later hg
    go_wp2_with (fail)
    go_ret
    exact ⟨rfl, hB.gr⟩
  · obtain ⟨h1, h2, h3, h4, h5⟩ := tick_up hi8 h
    rw [HG.out] at h1 h2 h3 h4 h5
    have HK := hide h1
    have HN := hide h2
    have HA := hide h3
    have HJ := hide h4
    have HM := hide h5
    have hne : (f i == 4294967295) = false := by simp [h]
    clear h1 h2 h3 h4 h5 h hn
    generalize f i = x at hc hne
    go_wp2_with (fail)
    clear hc hne
    refine begin_grow 42 [] (Bks w K) (by kernel_rfl) rfl (Bks.stab _ _) (hB.later ((Gr.refl _).drew)) ?_
    refine AnyG.take 0 36 (.agg (ckC (f))) rfl rfl (by kernel_rfl) (yg_load cktC (by kernel_rfl) _ rfl c rfl (f) 25 (fun _ h => h.get mc)) ?_
    simp only [Act.put, List.setIfInBounds_toArray, List.set_cons_zero, List.set_cons_succ]
    refine AnyG.take 1 37 (.agg (ckC (g))) rfl rfl (by kernel_rfl) (yg_load cktC (by kernel_rfl) _ rfl n rfl (g) 25 (fun _ h => h.get mn)) ?_
    simp only [Act.put, List.setIfInBounds_toArray, List.set_cons_zero, List.set_cons_succ]
    refine AnyG.take 2 38 (.bool true) rfl rfl (by kernel_rfl) (yg_call 10 #[.agg (ckC (f)), .agg (ckC (g))] (by kernel_rfl) (fun _ => by kernel_rfl) (ah_is HA.out)) ?_
    simp only [Act.put, List.setIfInBounds_toArray, List.set_cons_zero, List.set_cons_succ]
    refine AnyG.take 3 39 (.bool true) rfl rfl (by kernel_rfl) (yg_pure (by kernel_rfl) (fun _ => by kernel_rfl)) ?_
    simp only [Act.put, List.setIfInBounds_toArray, List.set_cons_zero, List.set_cons_succ]
    refine AnyG.take 4 40 (.agg (ckC (g))) rfl rfl (by kernel_rfl) (yg_load cktC (by kernel_rfl) _ rfl n rfl (g) 25 (fun _ h => h.get mn)) ?_
    simp only [Act.put, List.setIfInBounds_toArray, List.set_cons_zero, List.set_cons_succ]
    refine AnyG.take 5 41 (.agg (ckC (f))) rfl rfl (by kernel_rfl) (yg_load cktC (by kernel_rfl) _ rfl c rfl (f) 25 (fun _ h => h.get mc)) ?_
    simp only [Act.put, List.setIfInBounds_toArray, List.set_cons_zero, List.set_cons_succ]
    refine AnyG.take 6 42 (.bool true) rfl rfl (by kernel_rfl) (yg_call 9 #[.agg (ckC (g)), .agg (ckC (f))] (by kernel_rfl) (fun _ => by kernel_rfl) (kn_is HK.out)) ?_
    simp only [Act.put, List.setIfInBounds_toArray, List.set_cons_zero, List.set_cons_succ]
    refine AnyG.take 7 43 (.bool true) rfl rfl (by kernel_rfl) (yg_pure (by kernel_rfl) (fun _ => by kernel_rfl)) ?_
    simp only [Act.put, List.setIfInBounds_toArray, List.set_cons_zero, List.set_cons_succ]
    refine AnyG.take 8 44 (.bool true) rfl rfl (by kernel_rfl) (yg_pure (by kernel_rfl) (fun _ => by kernel_rfl)) ?_
    simp only [Act.put, List.setIfInBounds_toArray, List.set_cons_zero, List.set_cons_succ]
    refine AnyG.take 9 45 (.agg (ckC (f))) rfl rfl (by kernel_rfl) (yg_load cktC (by kernel_rfl) _ rfl c rfl (f) 25 (fun _ h => h.get mc)) ?_
    simp only [Act.put, List.setIfInBounds_toArray, List.set_cons_zero, List.set_cons_succ]
    refine AnyG.take 10 46 (.agg (ckC (g))) rfl rfl (by kernel_rfl) (yg_load cktC (by kernel_rfl) _ rfl n rfl (g) 25 (fun _ h => h.get mn)) ?_
    simp only [Act.put, List.setIfInBounds_toArray, List.set_cons_zero, List.set_cons_succ]
    refine AnyG.take 11 47 (.bool false) rfl rfl (by kernel_rfl) (yg_call 9 #[.agg (ckC (f)), .agg (ckC (g))] (by kernel_rfl) (fun _ => by kernel_rfl) (kn_is HN.out)) ?_
    simp only [Act.put, List.setIfInBounds_toArray, List.set_cons_zero, List.set_cons_succ]
    refine AnyG.take 12 48 (.bool true) rfl rfl (by kernel_rfl) (yg_pure (by kernel_rfl) (fun _ => by kernel_rfl)) ?_
    simp only [Act.put, List.setIfInBounds_toArray, List.set_cons_zero, List.set_cons_succ]
    refine AnyG.take 13 49 (.bool true) rfl rfl (by kernel_rfl) (yg_pure (by kernel_rfl) (fun _ => by kernel_rfl)) ?_
    simp only [Act.put, List.setIfInBounds_toArray, List.set_cons_zero, List.set_cons_succ]
    refine AnyG.take 14 50 (.bool true) rfl rfl (by kernel_rfl) (yg_pure (by kernel_rfl) (fun _ => by kernel_rfl)) ?_
    simp only [Act.put, List.setIfInBounds_toArray, List.set_cons_zero, List.set_cons_succ]
    refine AnyG.take 15 51 (.agg (ckC (f))) rfl rfl (by kernel_rfl) (yg_load cktC (by kernel_rfl) _ rfl c rfl (f) 25 (fun _ h => h.get mc)) ?_
    simp only [Act.put, List.setIfInBounds_toArray, List.set_cons_zero, List.set_cons_succ]
    refine AnyG.take 16 52 (.int .i64 i) rfl rfl (by kernel_rfl) (yg_pure (by kernel_rfl) (fun _ => by kernel_rfl)) ?_
    simp only [Act.put, List.setIfInBounds_toArray, List.set_cons_zero, List.set_cons_succ]
    refine AnyG.take 17 53 (.agg (ckC (tickF (f) i))) rfl rfl (by kernel_rfl) (yg_call 14 #[.agg (ckC (f)), .int .i64 i] (by kernel_rfl) (fun _ => by kernel_rfl) (tick_calls (f) HF.out i)) ?_
    simp only [Act.put, List.setIfInBounds_toArray, List.set_cons_zero, List.set_cons_succ]
    refine AnyG.take 18 54 (.int .i64 k) rfl rfl (by kernel_rfl) (yg_pure (by kernel_rfl) (fun _ => by kernel_rfl)) ?_
    simp only [Act.put, List.setIfInBounds_toArray, List.set_cons_zero, List.set_cons_succ]
    refine AnyG.take 19 55 (.agg (ckC (tickF (tickF f i) k))) rfl rfl (by kernel_rfl) (yg_call 14 #[.agg (ckC (tickF f i)), .int .i64 k] (by kernel_rfl) (fun _ => by kernel_rfl) (tick_calls (tickF f i) (tick_ok HF.out _) k)) ?_
    simp only [Act.put, List.setIfInBounds_toArray, List.set_cons_zero, List.set_cons_succ]
    refine AnyG.take 20 56 (.agg (ckC (f))) rfl rfl (by kernel_rfl) (yg_load cktC (by kernel_rfl) _ rfl c rfl (f) 25 (fun _ h => h.get mc)) ?_
    simp only [Act.put, List.setIfInBounds_toArray, List.set_cons_zero, List.set_cons_succ]
    refine AnyG.take 21 57 (.int .i64 k) rfl rfl (by kernel_rfl) (yg_pure (by kernel_rfl) (fun _ => by kernel_rfl)) ?_
    simp only [Act.put, List.setIfInBounds_toArray, List.set_cons_zero, List.set_cons_succ]
    refine AnyG.take 22 58 (.agg (ckC (tickF (f) k))) rfl rfl (by kernel_rfl) (yg_call 14 #[.agg (ckC (f)), .int .i64 k] (by kernel_rfl) (fun _ => by kernel_rfl) (tick_calls (f) HF.out k)) ?_
    simp only [Act.put, List.setIfInBounds_toArray, List.set_cons_zero, List.set_cons_succ]
    refine AnyG.take 23 59 (.int .i64 i) rfl rfl (by kernel_rfl) (yg_pure (by kernel_rfl) (fun _ => by kernel_rfl)) ?_
    simp only [Act.put, List.setIfInBounds_toArray, List.set_cons_zero, List.set_cons_succ]
    refine AnyG.take 24 60 (.agg (ckC (tickF (tickF f k) i))) rfl rfl (by kernel_rfl) (yg_call 14 #[.agg (ckC (tickF f k)), .int .i64 i] (by kernel_rfl) (fun _ => by kernel_rfl) (tick_calls (tickF f k) (tick_ok HF.out _) i)) ?_
    simp only [Act.put, List.setIfInBounds_toArray, List.set_cons_zero, List.set_cons_succ]
    refine AnyG.take 25 61 (.bool true) rfl rfl (by kernel_rfl) (yg_eql (by kernel_rfl) _ _ rfl (tickF (tickF f i) k) (tickF (tickF f k) i) rfl rfl _ (tick_comm f hi8 hk8)) ?_
    simp only [Act.put, List.setIfInBounds_toArray, List.set_cons_zero, List.set_cons_succ]
    refine AnyG.take 26 62 (.bool true) rfl rfl (by kernel_rfl) (yg_pure (by kernel_rfl) (fun _ => by kernel_rfl)) ?_
    simp only [Act.put, List.setIfInBounds_toArray, List.set_cons_zero, List.set_cons_succ]
    refine AnyG.take 27 63 (.bool true) rfl rfl (by kernel_rfl) (yg_pure (by kernel_rfl) (fun _ => by kernel_rfl)) ?_
    simp only [Act.put, List.setIfInBounds_toArray, List.set_cons_zero, List.set_cons_succ]
    refine AnyG.take 28 64 (.agg (ckC (f))) rfl rfl (by kernel_rfl) (yg_load cktC (by kernel_rfl) _ rfl c rfl (f) 25 (fun _ h => h.get mc)) ?_
    simp only [Act.put, List.setIfInBounds_toArray, List.set_cons_zero, List.set_cons_succ]
    refine AnyG.take 29 65 (.agg (ckC (g))) rfl rfl (by kernel_rfl) (yg_load cktC (by kernel_rfl) _ rfl n rfl (g) 25 (fun _ h => h.get mn)) ?_
    simp only [Act.put, List.setIfInBounds_toArray, List.set_cons_zero, List.set_cons_succ]
    refine AnyG.take 30 66 (.agg (ckC (joinF (f) (g)))) rfl rfl (by kernel_rfl) (yg_call 12 #[.agg (ckC (f)), .agg (ckC (g))] (by kernel_rfl) (fun _ => by kernel_rfl) (join_calls (f) (g))) ?_
    simp only [Act.put, List.setIfInBounds_toArray, List.set_cons_zero, List.set_cons_succ]
    refine AnyG.take 31 67 (.agg (ckC (g))) rfl rfl (by kernel_rfl) (yg_load cktC (by kernel_rfl) _ rfl n rfl (g) 25 (fun _ h => h.get mn)) ?_
    simp only [Act.put, List.setIfInBounds_toArray, List.set_cons_zero, List.set_cons_succ]
    refine AnyG.take 32 68 (.bool true) rfl rfl (by kernel_rfl) (yg_eql (by kernel_rfl) _ _ rfl (joinF f g) (g) rfl rfl _ HJ.out) ?_
    simp only [Act.put, List.setIfInBounds_toArray, List.set_cons_zero, List.set_cons_succ]
    refine AnyG.take 33 69 (.bool true) rfl rfl (by kernel_rfl) (yg_pure (by kernel_rfl) (fun _ => by kernel_rfl)) ?_
    simp only [Act.put, List.setIfInBounds_toArray, List.set_cons_zero, List.set_cons_succ]
    refine AnyG.take 34 70 (.bool true) rfl rfl (by kernel_rfl) (yg_pure (by kernel_rfl) (fun _ => by kernel_rfl)) ?_
    simp only [Act.put, List.setIfInBounds_toArray, List.set_cons_zero, List.set_cons_succ]
    refine AnyG.take 35 71 (.agg (ckC (f))) rfl rfl (by kernel_rfl) (yg_load cktC (by kernel_rfl) _ rfl c rfl (f) 25 (fun _ h => h.get mc)) ?_
    simp only [Act.put, List.setIfInBounds_toArray, List.set_cons_zero, List.set_cons_succ]
    refine AnyG.take 36 72 (.agg (ckC (g))) rfl rfl (by kernel_rfl) (yg_load cktC (by kernel_rfl) _ rfl n rfl (g) 25 (fun _ h => h.get mn)) ?_
    simp only [Act.put, List.setIfInBounds_toArray, List.set_cons_zero, List.set_cons_succ]
    refine AnyG.take 37 73 (.agg (ckC (meetF (f) (g)))) rfl rfl (by kernel_rfl) (yg_call 13 #[.agg (ckC (f)), .agg (ckC (g))] (by kernel_rfl) (fun _ => by kernel_rfl) (meet_calls (f) (g))) ?_
    simp only [Act.put, List.setIfInBounds_toArray, List.set_cons_zero, List.set_cons_succ]
    refine AnyG.take 38 74 (.agg (ckC (f))) rfl rfl (by kernel_rfl) (yg_load cktC (by kernel_rfl) _ rfl c rfl (f) 25 (fun _ h => h.get mc)) ?_
    simp only [Act.put, List.setIfInBounds_toArray, List.set_cons_zero, List.set_cons_succ]
    refine AnyG.take 39 75 (.bool true) rfl rfl (by kernel_rfl) (yg_eql (by kernel_rfl) _ _ rfl (meetF f g) (f) rfl rfl _ HM.out) ?_
    simp only [Act.put, List.setIfInBounds_toArray, List.set_cons_zero, List.set_cons_succ]
    refine AnyG.take 40 76 (.bool true) rfl rfl (by kernel_rfl) (yg_pure (by kernel_rfl) (fun _ => by kernel_rfl)) ?_
    simp only [Act.put, List.setIfInBounds_toArray, List.set_cons_zero, List.set_cons_succ]
    refine AnyG.take 41 6 (.bool true) rfl rfl (by kernel_rfl) (yg_pure (by kernel_rfl) (fun _ => by kernel_rfl)) ?_
    simp only [Act.put, List.setIfInBounds_toArray, List.set_cons_zero, List.set_cons_succ]
    refine AnyG.done (by kernel_rfl) fun y hy => ?_
    replace hB := hy
    clear hy
    go_wp2_with (fail)
    go_ret
    exact ⟨rfl, hB.gr⟩
end Go.Proofs.Ytejcififiinifaa
