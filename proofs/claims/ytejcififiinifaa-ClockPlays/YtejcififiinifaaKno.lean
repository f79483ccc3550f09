/-
  What Knows, Ahead and Apart answer. No condition.
-/
import Derived.Test.YtejcififiinifaaFun
namespace Go.Proofs.Ytejcififiinifaa
open Go.ChangeShapes Go.WideShapes Go.ChangeAt Go.RowKit
set_option linter.unusedVariables false
set_option maxRecDepth 20000

/-- does the one know all that the other one does? -/
def knB (f g : Nat → Int) : Bool := eqB (joinF f g) f
def ahB (f g : Nat → Int) : Bool := !(eqB f g) && knB g f
def apB (f g : Nat → Int) : Bool := !(knB f g) && !(knB g f)
theorem knB_iff (f g : Nat → Int) : knB f g = true ↔ ∀ i, i < 8 → g i ≤ f i := by
  unfold knB
  rw [eqB_iff]
  have : ∀ i, joinF f g i = f i ↔ g i ≤ f i := fun i => by unfold joinF maxI; split <;> omega
  exact ⟨fun h i hi => (this i).1 (h i hi), fun h i hi => (this i).2 (h i hi)⟩

/-- two clocks in two blocks -/
structure Two (w : World) (p q : Nat) (f g : Nat → Int) (u : World) : Prop where
  gr : Gr w u
  fst : Has u p (ckC f) 25
  snd : Has u q (ckC g) 25
theorem Two.stab (w : World) (p q : Nat) (f g : Nat → Int) : Stab (Two w p q f g) := fun _ _ h k => ⟨h.gr.trans k, h.fst.later k, h.snd.later k⟩
theorem Two.later {w : World} {p q : Nat} {f g : Nat → Int} {u v : World} (h : Two w p q f g u) (k : Gr u v) : Two w p q f g v := Two.stab w p q f g u v h k

set_option maxHeartbeats 1000000 in
theorem knows_calls (f g : Nat → Int) (w : World) : Calls Try.prog 9 #[.agg (ckC f), .agg (ckC g)] w fun e u => e = .returned (.bool (knB f g)) ∧ Gr w u := by
  obtain ⟨a0, a1, ag⟩ := start2 w (ckC f) (ckC g) 25 25
  have hT : Two w w.heap.size (w.heap.size + 1) f g ((w.alloc (.cells (ckC f) 25)).alloc (.cells (ckC g) 25)) := ⟨ag, a0, a1⟩
  clear a0 a1 ag
  go_enter Try.func9, Try.ntmps9
  go_upto_region 1 with (fail)
  generalize ((w.alloc (.cells (ckC f) 25)).alloc (.cells (ckC g) 25)) = w1 at hT ⊢
  refine begin_grow 6 [] (Two w w.heap.size (w.heap.size + 1) f g) (by kernel_rfl) rfl (Two.stab _ _ _ _ _) (hT.later ((Gr.refl _).drew)) ?_
  refine AnyG.take 0 5 (.agg (ckC f)) rfl rfl (by kernel_rfl) (yg_load cktC (by kernel_rfl) _ rfl w.heap.size rfl f _ (fun _ h => h.fst)) ?_
  simp only [Act.put, List.setIfInBounds_toArray, List.set_cons_zero, List.set_cons_succ]
  refine AnyG.take 1 6 (.agg (ckC g)) rfl rfl (by kernel_rfl) (yg_load cktC (by kernel_rfl) _ rfl (w.heap.size + 1) rfl g _ (fun _ h => h.snd)) ?_
  simp only [Act.put, List.setIfInBounds_toArray, List.set_cons_zero, List.set_cons_succ]
  refine AnyG.take 2 7 (.agg (ckC (joinF f g))) rfl rfl (by kernel_rfl) (yg_call 12 #[.agg (ckC f), .agg (ckC g)] (by kernel_rfl) (fun _ => by kernel_rfl) (join_calls f g)) ?_
  simp only [Act.put, List.setIfInBounds_toArray, List.set_cons_zero, List.set_cons_succ]
  refine AnyG.take 3 8 (.agg (ckC f)) rfl rfl (by kernel_rfl) (yg_load cktC (by kernel_rfl) _ rfl w.heap.size rfl f _ (fun _ h => h.fst)) ?_
  simp only [Act.put, List.setIfInBounds_toArray, List.set_cons_zero, List.set_cons_succ]
  refine AnyG.take 4 9 (.bool (knB f g)) rfl rfl (by kernel_rfl) (yg_eql (by kernel_rfl) _ _ rfl (joinF f g) f rfl rfl _ rfl) ?_
  simp only [Act.put, List.setIfInBounds_toArray, List.set_cons_zero, List.set_cons_succ]
  refine AnyG.take 5 4 (.bool (knB f g)) rfl rfl (by kernel_rfl) (yg_pure (by kernel_rfl) (fun _ => by kernel_rfl)) ?_
  simp only [Act.put, List.setIfInBounds_toArray, List.set_cons_zero, List.set_cons_succ]
  refine AnyG.done (by kernel_rfl) fun u hu => ?_
  clear hT
  go_wp2_with (fail)
  go_ret
  exact ⟨rfl, hu.gr⟩

set_option maxHeartbeats 1000000 in
theorem ahead_calls (f g : Nat → Int) (w : World) : Calls Try.prog 10 #[.agg (ckC f), .agg (ckC g)] w fun e u => e = .returned (.bool (ahB f g)) ∧ Gr w u := by
  obtain ⟨a0, a1, ag⟩ := start2 w (ckC f) (ckC g) 25 25
  unfold ahB
  have HE : ∀ b, eqB f g = b → Hid (eqB f g = b) := fun b h => h
  cases he : eqB f g
  · have HN := HE _ he
    clear he HE
    go_enter Try.func10, Try.ntmps10
    go_wp2_with (first
      | (refine load_ck cktC rfl _ rfl w.heap.size rfl f _ a0 ?_)
      | (refine load_ck cktC rfl _ rfl (w.heap.size + 1) rfl g _ a1 ?_)
      | (refine step_neq rfl _ _ rfl f g rfl rfl true (by rw [HN.out]; rfl) ?_))
    refine (knows_calls g f _).mono ?_
    rintro e u ⟨rfl, hg⟩
    replace ag := ag.trans hg
    go_wp2_with (fail)
    go_ret
    exact ⟨rfl, ag⟩
  · have HN := HE _ he
    clear he HE
    go_enter Try.func10, Try.ntmps10
    go_wp2_with (first
      | (refine load_ck cktC rfl _ rfl w.heap.size rfl f _ a0 ?_)
      | (refine load_ck cktC rfl _ rfl (w.heap.size + 1) rfl g _ a1 ?_)
      | (refine step_neq rfl _ _ rfl f g rfl rfl false (by rw [HN.out]; rfl) ?_))
    go_ret
    exact ⟨rfl, ag⟩

set_option maxHeartbeats 1000000 in
theorem apart_calls (f g : Nat → Int) (w : World) : Calls Try.prog 11 #[.agg (ckC f), .agg (ckC g)] w fun e u => e = .returned (.bool (apB f g)) ∧ Gr w u := by
  obtain ⟨a0, a1, ag⟩ := start2 w (ckC f) (ckC g) 25 25
  unfold apB
  have hk := knows_calls f g
  generalize knB f g = b at hk ⊢
  cases b
  · go_enter Try.func11, Try.ntmps11
    go_wp2_with (first
      | (refine load_ck cktC rfl _ rfl w.heap.size rfl f _ a0 ?_)
      | (refine load_ck cktC rfl _ rfl (w.heap.size + 1) rfl g _ a1 ?_))
    refine (hk _).mono ?_
    rintro e u ⟨rfl, hg⟩
    replace ag := ag.trans hg
    replace a0 := a0.later hg
    replace a1 := a1.later hg
    clear hk
    go_wp2_with (first
      | (refine load_ck cktC rfl _ rfl w.heap.size rfl f _ a0 ?_)
      | (refine load_ck cktC rfl _ rfl (w.heap.size + 1) rfl g _ a1 ?_))
    refine (knows_calls g f _).mono ?_
    rintro e v ⟨rfl, hg2⟩
    replace ag := ag.trans hg2
    go_wp2_with (fail)
    go_ret
    exact ⟨rfl, ag⟩
  · go_enter Try.func11, Try.ntmps11
    go_wp2_with (first
      | (refine load_ck cktC rfl _ rfl w.heap.size rfl f _ a0 ?_)
      | (refine load_ck cktC rfl _ rfl (w.heap.size + 1) rfl g _ a1 ?_))
    refine (hk _).mono ?_
    rintro e u ⟨rfl, hg⟩
    replace ag := ag.trans hg
    go_wp2_with (fail)
    go_ret
    exact ⟨rfl, ag⟩

/-- the document's: has the one at least what the other one has? -/
def leB (f g : Nat → Int) (k : Nat) : Bool := (List.range k).all fun i => decide (g i ≤ f i)
theorem leB_next (f g : Nat → Int) (k : Nat) : leB f g (k + 1) = (leB f g k && decide (g k ≤ f k)) := by
  unfold leB
  rw [List.range_succ, List.all_append]
  simp
theorem leB_all (f g : Nat → Int) : leB f g 8 = knB f g := by
  rw [Bool.eq_iff_iff, knB_iff]
  simp [leB, List.all_eq_true, List.mem_range]
theorem knB_not {f g : Nat → Int} {k : Nat} (hk : k < 8) (h : f k < g k) : knB f g = false := by
  cases hb : knB f g
  · rfl
  · have := (knB_iff f g).1 hb k hk
    omega

set_option maxHeartbeats 1000000 in
theorem rknows_calls (f g : Nat → Int) (w : World) : Calls Try.prog 8 #[.agg (ckC f), .agg (ckC g)] w fun e u => e = .returned (.bool (knB f g)) ∧ Gr w u := by
  obtain ⟨a0, a1, ag⟩ := start2 w (ckC f) (ckC g) 23 23
  go_enter Try.func8, Try.ntmps8
  go_wp2_with (fail)
  go_loopw [5] (fun i wr => ∃ k : Nat, k ≤ 8 ∧ i = .int .i64 k ∧ Hid (leB f g k = true) ∧ Gr w wr ∧ Has wr w.heap.size (ckC f) 23 ∧ Has wr (w.heap.size + 1) (ckC g) 23) (fun i _ => 8 - (intOf i).toNat)
  case atStart => exact ⟨0, by omega, rfl, rfl, ag, a0, a1⟩
  case round =>
    clear a0 a1 ag
    obtain ⟨k, hk, rfl, HL, ag, a0, a1⟩ := hrel
    by_cases hlt : k < 8
    · have hlt' : (k : Int) < 8 := by omega
      have c0 := a0.cell (ckC_get f hlt)
      have c1 := a1.cell (ckC_get g hlt)
      by_cases hfg : f k < g k
      · have HB := hide (knB_not hlt hfg)
        generalize f k = x at c0 hfg
        generalize g k = y at c1 hfg
        go_wp2_with (fail)
        go_quiet (fail)
        go_wp2_with (fail)
        go_ret
        exact ⟨by rw [HB.out]; rfl, ag.drewN _⟩
      · have HN : Hid (leB f g (k + 1) = true) := by
          show leB f g (k + 1) = true
          rw [leB_next, HL.out]
          simp; omega
        generalize f k = x at c0 hfg
        generalize g k = y at c1 hfg
        go_wp2_with (fail)
        go_quiet (fail)
        go_wp2_with (fail)
        exact ⟨⟨k + 1, by omega, by go_num, HN, ag.drewN _, a0.drewN _, a1.drewN _⟩, by simp [intOf]; omega⟩
    · obtain rfl : k = 8 := by omega
      go_wp2_with (fail)
      go_ret
      exact ⟨by rw [← leB_all, HL.out]; rfl, ag⟩
end Go.Proofs.Ytejcififiinifaa
