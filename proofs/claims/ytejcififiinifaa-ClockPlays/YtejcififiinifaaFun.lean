/-
  What the clock's functions answer: of each thread the greater, or the lesser, of both; one more. No condition but that numbers have 32 bits.
-/
import Derived.Test.YtejcififiinifaaClk
import Derived.Deep.CutRange
namespace Go.Proofs.Ytejcififiinifaa
open Go.ChangeShapes Go.WideShapes Go.ChangeAt Go.RowKit
set_option linter.unusedVariables false
set_option maxRecDepth 20000

/-- the greater and the lesser of two -/
def maxI (a b : Int) : Int := if a ≤ b then b else a
def minI (a b : Int) : Int := if a ≤ b then a else b
theorem greater_calls (a b : Int) (w : World) : Calls Try.prog 16 #[.int .u32 a, .int .u32 b] w fun e u => e = .returned (.int .u32 (maxI a b)) ∧ u = w := by
  go_enter Try.func16, Try.ntmps16
  go_wp2
  all_goals go_ret
  all_goals exact ⟨ret_int (by unfold maxI; split <;> omega), rfl⟩
theorem lesser_calls (a b : Int) (w : World) : Calls Try.prog 17 #[.int .u32 a, .int .u32 b] w fun e u => e = .returned (.int .u32 (minI a b)) ∧ u = w := by
  go_enter Try.func17, Try.ntmps17
  go_wp2
  all_goals go_ret
  all_goals exact ⟨ret_int (by unfold minI; split <;> omega), rfl⟩

/-- the world behind two or three new blocks -/
theorem start2 (w : World) (C X : Array Value) (t u : TypeId) :
    Has ((w.alloc (.cells C t)).alloc (.cells X u)) w.heap.size C t ∧ Has ((w.alloc (.cells C t)).alloc (.cells X u)) (w.heap.size + 1) X u ∧ Gr w ((w.alloc (.cells C t)).alloc (.cells X u)) := by
  refine ⟨(Has.new w C t).alloc _ _, ?_, ((Gr.refl w).alloc _ _).alloc _ _⟩
  have := Has.new (w.alloc (.cells C t)) X u
  simpa using this
theorem start3 (w : World) (C X : Array Value) (t u : TypeId) (Z : Array Value) (s : TypeId) :
    Has (((w.alloc (.cells C t)).alloc (.cells X u)).alloc (.cells Z s)) w.heap.size C t ∧ Has (((w.alloc (.cells C t)).alloc (.cells X u)).alloc (.cells Z s)) (w.heap.size + 1) X u ∧
    Has (((w.alloc (.cells C t)).alloc (.cells X u)).alloc (.cells Z s)) (w.heap.size + 1 + 1) Z s ∧ Gr w (((w.alloc (.cells C t)).alloc (.cells X u)).alloc (.cells Z s)) := by
  refine ⟨((Has.new w C t).alloc _ _).alloc _ _, ?_, ?_, (((Gr.refl w).alloc _ _).alloc _ _).alloc _ _⟩
  · have := (Has.new (w.alloc (.cells C t)) X u).alloc Z s
    simpa using this
  · have := Has.new ((w.alloc (.cells C t)).alloc (.cells X u)) Z s
    simpa using this

/-- thread by thread, so far -/
def mixF (op : Int → Int → Int) (f g : Nat → Int) (k : Nat) : Nat → Int := fun i => if i < k then op (f i) (g i) else f i
theorem mix_at (op : Int → Int → Int) (f g : Nat → Int) (k : Nat) : mixF op f g k k = f k := by simp [mixF]
theorem mix_zero (op : Int → Int → Int) (f g : Nat → Int) : mixF op f g 0 = f := by funext i; simp [mixF]
theorem mix_next (op : Int → Int → Int) (f g : Nat → Int) (k : Nat) : putF (mixF op f g k) k (op (f k) (g k)) = mixF op f g (k + 1) := by
  funext i
  unfold putF mixF
  by_cases h : i = k
  · subst h; rw [if_pos rfl, if_pos (by omega)]
  · rw [if_neg h]
    by_cases h2 : i < k
    · rw [if_pos h2, if_pos (by omega)]
    · rw [if_neg h2, if_neg (by omega)]
theorem mix_all (op : Int → Int → Int) (f g : Nat → Int) : ckC (mixF op f g 8) = ckC (fun i => op (f i) (g i)) := ckC_congr fun i hi => by simp [mixF, hi]

/-- the world as a loop of 'with' finds it -/
structure Wt (w : World) (f g : Nat → Int) (op : Int → Int → Int) (k : Nat) (u : World) : Prop where
  gr : Gr w u
  fst : Has u w.heap.size (ckC (mixF op f g k)) 25
  snd : Has u (w.heap.size + 1) (ckC g) 25
  out : Has u (w.heap.size + 1 + 1) (ckC zeroF) 25
theorem Wt.stab (w : World) (f g : Nat → Int) (op : Int → Int → Int) (k : Nat) : Stab (Wt w f g op k) := fun _ _ h q => ⟨h.gr.trans q, h.fst.later q, h.snd.later q, h.out.later q⟩

theorem wp_store_int {o : Oper} {a : Act} {w : World} {K : Act → World → Prop} {Q : Exit → Act → World → Prop} (hd0 : o.dst = none) (x y : Operand) (ho : o.op = .store 22 x y) (g j : Nat) (hx : a.eval x = .pointer (some ⟨g, j, none⟩)) (n : Int) (hy : a.eval y = .int .u32 n)
    (m : Int) (hc : w.cell? ⟨g, j, none⟩ = some (.int .u32 m)) (hf : w.frozen? ⟨g, j, none⟩ = false) (h : K a (w.setCell ⟨g, j, none⟩ (.int .u32 n))) : Oper.wp Try.prog o a w K Q := by
  unfold Oper.wp execOp
  simp only [ho, hx, hy]
  go_simp
  exact h

set_option maxHeartbeats 2000000 in
theorem with_calls (F : FuncId) (op : Int → Int → Int) (hF : ∀ (args : Array Value) (u : World), (callFunc F args).run Try.prog u = .ok (.enter F args) u) (hop : ∀ a b w, Calls Try.prog F #[.int .u32 a, .int .u32 b] w fun e u => e = .returned (.int .u32 (op a b)) ∧ u = w) (f g : Nat → Int) (w : World) :
    Calls Try.prog 15 #[.agg (ckC f), .agg (ckC g), .func (.func F) #[] #[]] w fun e u => e = .returned (.agg (ckC fun i => op (f i) (g i))) ∧ Gr w u := by
  obtain ⟨a0, a1, a2, ag⟩ := start3 w (ckC f) (ckC g) 25 25 (ckC zeroF) 25
  go_enter Try.func15, Try.ntmps15
  go_wp2_with (fail)
  go_loopw [8] (fun i wr => ∃ k : Nat, k ≤ 8 ∧ i = .int .i64 k ∧ Wt w f g op k wr) (fun i _ => 8 - (intOf i).toNat)
  case atStart => exact ⟨0, by omega, rfl, ag, by rw [mix_zero]; exact a0, a1, a2⟩
  case round =>
    clear a0 a1 a2 ag
    obtain ⟨k, hk, rfl, hW⟩ := hrel
    by_cases hlt : k < 8
    · have hlt' : (k : Int) < 8 := by omega
      go_wp2_with (fail)
      refine begin_grow 11 [10] (Wt w f g op k) (by kernel_rfl) rfl (Wt.stab w f g op k) (Wt.stab w f g op k _ _ hW ((Gr.refl _).drew)) ?_
      have c0 : ∀ u, Wt w f g op k u → u.cell? ⟨w.heap.size, k, none⟩ = some (.int .u32 (f k)) := fun u h => by
        have := h.fst.cell (ckC_get (mixF op f g k) hlt)
        rw [mix_at] at this
        exact this
      have c1 : ∀ u, Wt w f g op k u → u.cell? ⟨w.heap.size + 1, k, none⟩ = some (.int .u32 (g k)) := fun u h => h.snd.cell (ckC_get g hlt)
      refine AnyG.take 0 11 (.int .i64 k) rfl rfl (by kernel_rfl) (yg_pure (by kernel_rfl) (fun u => by go_simp)) ?_
      simp only [Act.put, List.setIfInBounds_toArray, List.set_cons_zero, List.set_cons_succ]
      refine AnyG.take 1 12 (.func (.func F) #[] #[]) rfl rfl (by kernel_rfl) (yg_pure (by kernel_rfl) (fun u => by go_simp)) ?_
      simp only [Act.put, List.setIfInBounds_toArray, List.set_cons_zero, List.set_cons_succ]
      refine AnyG.take 2 13 (.int .i64 k) rfl rfl (by kernel_rfl) (yg_pure (by kernel_rfl) (fun u => by go_simp)) ?_
      simp only [Act.put, List.setIfInBounds_toArray, List.set_cons_zero, List.set_cons_succ]
      refine AnyG.take 3 14 (.pointer (some ⟨w.heap.size, k, none⟩)) rfl rfl (by kernel_rfl) (yg_pure (by kernel_rfl) (fun u => by go_simp)) ?_
      simp only [Act.put, List.setIfInBounds_toArray, List.set_cons_zero, List.set_cons_succ]
      refine AnyG.take 4 15 (.int .u32 (f k)) rfl rfl (by kernel_rfl) (yg_held (by kernel_rfl) (fun u hu => by have := c0 u hu; go_simp)) ?_
      simp only [Act.put, List.setIfInBounds_toArray, List.set_cons_zero, List.set_cons_succ]
      refine AnyG.take 5 16 (.int .i64 k) rfl rfl (by kernel_rfl) (yg_pure (by kernel_rfl) (fun u => by go_simp)) ?_
      simp only [Act.put, List.setIfInBounds_toArray, List.set_cons_zero, List.set_cons_succ]
      refine AnyG.take 6 17 (.pointer (some ⟨w.heap.size + 1, k, none⟩)) rfl rfl (by kernel_rfl) (yg_pure (by kernel_rfl) (fun u => by go_simp)) ?_
      simp only [Act.put, List.setIfInBounds_toArray, List.set_cons_zero, List.set_cons_succ]
      refine AnyG.take 7 18 (.int .u32 (g k)) rfl rfl (by kernel_rfl) (yg_held (by kernel_rfl) (fun u hu => by have := c1 u hu; go_simp)) ?_
      simp only [Act.put, List.setIfInBounds_toArray, List.set_cons_zero, List.set_cons_succ]
      refine AnyG.take 8 19 (.int .u32 (op (f k) (g k))) rfl rfl (by kernel_rfl) (yg_call F #[.int .u32 (f k), .int .u32 (g k)] (by kernel_rfl) (fun u => by have := hF #[.int .u32 (f k), .int .u32 (g k)] u; go_simp) (fun u => (hop (f k) (g k) u).mono fun e v h => ⟨h.1, h.2 ▸ Gr.refl _⟩)) ?_
      simp only [Act.put, List.setIfInBounds_toArray, List.set_cons_zero, List.set_cons_succ]
      refine AnyG.take 9 20 (.pointer (some ⟨w.heap.size, k, none⟩)) rfl rfl (by kernel_rfl) (yg_pure (by kernel_rfl) (fun u => by go_simp)) ?_
      simp only [Act.put, List.setIfInBounds_toArray, List.set_cons_zero, List.set_cons_succ]
      refine AnyG.rest (by kernel_rfl) fun u hu => ?_
      refine AnyL.one 10 (by kernel_rfl) rfl (by kernel_rfl) ?_
      refine wp_store_int rfl _ _ rfl w.heap.size k rfl (op (f k) (g k)) rfl (f k) (c0 u hu) (hu.fst.free k) ?_
      refine ⟨fun _ => trivial, ?_⟩
      refine AnyL.done (by kernel_rfl) ?_
      have hN : Wt w f g op (k + 1) (u.setCell ⟨w.heap.size, k, none⟩ (.int .u32 (op (f k) (g k)))) := ⟨hu.gr.setCell (a := ⟨w.heap.size, k, none⟩) (Nat.le_refl _) _, by rw [← mix_next]; exact hu.fst.put hlt _, hu.snd.aside (by omega) _ _, hu.out.aside (by omega) _ _⟩
      generalize u.setCell ⟨w.heap.size, k, none⟩ (.int .u32 (op (f k) (g k))) = u' at hN ⊢
      clear hu c0 c1
      go_wp2_with (fail)
      exact ⟨⟨k + 1, by omega, by go_num, hN⟩, by simp [intOf]; omega⟩
    · obtain rfl : k = 8 := by omega
      go_wp2_with (first
        | (refine load_ck cktC (by kernel_rfl) _ rfl w.heap.size rfl (mixF op f g 8) _ hW.fst ?_)
        | (refine store_ck cktC rfl _ _ rfl (w.heap.size + 1 + 1) rfl (mixF op f g 8) rfl zeroF _ hW.out ?_))
      exact bodyPost_ret (results_ck rfl _ _ (w.heap.size + 1 + 1) (mixF op f g 8) rfl _ (hW.out.row _)) rfl ⟨by rw [mix_all], hW.gr.setRow (by omega) _⟩
theorem enters_greater (args : Array Value) (u : World) : (callFunc 16 args).run Try.prog u = .ok (.enter 16 args) u := by kernel_rfl
theorem enters_lesser (args : Array Value) (u : World) : (callFunc 17 args).run Try.prog u = .ok (.enter 17 args) u := by kernel_rfl

/-- what either knows; what both know -/
def joinF (f g : Nat → Int) : Nat → Int := fun i => maxI (f i) (g i)
def meetF (f g : Nat → Int) : Nat → Int := fun i => minI (f i) (g i)
theorem join_calls (f g : Nat → Int) (w : World) : Calls Try.prog 12 #[.agg (ckC f), .agg (ckC g)] w fun e u => e = .returned (.agg (ckC (joinF f g))) ∧ Gr w u := by
  obtain ⟨a0, a1, a2, ag⟩ := start3 w (ckC f) (ckC g) 25 25 (ckC zeroF) 25
  go_enter Try.func12, Try.ntmps12
  go_wp2_with (first
    | (refine load_ck cktC (by kernel_rfl) _ rfl w.heap.size rfl f _ a0 ?_)
    | (refine load_ck cktC (by kernel_rfl) _ rfl (w.heap.size + 1) rfl g _ a1 ?_))
  refine (with_calls 16 maxI enters_greater greater_calls f g _).mono ?_
  rintro e u ⟨rfl, hg⟩
  replace a2 := a2.later hg
  replace ag := ag.trans hg
  clear a0 a1
  go_wp2_with (refine store_ck cktC rfl _ _ rfl (w.heap.size + 1 + 1) rfl (joinF f g) rfl zeroF _ a2 ?_)
  exact bodyPost_ret (results_ck rfl _ _ (w.heap.size + 1 + 1) (joinF f g) rfl _ (a2.row _)) rfl ⟨rfl, ag.setRow (by omega) _⟩
theorem meet_calls (f g : Nat → Int) (w : World) : Calls Try.prog 13 #[.agg (ckC f), .agg (ckC g)] w fun e u => e = .returned (.agg (ckC (meetF f g))) ∧ Gr w u := by
  obtain ⟨a0, a1, a2, ag⟩ := start3 w (ckC f) (ckC g) 25 25 (ckC zeroF) 25
  go_enter Try.func13, Try.ntmps13
  go_wp2_with (first
    | (refine load_ck cktC (by kernel_rfl) _ rfl w.heap.size rfl f _ a0 ?_)
    | (refine load_ck cktC (by kernel_rfl) _ rfl (w.heap.size + 1) rfl g _ a1 ?_))
  refine (with_calls 17 minI enters_lesser lesser_calls f g _).mono ?_
  rintro e u ⟨rfl, hg⟩
  replace a2 := a2.later hg
  replace ag := ag.trans hg
  clear a0 a1
  go_wp2_with (refine store_ck cktC rfl _ _ rfl (w.heap.size + 1 + 1) rfl (meetF f g) rfl zeroF _ a2 ?_)
  exact bodyPost_ret (results_ck rfl _ _ (w.heap.size + 1 + 1) (meetF f g) rfl _ (a2.row _)) rfl ⟨rfl, ag.setRow (by omega) _⟩

/-- one more, in 32 bits -/
def upI (a : Int) : Int := if a = 4294967295 then 0 else a + 1
/-- one more of a thread; of no thread: nothing -/
def tickF (f : Nat → Int) (t : Int) : Nat → Int := if 0 ≤ t ∧ t < 8 then putF f t.toNat (upI (f t.toNat)) else f
theorem upI_wrap {a : Int} (h0 : 0 ≤ a) (h1 : a < 4294967296) : IntKind.u32.wrap (a + 1) = upI a := by
  unfold upI
  split
  · rename_i h; subst h; rfl
  · simp [IntKind.wrap, IntKind.bits, IntKind.signed]; omega
set_option maxHeartbeats 1000000 in
theorem tick_calls (f : Nat → Int) (hf : CkOk f) (t : Int) (w : World) : Calls Try.prog 14 #[.agg (ckC f), .int .i64 t] w fun e u => e = .returned (.agg (ckC (tickF f t))) ∧ Gr w u := by
  obtain ⟨a0, a1, ag⟩ := start2 w (ckC f) #[.int .u32 0, .int .u32 0, .int .u32 0, .int .u32 0, .int .u32 0, .int .u32 0, .int .u32 0, .int .u32 0] 25 25
  by_cases h : 0 ≤ t ∧ t < 8
  · obtain ⟨k, rfl⟩ := Int.eq_ofNat_of_zero_le h.1
    have hk : k < 8 := by omega
    have hk8 : (k : Int) < 8 := h.2
    have ht : tickF f k = putF f k (upI (f k)) := by unfold tickF; rw [if_pos h]; rfl
    rw [ht]
    have hfk := hf k hk
    have hup := upI_wrap hfk.1 hfk.2
    have hc := a0.cell (ckC_get f hk)
    have hz := a0.free k
    clear ht h
    generalize upI (f k) = n at hup ⊢
    generalize f k = m at hc hup hfk
    go_enter Try.func14, Try.ntmps14
    go_upto_region 2 with (fail)
    generalize ((w.alloc (.cells (ckC f) 25)).alloc (.cells #[.int .u32 0, .int .u32 0, .int .u32 0, .int .u32 0, .int .u32 0, .int .u32 0, .int .u32 0, .int .u32 0] 25)) = w1 at a0 a1 ag hc hz ⊢
    have b0 := a0.put hk n
    have b1 := a1.aside (k := w.heap.size) (by omega) k (.int .u32 n)
    have bg := ag.setCell (a := ⟨w.heap.size, k, none⟩) (Nat.le_refl _) (.int .u32 n)
    go_upto_region 3 with (fail)
    generalize w1.setCell ⟨w.heap.size, k, none⟩ (.int .u32 n) = w2 at b0 b1 bg ⊢
    clear a0 a1 ag hc hz
    go_wp2_with (first
      | (refine load_ck cktC (by kernel_rfl) _ rfl w.heap.size rfl (putF f k n) _ b0 ?_)
      | (refine store_ck cktC rfl _ _ rfl (w.heap.size + 1) rfl (putF f k n) rfl zeroF _ b1 ?_))
    exact bodyPost_ret (results_ck rfl _ _ (w.heap.size + 1) (putF f k n) rfl _ (b1.row _)) rfl ⟨rfl, bg.setRow (by omega) _⟩
  · have ht : tickF f t = f := by unfold tickF; rw [if_neg h]
    rw [ht]
    clear ht
    by_cases h0 : 0 ≤ t
    · have h8 : ¬ t < 8 := fun q => h ⟨h0, q⟩
      go_enter Try.func14, Try.ntmps14
      go_wp2_with (first
        | (refine load_ck cktC (by kernel_rfl) _ rfl w.heap.size rfl f _ a0 ?_)
        | (refine store_ck cktC rfl _ _ rfl (w.heap.size + 1) rfl f rfl zeroF _ a1 ?_))
      exact bodyPost_ret (results_ck rfl _ _ (w.heap.size + 1) f rfl _ (a1.row _)) rfl ⟨rfl, ag.setRow (by omega) _⟩
    · go_enter Try.func14, Try.ntmps14
      go_wp2_with (first
        | (refine load_ck cktC (by kernel_rfl) _ rfl w.heap.size rfl f _ a0 ?_)
        | (refine store_ck cktC rfl _ _ rfl (w.heap.size + 1) rfl f rfl zeroF _ a1 ?_))
      exact bodyPost_ret (results_ck rfl _ _ (w.heap.size + 1) f rfl _ (a1.row _)) rfl ⟨rfl, ag.setRow (by omega) _⟩
end Go.Proofs.Ytejcififiinifaa
