/-
  What hears does to the last call of a row, whatever the event. No condition but that the row and its inner places lie so, and that the event's K is a word.
-/
import Derived.Test.YtfhplbmgjgfihaaBeg
import Derived.Deep.CutRange
namespace Go.Proofs.Ytfhplbmgjgfihaa
open Go.ChangeShapes Go.WideShapes Go.ChangeAt Go.RowKit
set_option linter.unusedVariables false
set_option maxRecDepth 20000

theorem wp_store_int {o : Oper} {a : Act} {w : World} {K : Act → World → Prop} {Q : Exit → Act → World → Prop} (hd0 : o.dst = none) (x y : Operand) (ho : o.op = .store 3 x y) (g j : Nat) (hx : a.eval x = .pointer (some ⟨g, j, none⟩)) (n : Int) (hy : a.eval y = .int .i64 n)
    (m : Int) (hc : w.cell? ⟨g, j, none⟩ = some (.int .i64 m)) (hf : w.frozen? ⟨g, j, none⟩ = false) (h : K a (w.setCell ⟨g, j, none⟩ (.int .i64 n))) : Oper.wp Try.prog o a w K Q := by
  unfold Oper.wp execOp
  simp only [ho, hx, hy]
  go_simp
  exact h
theorem wp_store_word {o : Oper} {a : Act} {w : World} {K : Act → World → Prop} {Q : Exit → Act → World → Prop} (hd0 : o.dst = none) (x y : Operand) (ho : o.op = .store 33 x y) (g j : Nat) (hx : a.eval x = .pointer (some ⟨g, j, none⟩)) (v : Int) (hy : a.eval y = .int .u32 v)
    (old : Int) (hc : w.cell? ⟨g, j, none⟩ = some (.int .u32 old)) (hf : w.frozen? ⟨g, j, none⟩ = false) (h : K a (w.setCell ⟨g, j, none⟩ (.int .u32 v))) : Oper.wp Try.prog o a w K Q := by
  unfold Oper.wp execOp
  simp only [ho, hx, hy]
  go_simp
  exact h
theorem infoE8 : (Try.prog.info? 35).map (·.size) = some 8 := by kernel_rfl
theorem take_ev {ops : Array Oper} {S : World → Prop} {op : Oper} {a : Act} (hw : Region.wanted op (yielded ops a.tmps) = true) (x : Operand) (ho : op.op = .load 35 x)
    (g : Nat) (hx : a.eval x = .pointer (some ⟨g, 0, none⟩)) (e : Ev) (hS : ∀ w, S w → Has w g (evA e) 35) : YieldsIf Try.prog ops S op (.agg (evA e)) a :=
  .inl ⟨hw, fun w hw' => by
    unfold execOp
    simp only [ho, hx, Instr.loadAt, Instr.sureAddr, Sem.run_bind, Sem.run_pure, Result.andThen_ok, run_loadVar_row w g 35 35 (evA e) (0, 0) _ (hS w hw') Try.underlying35 rfl infoE8]⟩

/-- what hears leaves: the last call, another one; new blocks, and what was its own, are all that is otherwise -/
def HearP (w : World) (base m b cc k : Nat) (ds : List Cl) (c : Cl) (q : Ca) (r : Ending) (w' : World) : Prop :=
  ∃ c' : Cl, ((r = .returned (.tuple #[]) ∧ w'.ownsRow base 43 6 (.slice (some ⟨b, 0, none⟩) k cc) k (flatOf clL ds ++ clL c')) ∧ (c'.q = q ∧ NumsO w' m (slI c') c'.q.inner)) ∧ Kp (b :: ob (slI c)) w w'

set_option maxHeartbeats 2000000 in
theorem hears_calls {w : World} {base m b cc k : Nat} {ds : List Cl} {c : Cl} (hrow : w.ownsRow base 43 6 (.slice (some ⟨b, 0, none⟩) k cc) k (flatOf clL ds ++ clL c)) (hin : NumsO w m (slI c) c.q.inner) (hm : m ≤ w.heap.size) (hlen : c.q.inner.length ≤ 900) (at' : Int) (x : Ev) (hx : EvOk x) :
    Calls Try.prog 27 #[.pointer (some ⟨b, ds.length * 6, none⟩), .int .i64 at', .agg (evA x)] w (HearP w base m b cc k ds c (hearsQ c.q at' x)) := by
  obtain ⟨C, hb⟩ : ∃ C, Has w b C 43 := own_has hrow (k := b) (by simp [ob, Value.ownBlock])
  have g0 := (Gr.refl w).alloc (evA x) 35
  have he := Has.new w (evA x) 35
  have hb1 := hb.alloc (evA x) 35
  have hr1 := own_later hrow g0
  have hi1 := own_later hin g0
  obtain ⟨⟨site, who, began, ended, result, inner⟩, ia, ic⟩ := c
  simp only [slI] at hin hi1 hlen
  have HX := hide hx
  clear hrow hin hb hx
  go_enter Try.func27, Try.ntmps27
  go_upto_region 1 with (fail)
  change Code.wp _ _ _ _ (w.alloc (.cells (evA x) 35))
  have hm1 : m ≤ (w.alloc (.cells (evA x) 35)).heap.size := Nat.le_trans hm g0.size
  generalize w.alloc (.cells (evA x) 35) = w1 at g0 he hb1 hr1 hi1 hm1 ⊢
  generalize w.heap.size = eb at he
  have k0 := he.cell (o := 0) (v := .int .i64 x.kind) rfl
  by_cases h3 : x.kind = 3
  · have h3' : (x.kind == 3) = true := by simpa using h3
    have HQ := hide (show hearsQ ⟨site, who, began, ended, result, inner⟩ at' x = ⟨site, who, began, ended, result, inner⟩ by unfold hearsQ; rw [if_pos h3])
    clear h3
    go_wp2_with (fail)
    go_end0
    exact ⟨⟨⟨site, who, began, ended, result, inner⟩, ia, ic⟩, ⟨⟨rfl, hr1⟩, HQ.out.symm, hi1⟩, g0.kp _⟩
  · have h3' : (x.kind == 3) = false := by simpa using h3
    by_cases h7 : x.kind = 7
    · have h7' : (x.kind == 7) = true := by simpa using h7
      have h73 : ((7 : Int) == 3) = false := by decide
      have HQ7 := hide (show hearsQ ⟨site, who, began, ended, result, inner⟩ at' x = if x.k / 2 = site then ⟨site, who, began, at', x.value, inner⟩ else ⟨site, who, began, ended, result, inner⟩ by unfold hearsQ; rw [if_neg h3, if_pos h7])
      clear h3 h7
      go_wp2_with (fail)
      have c0 : ∀ w2, Gr w1 w2 → w2.cell? ⟨b, ds.length * 6, none⟩ = some (.int .i64 site) := fun w2 g => last_cell (own_later hr1 g) 0 (by omega)
      refine begin_late 7 [] (fun w' => Gr w1 w') (by kernel_rfl) rfl ?_
      have hH : Gr w1 w1.drew := (Gr.refl w1).drew
      refine AnyL.take 0 (some 22) (.agg (evA x)) rfl rfl (by kernel_rfl) (by kernel_rfl) (by kernel_rfl) (by kernel_rfl) (fun _ _ _ h => h) (take_ev (by kernel_rfl) _ rfl eb (by kernel_rfl) x (fun w h => he.later h)) hH ?_
      simp only [Act.put, List.setIfInBounds_toArray, List.set_cons_zero, List.set_cons_succ]
      refine AnyL.takeP 2 (some 24) (.pointer (some ⟨b, ds.length * 6, none⟩)) rfl rfl (by kernel_rfl) (by kernel_rfl) (by kernel_rfl) (by kernel_rfl) (fun _ _ _ h => h) (by kernel_rfl) (fun w' => by go_simp) (fun _ => hH) ?_
      simp only [Act.put, List.setIfInBounds_toArray, List.set_cons_zero, List.set_cons_succ]
      refine AnyL.takeP 3 (some 25) (.pointer (some ⟨b, ds.length * 6, none⟩)) rfl rfl (by kernel_rfl) (by kernel_rfl) (by kernel_rfl) (by kernel_rfl) (fun _ _ _ h => h) (by kernel_rfl) (fun w' => by go_simp) (fun _ => hH) ?_
      simp only [Act.put, List.setIfInBounds_toArray, List.set_cons_zero, List.set_cons_succ]
      refine AnyL.takeP 4 (some 26) (.pointer (some ⟨b, ds.length * 6, none⟩)) rfl rfl (by kernel_rfl) (by kernel_rfl) (by kernel_rfl) (by kernel_rfl) (fun _ _ _ h => h) (by kernel_rfl) (fun w' => by go_simp) (fun _ => hH) ?_
      simp only [Act.put, List.setIfInBounds_toArray, List.set_cons_zero, List.set_cons_succ]
      refine AnyL.take 5 (some 27) (.int .i64 site) rfl rfl (by kernel_rfl) (by kernel_rfl) (by kernel_rfl) (by kernel_rfl) (fun _ _ _ h => h) (yields_held _ (by kernel_rfl) (fun w' hw' => by have c0' := c0 _ hw'; clear c0; go_simp)) hH ?_
      simp only [Act.put, List.setIfInBounds_toArray, List.set_cons_zero, List.set_cons_succ]
      refine AnyL.one 1 (by kernel_rfl) rfl (by kernel_rfl) ?_
      have HC := site_calls x HX.out w1.drew
      refine wp_call (some 23) rfl 26 #[.agg (evA x)] (by kernel_rfl) HC ?_
      rintro e w2 ⟨rfl, g2⟩
      refine ⟨_, rfl, ?_⟩
      replace hH := hH.trans g2
      refine ⟨fun _ => hH, ?_⟩
      simp only [Act.put, List.setIfInBounds_toArray, List.set_cons_zero, List.set_cons_succ]
      refine AnyL.takeP 6 (some 28) (.bool (x.k / 2 == site)) rfl rfl (by kernel_rfl) (by kernel_rfl) (by kernel_rfl) (by kernel_rfl) (fun _ _ _ h => h) (by kernel_rfl) (fun w' => by go_simp) (fun _ => hH) ?_
      simp only [Act.put, List.setIfInBounds_toArray, List.set_cons_zero, List.set_cons_succ]
      refine AnyL.done (by kernel_rfl) ?_
      have hr2 := own_later hr1 hH
      have hb2 := hb1.later hH
      have he2 := he.later hH
      have hi2 := own_later hi1 hH
      have g2' := g0.trans hH
      clear c0 hr1 hb1 he hi1 g0 hH k0 g2 HC
      by_cases hs : x.k / 2 = site
      · have hs' : (x.k / 2 == site) = true := by simpa using hs
        have HQ := hide (HQ7.out.trans (if_pos hs))
        clear hs
        have HS := hide hs'
        go_wp2_with (fail)
        have hr3 := own_later hr2 (Gr.refl w2).drew
        have c3 : w2.drew.cell? ⟨b, ds.length * 6 + 3, none⟩ = some (.int .i64 ended) := last_cell hr3 3 (by omega)
        have hb3 := hb2.drew
        have hr4 := last_set hr3 rfl 3 (by omega) (.int .i64 at')
        have c4 : (w2.drew.setCell ⟨b, ds.length * 6 + 3, none⟩ (.int .i64 at')).cell? ⟨b, ds.length * 6 + 4, none⟩ = some (.int .u32 result) := last_cell (d := ⟨⟨site, who, began, at', result, inner⟩, ia, ic⟩) hr4 4 (by omega)
        have hb4 := hb3.set (ds.length * 6 + 3) (.int .i64 at')
        refine begin_late 11 [10] (fun w' => Has w' eb (evA x) 35) (by kernel_rfl) rfl ?_
        have hH := he2.drew
        have hne : eb ≠ b := fun q => (he2.apart hb2 (by decide)) q
        refine AnyL.takeP 0 (some 29) (.pointer (some ⟨b, ds.length * 6, none⟩)) rfl rfl (by kernel_rfl) (by kernel_rfl) (by kernel_rfl) (by kernel_rfl) (fun _ _ _ h => h) (by kernel_rfl) (fun w' => by go_simp) (fun _ => hH) ?_
        simp only [Act.put, List.setIfInBounds_toArray, List.set_cons_zero, List.set_cons_succ]
        refine AnyL.takeP 1 (some 30) (.pointer (some ⟨b, ds.length * 6, none⟩)) rfl rfl (by kernel_rfl) (by kernel_rfl) (by kernel_rfl) (by kernel_rfl) (fun _ _ _ h => h) (by kernel_rfl) (fun w' => by go_simp) (fun _ => hH) ?_
        simp only [Act.put, List.setIfInBounds_toArray, List.set_cons_zero, List.set_cons_succ]
        refine AnyL.takeP 2 (some 31) (.int .i64 at') rfl rfl (by kernel_rfl) (by kernel_rfl) (by kernel_rfl) (by kernel_rfl) (fun _ _ _ h => h) (by kernel_rfl) (fun w' => by go_simp) (fun _ => hH) ?_
        simp only [Act.put, List.setIfInBounds_toArray, List.set_cons_zero, List.set_cons_succ]
        refine AnyL.takeP 3 (some 32) (.pointer (some ⟨eb, 4, none⟩)) rfl rfl (by kernel_rfl) (by kernel_rfl) (by kernel_rfl) (by kernel_rfl) (fun _ _ _ h => h) (by kernel_rfl) (fun w' => by go_simp) (fun _ => hH) ?_
        simp only [Act.put, List.setIfInBounds_toArray, List.set_cons_zero, List.set_cons_succ]
        refine AnyL.take 4 (some 33) (.int .u32 x.value) rfl rfl (by kernel_rfl) (by kernel_rfl) (by kernel_rfl) (by kernel_rfl) (fun _ _ _ h => h) (yields_held _ (by kernel_rfl) (fun w' hw' => by have k4 := hw'.cell (o := 4) (v := .int .u32 x.value) rfl; go_simp)) hH ?_
        simp only [Act.put, List.setIfInBounds_toArray, List.set_cons_zero, List.set_cons_succ]
        refine AnyL.takeP 5 (some 34) (.pointer (some ⟨b, ds.length * 6, none⟩)) rfl rfl (by kernel_rfl) (by kernel_rfl) (by kernel_rfl) (by kernel_rfl) (fun _ _ _ h => h) (by kernel_rfl) (fun w' => by go_simp) (fun _ => hH) ?_
        simp only [Act.put, List.setIfInBounds_toArray, List.set_cons_zero, List.set_cons_succ]
        refine AnyL.takeP 6 (some 35) (.pointer (some ⟨b, ds.length * 6 + 3, none⟩)) rfl rfl (by kernel_rfl) (by kernel_rfl) (by kernel_rfl) (by kernel_rfl) (fun _ _ _ h => h) (by kernel_rfl) (fun w' => by go_simp) (fun _ => hH) ?_
        simp only [Act.put, List.setIfInBounds_toArray, List.set_cons_zero, List.set_cons_succ]
        refine AnyL.one 7 (by kernel_rfl) rfl (by kernel_rfl) ?_
        refine wp_store_int rfl _ _ rfl b (ds.length * 6 + 3) (by kernel_rfl) at' (by kernel_rfl) _ c3 (hb3.free _) ?_
        have hH' := hH.aside hne (ds.length * 6 + 3) (.int .i64 at')
        refine ⟨fun _ => hH', ?_⟩
        refine AnyL.one 8 (by kernel_rfl) rfl (by kernel_rfl) ?_
        refine wp_value (some 36) rfl (.pointer (some ⟨b, ds.length * 6, none⟩)) (by go_simp) ?_
        refine ⟨fun _ => hH', ?_⟩
        simp only [Act.put, List.setIfInBounds_toArray, List.set_cons_zero, List.set_cons_succ]
        refine AnyL.one 9 (by kernel_rfl) rfl (by kernel_rfl) ?_
        refine wp_value (some 37) rfl (.pointer (some ⟨b, ds.length * 6 + 4, none⟩)) (by go_simp) ?_
        refine ⟨fun _ => hH', ?_⟩
        simp only [Act.put, List.setIfInBounds_toArray, List.set_cons_zero, List.set_cons_succ]
        refine AnyL.one 10 (by kernel_rfl) rfl (by kernel_rfl) ?_
        refine wp_store_word rfl _ _ rfl b (ds.length * 6 + 4) (by kernel_rfl) x.value (by kernel_rfl) _ c4 (hb4.free _) ?_
        refine ⟨late (by kernel_rfl), ?_⟩
        refine AnyL.done (by kernel_rfl) ?_
        have hr5 := last_set hr4 rfl 4 (by omega) (.int .u32 x.value)
        have K1 := (Kp.setCell w2.drew b (ds.length * 6 + 3) (.int .i64 at')).trans (Kp.setCell (w2.drew.setCell ⟨b, ds.length * 6 + 3, none⟩ (.int .i64 at')) b (ds.length * 6 + 4) (.int .u32 x.value)) (f := [b]) (fun x h => h) (fun x h => .inl h)
        have hi3 := own_kept (own_later hi2 (Gr.refl w2).drew) K1 (fun g h1 h2 => by
          obtain rfl : g = b := by simpa using h2
          obtain ⟨D, hD⟩ := own_has hi2 (mem_ob.2 h1)
          exact hD.apart hb2 (by decide) rfl)
        generalize (w2.drew.setCell ⟨b, ds.length * 6 + 3, none⟩ (.int .i64 at')).setCell ⟨b, ds.length * 6 + 4, none⟩ (.int .u32 x.value) = w3 at hr5 hi3 K1 ⊢
        clear c3 c4 hr4 hb4 hr3 hb3 hH
        go_wp2_with (fail)
        go_end0
        exact ⟨⟨⟨site, who, began, at', x.value, inner⟩, ia, ic⟩, ⟨⟨rfl, hr5⟩, HQ.out.symm, hi3⟩, (g2'.drew.kp _).trans K1 (fun x h => h) (fun x h => .inl (by rw [List.mem_singleton.1 h]; exact List.mem_cons_self ..))⟩
      · have hs' : (x.k / 2 == site) = false := by simpa using hs
        have HQ := hide (HQ7.out.trans (if_neg hs))
        clear hs
        go_wp2_with (fail)
        go_end0
        exact ⟨⟨⟨site, who, began, ended, result, inner⟩, ia, ic⟩, ⟨⟨rfl, hr2⟩, HQ.out.symm, hi2⟩, g2'.kp _⟩
    · have h7' : (x.kind == 7) = false := by simpa using h7
      have HQ := hide (show hearsQ ⟨site, who, began, ended, result, inner⟩ at' x = ⟨site, who, began, ended, result, inner ++ [at']⟩ by unfold hearsQ; rw [if_neg h3, if_neg h7])
      clear h3 h7
      have c5 : w1.cell? ⟨b, ds.length * 6 + 5, none⟩ = some (.slice ia inner.length ic) := last_cell hr1 5 (by omega)
      have f5 := hb1.free (ds.length * 6 + 5)
      obtain ⟨v', w', hr, ho, hg, hob⟩ := app_rec (T := 28) (ty := 28) numL_len numL_one Try.underlying28 infoNum rfl (by omega) (by omega) hi1 at' #[.int .i64 at'] rfl (by omega) hm1
      obtain ⟨M, hM⟩ : ∃ M, (inner ++ [at']).length = M := ⟨_, rfl⟩
      rw [hM] at ho
      have HM := hide hM
      clear hM
      obtain ⟨va, vc, rfl, -⟩ := own_at ho
      have HR := hide hr
      have hb2 := (hb1.alloc #[.int .i64 at'] 3).kept (Kp.grown hg) (fun q => by
        obtain ⟨D, hD⟩ := own_has hi1 q
        exact hb1.apart hD (by decide) rfl)
      have f5' := hb2.free (ds.length * 6 + 5)
      have hr2 := own_kept (own_later hr1 ((Gr.refl w1).alloc #[.int .i64 at'] 3)) (Kp.grown hg) (fun g h1 h2 => by
        obtain rfl : b = g := by simpa [Value.ownBlock] using h1
        obtain ⟨D, hD⟩ := own_has hi1 h2
        exact hb1.apart hD (by decide) rfl)
      have c5' : w'.cell? ⟨b, ds.length * 6 + 5, none⟩ = some (.slice ia inner.length ic) := last_cell hr2 5 (by omega)
      have HR2 := hide hr2
      have HO := hide ho
      have HKG := hide (Kp.grown hg)
      clear hr ho hg hob hr2 hr1
      go_wp2_with (first
        | (refine step_app rfl (some 15) rfl _ _ _ rfl (.slice ia inner.length ic) (.slice (some ⟨w1.heap.size, 0, none⟩) 1 1) rfl rfl (.slice va M vc) w' (by exact HR.out) ?_))
      go_end0
      refine ⟨⟨⟨site, who, began, ended, result, inner ++ [at']⟩, va, vc⟩, ⟨⟨rfl, ?_⟩, HQ.out.symm, ?_⟩, ?_⟩
      · have h := last_set HR2.out rfl 5 (by omega) (.slice va M vc)
        rw [← HM.out] at h ⊢
        exact h
      · have h := own_kept HO.out (Kp.setCell w' b (ds.length * 6 + 5) (.slice va M vc)) (fun g h1 h2 => by
          obtain rfl : g = b := by simpa using h2
          obtain ⟨D, hD⟩ := own_has HO.out (mem_ob.2 h1)
          exact hD.apart hb2 (by decide) rfl)
        show World.ownsRow _ _ _ _ _ (inner ++ [at']).length _
        rw [show slI ⟨⟨site, who, began, ended, result, inner ++ [at']⟩, va, vc⟩ = .slice va M vc by rw [← HM.out], HM.out]
        exact h
      · exact ((g0.alloc #[.int .i64 at'] 3).kp _).trans (HKG.out.trans (Kp.setCell w' b (ds.length * 6 + 5) (.slice va M vc)) (f := b :: ob (slI ⟨⟨site, who, began, ended, result, inner⟩, ia, ic⟩)) (fun x h => List.mem_cons_of_mem _ h) (fun x h => .inl (by rw [List.mem_singleton.1 h]; exact List.mem_cons_self ..))) (fun x h => h) (fun x h => .inl h)
end Go.Proofs.Ytfhplbmgjgfihaa
