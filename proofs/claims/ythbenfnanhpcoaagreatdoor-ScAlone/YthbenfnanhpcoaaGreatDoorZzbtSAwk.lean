/-
  What both and awake of stage 10's laws answer. No condition.
-/
import Derived.Test.YthbenfnanhpcoaaGreatDoorZzbpSNewB
import Derived.Test.YthbenfnanhpcoaaGreatDoorZzbq
import Derived.Test.YthbenfnanhpcoaaGreatDoorZzbr
import Derived.Test.YthbenfnanhpcoaaGreatDoorZzbsAwk9
namespace Go.Proofs.YthbenfnanhpcoaaGreatDoor.Sc
open Go.Proofs.YthbenfnanhpcoaaGreatDoor.Mc Go.ChangeShapes Go.WideShapes Go.ChangeAt Go.RowKit
set_option linter.unusedVariables false
set_option maxRecDepth 20000

theorem both1_calls (a b : Int) (w : World) : Calls Tryz.prog 66 #[.int .u32 a, .int .u32 b] w fun r w' => r = .returned (.slice (some ⟨w.heap.size, 0, none⟩) 3 3) ∧ w' = w.alloc (.cells (flatOf insL (codeE a b)).toArray 72) := by
  go_enter Tryz.func66, Tryz.ntmps66
  go_wp2_with (fail)
  go_ret
  exact ⟨rfl, rfl⟩
abbrev pgZ : Array Value := #[.slice none 0 0, .slice none 0 0, .int .i64 0]
theorem infoPg (p : Pgm) : (Tryz.prog.info? 27).map (·.size) = some (pgA p).size := by
  show _ = some 3
  kernel_rfl
theorem pgA_one (p : Pgm) : (pgA p).all (·.oneCell') = true := by simp [pgA, Value.oneCell']
theorem pgZ_set (p : Pgm) : Kq.setA pgZ 0 (pgA p).toList = pgA p := by
  have := Kq.setA_seg (pgA p).toList [] pgZ.toList [] rfl
  simpa using this
set_option maxHeartbeats 1000000 in
theorem both_calls (w : World) : Calls Tryz.prog 42 #[] w fun r w' => ∃ cb c1 c2 mz, r = .returned (.agg (pgA (awP cb c1 c2 mz))) ∧ AwI w w' c1 c2 cb mz := by
  have g0 := (Gr.refl w).alloc pgZ 27
  have kz := Has.new w pgZ 27
  go_enter Tryz.func42, Tryz.ntmps42
  go_upto_region 2 with (fail)
  change Code.wp _ _ _ _ (w.alloc (.cells pgZ 27))
  generalize w.alloc (.cells pgZ 27) = w1 at g0 kz ⊢
  obtain ⟨q, hq⟩ : ∃ q, w.heap.size = q := ⟨_, rfl⟩
  rw [hq] at kz ⊢
  refine begin_late 8 [7] (fun w' => Gr w1 w') (by kernel_rfl) rfl ?_
  have hH : Gr w1 w1.drew := (Gr.refl w1).drew
  refine AnyL.takeP 0 (some 2) (.func (.func 66) #[] #[]) rfl rfl (by kernel_rfl) (by kernel_rfl) (by kernel_rfl) (by kernel_rfl) (fun _ _ _ h => h) (by kernel_rfl) (fun w' => by go_simp) (fun _ => hH) ?_
  simp only [Act.put, List.setIfInBounds_toArray, List.set_cons_zero, List.set_cons_succ]
  refine AnyL.takeP 2 (some 4) (.func (.func 66) #[] #[]) rfl rfl (by kernel_rfl) (by kernel_rfl) (by kernel_rfl) (by kernel_rfl) (fun _ _ _ h => h) (by kernel_rfl) (fun w' => by go_simp) (fun _ => hH) ?_
  simp only [Act.put, List.setIfInBounds_toArray, List.set_cons_zero, List.set_cons_succ]
  have G0 : Gr w1 w1.drew := hH
  generalize w1.drew = x0 at G0 hH ⊢
  clear hH
  -- TREE
  refine AnyL.two 1 5 (by kernel_rfl) rfl rfl (by kernel_rfl) ?_ ?_
  · refine wp_call (some 3) rfl 66 _ (by kernel_rfl) (both1_calls 0 1 x0) ?_
    rintro r q ⟨rfl, rfl⟩
    refine ⟨_, rfl, fun _ => G0.alloc _ _, ?_⟩
    simp only [Act.put, List.setIfInBounds_toArray, List.set_cons_zero, List.set_cons_succ]
    have h1 := Has.new x0 (flatOf insL (codeE 0 1)).toArray 72
    have G1 := G0.alloc (flatOf insL (codeE 0 1)).toArray 72
    generalize x0.alloc (.cells (flatOf insL (codeE 0 1)).toArray 72) = x1 at h1 G1 ⊢
    generalize x0.heap.size = b1 at h1 ⊢
    refine AnyL.two 3 5 (by kernel_rfl) rfl rfl (by kernel_rfl) ?_ ?_
    · refine wp_call (some 5) rfl 66 _ (by kernel_rfl) (both1_calls 1 0 x1) ?_
      rintro r q ⟨rfl, rfl⟩
      refine ⟨_, rfl, fun _ => G1.alloc _ _, ?_⟩
      simp only [Act.put, List.setIfInBounds_toArray, List.set_cons_zero, List.set_cons_succ]
      have h2 := Has.new x1 (flatOf insL (codeE 1 0)).toArray 72
      have G2 := G1.alloc (flatOf insL (codeE 1 0)).toArray 72
      replace h1 := h1.later ((Gr.refl x1).alloc (flatOf insL (codeE 1 0)).toArray 72)
      generalize x1.alloc (.cells (flatOf insL (codeE 1 0)).toArray 72) = x2 at h2 G2 h1 ⊢
      generalize x1.heap.size = b3 at h2 ⊢
      refine AnyL.two 4 5 (by kernel_rfl) rfl rfl (by kernel_rfl) ?_ ?_
      · refine wp_made (some 6) rfl _ _ (build_cd _ _ rfl b1 b3 (by kernel_rfl) (by kernel_rfl)) ?_
        refine ⟨fun _ => G2.alloc _ _, ?_⟩
        simp only [Act.put, List.setIfInBounds_toArray, List.set_cons_zero, List.set_cons_succ]
        have h3 := Has.new x2 #[.slice (some ⟨b1, 0, none⟩) 3 3, .slice (some ⟨b3, 0, none⟩) 3 3] 65
        have G3 := G2.alloc #[.slice (some ⟨b1, 0, none⟩) 3 3, .slice (some ⟨b3, 0, none⟩) 3 3] 65
        replace h1 := h1.later ((Gr.refl x2).alloc #[.slice (some ⟨b1, 0, none⟩) 3 3, .slice (some ⟨b3, 0, none⟩) 3 3] 65)
        replace h2 := h2.later ((Gr.refl x2).alloc #[.slice (some ⟨b1, 0, none⟩) 3 3, .slice (some ⟨b3, 0, none⟩) 3 3] 65)
        generalize x2.alloc (.cells #[.slice (some ⟨b1, 0, none⟩) 3 3, .slice (some ⟨b3, 0, none⟩) 3 3] 65) = x3 at h3 G3 h1 h2 ⊢
        generalize x2.heap.size = b4 at h3 ⊢
        refine AnyL.one 5 (by kernel_rfl) rfl (by kernel_rfl) ?_
        refine wp_made (some 7) rfl _ _ (make_o2 rfl) ?_
        refine ⟨fun _ => G3.alloc _ _, ?_⟩
        simp only [Act.put, List.setIfInBounds_toArray, List.set_cons_zero, List.set_cons_succ]
        have h4 := Has.new x3 #[.int .u32 0, .int .u32 0] 39
        have G4 := G3.alloc #[.int .u32 0, .int .u32 0] 39
        replace h1 := h1.later ((Gr.refl x3).alloc #[.int .u32 0, .int .u32 0] 39)
        replace h2 := h2.later ((Gr.refl x3).alloc #[.int .u32 0, .int .u32 0] 39)
        replace h3 := h3.later ((Gr.refl x3).alloc #[.int .u32 0, .int .u32 0] 39)
        generalize x3.alloc (.cells #[.int .u32 0, .int .u32 0] 39) = x4 at h4 G4 h1 h2 h3 ⊢
        generalize x3.heap.size = b5 at h4 ⊢
        have I := hide (⟨G4, h1, h2, h3, h4⟩ : AwI w1 x4 b1 b3 b4 b5)
        clear h1 h2 h3 h4 G0 G1 G2 G3 G4
        generalize x4 = x at I ⊢
        have hH := I.out.g
        refine AnyL.takeP 6 (some 8) (.agg (pgA (awP b4 b1 b3 b5))) rfl rfl (by kernel_rfl) (by kernel_rfl) (by kernel_rfl) (by kernel_rfl) (fun _ _ _ h => h) (by kernel_rfl) (fun w' => by go_simp; rfl) (fun _ => hH) ?_
        simp only [Act.put, List.setIfInBounds_toArray, List.set_cons_zero, List.set_cons_succ]
        have kq := kz.later hH
        have thr : x.there q 0 (pgA (awP b4 b1 b3 b5)).size := kq.there 0 3 (by decide)
        refine AnyL.one 7 (by kernel_rfl) rfl (by kernel_rfl) ?_
        refine wp_store_mid 27 _ _ rfl q 0 (pgA (awP b4 b1 b3 b5)) (by kernel_rfl) (by kernel_rfl) thr (infoPg _) (pgA_one _) ?_
        refine ⟨late (by kernel_rfl), ?_⟩
        refine AnyL.done (by kernel_rfl) ?_
        have e1 := Kq.setCells_has (pgA (awP b4 b1 b3 b5)).toList 0 x _ kq
        have kp := Kq.kp_setCells (b := q) (pgA (awP b4 b1 b3 b5)).toList 0 x
        rw [pgZ_set] at e1
        have gf := Kp.gr (g0.trans hH) kp (by intro z hz; rw [show z = q by simpa using hz]; omega)
        have J : Hid (AwI w (x.setCells q 0 (pgA (awP b4 b1 b3 b5)).toList) b1 b3 b4 b5) := ⟨gf, I.out.h1.kept kp (fun z => I.out.h1.apart kq (by decide) (by simpa using z)), I.out.h2.kept kp (fun z => I.out.h2.apart kq (by decide) (by simpa using z)), I.out.h3.kept kp (fun z => I.out.h3.apart kq (by decide) (by simpa using z)), I.out.h4.kept kp (fun z => I.out.h4.apart kq (by decide) (by simpa using z))⟩
        have E1 := hide e1
        clear e1 kp gf thr kq hH kz g0
        generalize x.setCells q 0 (pgA (awP b4 b1 b3 b5)).toList = x' at E1 J ⊢
        go_wp2_with (fail)
        exact bodyPost_ret (results_cell_row rfl _ _ q 27 (pgA (awP b4 b1 b3 b5)) (0, 0) _ rfl E1.out Tryz.underlying27 rfl (infoPg _)) rfl ⟨b4, b1, b3, b5, rfl, J.out⟩
      · refine wp_made (some 7) rfl _ _ (make_o2 rfl) ?_
        refine ⟨fun _ => G2.alloc _ _, ?_⟩
        simp only [Act.put, List.setIfInBounds_toArray, List.set_cons_zero, List.set_cons_succ]
        have h4 := Has.new x2 #[.int .u32 0, .int .u32 0] 39
        have G3 := G2.alloc #[.int .u32 0, .int .u32 0] 39
        replace h1 := h1.later ((Gr.refl x2).alloc #[.int .u32 0, .int .u32 0] 39)
        replace h2 := h2.later ((Gr.refl x2).alloc #[.int .u32 0, .int .u32 0] 39)
        generalize x2.alloc (.cells #[.int .u32 0, .int .u32 0] 39) = x3 at h4 G3 h1 h2 ⊢
        generalize x2.heap.size = b5 at h4 ⊢
        refine AnyL.one 4 (by kernel_rfl) rfl (by kernel_rfl) ?_
        refine wp_made (some 6) rfl _ _ (build_cd _ _ rfl b1 b3 (by kernel_rfl) (by kernel_rfl)) ?_
        refine ⟨fun _ => G3.alloc _ _, ?_⟩
        simp only [Act.put, List.setIfInBounds_toArray, List.set_cons_zero, List.set_cons_succ]
        have h3 := Has.new x3 #[.slice (some ⟨b1, 0, none⟩) 3 3, .slice (some ⟨b3, 0, none⟩) 3 3] 65
        have G4 := G3.alloc #[.slice (some ⟨b1, 0, none⟩) 3 3, .slice (some ⟨b3, 0, none⟩) 3 3] 65
        replace h1 := h1.later ((Gr.refl x3).alloc #[.slice (some ⟨b1, 0, none⟩) 3 3, .slice (some ⟨b3, 0, none⟩) 3 3] 65)
        replace h2 := h2.later ((Gr.refl x3).alloc #[.slice (some ⟨b1, 0, none⟩) 3 3, .slice (some ⟨b3, 0, none⟩) 3 3] 65)
        replace h4 := h4.later ((Gr.refl x3).alloc #[.slice (some ⟨b1, 0, none⟩) 3 3, .slice (some ⟨b3, 0, none⟩) 3 3] 65)
        generalize x3.alloc (.cells #[.slice (some ⟨b1, 0, none⟩) 3 3, .slice (some ⟨b3, 0, none⟩) 3 3] 65) = x4 at h3 G4 h1 h2 h4 ⊢
        generalize x3.heap.size = b4 at h3 ⊢
        have I := hide (⟨G4, h1, h2, h3, h4⟩ : AwI w1 x4 b1 b3 b4 b5)
        clear h1 h2 h3 h4 G0 G1 G2 G3 G4
        generalize x4 = x at I ⊢
        have hH := I.out.g
        refine AnyL.takeP 6 (some 8) (.agg (pgA (awP b4 b1 b3 b5))) rfl rfl (by kernel_rfl) (by kernel_rfl) (by kernel_rfl) (by kernel_rfl) (fun _ _ _ h => h) (by kernel_rfl) (fun w' => by go_simp; rfl) (fun _ => hH) ?_
        simp only [Act.put, List.setIfInBounds_toArray, List.set_cons_zero, List.set_cons_succ]
        have kq := kz.later hH
        have thr : x.there q 0 (pgA (awP b4 b1 b3 b5)).size := kq.there 0 3 (by decide)
        refine AnyL.one 7 (by kernel_rfl) rfl (by kernel_rfl) ?_
        refine wp_store_mid 27 _ _ rfl q 0 (pgA (awP b4 b1 b3 b5)) (by kernel_rfl) (by kernel_rfl) thr (infoPg _) (pgA_one _) ?_
        refine ⟨late (by kernel_rfl), ?_⟩
        refine AnyL.done (by kernel_rfl) ?_
        have e1 := Kq.setCells_has (pgA (awP b4 b1 b3 b5)).toList 0 x _ kq
        have kp := Kq.kp_setCells (b := q) (pgA (awP b4 b1 b3 b5)).toList 0 x
        rw [pgZ_set] at e1
        have gf := Kp.gr (g0.trans hH) kp (by intro z hz; rw [show z = q by simpa using hz]; omega)
        have J : Hid (AwI w (x.setCells q 0 (pgA (awP b4 b1 b3 b5)).toList) b1 b3 b4 b5) := ⟨gf, I.out.h1.kept kp (fun z => I.out.h1.apart kq (by decide) (by simpa using z)), I.out.h2.kept kp (fun z => I.out.h2.apart kq (by decide) (by simpa using z)), I.out.h3.kept kp (fun z => I.out.h3.apart kq (by decide) (by simpa using z)), I.out.h4.kept kp (fun z => I.out.h4.apart kq (by decide) (by simpa using z))⟩
        have E1 := hide e1
        clear e1 kp gf thr kq hH kz g0
        generalize x.setCells q 0 (pgA (awP b4 b1 b3 b5)).toList = x' at E1 J ⊢
        go_wp2_with (fail)
        exact bodyPost_ret (results_cell_row rfl _ _ q 27 (pgA (awP b4 b1 b3 b5)) (0, 0) _ rfl E1.out Tryz.underlying27 rfl (infoPg _)) rfl ⟨b4, b1, b3, b5, rfl, J.out⟩
    · refine wp_made (some 7) rfl _ _ (make_o2 rfl) ?_
      refine ⟨fun _ => G1.alloc _ _, ?_⟩
      simp only [Act.put, List.setIfInBounds_toArray, List.set_cons_zero, List.set_cons_succ]
      have h4 := Has.new x1 #[.int .u32 0, .int .u32 0] 39
      have G2 := G1.alloc #[.int .u32 0, .int .u32 0] 39
      replace h1 := h1.later ((Gr.refl x1).alloc #[.int .u32 0, .int .u32 0] 39)
      generalize x1.alloc (.cells #[.int .u32 0, .int .u32 0] 39) = x2 at h4 G2 h1 ⊢
      generalize x1.heap.size = b5 at h4 ⊢
      refine AnyL.one 3 (by kernel_rfl) rfl (by kernel_rfl) ?_
      refine wp_call (some 5) rfl 66 _ (by kernel_rfl) (both1_calls 1 0 x2) ?_
      rintro r q ⟨rfl, rfl⟩
      refine ⟨_, rfl, fun _ => G2.alloc _ _, ?_⟩
      simp only [Act.put, List.setIfInBounds_toArray, List.set_cons_zero, List.set_cons_succ]
      have h2 := Has.new x2 (flatOf insL (codeE 1 0)).toArray 72
      have G3 := G2.alloc (flatOf insL (codeE 1 0)).toArray 72
      replace h1 := h1.later ((Gr.refl x2).alloc (flatOf insL (codeE 1 0)).toArray 72)
      replace h4 := h4.later ((Gr.refl x2).alloc (flatOf insL (codeE 1 0)).toArray 72)
      generalize x2.alloc (.cells (flatOf insL (codeE 1 0)).toArray 72) = x3 at h2 G3 h1 h4 ⊢
      generalize x2.heap.size = b3 at h2 ⊢
      refine AnyL.one 4 (by kernel_rfl) rfl (by kernel_rfl) ?_
      refine wp_made (some 6) rfl _ _ (build_cd _ _ rfl b1 b3 (by kernel_rfl) (by kernel_rfl)) ?_
      refine ⟨fun _ => G3.alloc _ _, ?_⟩
      simp only [Act.put, List.setIfInBounds_toArray, List.set_cons_zero, List.set_cons_succ]
      have h3 := Has.new x3 #[.slice (some ⟨b1, 0, none⟩) 3 3, .slice (some ⟨b3, 0, none⟩) 3 3] 65
      have G4 := G3.alloc #[.slice (some ⟨b1, 0, none⟩) 3 3, .slice (some ⟨b3, 0, none⟩) 3 3] 65
      replace h1 := h1.later ((Gr.refl x3).alloc #[.slice (some ⟨b1, 0, none⟩) 3 3, .slice (some ⟨b3, 0, none⟩) 3 3] 65)
      replace h4 := h4.later ((Gr.refl x3).alloc #[.slice (some ⟨b1, 0, none⟩) 3 3, .slice (some ⟨b3, 0, none⟩) 3 3] 65)
      replace h2 := h2.later ((Gr.refl x3).alloc #[.slice (some ⟨b1, 0, none⟩) 3 3, .slice (some ⟨b3, 0, none⟩) 3 3] 65)
      generalize x3.alloc (.cells #[.slice (some ⟨b1, 0, none⟩) 3 3, .slice (some ⟨b3, 0, none⟩) 3 3] 65) = x4 at h3 G4 h1 h4 h2 ⊢
      generalize x3.heap.size = b4 at h3 ⊢
      have I := hide (⟨G4, h1, h2, h3, h4⟩ : AwI w1 x4 b1 b3 b4 b5)
      clear h1 h2 h3 h4 G0 G1 G2 G3 G4
      generalize x4 = x at I ⊢
      have hH := I.out.g
      refine AnyL.takeP 6 (some 8) (.agg (pgA (awP b4 b1 b3 b5))) rfl rfl (by kernel_rfl) (by kernel_rfl) (by kernel_rfl) (by kernel_rfl) (fun _ _ _ h => h) (by kernel_rfl) (fun w' => by go_simp; rfl) (fun _ => hH) ?_
      simp only [Act.put, List.setIfInBounds_toArray, List.set_cons_zero, List.set_cons_succ]
      have kq := kz.later hH
      have thr : x.there q 0 (pgA (awP b4 b1 b3 b5)).size := kq.there 0 3 (by decide)
      refine AnyL.one 7 (by kernel_rfl) rfl (by kernel_rfl) ?_
      refine wp_store_mid 27 _ _ rfl q 0 (pgA (awP b4 b1 b3 b5)) (by kernel_rfl) (by kernel_rfl) thr (infoPg _) (pgA_one _) ?_
      refine ⟨late (by kernel_rfl), ?_⟩
      refine AnyL.done (by kernel_rfl) ?_
      have e1 := Kq.setCells_has (pgA (awP b4 b1 b3 b5)).toList 0 x _ kq
      have kp := Kq.kp_setCells (b := q) (pgA (awP b4 b1 b3 b5)).toList 0 x
      rw [pgZ_set] at e1
      have gf := Kp.gr (g0.trans hH) kp (by intro z hz; rw [show z = q by simpa using hz]; omega)
      have J : Hid (AwI w (x.setCells q 0 (pgA (awP b4 b1 b3 b5)).toList) b1 b3 b4 b5) := ⟨gf, I.out.h1.kept kp (fun z => I.out.h1.apart kq (by decide) (by simpa using z)), I.out.h2.kept kp (fun z => I.out.h2.apart kq (by decide) (by simpa using z)), I.out.h3.kept kp (fun z => I.out.h3.apart kq (by decide) (by simpa using z)), I.out.h4.kept kp (fun z => I.out.h4.apart kq (by decide) (by simpa using z))⟩
      have E1 := hide e1
      clear e1 kp gf thr kq hH kz g0
      generalize x.setCells q 0 (pgA (awP b4 b1 b3 b5)).toList = x' at E1 J ⊢
      go_wp2_with (fail)
      exact bodyPost_ret (results_cell_row rfl _ _ q 27 (pgA (awP b4 b1 b3 b5)) (0, 0) _ rfl E1.out Tryz.underlying27 rfl (infoPg _)) rfl ⟨b4, b1, b3, b5, rfl, J.out⟩
  · refine wp_made (some 7) rfl _ _ (make_o2 rfl) ?_
    refine ⟨fun _ => G0.alloc _ _, ?_⟩
    simp only [Act.put, List.setIfInBounds_toArray, List.set_cons_zero, List.set_cons_succ]
    have h4 := Has.new x0 #[.int .u32 0, .int .u32 0] 39
    have G1 := G0.alloc #[.int .u32 0, .int .u32 0] 39
    generalize x0.alloc (.cells #[.int .u32 0, .int .u32 0] 39) = x1 at h4 G1 ⊢
    generalize x0.heap.size = b5 at h4 ⊢
    refine AnyL.one 1 (by kernel_rfl) rfl (by kernel_rfl) ?_
    refine wp_call (some 3) rfl 66 _ (by kernel_rfl) (both1_calls 0 1 x1) ?_
    rintro r q ⟨rfl, rfl⟩
    refine ⟨_, rfl, fun _ => G1.alloc _ _, ?_⟩
    simp only [Act.put, List.setIfInBounds_toArray, List.set_cons_zero, List.set_cons_succ]
    have h1 := Has.new x1 (flatOf insL (codeE 0 1)).toArray 72
    have G2 := G1.alloc (flatOf insL (codeE 0 1)).toArray 72
    replace h4 := h4.later ((Gr.refl x1).alloc (flatOf insL (codeE 0 1)).toArray 72)
    generalize x1.alloc (.cells (flatOf insL (codeE 0 1)).toArray 72) = x2 at h1 G2 h4 ⊢
    generalize x1.heap.size = b1 at h1 ⊢
    refine AnyL.one 3 (by kernel_rfl) rfl (by kernel_rfl) ?_
    refine wp_call (some 5) rfl 66 _ (by kernel_rfl) (both1_calls 1 0 x2) ?_
    rintro r q ⟨rfl, rfl⟩
    refine ⟨_, rfl, fun _ => G2.alloc _ _, ?_⟩
    simp only [Act.put, List.setIfInBounds_toArray, List.set_cons_zero, List.set_cons_succ]
    have h2 := Has.new x2 (flatOf insL (codeE 1 0)).toArray 72
    have G3 := G2.alloc (flatOf insL (codeE 1 0)).toArray 72
    replace h4 := h4.later ((Gr.refl x2).alloc (flatOf insL (codeE 1 0)).toArray 72)
    replace h1 := h1.later ((Gr.refl x2).alloc (flatOf insL (codeE 1 0)).toArray 72)
    generalize x2.alloc (.cells (flatOf insL (codeE 1 0)).toArray 72) = x3 at h2 G3 h4 h1 ⊢
    generalize x2.heap.size = b3 at h2 ⊢
    refine AnyL.one 4 (by kernel_rfl) rfl (by kernel_rfl) ?_
    refine wp_made (some 6) rfl _ _ (build_cd _ _ rfl b1 b3 (by kernel_rfl) (by kernel_rfl)) ?_
    refine ⟨fun _ => G3.alloc _ _, ?_⟩
    simp only [Act.put, List.setIfInBounds_toArray, List.set_cons_zero, List.set_cons_succ]
    have h3 := Has.new x3 #[.slice (some ⟨b1, 0, none⟩) 3 3, .slice (some ⟨b3, 0, none⟩) 3 3] 65
    have G4 := G3.alloc #[.slice (some ⟨b1, 0, none⟩) 3 3, .slice (some ⟨b3, 0, none⟩) 3 3] 65
    replace h4 := h4.later ((Gr.refl x3).alloc #[.slice (some ⟨b1, 0, none⟩) 3 3, .slice (some ⟨b3, 0, none⟩) 3 3] 65)
    replace h1 := h1.later ((Gr.refl x3).alloc #[.slice (some ⟨b1, 0, none⟩) 3 3, .slice (some ⟨b3, 0, none⟩) 3 3] 65)
    replace h2 := h2.later ((Gr.refl x3).alloc #[.slice (some ⟨b1, 0, none⟩) 3 3, .slice (some ⟨b3, 0, none⟩) 3 3] 65)
    generalize x3.alloc (.cells #[.slice (some ⟨b1, 0, none⟩) 3 3, .slice (some ⟨b3, 0, none⟩) 3 3] 65) = x4 at h3 G4 h4 h1 h2 ⊢
    generalize x3.heap.size = b4 at h3 ⊢
    have I := hide (⟨G4, h1, h2, h3, h4⟩ : AwI w1 x4 b1 b3 b4 b5)
    clear h1 h2 h3 h4 G0 G1 G2 G3 G4
    generalize x4 = x at I ⊢
    have hH := I.out.g
    refine AnyL.takeP 6 (some 8) (.agg (pgA (awP b4 b1 b3 b5))) rfl rfl (by kernel_rfl) (by kernel_rfl) (by kernel_rfl) (by kernel_rfl) (fun _ _ _ h => h) (by kernel_rfl) (fun w' => by go_simp; rfl) (fun _ => hH) ?_
    simp only [Act.put, List.setIfInBounds_toArray, List.set_cons_zero, List.set_cons_succ]
    have kq := kz.later hH
    have thr : x.there q 0 (pgA (awP b4 b1 b3 b5)).size := kq.there 0 3 (by decide)
    refine AnyL.one 7 (by kernel_rfl) rfl (by kernel_rfl) ?_
    refine wp_store_mid 27 _ _ rfl q 0 (pgA (awP b4 b1 b3 b5)) (by kernel_rfl) (by kernel_rfl) thr (infoPg _) (pgA_one _) ?_
    refine ⟨late (by kernel_rfl), ?_⟩
    refine AnyL.done (by kernel_rfl) ?_
    have e1 := Kq.setCells_has (pgA (awP b4 b1 b3 b5)).toList 0 x _ kq
    have kp := Kq.kp_setCells (b := q) (pgA (awP b4 b1 b3 b5)).toList 0 x
    rw [pgZ_set] at e1
    have gf := Kp.gr (g0.trans hH) kp (by intro z hz; rw [show z = q by simpa using hz]; omega)
    have J : Hid (AwI w (x.setCells q 0 (pgA (awP b4 b1 b3 b5)).toList) b1 b3 b4 b5) := ⟨gf, I.out.h1.kept kp (fun z => I.out.h1.apart kq (by decide) (by simpa using z)), I.out.h2.kept kp (fun z => I.out.h2.apart kq (by decide) (by simpa using z)), I.out.h3.kept kp (fun z => I.out.h3.apart kq (by decide) (by simpa using z)), I.out.h4.kept kp (fun z => I.out.h4.apart kq (by decide) (by simpa using z))⟩
    have E1 := hide e1
    clear e1 kp gf thr kq hH kz g0
    generalize x.setCells q 0 (pgA (awP b4 b1 b3 b5)).toList = x' at E1 J ⊢
    go_wp2_with (fail)
    exact bodyPost_ret (results_cell_row rfl _ _ q 27 (pgA (awP b4 b1 b3 b5)) (0, 0) _ rfl E1.out Tryz.underlying27 rfl (infoPg _)) rfl ⟨b4, b1, b3, b5, rfl, J.out⟩
  -- END

def awS : Nat → Ms
  | 0 => awM
  | j + 1 => (awS j).pickS 2 0 ((j : Int) % 2)
theorem awS_short (j : Nat) : Short (awS j) := by
  induction j with
  | zero => exact awJ_short 0
  | succ j ih => exact short_pickS ih _ _ _
def awU : Th := ⟨3, [0, 1, 1, 0, 0, 0, 0, 0], 0⟩
theorem awS_t0 : ((awS 6).side 0).t = awU := by kernel_rfl
theorem awS_t1 : ((awS 6).side 1).t = awU := by kernel_rfl
theorem awS_n : (awS 6).evs.length = 4 := by kernel_rfl
theorem awS_two : (awS 6).sides.length = 2 := by kernel_rfl
abbrev awUC : Array Value := #[.int .i64 3, .int .u32 0, .int .u32 1, .int .u32 1, .int .u32 0, .int .u32 0, .int .u32 0, .int .u32 0, .int .u32 0, .int .i64 0]
theorem awU_C : thC awU = awUC := by rfl
abbrev awUR : Array Value := #[.int .u32 0, .int .u32 1, .int .u32 1, .int .u32 0, .int .u32 0, .int .u32 0, .int .u32 0, .int .u32 0]
theorem field_U (w : World) : (Instr.field 42 (.agg awUC) 1).run Tryz.prog w = .ok (.agg awUR) w := by kernel_rfl
theorem index_U (w : World) : (Instr.index 40 (.agg awUR) (.int .i64 2)).run Tryz.prog w = .ok (.int .u32 1) w := by kernel_rfl
set_option maxHeartbeats 1000000 in
theorem awake_calls (w : World) (L : Laid w) : Calls Tryz.prog 19 #[] w fun r w' => r = .returned (.bool true) ∧ Gr w w' := by
  have HB := hide (both_calls w)
  go_enter Tryz.func19, Tryz.ntmps19
  go_wp2_with (fail)
  refine HB.out.mono ?_
  rintro r x ⟨cb, c1, c2, mz, rfl, I0⟩
  have I := hide I0
  have HN := hide (new_calls (awP cb c1 c2 mz) x (L.later I.out.g) (awP_at I.out.h1 I.out.h2 I.out.h3 I.out.h4))
  clear I0 HB
  go_wp2_with (fail)
  refine HN.out.mono ?_
  rintro r u NP
  rcases NP with ⟨-, k, e, ⟨rfl, hM, hN⟩, hF, g⟩ | ⟨hne, -⟩
  rotate_left
  · exact absurd (awP_chk cb c1 c2 mz) hne
  have hGu := I.out.g.trans g
  rw [awP_new] at hM
  have hfoot : Hid (∀ y ∈ k.foot e, w.heap.size ≤ y) := fun y hy => Nat.le_trans I.out.g.size (hF y hy)
  have p0 : Pst (MI k) (k.foot e) u [] (awS 0) u := Pst.start (mi_inv k) ⟨e, hM, rfl⟩
  have HG := hide hGu
  have hN2 : Hid ((k.N : Int) = 2) := by show _ = _; rw [hN]; rfl
  generalize k.foot e = F at hfoot p0
  clear hM hF g hGu HN hN
  go_wp2_with (fail)
  go_loopw [3] (fun v wr => ∃ j : Nat, j ≤ 6 ∧ v = .int .i64 j ∧ Pst (MI k) F u [] (awS j) wr ∧ (awS j).evs.length ≤ j ∧ Short (awS j)) (fun v _ => 6 - (intOf v).toNat)
  case atStart => exact ⟨0, by omega, rfl, p0, Nat.le_refl _, awS_short 0⟩
  case round =>
    clear p0
    obtain ⟨j, hj, rfl, p, he, hs⟩ := hrel
    by_cases hlt : j < 6
    · have hlt' : (j : Int) < 6 := by omega
      obtain ⟨e1, h1⟩ := pst_mw p
      have HD := hide (fun wx => pick_does k (awS j) 0 ((j : Int) % 2) (fuel_few h1.ok (by omega)) hs wx)
      have he1 := evs_pickS (s := awS j) (n := k.N) 0 ((j : Int) % 2)
      have PP := hide p
      clear p h1 hs
      have HJ : Hid (awS (j + 1) = (awS j).pickS k.N 0 ((j : Int) % 2)) := by show _ = _; rw [hN2.out]; rfl
      go_wp2_with (fail)
      refine ((HD.out wr).go PP.out).mono ?_
      rintro r q ⟨⟨rfl, -⟩, p1⟩
      have PQ := hide p1
      clear p1 HD PP
      go_wp2_with (fail)
      exact ⟨⟨j + 1, by omega, by go_num, by rw [HJ.out]; exact PQ.out, by rw [HJ.out]; omega, awS_short _⟩, by simp [intOf]; omega⟩
    · have hj' : j = 6 := by omega
      subst hj'
      have PP := hide p
      obtain ⟨e1, h1⟩ := pst_mw p
      have T0 := thread_calls h1 0 (by rw [awS_two]; omega)
      rw [awS_t0, awU_C] at T0
      have HT0 := hide T0
      have H1 := hide h1
      clear p h1 hs T0
      go_wp2_with (fail)
      refine HT0.out.mono ?_
      rintro r q1 ⟨rfl, gq1⟩
      have T1 := thread_calls (H1.out.later gq1) 1 (by rw [awS_two]; omega)
      rw [awS_t1, awU_C] at T1
      have HT1 := hide T1
      have GQ1 := hide gq1
      have fu := field_U q1
      have iu := index_U q1
      clear T1 gq1 HT0
      go_wp2_with (fail)
      refine HT1.out.mono ?_
      rintro r q2 ⟨rfl, gq2⟩
      have T2 := count_calls (H1.out.later (GQ1.out.trans gq2))
      rw [awS_n] at T2
      have HT2 := hide T2
      have GQ2 := hide (GQ1.out.trans gq2)
      have fu := field_U q2
      have iu := index_U q2
      clear T2 gq2 HT1 GQ1
      go_wp2_with (fail)
      refine HT2.out.mono ?_
      rintro r q3 ⟨rfl, gq3⟩
      have GF : Hid (Gr w q3) := by
        obtain ⟨F', -, kp, -⟩ := PP.out
        exact ((Kp.gr HG.out kp hfoot.out).trans GQ2.out).trans gq3
      clear gq3 HT2
      go_wp2_with (fail)
      go_ret
      exact ⟨rfl, GF.out⟩
end Go.Proofs.YthbenfnanhpcoaaGreatDoor.Sc
