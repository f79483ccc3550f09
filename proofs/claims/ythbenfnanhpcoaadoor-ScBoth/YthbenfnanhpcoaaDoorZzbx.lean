/-
  What TsoSees answers of any program and any picks: true. No condition but what each law names.
-/
import Derived.Test.YthbenfnanhpcoaaDoorZzbrAwk9
import Derived.Test.YthbenfnanhpcoaaDoorZzbt
import Derived.Test.YthbenfnanhpcoaaDoorZzbwRSeW
import Derived.Test.YthbenfnanhpcoaaDoorZzbh
import Derived.Test.YthbenfnanhpcoaaDoorZzbsSAwk
import Derived.Test.YthbenfnanhpcoaaDoorZzbv
import Derived.Test.YthbenfnanhpcoaaDoorZzbq
namespace Go.Proofs.YthbenfnanhpcoaaDoor.Mc
open Go.ChangeShapes Go.WideShapes Go.ChangeAt Go.RowKit
set_option linter.unusedVariables false
set_option maxRecDepth 20000

theorem newM_side (p : Pgm) (i : Nat) : ((newM p).side i).buf = [] := by
  unfold newM Ms.side
  simp only [List.getD_eq_getElem?_getD, List.getElem?_map]
  cases p.codes[i]? <;> rfl
theorem newM_good (p : Pgm) : Good p.mem (newM p) := ⟨rfl, rfl, fun i _ => by rw [newM_side]; rfl, fun i _ c hc => by rw [newM_side] at hc; cases hc⟩
theorem newM_short {p : Pgm} (h : (chkM p).2.2 = 0) : Short (newM p) := fun i => by
  have hc := chk_codes h
  unfold newM Ms.side
  simp only [List.getD_eq_getElem?_getD, List.getElem?_map]
  cases he : p.codes[i]? with
  | none => exact Nat.zero_le _
  | some x => have := hc x (List.mem_of_getElem? he); show x.l.length ≤ 100000; omega

set_option maxHeartbeats 2000000 in
theorem sees_walk (p : Pgm) (hp : p.codes.length ≤ maxLen) (l : List Ent) (pa : Option Addr) (pc : Nat) (hl0 : l.length ≤ maxLen) (W : World) (L : Laid W) (hP : PgAt p W) (hrow : RowAt W pa (flatOf slpL l)) :
    Calls Tryd.prog 3 #[.agg (pgA p), .slice pa l.length pc] W fun r w' => r = .returned (.bool true) ∧ Gr W w' := by
  have g0 := (Gr.refl W).alloc (pgA p) 25
  have hb := Has.new W (pgA p) 25
  have HP := hide hP
  have HL := hide L
  have HRW := hide hrow
  have HA := hide (fun w (g : Gr W w) => awake_calls w (HL.out.later g))
  have HS := hide (fun w (g : Gr W w) => small_calls p hp w (HP.out.later g))
  have HN := hide (fun w (g : Gr W w) => new_calls p w (HL.out.later g) (HP.out.later g))
  clear hP hrow L hp
  go_enter Tryd.func3, Tryd.ntmps3
  go_upto_region 1 with (fail)
  change Code.wp _ _ _ _ (W.alloc (.cells (pgA p) 25))
  generalize W.alloc (.cells (pgA p) 25) = w1 at g0 hb ⊢
  generalize hbx : W.heap.size = bx at hb ⊢
  have HX := hide hbx
  clear hbx
  have A1 := hide (HA.out w1 g0)
  go_wp2_with (fail)
  refine A1.out.mono ?_
  rintro r w2 ⟨rfl, g1⟩
  have g2 := g0.trans g1
  have hb2 := hb.later g1
  have d0 := hb2.cell (o := 0) (v := .slice p.ca p.codes.length p.cc) rfl
  have d1 := hb2.cell (o := 1) (v := .slice p.ma p.mem.length p.mc) rfl
  have d2 := hb2.cell (o := 2) (v := .int .i64 p.room) rfl
  clear g0 hb g1 A1
  have A2 := hide (HS.out w2 g2)
  go_wp2_with (fail)
  refine A2.out.mono ?_
  rintro r w3 ⟨⟨b, rfl⟩, g3⟩
  have g4 := g2.trans g3
  have hb4 := hb2.later g3
  clear d0 d1 d2 g2 hb2 g3 A2
  have A3 := hide (HA.out w3 g4)
  cases b with
  | false =>
    have HG := hide g4
    clear g4 hb4
    go_wp2_with (fail)
    refine A3.out.mono ?_
    rintro r w4 ⟨rfl, g5⟩
    have HG2 := hide (HG.out.trans g5)
    clear g5
    go_wp2_with (fail)
    go_ret
    exact ⟨rfl, HG2.out⟩
  | true =>
    by_cases hl : 600 < l.length
    · have hl' : (600 : Int) < l.length := by omega
      have HG := hide g4
      clear g4 hb4
      go_wp2_with (fail)
      refine A3.out.mono ?_
      rintro r w4 ⟨rfl, g5⟩
      have HG2 := hide (HG.out.trans g5)
      clear g5
      go_wp2_with (fail)
      go_ret
      exact ⟨rfl, HG2.out⟩
    · have hl' : ¬ (600 : Int) < l.length := by omega
      have d0 := hb4.cell (o := 0) (v := .slice p.ca p.codes.length p.cc) rfl
      have d1 := hb4.cell (o := 1) (v := .slice p.ma p.mem.length p.mc) rfl
      have d2 := hb4.cell (o := 2) (v := .int .i64 p.room) rfl
      have A4 := hide (HN.out w3 g4)
      clear A3
      go_wp2_with (fail)
      refine A4.out.mono ?_
      rintro r w4 NP
      rcases NP with ⟨hc0, k, e, ⟨rfl, hM, hN⟩, hF, g5⟩ | ⟨hne, rfl, g5⟩
      · have g6 := g4.trans g5
        have hb6 := hb4.later g5
        clear d0 d1 d2 A4
        have hgd := newM_good p
        have hsh := newM_short hc0
        have hml := (chk_len hc0).2.2
        have p0 : MI k (k.foot e) (newM p) w4 := ⟨e, hM, rfl⟩
        have hW : ∀ y ∈ k.foot e, W.heap.size ≤ y := fun y hy => Nat.le_trans g4.size (hF y hy)
        have hnbx : bx ∉ k.foot e := fun z => by
          have h1 := hF bx z
          have h2 := hb4.lt
          omega
        have hout : ∀ y, pa = some y → 0 < l.length → y.block ∉ k.foot e := fun y hy h0 z => by
          obtain ⟨b, off, ha, -⟩ := HRW.out.get (by rw [flatOf_length slpL_len]; omega)
          rw [hy] at ha
          cases ha
          have h1 := HRW.out
          rw [hy] at h1
          have h2 := h1.lt (by rw [flatOf_length slpL_len]; omega)
          have h3 := hW _ z
          simp at h3
          omega
        have HRUN := hide (run_does k (Good p.mem) (fun s e w kind who hw hg => good_pick hw hg kind who) l pa pc (by omega) (newM p) hgd (Nat.zero_le _) hsh w4 (k.foot e) p0 (HRW.out.later g6) hout)
        generalize k.foot e = F at hW hnbx HRUN
        clear hM hN hF p0 hout g4 hb4 g5 hgd hsh
        go_wp2_with (fail)
        refine HRUN.out.mono ?_
        rintro r w5 ⟨⟨rfl, p1⟩, hgd, hev⟩
        obtain ⟨e5, h5⟩ := Pst.mw p1
        have g7 : Gr W w5 := by
          obtain ⟨F', -, kp, -⟩ := p1
          exact Kp.gr g6 kp hW
        have hb7 : Has w5 bx (pgA p) 25 := by
          obtain ⟨F', -, kp, -⟩ := p1
          exact hb6.kept kp hnbx
        have hok : SeesOk p.mem ((newM p).run k.N l).evs := ⟨_, hgd.see⟩
        generalize (newM p).run k.N l = sz at h5 hok hev
        have HE := hide (events_calls (h5.later (Gr.refl w5).drew) (by omega))
        have hev' : sz.evs.length ≤ 100000 := by omega
        clear HRUN p1 hgd hb6 g6 hnbx hW h5
        go_upto_region 7 with (fail)
        have HB7 := hide hb7.drew
        have G7 := hide g7.drew
        refine begin_late 7 [] (fun w' => Gr w5.drew w') (by kernel_rfl) rfl ?_
        have hH : Gr w5.drew w5.drew := Gr.refl _
        refine AnyL.takeP 0 (some 32) (.pointer (some ⟨k.mb, 0, none⟩)) rfl rfl (by kernel_rfl) (by kernel_rfl) (by kernel_rfl) (by kernel_rfl) (fun _ _ _ h => h) (by kernel_rfl) (fun w' => by go_simp) (fun _ => hH) ?_
        simp only [Act.put, List.setIfInBounds_toArray, List.set_cons_zero, List.set_cons_succ]
        refine AnyL.takeP 2 (some 34) (.pointer (some ⟨bx, 1, none⟩)) rfl rfl (by kernel_rfl) (by kernel_rfl) (by kernel_rfl) (by kernel_rfl) (fun _ _ _ h => h) (by kernel_rfl) (fun w' => by go_simp) (fun _ => hH) ?_
        simp only [Act.put, List.setIfInBounds_toArray, List.set_cons_zero, List.set_cons_succ]
        refine AnyL.take 3 (some 35) (.slice p.ma p.mem.length p.mc) rfl rfl (by kernel_rfl) (by kernel_rfl) (by kernel_rfl) (by kernel_rfl) (fun _ _ _ h => h) (yields_held _ (by kernel_rfl) (fun w' hw' => by have c1 := (HB7.out.later hw').cell (o := 1) (v := .slice p.ma p.mem.length p.mc) rfl; go_simp)) hH ?_
        simp only [Act.put, List.setIfInBounds_toArray, List.set_cons_zero, List.set_cons_succ]
        refine AnyL.one 1 (by kernel_rfl) rfl (by kernel_rfl) ?_
        refine wp_call (some 33) rfl _ _ (by kernel_rfl) HE.out ?_
        rintro r w6 ⟨v, rfl, ho, g8⟩
        refine ⟨_, rfl, fun _ => g8, ?_⟩
        simp only [Act.put, List.setIfInBounds_toArray, List.set_cons_zero, List.set_cons_succ]
        obtain ⟨va, vc, rfl, hvr, -, hvc, -⟩ := own_at ho
        have G8 := G7.out.trans g8
        have HSE := hide (sees_calls va vc sz.evs hev' hvc p.ma p.mc p.mem HP.out.nil (by omega) hok w6 hvr (HP.out.later G8).mem)
        refine AnyL.one 4 (by kernel_rfl) rfl (by kernel_rfl) ?_
        refine wp_call (some 36) rfl _ _ (by kernel_rfl) HSE.out ?_
        rintro r w7 ⟨rfl, g9⟩
        refine ⟨_, rfl, fun _ => g8.trans g9, ?_⟩
        simp only [Act.put, List.setIfInBounds_toArray, List.set_cons_zero, List.set_cons_succ]
        have HG := hide (G8.trans g9)
        replace hH := g8.trans g9
        refine AnyL.takeP 5 (some 37) (.bool true) rfl rfl (by kernel_rfl) (by kernel_rfl) (by kernel_rfl) (by kernel_rfl) (fun _ _ _ h => h) (by kernel_rfl) (fun w' => by go_simp) (fun _ => hH) ?_
        simp only [Act.put, List.setIfInBounds_toArray, List.set_cons_zero, List.set_cons_succ]
        refine AnyL.takeP 6 (some 4) (.bool true) rfl rfl (by kernel_rfl) (by kernel_rfl) (by kernel_rfl) (by kernel_rfl) (fun _ _ _ h => h) (by kernel_rfl) (fun w' => by go_simp) (fun _ => hH) ?_
        simp only [Act.put, List.setIfInBounds_toArray, List.set_cons_zero, List.set_cons_succ]
        refine AnyL.done (by kernel_rfl) ?_
        clear HSE HE ho hvr G8 g8 g9 hH G7 HB7
        go_wp2_with (fail)
        go_ret
        exact ⟨rfl, HG.out⟩
      · have HG := hide (g4.trans g5)
        have hne' : ((chkM p).2.2 == 0) = false := by simpa using hne
        generalize (chkM p).2.2 = ec at hne'
        clear d0 d1 d2 A4 hne g5 g4 hb4
        go_wp2_with (fail)
        go_ret
        exact ⟨rfl, HG.out⟩
end Go.Proofs.YthbenfnanhpcoaaDoor.Mc

namespace Go.Proofs.YthbenfnanhpcoaaDoor.Sc
open Go.Proofs.YthbenfnanhpcoaaDoor.Mc Go.ChangeShapes Go.WideShapes Go.ChangeAt Go.RowKit
set_option linter.unusedVariables false
set_option maxRecDepth 20000

theorem newM_goodS (p : Pgm) : GoodS p.mem (newM p) := ⟨rfl, rfl⟩
theorem goodS_keeps {k : Mk} {first : List Int} (s : Ms) (e : Value) (w : World) (kind who : Int) (hw : Mw k s e w) (h : GoodS first s) : GoodS first (s.pickS k.N kind who) := by
  refine goodS_pick (by rw [hw.num]) (fun i hi => ?_) h kind who
  obtain ⟨x, hx⟩ : ∃ x, k.ss[i]? = some x := ⟨_, List.getElem?_eq_getElem (by rw [hw.len]; exact hi)⟩
  exact (hw.side _ x hx).ins

set_option maxHeartbeats 2000000 in
theorem scSees_walk (p : Pgm) (hp : p.codes.length ≤ maxLen) (l : List Ent) (pa : Option Addr) (pc : Nat) (hl0 : l.length ≤ maxLen) (W : World) (L : Laid W) (hP : PgAt p W) (hrow : RowAt W pa (flatOf slpL l)) :
    Calls Tryd.prog 6 #[.agg (pgA p), .slice pa l.length pc] W fun r w' => r = .returned (.bool true) ∧ Gr W w' := by
  have g0 := (Gr.refl W).alloc (pgA p) 25
  have hb := Has.new W (pgA p) 25
  have HP := hide hP
  have HL := hide L
  have HRW := hide hrow
  have HA := hide (fun w (g : Gr W w) => awake_calls w (HL.out.later g))
  have HS := hide (fun w (g : Gr W w) => small_calls p hp w (HP.out.later g))
  have HN := hide (fun w (g : Gr W w) => new_calls p w (HL.out.later g) (HP.out.later g))
  clear hP hrow L hp
  go_enter Tryd.func6, Tryd.ntmps6
  go_upto_region 1 with (fail)
  change Code.wp _ _ _ _ (W.alloc (.cells (pgA p) 25))
  generalize W.alloc (.cells (pgA p) 25) = w1 at g0 hb ⊢
  generalize hbx : W.heap.size = bx at hb ⊢
  have HX := hide hbx
  clear hbx
  have A1 := hide (HA.out w1 g0)
  go_wp2_with (fail)
  refine A1.out.mono ?_
  rintro r w2 ⟨rfl, g1⟩
  have g2 := g0.trans g1
  have hb2 := hb.later g1
  have d0 := hb2.cell (o := 0) (v := .slice p.ca p.codes.length p.cc) rfl
  have d1 := hb2.cell (o := 1) (v := .slice p.ma p.mem.length p.mc) rfl
  have d2 := hb2.cell (o := 2) (v := .int .i64 p.room) rfl
  clear g0 hb g1 A1
  have A2 := hide (HS.out w2 g2)
  go_wp2_with (fail)
  refine A2.out.mono ?_
  rintro r w3 ⟨⟨b, rfl⟩, g3⟩
  have g4 := g2.trans g3
  have hb4 := hb2.later g3
  clear d0 d1 d2 g2 hb2 g3 A2
  have A3 := hide (HA.out w3 g4)
  cases b with
  | false =>
    have HG := hide g4
    clear g4 hb4
    go_wp2_with (fail)
    refine A3.out.mono ?_
    rintro r w4 ⟨rfl, g5⟩
    have HG2 := hide (HG.out.trans g5)
    clear g5
    go_wp2_with (fail)
    go_ret
    exact ⟨rfl, HG2.out⟩
  | true =>
    by_cases hl : 600 < l.length
    · have hl' : (600 : Int) < l.length := by omega
      have HG := hide g4
      clear g4 hb4
      go_wp2_with (fail)
      refine A3.out.mono ?_
      rintro r w4 ⟨rfl, g5⟩
      have HG2 := hide (HG.out.trans g5)
      clear g5
      go_wp2_with (fail)
      go_ret
      exact ⟨rfl, HG2.out⟩
    · have hl' : ¬ (600 : Int) < l.length := by omega
      have d0 := hb4.cell (o := 0) (v := .slice p.ca p.codes.length p.cc) rfl
      have d1 := hb4.cell (o := 1) (v := .slice p.ma p.mem.length p.mc) rfl
      have d2 := hb4.cell (o := 2) (v := .int .i64 p.room) rfl
      have A4 := hide (HN.out w3 g4)
      clear A3
      go_wp2_with (fail)
      refine A4.out.mono ?_
      rintro r w4 NP
      rcases NP with ⟨hc0, k, e, ⟨rfl, hM, hN⟩, hF, g5⟩ | ⟨hne, rfl, g5⟩
      · have g6 := g4.trans g5
        have hb6 := hb4.later g5
        clear d0 d1 d2 A4
        have hgd := newM_goodS p
        have hsh := newM_short hc0
        have hml := (chk_len hc0).2.2
        have p0 : MI k (k.foot e) (newM p) w4 := ⟨e, hM, rfl⟩
        have hW : ∀ y ∈ k.foot e, W.heap.size ≤ y := fun y hy => Nat.le_trans g4.size (hF y hy)
        have hnbx : bx ∉ k.foot e := fun z => by
          have h1 := hF bx z
          have h2 := hb4.lt
          omega
        have hout : ∀ y, pa = some y → 0 < l.length → y.block ∉ k.foot e := fun y hy h0 z => by
          obtain ⟨b, off, ha, -⟩ := HRW.out.get (by rw [flatOf_length slpL_len]; omega)
          rw [hy] at ha
          cases ha
          have h1 := HRW.out
          rw [hy] at h1
          have h2 := h1.lt (by rw [flatOf_length slpL_len]; omega)
          have h3 := hW _ z
          simp at h3
          omega
        have HRUN := hide (run_does k (GoodS p.mem) goodS_keeps l pa pc (by omega) (newM p) hgd (Nat.zero_le _) hsh w4 (k.foot e) p0 (HRW.out.later g6) hout)
        generalize k.foot e = F at hW hnbx HRUN
        clear hM hN hF p0 hout g4 hb4 g5 hgd hsh
        go_wp2_with (fail)
        refine HRUN.out.mono ?_
        rintro r w5 ⟨⟨rfl, p1⟩, hgd, hev⟩
        obtain ⟨e5, h5⟩ := pst_mw p1
        have g7 : Gr W w5 := by
          obtain ⟨F', -, kp, -⟩ := p1
          exact Kp.gr g6 kp hW
        have hb7 : Has w5 bx (pgA p) 25 := by
          obtain ⟨F', -, kp, -⟩ := p1
          exact hb6.kept kp hnbx
        have hok : SeesS p.mem ((newM p).runS k.N l).evs := ⟨_, hgd.see⟩
        generalize (newM p).runS k.N l = sz at h5 hok hev
        have HE := hide (events_calls (h5.later (Gr.refl w5).drew) (by omega))
        have hev' : sz.evs.length ≤ 100000 := by omega
        clear HRUN p1 hgd hb6 g6 hnbx hW h5
        go_upto_region 7 with (fail)
        have HB7 := hide hb7.drew
        have G7 := hide g7.drew
        refine begin_late 7 [] (fun w' => Gr w5.drew w') (by kernel_rfl) rfl ?_
        have hH : Gr w5.drew w5.drew := Gr.refl _
        refine AnyL.takeP 0 (some 32) (.pointer (some ⟨k.mb, 0, none⟩)) rfl rfl (by kernel_rfl) (by kernel_rfl) (by kernel_rfl) (by kernel_rfl) (fun _ _ _ h => h) (by kernel_rfl) (fun w' => by go_simp) (fun _ => hH) ?_
        simp only [Act.put, List.setIfInBounds_toArray, List.set_cons_zero, List.set_cons_succ]
        refine AnyL.takeP 2 (some 34) (.pointer (some ⟨bx, 1, none⟩)) rfl rfl (by kernel_rfl) (by kernel_rfl) (by kernel_rfl) (by kernel_rfl) (fun _ _ _ h => h) (by kernel_rfl) (fun w' => by go_simp) (fun _ => hH) ?_
        simp only [Act.put, List.setIfInBounds_toArray, List.set_cons_zero, List.set_cons_succ]
        refine AnyL.take 3 (some 35) (.slice p.ma p.mem.length p.mc) rfl rfl (by kernel_rfl) (by kernel_rfl) (by kernel_rfl) (by kernel_rfl) (fun _ _ _ h => h) (yields_held _ (by kernel_rfl) (fun w' hw' => by have c1 := (HB7.out.later hw').cell (o := 1) (v := .slice p.ma p.mem.length p.mc) rfl; go_simp)) hH ?_
        simp only [Act.put, List.setIfInBounds_toArray, List.set_cons_zero, List.set_cons_succ]
        refine AnyL.one 1 (by kernel_rfl) rfl (by kernel_rfl) ?_
        refine wp_call (some 33) rfl _ _ (by kernel_rfl) HE.out ?_
        rintro r w6 ⟨v, rfl, ho, g8⟩
        refine ⟨_, rfl, fun _ => g8, ?_⟩
        simp only [Act.put, List.setIfInBounds_toArray, List.set_cons_zero, List.set_cons_succ]
        obtain ⟨va, vc, rfl, hvr, -, hvc, -⟩ := own_at ho
        have G8 := G7.out.trans g8
        have HSE := hide (seesS_calls va vc sz.evs hev' p.ma p.mc p.mem (by omega) hok w6 hvr (HP.out.later G8).mem)
        refine AnyL.one 4 (by kernel_rfl) rfl (by kernel_rfl) ?_
        refine wp_call (some 36) rfl _ _ (by kernel_rfl) HSE.out ?_
        rintro r w7 ⟨rfl, g9⟩
        refine ⟨_, rfl, fun _ => g8.trans g9, ?_⟩
        simp only [Act.put, List.setIfInBounds_toArray, List.set_cons_zero, List.set_cons_succ]
        have HG := hide (G8.trans g9)
        replace hH := g8.trans g9
        refine AnyL.takeP 5 (some 37) (.bool true) rfl rfl (by kernel_rfl) (by kernel_rfl) (by kernel_rfl) (by kernel_rfl) (fun _ _ _ h => h) (by kernel_rfl) (fun w' => by go_simp) (fun _ => hH) ?_
        simp only [Act.put, List.setIfInBounds_toArray, List.set_cons_zero, List.set_cons_succ]
        refine AnyL.takeP 6 (some 4) (.bool true) rfl rfl (by kernel_rfl) (by kernel_rfl) (by kernel_rfl) (by kernel_rfl) (fun _ _ _ h => h) (by kernel_rfl) (fun w' => by go_simp) (fun _ => hH) ?_
        simp only [Act.put, List.setIfInBounds_toArray, List.set_cons_zero, List.set_cons_succ]
        refine AnyL.done (by kernel_rfl) ?_
        clear HSE HE ho hvr G8 g8 g9 hH G7 HB7
        go_wp2_with (fail)
        go_ret
        exact ⟨rfl, HG.out⟩
      · have HG := hide (g4.trans g5)
        have hne' : ((chkM p).2.2 == 0) = false := by simpa using hne
        generalize (chkM p).2.2 = ec at hne'
        clear d0 d1 d2 A4 hne g5 g4 hb4
        go_wp2_with (fail)
        go_ret
        exact ⟨rfl, HG.out⟩
end Go.Proofs.YthbenfnanhpcoaaDoor.Sc
