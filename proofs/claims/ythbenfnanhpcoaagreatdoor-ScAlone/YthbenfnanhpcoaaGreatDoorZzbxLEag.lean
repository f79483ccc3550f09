/-
  What ScEager answers of any program and any picks: true. No condition but what each law names.
-/
import Derived.Test.YthbenfnanhpcoaaGreatDoorZzbtSAwk
import Derived.Test.YthbenfnanhpcoaaGreatDoorZzbu
import Derived.Test.YthbenfnanhpcoaaGreatDoorZzbw
import Derived.Test.YthbenfnanhpcoaaGreatDoorZzboNewB
import Derived.BigQuiet
import Derived.Deep.QuietTactic
namespace Go.Proofs.YthbenfnanhpcoaaGreatDoor.Mc
open Go.ChangeShapes Go.WideShapes Go.ChangeAt Go.RowKit
set_option linter.unusedVariables false
set_option maxRecDepth 20000

theorem two_start {W w1 w2 : World} {k1 k2 : Mk} {s q : Ms} {e1 e2 : Value} (h1 : Sc.Mw k1 s e1 w1) (h2 : Mw k2 q e2 w2) (g1 : Gr W w1) (g2 : Gr w1 w2) (f1 : ∀ x ∈ k1.foot e1, W.heap.size ≤ x) (f2 : ∀ x ∈ k2.foot e2, w1.heap.size ≤ x) (hp : 0 < W.heap.size) : Two W k1 k2 s q w2 :=
  ⟨e1, e2, ⟨h1.later g2, h2⟩, fun z hz hz2 => by
    have := h1.bnd z hz
    have := f2 z hz2
    omega, ⟨f1, fun z hz => Nat.le_trans g1.size (f2 z hz)⟩, g1.trans g2, hp⟩
theorem two_th {W w : World} {k1 k2 : Mk} {s q : Ms} (h : Two W k1 k2 s q w) {i : Nat} (hi : i < s.ths.length) : ThOk (s.ths.getD i thZ) := by
  obtain ⟨e, hM⟩ := h.fst
  rw [ths_len] at hi
  obtain ⟨y, hy⟩ : ∃ y, k1.ss[i]? = some y := ⟨_, List.getElem?_eq_getElem (by rw [hM.len]; exact hi)⟩
  rw [ths_at s hi]
  exact (hM.side i y hy).th
set_option maxHeartbeats 4000000 in
theorem eager_walk (p : Pgm) (hp : p.codes.length ≤ maxLen) (l : List Ent) (pa : Option Addr) (pc : Nat) (hl0 : l.length ≤ maxLen) (W : World) (L : Laid W) (hP : PgAt p W) (hrow : RowAt W pa (flatOf slpL l)) :
    Calls Tryz.prog 5 #[.agg (pgA p), .slice pa l.length pc] W fun r w' => r = .returned (.bool true) ∧ Gr W w' := by
  have g0 := (Gr.refl W).alloc (pgA p) 27
  have hb := Has.new W (pgA p) 27
  have HP := hide hP
  have HL := hide L
  have HRW := hide hrow
  have HPOS := hide L.lt
  have HA := hide (fun w (g : Gr W w) => Sc.awake_calls w (HL.out.later g))
  have HS := hide (fun w (g : Gr W w) => small_calls p hp w (HP.out.later g))
  have HN := hide (fun w (g : Gr W w) => Sc.new_calls p w (HL.out.later g) (HP.out.later g))
  have HNT := hide (fun w (g : Gr W w) => new_calls p w (HL.out.later g) (HP.out.later g))
  clear hP hrow L hp
  go_enter Tryz.func5, Tryz.ntmps5
  go_upto_region 1 with (fail)
  change Code.wp _ _ _ _ (W.alloc (.cells (pgA p) 27))
  generalize W.alloc (.cells (pgA p) 27) = w1 at g0 hb ⊢
  generalize hbx : W.heap.size = bx at hb ⊢
  have HX := hide hbx
  clear hbx
  have A1 := hide (HA.out w1 g0)
  go_wp2_with (fail)
  refine A1.out.mono ?_
  rintro r w2 ⟨rfl, g1⟩
  have g2 := g0.trans g1
  have hb2 := hb.later g1
  have d0 := hb2.cell (o := 0) (v := .slice p.ca p.codes.length p.cc) rfl
  have d1 := hb2.cell (o := 1) (v := .slice p.ma p.mem.length p.mc) rfl
  have d2 := hb2.cell (o := 2) (v := .int .i64 p.room) rfl
  clear g0 hb g1 A1
  have A2 := hide (HS.out w2 g2)
  go_wp2_with (fail)
  refine A2.out.mono ?_
  rintro r w3 ⟨⟨b, rfl⟩, g3⟩
  have g4 := g2.trans g3
  have hb4 := hb2.later g3
  clear d0 d1 d2 g2 hb2 g3 A2
  have A3 := hide (HA.out w3 g4)
  cases b with
  | false =>
    have HG := hide g4
    clear g4 hb4
    go_wp2_with (fail)
    refine A3.out.mono ?_
    rintro r w4 ⟨rfl, g5⟩
    have HG2 := hide (HG.out.trans g5)
    clear g5
    go_wp2_with (fail)
    go_ret
    exact ⟨rfl, HG2.out⟩
  | true =>
    by_cases hl : 600 < l.length
    · have hl' : (600 : Int) < l.length := by omega
      have HG := hide g4
      clear g4 hb4
      go_wp2_with (fail)
      refine A3.out.mono ?_
      rintro r w4 ⟨rfl, g5⟩
      have HG2 := hide (HG.out.trans g5)
      clear g5
      go_wp2_with (fail)
      go_ret
      exact ⟨rfl, HG2.out⟩
    · have hl' : ¬ (600 : Int) < l.length := by omega
      have d0 := hb4.cell (o := 0) (v := .slice p.ca p.codes.length p.cc) rfl
      have d1 := hb4.cell (o := 1) (v := .slice p.ma p.mem.length p.mc) rfl
      have d2 := hb4.cell (o := 2) (v := .int .i64 p.room) rfl
      have A4 := hide (HN.out w3 g4)
      clear A3
      go_wp2_with (fail)
      refine A4.out.mono ?_
      rintro r w4 NP
      rcases NP with ⟨hc0, k1, e1, ⟨rfl, hM1, hN1⟩, hF1, g5⟩ | ⟨hne, rfl, g5⟩
      · have g6 := g4.trans g5
        have hb6 := hb4.later g5
        have f1 : ∀ x ∈ k1.foot e1, W.heap.size ≤ x := fun y hy => Nat.le_trans g4.size (hF1 y hy)
        clear d0 d1 d2 A4 hb4 g5 hF1
        have d0 := hb6.cell (o := 0) (v := .slice p.ca p.codes.length p.cc) rfl
        have d1 := hb6.cell (o := 1) (v := .slice p.ma p.mem.length p.mc) rfl
        have d2 := hb6.cell (o := 2) (v := .int .i64 p.room) rfl
        have A5 := hide (HNT.out w4 g6)
        have HC0 := hide hc0
        have HF1 := hide f1
        have HN1 := hide hN1
        have HM1 := hide hM1
        have HG6 := hide g6
        clear hc0 f1 hN1 hM1 g6 g4 hb6
        go_wp2_with (fail)
        refine A5.out.mono ?_
        rintro r w5 NP
        rcases NP with ⟨-, k2, e2, ⟨rfl, hM2, hN2⟩, hF2, g7⟩ | ⟨hne, -⟩
        rotate_left
        · exact absurd HC0.out hne
        have hT := two_start HM1.out hM2 HG6.out g7 HF1.out hF2 HPOS.out
        have hE : Egr 0 (newM p) (newM p) := ⟨eag_start p (chk_len HC0.out).2.1.1, Nat.zero_le _, Nat.zero_le _, newM_short HC0.out, newM_short HC0.out⟩
        have hK : Hid ((k1.N : Int) = k2.N) := by show _ = _; rw [HN1.out, hN2]
        clear d0 d1 d2 A5 hM2 hN2 hF2 g7 HM1 HG6 HF1 HN1 HNT HN HA HS
        go_wp2_with (fail)
        go_loopw [9] (fun v wr => ∃ (j : Nat) (s q : Ms), j ≤ l.length ∧ v = .int .i64 j ∧ Two W k1 k2 s q wr ∧ Egr j s q) (fun v _ => l.length - (intOf v).toNat)
        case atStart => exact ⟨0, _, _, by omega, rfl, hT, hE⟩
        case round =>
          clear hT hE
          obtain ⟨j, s, q, hj, rfl, hT, hE⟩ := hrel
          by_cases hlt : j < l.length
          · have hlt' : (j : Int) < l.length := by omega
            have rw1 := HRW.out.later hT.gr
            obtain ⟨b, off, had, -⟩ := rw1.get (by rw [flatOf_length slpL_len]; omega)
            subst had
            have HCL := hide (fun u (g : Gr W u) => (HRW.out.later g).cell slpL_len hlt ent0 0 (by omega))
            have HCR := hide (fun u (g : Gr W u) => (HRW.out.later g).cell slpL_len hlt ent0 1 (by omega))
            generalize l.getD j ent0 = x at HCL HCR
            simp only [slpL, List.getElem?_cons_zero, List.getElem?_cons_succ, Nat.add_zero, ← Nat.add_assoc] at HCL HCR
            obtain ⟨ea, hMa⟩ := hT.fst
            obtain ⟨eb, hMb⟩ := hT.snd
            have hea := hE.ea
            have heb := hE.eb
            have D1 := hide (fun u => Sc.pick_does k1 s x.a x.v (fuel_few hMa.ok (by omega)) hE.sa u)
            have D2 := hide (fun u => pick_does k2 q x.a x.v (fuel_few hMb.ok (by omega)) hE.sb u)
            have EM := hide (egr_pick hE hMb.ok k2.N x.a x.v)
            rw [hK.out] at D1
            have HT := hide hT
            have c0 := HCL.out wr hT.gr
            have c1 := HCR.out wr hT.gr
            clear hT hE hMa hMb rw1 hea heb
            go_wp2_with (fail)
            refine (HT.out.does1 (D1.out _)).mono ?_
            rintro r u ⟨rfl, hT1⟩
            have HT1 := hide hT1
            have c0' := HCL.out u hT1.gr
            have c1' := HCR.out u hT1.gr
            clear c0 c1 hT1 HT D1
            go_wp2_with (fail)
            refine (HT1.out.does2 (D2.out _)).mono ?_
            rintro r u2 ⟨rfl, hT2⟩
            clear c0' c1' HT1 D2
            have HE2 := hide EM.out
            clear EM
            generalize s.pickS k2.N x.a x.v = s1 at hT2 HE2
            generalize q.pick k2.N x.a x.v = q1 at hT2 HE2
            have HT2 := hide hT2
            clear hT2
            go_wp2_with (fail)
            go_loopg [10] 1 (fun n v wx => ∃ (m : Nat) (q' : Ms), m + n = 1 ∧ v = .int .i64 m ∧ Two W k1 k2 s1 q' wx ∧ Egm j m k2.N x.v s1 q')
            case atStart => exact ⟨0, _, by omega, rfl, HT2.out, HE2.out⟩
            case round =>
              clear HT2 HE2
              obtain ⟨m, q', hm, rfl, hT, hE⟩ := hrel
              obtain ⟨eb, hMb⟩ := hT.snd
              have heb := hE.eb
              have hle := hE.le
              have D3 := hide (fun u => pick_does k2 q' 1 x.v (fuel_few hMb.ok (by omega)) hE.sb u)
              have HB := hide (fun u (g : Gr wr u) => buffer_any (hMb.later g) x.v)
              have HE := hide hE
              have HT := hide hT
              have c1 := HCR.out wr hT.gr
              have hm20 : (m : Int) < 20 := by omega
              clear hT hE hMb heb
              go_wp2_with (fail)
              refine (HB.out _ (Gr.refl _)).mono ?_
              rintro r u ⟨ba, bc, ⟨rfl, -⟩, g⟩
              have HT3 := hide (HT.out.later g)
              clear HB HT
              by_cases hz : (q'.bufOf x.v).length = 0
              · have hz' : ¬ (0 : Int) < ((q'.bufOf x.v).length : Int) := by omega
                have HE3 := hide (HE.out.empty hz)
                generalize (q'.bufOf x.v).length = bl at hz' ⊢
                clear hz c1 HE
                go_wp2_with (fail)
                exact ⟨⟨j + 1, _, _, by omega, by go_num, HT3.out, HE3.out⟩, by simp [intOf]; omega⟩
              · have hz' : (0 : Int) < ((q'.bufOf x.v).length : Int) := by omega
                obtain ⟨rfl, hE3⟩ := HE.out.full hz
                have HE3 := hide hE3
                generalize (q'.bufOf x.v).length = bl at hz' ⊢
                have c1' := HCR.out u HT3.out.gr
                clear hz c1 HE hE3 g
                go_wp2_with (fail)
                refine (HT3.out.does2 (D3.out _)).mono ?_
                rintro r u2 ⟨rfl, hT4⟩
                have HT4 := hide hT4
                clear c1' hT4 HT3 D3
                go_wp2_with (fail)
                go_roundg 0
                case measure => omega
                case rel => exact ⟨1, _, by omega, by go_num, HT4.out, HE3.out⟩
          · have hj' : j = l.length := by omega
            subst hj'
            have hte : q.ths = s.ths := by unfold Ms.ths; rw [hE.eag.sides]
            have hme : q.mem = s.mem := hE.eag.mem
            have hse : q.slp = s.slp := hE.eag.slp
            obtain ⟨ea, hMa⟩ := hT.fst
            obtain ⟨eb, hMb⟩ := hT.snd
            have htl : s.ths.length ≤ 8 := by rw [ths_len]; exact (ok_room hMa.ok).2
            have hmm : s.mem.length ≤ 100000 := by rw [hMa.num]; exact hMa.most
            have HT := hide hT
            have HMA := hide (fun u (g : Gr wr u) => hMa.later g)
            have HMB := hide (fun u (g : Gr wr u) => hMb.later g)
            have T1 := hide (Sc.threads_calls hMa)
            clear hT hE hMa hMb
            go_wp2_with (fail)
            refine T1.out.mono ?_
            rintro r w6 ⟨⟨rfl, hq1⟩, g6⟩
            have T2 := hide (threads_calls (HMB.out w6 g6))
            rw [hte] at T2
            have hq1 := hide hq1
            have HG6 := hide g6
            generalize wr.heap.size = tb1 at hq1 ⊢
            clear T1 g6
            go_wp2_with (fail)
            refine T2.out.mono ?_
            rintro r w7 ⟨⟨rfl, hq2⟩, g7⟩
            have HQ1 := hide (hq1.out.later g7)
            have HQ2 := hide hq2
            have HG7 := hide (HG6.out.trans g7)
            have HTH := hide (fun i (hi : i < s.ths.length) => two_th HT.out hi)
            generalize w6.heap.size = tb2 at HQ2 ⊢
            generalize s.ths = tl at HQ1 HQ2 HTH htl ⊢
            clear T2 hq1 hq2 g7 HG6 hte
            go_wp2_with (fail)
            go_loopg [13] tl.length (fun n v wx => ∃ i : Nat, i + n = tl.length ∧ v = .int .i64 i ∧ Gr w7 wx)
            case atStart => exact ⟨0, by omega, rfl, Gr.refl _⟩
            case round =>
              obtain ⟨i, hi, rfl, g⟩ := hrel
              by_cases hil : i < tl.length
              · have hil' : (i : Int) < tl.length := by omega
                have hd1 : decide ((tl.length : Int) ≤ (i : Int)) = false := by simp; omega
                have hth := HTH.out i hil
                have gd := g.drew
                have RT1 := hide (fun w' (hw' : Gr wr.drew w') => th_rangeI ((HQ1.out.later gd).later hw') hil hth)
                have RT2 := hide (fun w' (hw' : Gr wr.drew w') => th_rangeI ((HQ2.out.later gd).later hw') hil hth)
                generalize tl.getD i thZ = t0 at hth RT1 RT2
                have iT := infoT10 hth
                have HT0 := hide hth
                have HGD := hide gd
                clear hth g gd
                go_upto_region 20 with (fail)
                refine begin_late 15 [] (fun w' => Gr wr.drew w') (by kernel_rfl) rfl ?_
                have hH : Gr wr.drew wr.drew := Gr.refl _
                refine AnyL.takeP 0 (some 100) (.int .i64 i) rfl rfl (by kernel_rfl) (by kernel_rfl) (by kernel_rfl) (by kernel_rfl) (fun _ _ _ h => h) (by kernel_rfl) (fun w' => by go_simp) (fun _ => hH) ?_
                simp only [Act.put, List.setIfInBounds_toArray, List.set_cons_zero, List.set_cons_succ]
                refine AnyL.takeP 1 (some 101) (.slice (some ⟨tb2, 0, none⟩) tl.length tl.length) rfl rfl (by kernel_rfl) (by kernel_rfl) (by kernel_rfl) (by kernel_rfl) (fun _ _ _ h => h) (by kernel_rfl) (fun w' => by go_simp) (fun _ => hH) ?_
                simp only [Act.put, List.setIfInBounds_toArray, List.set_cons_zero, List.set_cons_succ]
                refine AnyL.takeP 2 (some 102) (.int .i64 tl.length) rfl rfl (by kernel_rfl) (by kernel_rfl) (by kernel_rfl) (by kernel_rfl) (fun _ _ _ h => h) (by kernel_rfl) (fun w' => by go_simp) (fun _ => hH) ?_
                simp only [Act.put, List.setIfInBounds_toArray, List.set_cons_zero, List.set_cons_succ]
                refine AnyL.takeP 3 (some 103) (.bool false) rfl rfl (by kernel_rfl) (by kernel_rfl) (by kernel_rfl) (by kernel_rfl) (fun _ _ _ h => h) (by kernel_rfl) (fun w' => by go_simp) (fun _ => hH) ?_
                simp only [Act.put, List.setIfInBounds_toArray, List.set_cons_zero, List.set_cons_succ]
                refine AnyL.takeP 4 (some 104) (.bool false) rfl rfl (by kernel_rfl) (by kernel_rfl) (by kernel_rfl) (by kernel_rfl) (fun _ _ _ h => h) (by kernel_rfl) (fun w' => by go_simp) (fun _ => hH) ?_
                simp only [Act.put, List.setIfInBounds_toArray, List.set_cons_zero, List.set_cons_succ]
                refine AnyL.takeP 5 (some 105) (.slice (some ⟨tb1, 0, none⟩) tl.length tl.length) rfl rfl (by kernel_rfl) (by kernel_rfl) (by kernel_rfl) (by kernel_rfl) (fun _ _ _ h => h) (by kernel_rfl) (fun w' => by go_simp) (fun _ => hH) ?_
                simp only [Act.put, List.setIfInBounds_toArray, List.set_cons_zero, List.set_cons_succ]
                refine AnyL.takeP 6 (some 106) (.int .i64 i) rfl rfl (by kernel_rfl) (by kernel_rfl) (by kernel_rfl) (by kernel_rfl) (fun _ _ _ h => h) (by kernel_rfl) (fun w' => by go_simp) (fun _ => hH) ?_
                simp only [Act.put, List.setIfInBounds_toArray, List.set_cons_zero, List.set_cons_succ]
                refine AnyL.takeP 7 (some 107) (.pointer (some ⟨tb1, i * 10, none⟩)) rfl rfl (by kernel_rfl) (by kernel_rfl) (by kernel_rfl) (by kernel_rfl) (fun _ _ _ h => h) (by kernel_rfl) (fun w' => by go_simp) (fun _ => hH) ?_
                simp only [Act.put, List.setIfInBounds_toArray, List.set_cons_zero, List.set_cons_succ]
                refine AnyL.take 8 (some 108) (.agg (thC t0)) rfl rfl (by kernel_rfl) (by kernel_rfl) (by kernel_rfl) (by kernel_rfl) (fun _ _ _ h => h) (yieldsIf_load_mid (by kernel_rfl) 42 _ rfl tb1 (i * 10) rfl (thL t0) _ (fun w' hw' => RT1.out w' hw') Tryz.underlying42 rfl iT) hH ?_
                simp only [Act.put, List.setIfInBounds_toArray, List.set_cons_zero, List.set_cons_succ]
                refine AnyL.takeP 9 (some 109) (.slice (some ⟨tb2, 0, none⟩) tl.length tl.length) rfl rfl (by kernel_rfl) (by kernel_rfl) (by kernel_rfl) (by kernel_rfl) (fun _ _ _ h => h) (by kernel_rfl) (fun w' => by go_simp) (fun _ => hH) ?_
                simp only [Act.put, List.setIfInBounds_toArray, List.set_cons_zero, List.set_cons_succ]
                refine AnyL.takeP 10 (some 110) (.int .i64 i) rfl rfl (by kernel_rfl) (by kernel_rfl) (by kernel_rfl) (by kernel_rfl) (fun _ _ _ h => h) (by kernel_rfl) (fun w' => by go_simp) (fun _ => hH) ?_
                simp only [Act.put, List.setIfInBounds_toArray, List.set_cons_zero, List.set_cons_succ]
                refine AnyL.takeP 11 (some 111) (.pointer (some ⟨tb2, i * 10, none⟩)) rfl rfl (by kernel_rfl) (by kernel_rfl) (by kernel_rfl) (by kernel_rfl) (fun _ _ _ h => h) (by kernel_rfl) (fun w' => by go_simp) (fun _ => hH) ?_
                simp only [Act.put, List.setIfInBounds_toArray, List.set_cons_zero, List.set_cons_succ]
                refine AnyL.take 12 (some 112) (.agg (thC t0)) rfl rfl (by kernel_rfl) (by kernel_rfl) (by kernel_rfl) (by kernel_rfl) (fun _ _ _ h => h) (yieldsIf_load_mid (by kernel_rfl) 42 _ rfl tb2 (i * 10) rfl (thL t0) _ (fun w' hw' => RT2.out w' hw') Tryz.underlying42 rfl iT) hH ?_
                simp only [Act.put, List.setIfInBounds_toArray, List.set_cons_zero, List.set_cons_succ]
                refine AnyL.one 13 (by kernel_rfl) rfl (by kernel_rfl) ?_
                refine wp_neth (some 113) rfl _ _ rfl t0 HT0.out (by kernel_rfl) (by kernel_rfl) ?_
                refine ⟨fun _ => hH, ?_⟩
                simp only [Act.put, List.setIfInBounds_toArray, List.set_cons_zero, List.set_cons_succ]
                refine AnyL.takeP 14 (some 114) (.bool false) rfl rfl (by kernel_rfl) (by kernel_rfl) (by kernel_rfl) (by kernel_rfl) (fun _ _ _ h => h) (by kernel_rfl) (fun w' => by go_simp) (fun _ => hH) ?_
                simp only [Act.put, List.setIfInBounds_toArray, List.set_cons_zero, List.set_cons_succ]
                refine AnyL.done (by kernel_rfl) ?_
                clear RT1 RT2 iT HT0 hH
                generalize wr.drew = wy at HGD ⊢
                go_wp2_with (fail)
                go_roundg (tl.length - (i + 1))
                case measure => omega
                case rel => exact ⟨i + 1, by omega, by go_num, HGD.out⟩
              · have hi' : i = tl.length := by omega
                have hni : ¬ (i : Int) < tl.length := by omega
                have HGA := hide (HG7.out.trans g)
                obtain ⟨ea, hMa⟩ := HT.out.fst
                have M1 := hide (Sc.mem_calls (HMA.out _ HGA.out))
                clear g hi HTH hMa HQ1 HQ2 HG7
                go_wp2_with (fail)
                refine M1.out.mono ?_
                rintro r w8 ⟨va, rfl, oa, g8⟩
                have M2 := hide (mem_calls (HMB.out _ (HGA.out.trans g8)))
                rw [hme] at M2
                obtain ⟨aa, ac, rfl, ra, -, -, -⟩ := own_at oa
                have RA := hide ra
                have HG8 := hide (HGA.out.trans g8)
                clear M1 oa ra g8
                go_wp2_with (fail)
                refine M2.out.mono ?_
                rintro r w9 ⟨vb, rfl, ob2, g9⟩
                obtain ⟨ba, bc, rfl, rb, -, -, -⟩ := own_at ob2
                have RA2 := hide (RA.out.later g9)
                have RB := hide rb
                have HG9 := hide (HG8.out.trans g9)
                have HSL := hide hse
                generalize s.mem = ml at RA2 RB hmm ⊢
                clear M2 ob2 rb g9 RA hme hse
                go_wp2_with (fail)
                go_loopg [16] ml.length (fun n v wx => ∃ i : Nat, i + n = ml.length ∧ v = .int .i64 i ∧ Gr w9 wx)
                case atStart => exact ⟨0, by omega, rfl, Gr.refl _⟩
                case round =>
                  obtain ⟨i2, hi2, rfl, g⟩ := hrel
                  by_cases hil : i2 < ml.length
                  · have hil' : (i2 : Int) < ml.length := by omega
                    have hd1 : decide ((ml.length : Int) ≤ (i2 : Int)) = false := by simp; omega
                    have hd2 : decide (ml.length ≤ i2) = false := by simp; omega
                    have qa := RA2.out.later g
                    have qb := RB.out.later g
                    obtain ⟨b1, o1, h1, -⟩ := qa.get (by rw [flatOf_length wordL_len]; omega)
                    obtain ⟨b2, o2, h2, -⟩ := qb.get (by rw [flatOf_length wordL_len]; omega)
                    subst h1 h2
                    have c1 := qa.cell wordL_len hil 0 0 (by omega)
                    have c2 := qb.cell wordL_len hil 0 0 (by omega)
                    generalize ml.getD i2 0 = z at c1 c2
                    simp only [wordL, List.getElem?_cons_zero, Nat.add_zero, Nat.mul_one] at c1 c2
                    have HGZ := hide g
                    clear qa qb g
                    go_upto_region 26 with (fail)
                    go_quiet (fail)
                    have HGY := hide (HGZ.out.drewN nq)
                    clear c1 c2 HGZ hd1 hd2
                    generalize wr.drewN nq = wy at HGY ⊢
                    go_wp2_with (fail)
                    go_roundg (ml.length - (i2 + 1))
                    case measure => omega
                    case rel => exact ⟨i2 + 1, by omega, by go_num, HGY.out⟩
                  · have hi' : i2 = ml.length := by omega
                    have hni2 : ¬ (i2 : Int) < ml.length := by omega
                    have HGB := hide (HG9.out.trans g)
                    have S1 := hide (Sc.sleepers_calls (HMA.out _ HGB.out))
                    clear g hi2 RA2 RB HG9
                    go_wp2_with (fail)
                    refine S1.out.mono ?_
                    rintro r w10 ⟨⟨rfl, g10⟩, -⟩
                    have S2 := hide (sleepers_calls (HMB.out _ (HGB.out.trans g10)))
                    rw [HSL.out] at S2
                    have HGC := hide (HGB.out.trans g10)
                    clear S1 g10
                    go_wp2_with (fail)
                    refine S2.out.mono ?_
                    rintro r w11 ⟨⟨rfl, g11⟩, -⟩
                    have HGD := hide (HT.out.gr.trans (HGC.out.trans g11))
                    clear S2 g11
                    go_wp2_with (fail)
                    go_ret
                    exact ⟨rfl, HGD.out⟩
      · have HG := hide (g4.trans g5)
        have hb6 := hb4.later g5
        have hne' : ((chkM p).2.2 == 0) = false := by simpa using hne
        have g6 := g4.trans g5
        clear d0 d1 d2 A4 g5 g4 hb4
        have d0 := hb6.cell (o := 0) (v := .slice p.ca p.codes.length p.cc) rfl
        have d1 := hb6.cell (o := 1) (v := .slice p.ma p.mem.length p.mc) rfl
        have d2 := hb6.cell (o := 2) (v := .int .i64 p.room) rfl
        have A5 := hide (HNT.out w4 g6)
        have HNE := hide hne
        clear hb6 g6 hne
        go_wp2_with (fail)
        refine A5.out.mono ?_
        rintro r w5 NP
        rcases NP with ⟨h0, -⟩ | ⟨-, rfl, g7⟩
        · exact absurd h0 HNE.out
        have HG2 := hide (HG.out.trans g7)
        generalize (chkM p).2.2 = ec at hne'
        have hne2 : (ec != 0) = true := by simp [bne, hne']
        clear d0 d1 d2 A5 g7 HNE
        go_wp2_with (fail)
        go_ret
        exact ⟨rfl, HG2.out⟩
end Go.Proofs.YthbenfnanhpcoaaGreatDoor.Mc
