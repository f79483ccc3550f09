/-
  What same answers of a machine and a world with as many threads, words, events, and as many that sleep: yes, if they are alike. No condition but what the law names.
-/
import Derived.Test.YtfhplbmgjgfihaaGreatDoorZzaa
import Derived.Test.YtfhplbmgjgfihaaGreatDoorZzas
import Derived.Test.YtfhplbmgjgfihaaGreatDoorZzar
import Derived.Test.YtfhplbmgjgfihaaGreatDoorZzap
import Derived.Test.YtfhplbmgjgfihaaGreatDoorZzbb
import Derived.BigQuiet
import Derived.Deep.QuietTactic
namespace Go.Proofs.YtfhplbmgjgfihaaGreatDoor.Wl
open Go.Proofs.YtfhplbmgjgfihaaGreatDoor.Mc Go.ChangeShapes Go.WideShapes Go.ChangeAt Go.RowKit
set_option linter.unusedVariables false
set_option maxRecDepth 20000
set_option maxHeartbeats 2000000 in
theorem same_any {k : Mk} {sm s : Ms} {e : Value} {w : World} (hM : Mw k sm e w) {kw : Wk} {v : Wv} (hW : Ws kw v s w) (hev : sm.evs.length ≤ 100000) {k0 : Mk} {e0 : Value} {w0 : World} (h0 : Mw k0 s e0 w0) (h1 : sm.ths.length = s.ths.length) (h2 : sm.mem.length = s.mem.length) (h3 : sm.evs.length = s.evs.length) (h4 : sm.slp.length = s.slp.length) (E : Prop) (hE : E → sm = s) :
    Calls Tryz.prog 10 #[.pointer (some ⟨k.mb, 0, none⟩), .agg (wldA kw.p v s.room)] w (SameP E w) := by
  obtain ⟨tv, bv, mv, sv, ev, bl⟩ := v
  obtain ⟨ta, tc, e1, rt, -⟩ := own_at hW.th
  obtain ⟨ba, bc, e2, rb, -⟩ := own_at hW.bf
  obtain ⟨ma, mc, e3, rm, -⟩ := own_at hW.mem
  obtain ⟨sa, sc, e4, rs, -⟩ := own_at hW.slp
  obtain ⟨ea, ec, e5, re, -⟩ := own_at hW.evs
  dsimp only at e1 e2 e3 e4 e5
  subst e1 e2 e3 e4 e5
  have HT2 := hide (fun u (g : Gr w u) => rt.later g)
  have HBF := hide (fun u (g : Gr w u) => rb.later g)
  have HM2 := hide (fun u (g : Gr w u) => rm.later g)
  have HS2 := hide (fun u (g : Gr w u) => rs.later g)
  have HV2 := hide (fun u (g : Gr w u) => re.later g)
  have HEA := hide (fun i x (hx : bl[i]? = some x) u (g : Gr w u) => own_later (hW.each i x hx) g)
  have HBN := hide (show bl.length = s.ths.length by rw [ths_len]; exact hW.bn)
  have g0 := (Gr.refl w).alloc (wldA kw.p ⟨.slice ta s.ths.length tc, .slice ba bl.length bc, .slice ma s.mem.length mc, .slice sa s.slp.length sc, .slice ea s.evs.length ec, bl⟩ s.room) 41
  have hb := Has.new w (wldA kw.p ⟨.slice ta s.ths.length tc, .slice ba bl.length bc, .slice ma s.mem.length mc, .slice sa s.slp.length sc, .slice ea s.evs.length ec, bl⟩ s.room) 41
  have HM := hide (fun u (g : Gr w u) => hM.later g)
  have hs8 : s.slp.length ≤ 8 := by
    have h8 := Kn.few 8 (s.slp.map Ent.a) h0.slp.1 (fun z hz => by obtain ⟨y, hy, rfl⟩ := List.mem_map.1 hz; exact h0.slp.2 y hy)
    rwa [List.length_map] at h8
  have htl : s.ths.length ≤ 8 := by rw [ths_len]; exact (ok_room h0.ok).2
  have hmm : s.mem.length ≤ 100000 := by rw [h0.num]; exact h0.most
  have hel : s.evs.length ≤ 100000 := by omega
  have HBB := hide (show ∀ i, i < s.ths.length → (sm.side i).buf.length ≤ 16 ∧ (s.side i).buf.length ≤ 16 from fun i _ => ⟨ok_side hM.ok i, ok_side h0.ok i⟩)
  have HTH : Hid (∀ i, i < s.ths.length → ThOk (sm.ths.getD i thZ) ∧ ThOk (s.ths.getD i thZ)) := fun i hi => by
    have hi1 := hi
    have hi2 := hi
    rw [← h1, ths_len] at hi1
    rw [ths_len] at hi2
    obtain ⟨y, hy⟩ : ∃ y, k.ss[i]? = some y := ⟨_, List.getElem?_eq_getElem (by rw [hM.len]; exact hi1)⟩
    obtain ⟨y2, hy2⟩ : ∃ y, k0.ss[i]? = some y := ⟨_, List.getElem?_eq_getElem (by rw [h0.len]; exact hi2)⟩
    rw [ths_at sm hi1, ths_at s hi2]
    exact ⟨(hM.side i y hy).th, (h0.side i y2 hy2).th⟩
  have HBL := hide (fun i (hi : i < s.ths.length) u (g : Gr w u) => buffer_calls (hM.later g) i (by rw [← ths_len, h1]; exact hi))
  have L1 := hide h1
  have L2 := hide h2
  have L3 := hide h3
  have L4 := hide h4
  have E1 := hide (show E → sm.ths = s.ths from fun h => by rw [hE h])
  have E2 := hide (show E → ∀ i, (sm.side i).buf = (s.side i).buf from fun h i => by rw [hE h])
  have E3 := hide (show E → sm.mem = s.mem from fun h => by rw [hE h])
  have E4 := hide (show E → sm.evs = s.evs from fun h => by rw [hE h])
  have E5 := hide (show E → sm.slp = s.slp from fun h => by rw [hE h])
  clear h0 h1 h2 h3 h4 hE
  clear hM hW rt rb rm rs re
  go_enter Tryz.func10, Tryz.ntmps10
  go_upto_region 1 with (fail)
  change Code.wp _ _ _ _ (w.alloc (.cells (wldA kw.p ⟨.slice ta s.ths.length tc, .slice ba bl.length bc, .slice ma s.mem.length mc, .slice sa s.slp.length sc, .slice ea s.evs.length ec, bl⟩ s.room) 41))
  generalize w.alloc (.cells (wldA kw.p ⟨.slice ta s.ths.length tc, .slice ba bl.length bc, .slice ma s.mem.length mc, .slice sa s.slp.length sc, .slice ea s.evs.length ec, bl⟩ s.room) 41) = w1 at g0 hb ⊢
  generalize w.heap.size = bx at hb ⊢
  have HB := hide hb
  have T1 := hide (threads_calls (HM.out w1 g0))
  have HG0 := hide g0
  clear g0 hb
  go_wp2_with (fail)
  refine T1.out.mono ?_
  rintro r w2 ⟨⟨rfl, q1⟩, g⟩
  rw [L1.out]
  have Q1 := hide (fun u (g : Gr w2 u) => q1.rowAt.later g)
  generalize w1.heap.size = tb at Q1 ⊢
  have HG1 := hide (HG0.out.trans g)
  have HB1 := hide (HB.out.later g)
  have T2 := hide (mem_calls (HM.out w2 HG1.out))
  rw [L2.out] at T2
  clear g T1 HG0 HB q1
  go_wp2_with (fail)
  refine T2.out.mono ?_
  rintro r w3 ⟨va, rfl, oa, g⟩
  obtain ⟨ma1, mc1, rfl, q2, -⟩ := own_at oa
  have Q2 := hide (fun u (g : Gr w3 u) => q2.later g)
  have G23 := hide g
  have HG2 := hide (HG1.out.trans g)
  have HB2 := hide (HB1.out.later g)
  have T3 := hide (events_calls (HM.out w3 HG2.out) hev)
  rw [L3.out] at T3
  clear g oa T2 HG1 HB1 q2
  go_wp2_with (fail)
  refine T3.out.mono ?_
  rintro r w4 ⟨vb, rfl, ob2, g⟩
  obtain ⟨ea1, ec1, rfl, q3, -⟩ := own_at ob2
  have Q3 := hide (fun u (g : Gr w4 u) => q3.later g)
  have G34 := hide g
  have HG3 := hide (HG2.out.trans g)
  have HB3 := hide (HB2.out.later g)
  have T4 := hide (sleepers_calls (HM.out w4 HG3.out))
  clear g ob2 T3 HG2 HB2 q3
  go_wp2_with (fail)
  refine T4.out.mono ?_
  rintro r w5 ⟨⟨rfl, g⟩, q4⟩
  rw [L4.out]
  have q4 := q4.rowAt
  rw [kn_flat] at q4
  generalize w4.heap.size = sb at q4 ⊢
  have HG4 := hide (HG3.out.trans g)
  have R1 := hide (fun u (h : Gr w5 u) => Q1.out u (((G23.out.trans G34.out).trans g).trans h))
  have R2 := hide (fun u (h : Gr w5 u) => Q2.out u ((G34.out.trans g).trans h))
  have R3 := hide (fun u (h : Gr w5 u) => Q3.out u (g.trans h))
  have R4 := hide (fun u (h : Gr w5 u) => q4.later h)
  have hb := HB3.out.later g
  have d1 := hb.cell (o := 1) (v := .slice ta s.ths.length tc) rfl
  have d3 := hb.cell (o := 3) (v := .slice ma s.mem.length mc) rfl
  have d5 := hb.cell (o := 5) (v := .slice sa s.slp.length sc) rfl
  have d6 := hb.cell (o := 6) (v := .slice ea s.evs.length ec) rfl
  have HC1 := hide (fun u (h : Gr w5 u) => (hb.later h).cell (o := 1) (v := .slice ta s.ths.length tc) rfl)
  have HC2 := hide (fun u (h : Gr w5 u) => (hb.later h).cell (o := 2) (v := .slice ba bl.length bc) rfl)
  have HC3 := hide (fun u (h : Gr w5 u) => (hb.later h).cell (o := 3) (v := .slice ma s.mem.length mc) rfl)
  have HC5 := hide (fun u (h : Gr w5 u) => (hb.later h).cell (o := 5) (v := .slice sa s.slp.length sc) rfl)
  have HC6 := hide (fun u (h : Gr w5 u) => (hb.later h).cell (o := 6) (v := .slice ea s.evs.length ec) rfl)
  rw [kn_flat] at HS2
  have HEN := hide (fun i (hi : i < s.ths.length) => show ∃ x, bl[i]? = some x from ⟨_, List.getElem?_eq_getElem (by rw [HBN.out]; exact hi)⟩)
  have HC2' := hide (fun u (h : Gr w5 u) => HBN.out ▸ HC2.out u h)
  generalize s.ths = tl at *
  generalize s.mem = ml at *
  generalize s.evs = el at *
  generalize s.slp = sl at *
  generalize sm.ths = tm at *
  generalize sm.mem = mm at *
  generalize sm.evs = em at *
  generalize sm.slp = sp at *
  clear g hb T4 HB3 HM Q1 Q2 Q3 G23 G34 q4 HG3 HBN HC2
  go_wp2_with (fail)
  go_loopw [9] (fun v wr => ∃ i : Nat, (i ≤ tl.length ∧ v = .int .i64 i) ∧ Gr w5 wr) (fun v _ => tl.length - (intOf v).toNat)
  case atStart => exact ⟨0, ⟨by omega, rfl⟩, Gr.refl _⟩
  case round =>
    clear d1 d3 d5 d6
    obtain ⟨i, ⟨hi, rfl⟩, g⟩ := hrel
    by_cases hil : i < tl.length
    · have hil' : (i : Int) < tl.length := by omega
      have hd1 : decide ((tl.length : Int) ≤ (i : Int)) = false := by simp; omega
      have B1 := hide (HBL.out i hil wr (HG4.out.trans g))
      have hnb := HBB.out i hil
      have HG := hide g
      have HEI := hide (fun x hx u (h : Gr w5 u) => HEA.out i x hx u (HG4.out.trans h))
      obtain ⟨xv, hxv⟩ := HEN.out i hil
      have HX := hide hxv
      clear g hxv
      have HE2 := hide (show E → (sm.side i).buf = (s.side i).buf from fun h => E2.out h i)
      generalize (s.side i).buf = nb at hnb HEI HE2
      generalize (sm.side i).buf = nm at B1 hnb HE2
      go_wp2_with (fail)
      refine B1.out.mono ?_
      rintro r u ⟨b1, c1, ⟨rfl, qb⟩, g⟩
      have HGU := hide (HG.out.trans g)
      rw [bf_flat] at qb
      have HQB := hide (fun z (h : Gr u z) => qb.later h)
      obtain ⟨xa, xc, rfl, -⟩ := own_at (HEI.out xv HX.out u HGU.out)
      have HXR := hide (fun z (h : Gr w5 z) => show RowAt z xa (flatOf Bf.entC nb) by
        obtain ⟨a', c', e', r', -⟩ := own_at (HEI.out _ HX.out z h)
        cases e'
        rw [bf_flat] at r'
        exact r')
      clear g qb B1
      go_upto_region 8 with (fail)
      have hth := HTH.out i hil
      have gd := HGU.out.drew
      have qt1 := R1.out _ gd
      have qt2 := HT2.out _ (HG4.out.trans gd)
      have qbf := HBF.out _ (HG4.out.trans gd)
      have k1 := HC1.out _ gd
      have k2 := HC2'.out _ gd
      obtain ⟨t2b, t2o, h2, -⟩ := qt2.get (by rw [flatOf_length thR_len]; omega)
      subst h2
      obtain ⟨bb, bo, h3, -⟩ := qbf.get (by have := (List.getElem?_eq_some_iff.1 HX.out).1; omega)
      subst h3
      have kb := bl_at qbf HX.out
      have rg1 := row_range thR_len qt1 (by rw [L1.out]; exact hil) thZ
      have rg2 := row_range thR_len qt2 hil thZ
      rw [thR_is hth.1] at rg1
      rw [thR_is hth.2] at rg2
      rw [Nat.zero_add] at rg1
      have HE6 := hide (show E → tm.getD i thZ = tl.getD i thZ from fun h => by rw [E1.out h])
      generalize tl.getD i thZ = t1 at hth rg2 HE6
      generalize tm.getD i thZ = t0 at hth rg1 HE6
      have iT := infoT10 hth.1
      have iU := infoT10 hth.2
      have HT0 := hide hth
      have HGD := hide gd
      have HQW := hide (fun z (h : Gr u.drew z) => HQB.out z ((Gr.refl u).drew.trans h))
      clear hth gd qt1 qt2 qbf HQB
      refine begin_late 21 [] (fun w' => w' = u.drew) (by kernel_rfl) rfl ?_
      generalize u.drew = wq at k1 k2 kb rg1 rg2 HGD HQW ⊢
      have hH : wq = wq := rfl
      refine AnyL.pp 0 62 (.slice (some ⟨tb, 0, none⟩) tl.length tl.length) rfl rfl (by kernel_rfl) (fun _ _ _ h => h) (fun _ => by go_simp) hH ?_
      simp only [pz, pz0, pzs]
      refine AnyL.pp 1 63 (.int .i64 i) rfl rfl (by kernel_rfl) (fun _ _ _ h => h) (fun _ => by go_simp) hH ?_
      simp only [pz, pz0, pzs]
      refine AnyL.pp 2 64 (.pointer (some ⟨tb, i * 10, none⟩)) rfl rfl (by kernel_rfl) (fun _ _ _ h => h) (fun _ => by go_simp) hH ?_
      simp only [pz, pz0, pzs]
      refine AnyL.yy 3 65 (.agg (thC t0)) rfl rfl (by kernel_rfl) (fun _ _ _ h => h) (yieldsIf_load_mid (by kernel_rfl) 46 _ rfl tb (i * 10) rfl (thL t0) _ (fun w' hw' => by subst hw'; exact rg1) Tryz.underlying46 rfl iT) hH ?_
      simp only [pz, pz0, pzs]
      refine AnyL.pp 4 66 (.pointer (some ⟨bx, 1, none⟩)) rfl rfl (by kernel_rfl) (fun _ _ _ h => h) (fun _ => by go_simp) hH ?_
      simp only [pz, pz0, pzs]
      refine AnyL.tt 5 67 (.slice (some ⟨t2b, t2o, none⟩) tl.length tc) rfl rfl (by kernel_rfl) (fun _ _ _ h => h) (fun w' hw' => by subst hw'; go_simp) hH ?_
      simp only [pz, pz0, pzs]
      refine AnyL.pp 6 68 (.int .i64 i) rfl rfl (by kernel_rfl) (fun _ _ _ h => h) (fun _ => by go_simp) hH ?_
      simp only [pz, pz0, pzs]
      refine AnyL.pp 7 69 (.pointer (some ⟨t2b, t2o + i * 10, none⟩)) rfl rfl (by kernel_rfl) (fun _ _ _ h => h) (fun _ => by go_simp) hH ?_
      simp only [pz, pz0, pzs]
      refine AnyL.yy 8 70 (.agg (thC t1)) rfl rfl (by kernel_rfl) (fun _ _ _ h => h) (yieldsIf_load_mid (by kernel_rfl) 46 _ rfl t2b (t2o + i * 10) rfl (thL t1) _ (fun w' hw' => by subst hw'; exact rg2) Tryz.underlying46 rfl iU) hH ?_
      simp only [pz, pz0, pzs]
      refine AnyL.one 9 (by kernel_rfl) rfl (by kernel_rfl) ?_
      refine wp_neth2 (some 71) rfl _ _ rfl t0 t1 HT0.out.1 HT0.out.2 (by kernel_rfl) (by kernel_rfl) ?_
      intro q hq
      refine ⟨fun _ => hH, ?_⟩
      simp only [pz, pz0, pzs]
      have HQ6 := hide (show E → q = false from fun h => hq (HE6.out h))
      clear hq
      cases q
      case true =>
        refine AnyL.pp 10 72 (.bool true) rfl rfl (by kernel_rfl) (fun _ _ _ h => h) (fun _ => by go_simp) hH ?_
        simp only [pz, pz0, pzs]
        refine AnyL.sk 11 73 rfl rfl (by kernel_rfl) (fun _ _ _ h => h) hH ?_
        simp only [pz, pz0, pzs]
        refine AnyL.sk 12 74 rfl rfl (by kernel_rfl) (fun _ _ _ h => h) hH ?_
        simp only [pz, pz0, pzs]
        refine AnyL.sk 13 75 rfl rfl (by kernel_rfl) (fun _ _ _ h => h) hH ?_
        simp only [pz, pz0, pzs]
        refine AnyL.sk 14 76 rfl rfl (by kernel_rfl) (fun _ _ _ h => h) hH ?_
        simp only [pz, pz0, pzs]
        refine AnyL.sk 15 77 rfl rfl (by kernel_rfl) (fun _ _ _ h => h) hH ?_
        simp only [pz, pz0, pzs]
        refine AnyL.sk 16 78 rfl rfl (by kernel_rfl) (fun _ _ _ h => h) hH ?_
        simp only [pz, pz0, pzs]
        refine AnyL.sk 17 79 rfl rfl (by kernel_rfl) (fun _ _ _ h => h) hH ?_
        simp only [pz, pz0, pzs]
        refine AnyL.sk 18 80 rfl rfl (by kernel_rfl) (fun _ _ _ h => h) hH ?_
        simp only [pz, pz0, pzs]
        refine AnyL.sk 19 81 rfl rfl (by kernel_rfl) (fun _ _ _ h => h) hH ?_
        simp only [pz, pz0, pzs]
        refine AnyL.pp 20 82 (.bool true) rfl rfl (by kernel_rfl) (fun _ _ _ h => h) (fun _ => by go_simp) hH ?_
        simp only [pz, pz0, pzs]
        refine AnyL.done (by kernel_rfl) ?_
        clear k1 k2 kb rg1 rg2 iT iU HT0 hH
        go_wp2_with (fail)
        go_ret
        exact SameP.of false (fun h => (HQ6.out h).symm) (HG4.out.trans HGD.out)
      case false =>
        by_cases hlb : nm.length = nb.length
        case neg =>
          have hnb2 : ((nm.length : Int) == nb.length) = false := by simp; omega
          have hne2 : ((nm.length : Int) != nb.length) = true := by simp [bne, hnb2]
          refine AnyL.pp 10 72 (.bool false) rfl rfl (by kernel_rfl) (fun _ _ _ h => h) (fun _ => by go_simp) hH ?_
          simp only [pz, pz0, pzs]
          refine AnyL.pp 11 73 (.slice b1 nm.length c1) rfl rfl (by kernel_rfl) (fun _ _ _ h => h) (fun _ => by go_simp) hH ?_
          simp only [pz, pz0, pzs]
          refine AnyL.pp 12 74 (.int .i64 nm.length) rfl rfl (by kernel_rfl) (fun _ _ _ h => h) (fun _ => by go_simp) hH ?_
          simp only [pz, pz0, pzs]
          refine AnyL.pp 13 75 (.pointer (some ⟨bx, 2, none⟩)) rfl rfl (by kernel_rfl) (fun _ _ _ h => h) (fun _ => by go_simp) hH ?_
          simp only [pz, pz0, pzs]
          refine AnyL.tt 14 76 (.slice (some ⟨bb, bo, none⟩) tl.length bc) rfl rfl (by kernel_rfl) (fun _ _ _ h => h) (fun w' hw' => by subst hw'; go_simp) hH ?_
          simp only [pz, pz0, pzs]
          refine AnyL.pp 15 77 (.int .i64 i) rfl rfl (by kernel_rfl) (fun _ _ _ h => h) (fun _ => by go_simp) hH ?_
          simp only [pz, pz0, pzs]
          refine AnyL.pp 16 78 (.pointer (some ⟨bb, bo + i, none⟩)) rfl rfl (by kernel_rfl) (fun _ _ _ h => h) (fun _ => by go_simp) hH ?_
          simp only [pz, pz0, pzs]
          refine AnyL.tt 17 79 (.slice xa nb.length xc) rfl rfl (by kernel_rfl) (fun _ _ _ h => h) (fun w' hw' => by subst hw'; go_simp) hH ?_
          simp only [pz, pz0, pzs]
          refine AnyL.pp 18 80 (.int .i64 nb.length) rfl rfl (by kernel_rfl) (fun _ _ _ h => h) (fun _ => by go_simp) hH ?_
          simp only [pz, pz0, pzs]
          refine AnyL.pp 19 81 (.bool true) rfl rfl (by kernel_rfl) (fun _ _ _ h => h) (fun _ => by go_simp) hH ?_
          simp only [pz, pz0, pzs]
          refine AnyL.pp 20 82 (.bool true) rfl rfl (by kernel_rfl) (fun _ _ _ h => h) (fun _ => by go_simp) hH ?_
          simp only [pz, pz0, pzs]
          refine AnyL.done (by kernel_rfl) ?_
          clear k1 k2 kb rg1 rg2 iT iU HT0 hH
          go_wp2_with (fail)
          go_ret
          exact SameP.of false (fun h => absurd (congrArg List.length (HE2.out h)) hlb) (HG4.out.trans HGD.out)
        case pos =>
        rw [hlb]
        refine AnyL.pp 10 72 (.bool false) rfl rfl (by kernel_rfl) (fun _ _ _ h => h) (fun _ => by go_simp) hH ?_
        simp only [pz, pz0, pzs]
        refine AnyL.pp 11 73 (.slice b1 nb.length c1) rfl rfl (by kernel_rfl) (fun _ _ _ h => h) (fun _ => by go_simp) hH ?_
        simp only [pz, pz0, pzs]
        refine AnyL.pp 12 74 (.int .i64 nb.length) rfl rfl (by kernel_rfl) (fun _ _ _ h => h) (fun _ => by go_simp) hH ?_
        simp only [pz, pz0, pzs]
        refine AnyL.pp 13 75 (.pointer (some ⟨bx, 2, none⟩)) rfl rfl (by kernel_rfl) (fun _ _ _ h => h) (fun _ => by go_simp) hH ?_
        simp only [pz, pz0, pzs]
        refine AnyL.tt 14 76 (.slice (some ⟨bb, bo, none⟩) tl.length bc) rfl rfl (by kernel_rfl) (fun _ _ _ h => h) (fun w' hw' => by subst hw'; go_simp) hH ?_
        simp only [pz, pz0, pzs]
        refine AnyL.pp 15 77 (.int .i64 i) rfl rfl (by kernel_rfl) (fun _ _ _ h => h) (fun _ => by go_simp) hH ?_
        simp only [pz, pz0, pzs]
        refine AnyL.pp 16 78 (.pointer (some ⟨bb, bo + i, none⟩)) rfl rfl (by kernel_rfl) (fun _ _ _ h => h) (fun _ => by go_simp) hH ?_
        simp only [pz, pz0, pzs]
        refine AnyL.tt 17 79 (.slice xa nb.length xc) rfl rfl (by kernel_rfl) (fun _ _ _ h => h) (fun w' hw' => by subst hw'; go_simp) hH ?_
        simp only [pz, pz0, pzs]
        refine AnyL.pp 18 80 (.int .i64 nb.length) rfl rfl (by kernel_rfl) (fun _ _ _ h => h) (fun _ => by go_simp) hH ?_
        simp only [pz, pz0, pzs]
        refine AnyL.pp 19 81 (.bool false) rfl rfl (by kernel_rfl) (fun _ _ _ h => h) (fun _ => by go_simp) hH ?_
        simp only [pz, pz0, pzs]
        refine AnyL.pp 20 82 (.bool false) rfl rfl (by kernel_rfl) (fun _ _ _ h => h) (fun _ => by go_simp) hH ?_
        simp only [pz, pz0, pzs]
        refine AnyL.done (by kernel_rfl) ?_
        have HLB := hide hlb
        clear k1 k2 kb rg1 rg2 iT iU HT0 hH hlb
        go_wp2_with (fail)
        go_loopg [11] nb.length (fun n v wx => ∃ m : Nat, m + n = nb.length ∧ v = .int .i64 m ∧ Gr wq wx)
        case atStart => exact ⟨0, by omega, rfl, Gr.refl _⟩
        case round =>
          obtain ⟨m, hm, rfl, g⟩ := hrel
          by_cases hml : m < nb.length
          · have hml' : (m : Int) < nb.length := by omega
            have hd2 : decide ((nb.length : Int) ≤ (m : Int)) = false := by simp; omega
            go_upto_region 13 with (fail)
            have gd := g.drew
            have gd5 := HGD.out.trans gd
            have qe1 := HQW.out _ gd
            have qe2 := HXR.out _ gd5
            have qbf := HBF.out _ (HG4.out.trans gd5)
            have k2 := HC2'.out _ gd5
            have kb := bl_at qbf HX.out
            obtain ⟨e1b, e1o, h4, -⟩ := qe1.get (by rw [flatOf_length bf_len, HLB.out]; omega)
            subst h4
            obtain ⟨e2b, e2o, h5, -⟩ := qe2.get (by rw [flatOf_length bf_len]; omega)
            subst h5
            have rg1 := row_range bf_len qe1 (by rw [HLB.out]; exact hml) ent0
            have rg2 := row_range bf_len qe2 hml ent0
            have HE7 := hide (show E → nm.getD m ent0 = nb.getD m ent0 from fun h => by rw [HE2.out h])
            generalize nb.getD m ent0 = x1 at rg2 HE7
            generalize nm.getD m ent0 = x0 at rg1 HE7
            have HGE := hide gd
            clear g gd gd5 qe1 qe2 qbf
            refine begin_late 13 [] (fun w' => w' = wr.drew) (by kernel_rfl) rfl ?_
            generalize wr.drew = wz at k2 kb rg1 rg2 HGE ⊢
            have hH : wz = wz := rfl
            refine AnyL.pp 0 89 (.slice (some ⟨e1b, e1o, none⟩) nb.length c1) rfl rfl (by kernel_rfl) (fun _ _ _ h => h) (fun _ => by go_simp) hH ?_
            simp only [pz, pz0, pzs]
            refine AnyL.pp 1 90 (.int .i64 m) rfl rfl (by kernel_rfl) (fun _ _ _ h => h) (fun _ => by go_simp) hH ?_
            simp only [pz, pz0, pzs]
            refine AnyL.pp 2 91 (.pointer (some ⟨e1b, e1o + m * 2, none⟩)) rfl rfl (by kernel_rfl) (fun _ _ _ h => h) (fun _ => by go_simp) hH ?_
            simp only [pz, pz0, pzs]
            refine AnyL.yy 3 92 (.agg (enA x0)) rfl rfl (by kernel_rfl) (fun _ _ _ h => h) (yieldsIf_load_mid (by kernel_rfl) 77 _ rfl e1b (e1o + m * 2) rfl (Bf.entC x0) _ (fun w' hw' => by subst hw'; exact rg1) Tryz.underlying77 rfl Bf.infoE) hH ?_
            simp only [pz, pz0, pzs]
            refine AnyL.pp 4 93 (.pointer (some ⟨bx, 2, none⟩)) rfl rfl (by kernel_rfl) (fun _ _ _ h => h) (fun _ => by go_simp) hH ?_
            simp only [pz, pz0, pzs]
            refine AnyL.tt 5 94 (.slice (some ⟨bb, bo, none⟩) tl.length bc) rfl rfl (by kernel_rfl) (fun _ _ _ h => h) (fun w' hw' => by subst hw'; go_simp) hH ?_
            simp only [pz, pz0, pzs]
            refine AnyL.pp 6 95 (.int .i64 i) rfl rfl (by kernel_rfl) (fun _ _ _ h => h) (fun _ => by go_simp) hH ?_
            simp only [pz, pz0, pzs]
            refine AnyL.pp 7 96 (.pointer (some ⟨bb, bo + i, none⟩)) rfl rfl (by kernel_rfl) (fun _ _ _ h => h) (fun _ => by go_simp) hH ?_
            simp only [pz, pz0, pzs]
            refine AnyL.tt 8 97 (.slice (some ⟨e2b, e2o, none⟩) nb.length xc) rfl rfl (by kernel_rfl) (fun _ _ _ h => h) (fun w' hw' => by subst hw'; go_simp) hH ?_
            simp only [pz, pz0, pzs]
            refine AnyL.pp 9 98 (.int .i64 m) rfl rfl (by kernel_rfl) (fun _ _ _ h => h) (fun _ => by go_simp) hH ?_
            simp only [pz, pz0, pzs]
            refine AnyL.pp 10 99 (.pointer (some ⟨e2b, e2o + m * 2, none⟩)) rfl rfl (by kernel_rfl) (fun _ _ _ h => h) (fun _ => by go_simp) hH ?_
            simp only [pz, pz0, pzs]
            refine AnyL.yy 11 100 (.agg (enA x1)) rfl rfl (by kernel_rfl) (fun _ _ _ h => h) (yieldsIf_load_mid (by kernel_rfl) 77 _ rfl e2b (e2o + m * 2) rfl (Bf.entC x1) _ (fun w' hw' => by subst hw'; exact rg2) Tryz.underlying77 rfl Bf.infoE) hH ?_
            simp only [pz, pz0, pzs]
            refine AnyL.one 12 (by kernel_rfl) rfl (by kernel_rfl) ?_
            refine wp_neen2 (some 101) rfl _ _ rfl x0 x1 (by kernel_rfl) (by kernel_rfl) ?_
            intro q hq
            refine ⟨fun _ => hH, ?_⟩
            simp only [pz, pz0, pzs]
            refine AnyL.done (by kernel_rfl) ?_
            have HQ7 := hide (show E → q = false from fun h => hq (HE7.out h))
            clear k2 kb rg1 rg2 hH hq
            cases q
            case true =>
              go_wp2_with (fail)
              go_ret
              exact SameP.of false (fun h => (HQ7.out h).symm) (HG4.out.trans (HGD.out.trans HGE.out))
            case false =>
              go_wp2_with (fail)
              go_roundg (nb.length - (m + 1))
              case measure => omega
              case rel => exact ⟨m + 1, by omega, by go_num, HGE.out⟩
          · have hm' : m = nb.length := by omega
            have hnm : ¬ (m : Int) < nb.length := by omega
            have HGF := hide (HGD.out.trans g)
            clear g hm HQW HGD HXR HX HEI HLB HE2
            go_wp2_with (fail)
            exact ⟨⟨i + 1, ⟨by omega, by go_num⟩, HGF.out⟩, by simp [intOf]; omega⟩
    · have hi' : i = tl.length := by omega
      have hni : ¬ (i : Int) < tl.length := by omega
      have HG := hide g
      clear g hi HBL HTH HBB HEA HEN HT2 HBF R1 HC1 HC2' E1 E2 L1
      go_wp2_with (fail)
      go_loopg [12] ml.length (fun n v wx => ∃ m : Nat, m + n = ml.length ∧ v = .int .i64 m ∧ Gr w5 wx)
      case atStart => exact ⟨0, by omega, rfl, HG.out⟩
      case round =>
        clear HG
        obtain ⟨m, hm, rfl, g⟩ := hrel
        by_cases hml : m < ml.length
        · have hml' : (m : Int) < ml.length := by omega
          have hd1 : decide ((ml.length : Int) ≤ (m : Int)) = false := by simp; omega
          have hd2 : decide (ml.length ≤ m) = false := by simp; omega
          go_upto_region 18 with (fail)
          have gd := g.drew
          have qa := R2.out _ gd
          have qb := HM2.out _ (HG4.out.trans gd)
          have k3 := HC3.out _ gd
          obtain ⟨a1, o1, h1, -⟩ := qa.get (by rw [flatOf_length wordL_len, L2.out]; omega)
          subst h1
          obtain ⟨a2, o2, h2, -⟩ := qb.get (by rw [flatOf_length wordL_len]; omega)
          subst h2
          have j1 := qa.cell wordL_len (by rw [L2.out]; exact hml) 0 0 (by omega)
          have j2 := qb.cell wordL_len hml 0 0 (by omega)
          have HE7 := hide (show E → mm.getD m 0 = ml.getD m 0 from fun h => by rw [E3.out h])
          generalize ml.getD m 0 = z1 at j2 HE7
          generalize mm.getD m 0 = z0 at j1 HE7
          simp only [wordL, List.getElem?_cons_zero, Nat.add_zero, Nat.mul_one] at j1 j2
          have HGZ := hide gd
          clear qa qb g gd
          refine begin_late 10 [] (fun w' => w' = wr.drew) (by kernel_rfl) rfl ?_
          generalize wr.drew = wz at k3 j1 j2 HGZ ⊢
          have hH : wz = wz := rfl
          refine AnyL.pp 0 108 (.slice (some ⟨a1, o1, none⟩) ml.length mc1) rfl rfl (by kernel_rfl) (fun _ _ _ h => h) (fun _ => by go_simp) hH ?_
          simp only [pz, pz0, pzs]
          refine AnyL.pp 1 109 (.int .i64 m) rfl rfl (by kernel_rfl) (fun _ _ _ h => h) (fun _ => by go_simp) hH ?_
          simp only [pz, pz0, pzs]
          refine AnyL.pp 2 110 (.pointer (some ⟨a1, o1 + m, none⟩)) rfl rfl (by kernel_rfl) (fun _ _ _ h => h) (fun _ => by go_simp) hH ?_
          simp only [pz, pz0, pzs]
          refine AnyL.tt 3 111 (.int .u32 z0) rfl rfl (by kernel_rfl) (fun _ _ _ h => h) (fun w' hw' => by subst hw'; go_simp) hH ?_
          simp only [pz, pz0, pzs]
          refine AnyL.pp 4 112 (.pointer (some ⟨bx, 3, none⟩)) rfl rfl (by kernel_rfl) (fun _ _ _ h => h) (fun _ => by go_simp) hH ?_
          simp only [pz, pz0, pzs]
          refine AnyL.tt 5 113 (.slice (some ⟨a2, o2, none⟩) ml.length mc) rfl rfl (by kernel_rfl) (fun _ _ _ h => h) (fun w' hw' => by subst hw'; go_simp) hH ?_
          simp only [pz, pz0, pzs]
          refine AnyL.pp 6 114 (.int .i64 m) rfl rfl (by kernel_rfl) (fun _ _ _ h => h) (fun _ => by go_simp) hH ?_
          simp only [pz, pz0, pzs]
          refine AnyL.pp 7 115 (.pointer (some ⟨a2, o2 + m, none⟩)) rfl rfl (by kernel_rfl) (fun _ _ _ h => h) (fun _ => by go_simp) hH ?_
          simp only [pz, pz0, pzs]
          refine AnyL.tt 8 116 (.int .u32 z1) rfl rfl (by kernel_rfl) (fun _ _ _ h => h) (fun w' hw' => by subst hw'; go_simp) hH ?_
          simp only [pz, pz0, pzs]
          by_cases hzz : z0 = z1
          case neg =>
            have hz2 : (z0 == z1) = false := by simpa using hzz
            have hz3 : (z0 != z1) = true := by simp [bne, hz2]
            refine AnyL.pp 9 117 (.bool true) rfl rfl (by kernel_rfl) (fun _ _ _ h => h) (fun _ => by go_simp) hH ?_
            simp only [pz, pz0, pzs]
            refine AnyL.done (by kernel_rfl) ?_
            clear j1 j2 k3 hH
            go_wp2_with (fail)
            go_ret
            exact SameP.of false (fun h => absurd (HE7.out h) hzz) (HG4.out.trans HGZ.out)
          case pos =>
          subst hzz
          refine AnyL.pp 9 117 (.bool false) rfl rfl (by kernel_rfl) (fun _ _ _ h => h) (fun _ => by go_simp) hH ?_
          simp only [pz, pz0, pzs]
          refine AnyL.done (by kernel_rfl) ?_
          clear j1 j2 k3 hH hd1 hd2
          go_wp2_with (fail)
          go_roundg (ml.length - (m + 1))
          case measure => omega
          case rel => exact ⟨m + 1, by omega, by go_num, HGZ.out⟩
        · have hm' : m = ml.length := by omega
          have hnm : ¬ (m : Int) < ml.length := by omega
          have HG := hide g
          clear g hm R2 HM2 HC3 L2 E3
          go_wp2_with (fail)
          go_loopg [13] el.length (fun n v wx => ∃ m : Nat, m + n = el.length ∧ v = .int .i64 m ∧ Gr w5 wx)
          case atStart => exact ⟨0, by omega, rfl, HG.out⟩
          case round =>
            clear HG
            obtain ⟨m, hm, rfl, g⟩ := hrel
            by_cases hml : m < el.length
            · have hml' : (m : Int) < el.length := by omega
              have hd2 : decide ((el.length : Int) ≤ (m : Int)) = false := by simp; omega
              go_upto_region 23 with (fail)
              have gd := g.drew
              have qe1 := R3.out _ gd
              have qe2 := HV2.out _ (HG4.out.trans gd)
              have k6 := HC6.out _ gd
              obtain ⟨e1b, e1o, h4, -⟩ := qe1.get (by rw [flatOf_length evL_len, L3.out]; omega)
              subst h4
              obtain ⟨e2b, e2o, h5, -⟩ := qe2.get (by rw [flatOf_length evL_len]; omega)
              subst h5
              have rg1 := row_range evL_len qe1 (by rw [L3.out]; exact hml) evD
              have rg2 := row_range evL_len qe2 hml evD
              have HE7 := hide (show E → em.getD m evD = el.getD m evD from fun h => by rw [E4.out h])
              generalize el.getD m evD = x1 at rg2 HE7
              generalize em.getD m evD = x0 at rg1 HE7
              have HGE := hide gd
              clear g gd qe1 qe2
              refine begin_late 10 [] (fun w' => w' = wr.drew) (by kernel_rfl) rfl ?_
              generalize wr.drew = wz at k6 rg1 rg2 HGE ⊢
              have hH : wz = wz := rfl
              refine AnyL.pp 0 124 (.slice (some ⟨e1b, e1o, none⟩) el.length ec1) rfl rfl (by kernel_rfl) (fun _ _ _ h => h) (fun _ => by go_simp) hH ?_
              simp only [pz, pz0, pzs]
              refine AnyL.pp 1 125 (.int .i64 m) rfl rfl (by kernel_rfl) (fun _ _ _ h => h) (fun _ => by go_simp) hH ?_
              simp only [pz, pz0, pzs]
              refine AnyL.pp 2 126 (.pointer (some ⟨e1b, e1o + m * 8, none⟩)) rfl rfl (by kernel_rfl) (fun _ _ _ h => h) (fun _ => by go_simp) hH ?_
              simp only [pz, pz0, pzs]
              refine AnyL.yy 3 127 (.agg (evA x0)) rfl rfl (by kernel_rfl) (fun _ _ _ h => h) (yieldsIf_load_mid (by kernel_rfl) 79 _ rfl e1b (e1o + m * 8) rfl (evL x0) _ (fun w' hw' => by subst hw'; exact rg1) Tryz.underlying79 rfl (by kernel_rfl)) hH ?_
              simp only [pz, pz0, pzs]
              refine AnyL.pp 4 128 (.pointer (some ⟨bx, 6, none⟩)) rfl rfl (by kernel_rfl) (fun _ _ _ h => h) (fun _ => by go_simp) hH ?_
              simp only [pz, pz0, pzs]
              refine AnyL.tt 5 129 (.slice (some ⟨e2b, e2o, none⟩) el.length ec) rfl rfl (by kernel_rfl) (fun _ _ _ h => h) (fun w' hw' => by subst hw'; go_simp) hH ?_
              simp only [pz, pz0, pzs]
              refine AnyL.pp 6 130 (.int .i64 m) rfl rfl (by kernel_rfl) (fun _ _ _ h => h) (fun _ => by go_simp) hH ?_
              simp only [pz, pz0, pzs]
              refine AnyL.pp 7 131 (.pointer (some ⟨e2b, e2o + m * 8, none⟩)) rfl rfl (by kernel_rfl) (fun _ _ _ h => h) (fun _ => by go_simp) hH ?_
              simp only [pz, pz0, pzs]
              refine AnyL.yy 8 132 (.agg (evA x1)) rfl rfl (by kernel_rfl) (fun _ _ _ h => h) (yieldsIf_load_mid (by kernel_rfl) 79 _ rfl e2b (e2o + m * 8) rfl (evL x1) _ (fun w' hw' => by subst hw'; exact rg2) Tryz.underlying79 rfl (by kernel_rfl)) hH ?_
              simp only [pz, pz0, pzs]
              refine AnyL.one 9 (by kernel_rfl) rfl (by kernel_rfl) ?_
              refine wp_neev2 (some 133) rfl _ _ rfl x0 x1 (by kernel_rfl) (by kernel_rfl) ?_
              intro q hq
              refine ⟨fun _ => hH, ?_⟩
              simp only [pz, pz0, pzs]
              refine AnyL.done (by kernel_rfl) ?_
              have HQ7 := hide (show E → q = false from fun h => hq (HE7.out h))
              clear k6 rg1 rg2 hH hq
              cases q
              case true =>
                go_wp2_with (fail)
                go_ret
                exact SameP.of false (fun h => (HQ7.out h).symm) (HG4.out.trans HGE.out)
              case false =>
                go_wp2_with (fail)
                go_roundg (el.length - (m + 1))
                case measure => omega
                case rel => exact ⟨m + 1, by omega, by go_num, HGE.out⟩
            · have hm' : m = el.length := by omega
              have hnm2 : ¬ (m : Int) < el.length := by omega
              have HG := hide g
              clear g hm R3 HV2 HC6 L3 E4
              go_wp2_with (fail)
              go_loopg [14] sl.length (fun n v wx => ∃ m : Nat, m + n = sl.length ∧ v = .int .i64 m ∧ Gr w5 wx)
              case atStart => exact ⟨0, by omega, rfl, HG.out⟩
              case round =>
                clear HG
                obtain ⟨m, hm, rfl, g⟩ := hrel
                by_cases hml : m < sl.length
                · have hml' : (m : Int) < sl.length := by omega
                  have hd2 : decide ((sl.length : Int) ≤ (m : Int)) = false := by simp; omega
                  go_upto_region 28 with (fail)
                  have gd := g.drew
                  have qe1 := R4.out _ gd
                  have qe2 := HS2.out _ (HG4.out.trans gd)
                  have k5 := HC5.out _ gd
                  obtain ⟨e2b, e2o, h5, -⟩ := qe2.get (by rw [flatOf_length kn_len]; omega)
                  subst h5
                  have p0 := qe1.cell kn_len (by rw [L4.out]; exact hml) ent0 0 (by omega)
                  have p1 := qe1.cell kn_len (by rw [L4.out]; exact hml) ent0 1 (by omega)
                  have r0 := qe2.cell kn_len hml ent0 0 (by omega)
                  have r1 := qe2.cell kn_len hml ent0 1 (by omega)
                  have HE7 := hide (show E → sp.getD m ent0 = sl.getD m ent0 from fun h => by rw [E5.out h])
                  generalize sl.getD m ent0 = x1 at r0 r1 HE7
                  generalize sp.getD m ent0 = x0 at p0 p1 HE7
                  simp only [Kn.entC, List.getElem?_cons_zero, List.getElem?_cons_succ, Nat.add_zero, Nat.zero_add, ← Nat.add_assoc] at p0 p1 r0 r1
                  obtain ⟨xa0, xv0⟩ := x0
                  obtain ⟨xa1, xv1⟩ := x1
                  dsimp only at p0 p1 r0 r1
                  have HGE := hide gd
                  clear g gd qe1 qe2
                  refine begin_late 26 [] (fun w' => w' = wr.drew) (by kernel_rfl) rfl ?_
                  generalize wr.drew = wz at k5 p0 p1 r0 r1 HGE ⊢
                  have hH : wz = wz := rfl
                  refine AnyL.pp 0 140 (.slice (some ⟨sb, 0, none⟩) sl.length sl.length) rfl rfl (by kernel_rfl) (fun _ _ _ h => h) (fun _ => by go_simp) hH ?_
                  simp only [pz, pz0, pzs]
                  refine AnyL.pp 1 141 (.int .i64 m) rfl rfl (by kernel_rfl) (fun _ _ _ h => h) (fun _ => by go_simp) hH ?_
                  simp only [pz, pz0, pzs]
                  refine AnyL.pp 2 142 (.pointer (some ⟨sb, m * 2, none⟩)) rfl rfl (by kernel_rfl) (fun _ _ _ h => h) (fun _ => by go_simp) hH ?_
                  simp only [pz, pz0, pzs]
                  refine AnyL.pp 3 143 (.pointer (some ⟨sb, m * 2, none⟩)) rfl rfl (by kernel_rfl) (fun _ _ _ h => h) (fun _ => by go_simp) hH ?_
                  simp only [pz, pz0, pzs]
                  refine AnyL.tt 4 144 (.int .i64 xa0) rfl rfl (by kernel_rfl) (fun _ _ _ h => h) (fun w' hw' => by subst hw'; go_simp) hH ?_
                  simp only [pz, pz0, pzs]
                  refine AnyL.pp 5 145 (.pointer (some ⟨bx, 5, none⟩)) rfl rfl (by kernel_rfl) (fun _ _ _ h => h) (fun _ => by go_simp) hH ?_
                  simp only [pz, pz0, pzs]
                  refine AnyL.tt 6 146 (.slice (some ⟨e2b, e2o, none⟩) sl.length sc) rfl rfl (by kernel_rfl) (fun _ _ _ h => h) (fun w' hw' => by subst hw'; go_simp) hH ?_
                  simp only [pz, pz0, pzs]
                  refine AnyL.pp 7 147 (.int .i64 m) rfl rfl (by kernel_rfl) (fun _ _ _ h => h) (fun _ => by go_simp) hH ?_
                  simp only [pz, pz0, pzs]
                  refine AnyL.pp 8 148 (.pointer (some ⟨e2b, e2o + m * 2, none⟩)) rfl rfl (by kernel_rfl) (fun _ _ _ h => h) (fun _ => by go_simp) hH ?_
                  simp only [pz, pz0, pzs]
                  refine AnyL.pp 9 149 (.pointer (some ⟨e2b, e2o + m * 2, none⟩)) rfl rfl (by kernel_rfl) (fun _ _ _ h => h) (fun _ => by go_simp) hH ?_
                  simp only [pz, pz0, pzs]
                  refine AnyL.tt 10 150 (.int .i64 xa1) rfl rfl (by kernel_rfl) (fun _ _ _ h => h) (fun w' hw' => by subst hw'; go_simp) hH ?_
                  simp only [pz, pz0, pzs]
                  by_cases hxa : xa0 = xa1
                  case neg =>
                    have hz2 : (xa0 == xa1) = false := by simpa using hxa
                    have hz3 : (xa0 != xa1) = true := by simp [bne, hz2]
                    refine AnyL.pp 11 151 (.bool true) rfl rfl (by kernel_rfl) (fun _ _ _ h => h) (fun _ => by go_simp) hH ?_
                    simp only [pz, pz0, pzs]
                    refine AnyL.pp 12 152 (.bool true) rfl rfl (by kernel_rfl) (fun _ _ _ h => h) (fun _ => by go_simp) hH ?_
                    simp only [pz, pz0, pzs]
                    refine AnyL.sk 13 153 rfl rfl (by kernel_rfl) (fun _ _ _ h => h) hH ?_
                    simp only [pz, pz0, pzs]
                    refine AnyL.sk 14 154 rfl rfl (by kernel_rfl) (fun _ _ _ h => h) hH ?_
                    simp only [pz, pz0, pzs]
                    refine AnyL.sk 15 155 rfl rfl (by kernel_rfl) (fun _ _ _ h => h) hH ?_
                    simp only [pz, pz0, pzs]
                    refine AnyL.sk 16 156 rfl rfl (by kernel_rfl) (fun _ _ _ h => h) hH ?_
                    simp only [pz, pz0, pzs]
                    refine AnyL.sk 17 157 rfl rfl (by kernel_rfl) (fun _ _ _ h => h) hH ?_
                    simp only [pz, pz0, pzs]
                    refine AnyL.sk 18 158 rfl rfl (by kernel_rfl) (fun _ _ _ h => h) hH ?_
                    simp only [pz, pz0, pzs]
                    refine AnyL.sk 19 159 rfl rfl (by kernel_rfl) (fun _ _ _ h => h) hH ?_
                    simp only [pz, pz0, pzs]
                    refine AnyL.sk 20 160 rfl rfl (by kernel_rfl) (fun _ _ _ h => h) hH ?_
                    simp only [pz, pz0, pzs]
                    refine AnyL.sk 21 161 rfl rfl (by kernel_rfl) (fun _ _ _ h => h) hH ?_
                    simp only [pz, pz0, pzs]
                    refine AnyL.sk 22 162 rfl rfl (by kernel_rfl) (fun _ _ _ h => h) hH ?_
                    simp only [pz, pz0, pzs]
                    refine AnyL.sk 23 163 rfl rfl (by kernel_rfl) (fun _ _ _ h => h) hH ?_
                    simp only [pz, pz0, pzs]
                    refine AnyL.sk 24 164 rfl rfl (by kernel_rfl) (fun _ _ _ h => h) hH ?_
                    simp only [pz, pz0, pzs]
                    refine AnyL.pp 25 165 (.bool true) rfl rfl (by kernel_rfl) (fun _ _ _ h => h) (fun _ => by go_simp) hH ?_
                    simp only [pz, pz0, pzs]
                    refine AnyL.done (by kernel_rfl) ?_
                    clear k5 p0 p1 r0 r1 hH
                    go_wp2_with (fail)
                    go_ret
                    exact SameP.of false (fun h => absurd (congrArg Ent.a (HE7.out h)) hxa) (HG4.out.trans HGE.out)
                  case pos =>
                  subst hxa
                  refine AnyL.pp 11 151 (.bool false) rfl rfl (by kernel_rfl) (fun _ _ _ h => h) (fun _ => by go_simp) hH ?_
                  simp only [pz, pz0, pzs]
                  refine AnyL.pp 12 152 (.bool false) rfl rfl (by kernel_rfl) (fun _ _ _ h => h) (fun _ => by go_simp) hH ?_
                  simp only [pz, pz0, pzs]
                  refine AnyL.pp 13 153 (.slice (some ⟨sb, 0, none⟩) sl.length sl.length) rfl rfl (by kernel_rfl) (fun _ _ _ h => h) (fun _ => by go_simp) hH ?_
                  simp only [pz, pz0, pzs]
                  refine AnyL.pp 14 154 (.int .i64 m) rfl rfl (by kernel_rfl) (fun _ _ _ h => h) (fun _ => by go_simp) hH ?_
                  simp only [pz, pz0, pzs]
                  refine AnyL.pp 15 155 (.pointer (some ⟨sb, m * 2, none⟩)) rfl rfl (by kernel_rfl) (fun _ _ _ h => h) (fun _ => by go_simp) hH ?_
                  simp only [pz, pz0, pzs]
                  refine AnyL.pp 16 156 (.pointer (some ⟨sb, m * 2 + 1, none⟩)) rfl rfl (by kernel_rfl) (fun _ _ _ h => h) (fun _ => by go_simp) hH ?_
                  simp only [pz, pz0, pzs]
                  refine AnyL.tt 17 157 (.int .i64 xv0) rfl rfl (by kernel_rfl) (fun _ _ _ h => h) (fun w' hw' => by subst hw'; go_simp) hH ?_
                  simp only [pz, pz0, pzs]
                  refine AnyL.pp 18 158 (.pointer (some ⟨bx, 5, none⟩)) rfl rfl (by kernel_rfl) (fun _ _ _ h => h) (fun _ => by go_simp) hH ?_
                  simp only [pz, pz0, pzs]
                  refine AnyL.tt 19 159 (.slice (some ⟨e2b, e2o, none⟩) sl.length sc) rfl rfl (by kernel_rfl) (fun _ _ _ h => h) (fun w' hw' => by subst hw'; go_simp) hH ?_
                  simp only [pz, pz0, pzs]
                  refine AnyL.pp 20 160 (.int .i64 m) rfl rfl (by kernel_rfl) (fun _ _ _ h => h) (fun _ => by go_simp) hH ?_
                  simp only [pz, pz0, pzs]
                  refine AnyL.pp 21 161 (.pointer (some ⟨e2b, e2o + m * 2, none⟩)) rfl rfl (by kernel_rfl) (fun _ _ _ h => h) (fun _ => by go_simp) hH ?_
                  simp only [pz, pz0, pzs]
                  refine AnyL.pp 22 162 (.pointer (some ⟨e2b, e2o + m * 2 + 1, none⟩)) rfl rfl (by kernel_rfl) (fun _ _ _ h => h) (fun _ => by go_simp) hH ?_
                  simp only [pz, pz0, pzs]
                  refine AnyL.tt 23 163 (.int .i64 xv1) rfl rfl (by kernel_rfl) (fun _ _ _ h => h) (fun w' hw' => by subst hw'; go_simp) hH ?_
                  simp only [pz, pz0, pzs]
                  by_cases hxv : xv0 = xv1
                  case neg =>
                    have hz2 : (xv0 == xv1) = false := by simpa using hxv
                    have hz3 : (xv0 != xv1) = true := by simp [bne, hz2]
                    refine AnyL.pp 24 164 (.bool true) rfl rfl (by kernel_rfl) (fun _ _ _ h => h) (fun _ => by go_simp) hH ?_
                    simp only [pz, pz0, pzs]
                    refine AnyL.pp 25 165 (.bool true) rfl rfl (by kernel_rfl) (fun _ _ _ h => h) (fun _ => by go_simp) hH ?_
                    simp only [pz, pz0, pzs]
                    refine AnyL.done (by kernel_rfl) ?_
                    clear k5 p0 p1 r0 r1 hH
                    go_wp2_with (fail)
                    go_ret
                    exact SameP.of false (fun h => absurd (congrArg Ent.v (HE7.out h)) hxv) (HG4.out.trans HGE.out)
                  case pos =>
                  subst hxv
                  refine AnyL.pp 24 164 (.bool false) rfl rfl (by kernel_rfl) (fun _ _ _ h => h) (fun _ => by go_simp) hH ?_
                  simp only [pz, pz0, pzs]
                  refine AnyL.pp 25 165 (.bool false) rfl rfl (by kernel_rfl) (fun _ _ _ h => h) (fun _ => by go_simp) hH ?_
                  simp only [pz, pz0, pzs]
                  refine AnyL.done (by kernel_rfl) ?_
                  clear k5 p0 p1 r0 r1 hH
                  go_wp2_with (fail)
                  go_roundg (sl.length - (m + 1))
                  case measure => omega
                  case rel => exact ⟨m + 1, by omega, by go_num, HGE.out⟩
                · have hm' : m = sl.length := by omega
                  have hnm3 : ¬ (m : Int) < sl.length := by omega
                  have HG := hide (HG4.out.trans g)
                  clear g hm R4 HS2 HC5
                  go_wp2_with (fail)
                  go_ret
                  exact SameP.of true (fun _ => rfl) HG.out
end Go.Proofs.YtfhplbmgjgfihaaGreatDoor.Wl
