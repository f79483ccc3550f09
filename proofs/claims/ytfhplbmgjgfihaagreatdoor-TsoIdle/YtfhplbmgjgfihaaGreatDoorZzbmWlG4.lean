/-
  What a step of a thread does to the document's world: what is put out, and fences. No condition but what each law names.
-/
import Derived.Test.YtfhplbmgjgfihaaGreatDoorZzbh
import Derived.Test.YtfhplbmgjgfihaaGreatDoorZzaa
import Derived.BigQuiet
import Derived.Deep.QuietTactic
namespace Go.Proofs.YtfhplbmgjgfihaaGreatDoor.Wl
open Go.Proofs.YtfhplbmgjgfihaaGreatDoor.Mc Go.ChangeShapes Go.WideShapes Go.ChangeAt Go.RowKit
set_option linter.unusedVariables false
set_option maxRecDepth 20000
set_option maxHeartbeats 16000000 in
theorem step_go22 (k : Wk) (v : Wv) (s : Ms) (w : World) (h : Ws k v s w) (f : Fit k.p s) (i : Nat) (hi : i < s.sides.length) (N : Int) (hN : N = s.mem.length) (hst : (s.side i).t.st = 0) (pn : Nat) (hpce : (s.side i).t.pc = pn)
    (x : Cd) (hxc : k.p.codes.getD i cd0 = x) (hpl : pn < x.l.length) (ca cb2 cc2 ck : Int) (hcc : x.l.getD pn ins0 = ⟨22, ca, cb2, cc2, ck⟩) (hri : rightB 22 ca cb2 cc2 ck (x.l.length : Int) = true) (hna : askB 22 = false) (hheld : heldM (port N i) ⟨22, ca, cb2, cc2, ck⟩ s = false) :
    Calls Tryz.prog 30 #[.pointer (some ⟨k.g, 0, none⟩), .int .i64 i] w (WlP k (s.step N i)) := by
  obtain ⟨tv, bv, mv, sv, ev, bl⟩ := v
  have hi0 : ¬ (i : Int) < 0 := by omega
  have hi1 : (i : Int) < s.sides.length := by omega
  have hi2 : ¬ (s.sides.length : Int) ≤ i := by omega
  obtain ⟨tb, tc, rfl, hBt, c1, cs, cfz, RT, thr, T1, G1, HTX, HEX, HTH⟩ := pre1 h f hi hst
  have iT := infoT10 HTH.out
  have iT2 : (Tryz.prog.info? 46).map (·.size) = some (thC (s.side i).t).size := infoT_of HTH.out
  have IT2 := hide iT2
  have one := thC_one (s.side i).t
  have HH := hide h
  have HF := hide f
  have HN := hide hN
  have HST := hide hst
  have hsz := h.sz
  have HRI := hide hri
  clear h f hN hst hri
  go_enter Tryz.func30, Tryz.ntmps30
  go_upto_region 2 with (first
    | (refine wpList_load_mid rfl 46 _ rfl tb (i * 10) rfl (thL (s.side i).t) _ RT Tryz.underlying46 rfl iT ?_)
    | (refine wpList_store_mid rfl 46 _ _ rfl w.heap.size 0 (thC (s.side i).t) rfl rfl thr iT2 one ?_))
  change Code.wp _ _ _ _ ((w.alloc (.cells (thC thZ) 46)).setCells w.heap.size 0 (thC (s.side i).t).toList)
  clear thr RT iT iT2 one cs cfz c1
  generalize (w.alloc (.cells (thC thZ) 46)).setCells w.heap.size 0 (thC (s.side i).t).toList = w1 at T1 G1 ⊢
  obtain ⟨hic, hxsh, HXC, HXA, htpc, cb, co, c0, cC⟩ := pre2 HH.out HF.out G1.out hi hxc T1.out hpce
  have hic' : (i : Int) < k.p.codes.length := by omega
  have e0 := Has.new w1 (evA ⟨0, i, (pn : Int), 0, 0, 0, 0, false⟩) 79
  have g2 := (Gr.refl w1).alloc (evA ⟨0, i, (pn : Int), 0, 0, 0, 0, false⟩) 79
  have hexs := HEX.out w1.heap.size G1.out.size
  have hexb : k.w0.heap.size ≤ w1.heap.size := Nat.le_trans hsz G1.out.size
  have HPC := hide hpce
  clear hpce hxc
  go_upto_region 4 with (fail)
  change Code.wp _ _ _ _ (w1.alloc (.cells (evA ⟨0, i, (pn : Int), 0, 0, 0, 0, false⟩) 79))
  generalize w1.alloc (.cells (evA ⟨0, i, (pn : Int), 0, 0, 0, 0, false⟩) 79) = w2 at e0 g2 ⊢
  generalize w1.heap.size = ex at e0 hexs hexb ⊢
  generalize hw0s : w.heap.size = tx at T1 HTX ⊢
  have E2 := hide e0
  have T2 := hide (T1.out.later g2)
  have H2 := hide (HH.out.later (G1.out.trans g2))
  have d0 := T2.out.cell (o := 0) (v := .int .i64 (pn : Int)) (by rw [← HPC.out]; rfl)
  have htxB : k.w0.heap.size ≤ tx := by rw [← hw0s]; exact hsz
  clear c0 cC htpc e0 g2 T1 G1 hic hic' hw0s HEX
  have HAT := at3 (N := N) HST.out HPC.out HXC.out hpl hcc
  have hpl' : (pn : Int) < x.l.length := by omega
  have hpn0 : ¬ (pn : Int) < 0 := by omega
  have hpn1 : ¬ (x.l.length : Int) ≤ pn := by omega
  obtain ⟨hcok, ib, io, hia, x0, x1, x2, x3, x4⟩ := pre3 H2.out HXA.out hpl hcc
  have i0 := Has.new w2 (insA ⟨22, ca, cb2, cc2, ck⟩) 53
  have g3 := (Gr.refl w2).alloc (insA ⟨22, ca, cb2, cc2, ck⟩) 53
  have RI := hide (fun u => Nm.refright_calls 22 ca cb2 cc2 ck (x.l.length : Int) hcok.k0 hcok.k1 u)
  have HCO := hide hcok
  rw [hia]
  clear hcok hia hcc
  go_upto_region 7 with (fail)
  change Code.wp _ _ _ _ (w2.alloc (.cells (insA ⟨22, ca, cb2, cc2, ck⟩) 53))
  generalize w2.alloc (.cells (insA ⟨22, ca, cb2, cc2, ck⟩) 53) = w3 at i0 g3 ⊢
  generalize w2.heap.size = ix at i0 ⊢
  have I3 := hide i0
  have T3 := hide (T2.out.later g3)
  have E3 := hide (E2.out.later g3)
  have H3 := hide (H2.out.later g3)
  obtain ⟨j0, j1, j2, j3, j4⟩ := five i0
  clear d0 x0 x1 x2 x3 x4 g3 i0
  go_wp2_with (fail)
  refine (RI.out _).mono ?_
  rintro r w4 ⟨rfl, g4⟩
  rw [HRI.out]
  obtain ⟨I4, T4, E4, H4⟩ := later4 I3 T3 E3 H3 g4
  clear j0 j1 j2 j3 j4 I3 T3 E3 H3 T2 E2 H2 g4 RI
  have HA := hide (fun u => Nm.has_calls 22 77 u)
  rw [Nm.has_is] at HA
  have j0 := I4.out.cell (o := 0) (v := .int .i64 22) rfl
  have HGO := hide (step_go (N := N) (i := i) (show stepM (port N i) (s.side i).t (s.side i).code s = _ by rw [HXC.out, HAT.out]) (HRI.out) (fun h => by rw [hna] at h; cases h) hheld)
  clear hheld
  rw [hna] at HA
  go_wp2_with (fail)
  refine (HA.out _).mono ?_
  rintro r w7 ⟨rfl, g7⟩
  obtain ⟨I7, T7, E7, H7⟩ := later4 I4 T4 E4 H4 g7
  clear j0 HA I4 T4 E4 H4 g7
  obtain ⟨bb, bc, ba, bcc, rfl, ci, c2, c4, c7⟩ := buf7 H7.out hi
  have j0 := I7.out.cell (o := 0) (v := .int .i64 22) rfl
  have l1 : True := trivial
  have l2 : True := trivial
  have l3 : True := trivial
  generalize hbng : (s.side i).buf.length = bn at ci l1 l2 l3
  go_upto_region 17 with (fail)
  go_quiet (fail)
  have g8 := (Gr.refl w7).drewN nq
  obtain ⟨I8, T8, E8, H8⟩ := later4 I7 T7 E7 H7 g8
  clear ci c2 c4 c7 j0 l1 l2 l3 g8 I7 T7 E7 H7 hbng
  generalize w7.drewN nq = w8 at I8 T8 E8 H8 ⊢
  obtain ⟨an, rfl, han⟩ := reg_nat (right_a HRI.out)
  have han' : (an : Int) < 8 := by omega
  have han0 : ¬ (an : Int) < 0 := by omega
  have hpw : pn < 100000 := by omega
  obtain ⟨j0, j1, j2, j3, j4⟩ := five I8.out
  have d0 := T8.out.cell (thC_pc (s.side i).t)
  rw [HPC.out] at d0
  have cr := T8.out.cell (thC_reg HTH.out an han)
  have rf := T8.out.free (1 + an)
  have HS : Hid (s.step N i = (s.setT i ((s.side i).t.at ((pn : Int) + 1))).note i ⟨6, i, (pn : Int), 0, (s.side i).t.reg (an : Int), 0, 0, false⟩) := by
    show _ = _
    rw [HGO.out]
    show (s.setT i ((s.side i).t.at ((s.side i).t.pc + 1))).note i ⟨6, 0, (s.side i).t.pc, 0, (s.side i).t.reg (an : Int), 0, 0, false⟩ = _
    rw [HPC.out]
    rfl
  have q0 := E8.out.cell (o := 0) (v := .int .i64 0) rfl
  have f0 := E8.out.free 0
  have q1 := E8.out.cell (o := 4) (v := .int .u32 0) rfl
  have f1 := E8.out.free 4
  have b9 : Has ((w8.setCell ⟨ex, 0, none⟩ (.int .i64 6)).setCell ⟨ex, 4, none⟩ (.int .u32 ((s.side i).t.reg (an : Int)))) ex (evA ⟨6, i, (pn : Int), 0, (s.side i).t.reg (an : Int), 0, 0, false⟩) 79 := ((E8.out.set 0 (.int .i64 6)).set 4 (.int .u32 ((s.side i).t.reg (an : Int))))
  have kq : Kp [ex] w8 ((w8.setCell ⟨ex, 0, none⟩ (.int .i64 6)).setCell ⟨ex, 4, none⟩ (.int .u32 ((s.side i).t.reg (an : Int)))) := (Kp.setCell w8 ex 0 (.int .i64 6)).trans (Kp.setCell _ ex 4 (.int .u32 ((s.side i).t.reg (an : Int)))) (fun _ h => h) (fun _ h => .inl h)
  have t9 := T8.out.kept kq (fun z => (T8.out.apart E8.out (by decide)) (by simpa using z))
  have h9 := H8.out.asideV E8.out hexb hexs kq
  have HOK9 := HTH
  clear kq
  go_upto_region 89 with (fail)
  generalize (w8.setCell ⟨ex, 0, none⟩ (.int .i64 6)).setCell ⟨ex, 4, none⟩ (.int .u32 ((s.side i).t.reg (an : Int))) = w9 at b9 t9 h9 ⊢
  have T9 := hide t9
  have E9 := hide b9
  have H9 := hide h9
  clear t9 b9 h9 cr rf d0 j0 j1 j2 j3 j4 T8 E8 H8 I8 q0 f0 q1 f1
  have z0 := T9.out.cell (thC_pc (s.side i).t)
  have zf := T9.out.free 0
  have tq := T9.out.set 0 (.int .i64 ((pn : Int) + 1))
  rw [thC_at] at tq
  have kq := Kp.setCell w9 tx 0 (.int .i64 ((pn : Int) + 1))
  have eq := E9.out.kept kq (fun z => (E9.out.apart T9.out (by decide)) (by simpa using z))
  have hq := H9.out.asideT T9.out htxB HTX.out kq
  clear kq
  go_upto_region 90 with (fail)
  generalize w9.setCell ⟨tx, 0, none⟩ (.int .i64 ((pn : Int) + 1)) = w10 at tq eq hq ⊢
  have HK := hide (ThOk.at' HOK9.out ((pn : Int) + 1))
  generalize hth9 : ((s.side i).t).at ((pn : Int) + 1) = t9 at tq HK HS
  have h11 := hq.later (Gr.refl w10).drew
  have t11 := tq.drew
  have e11 := eq.drew
  have q1 := h11.box.cell (o := 1) (v := .slice (some ⟨tb, 0, none⟩) s.sides.length tc) rfl
  have thr := thr12 h11 rfl (rfl) hi HK.out
  have iT2 : (Tryz.prog.info? 46).map (·.size) = some (thC t9).size := infoT_of HK.out
  have one := thC_one t9
  clear z0 zf tq eq hq hth9
  refine begin_late 8 [7] (fun w' => w' = w10.drew) (by kernel_rfl) rfl ?_
  have hH : w10.drew = w10.drew := rfl
  refine AnyL.pp 0 483 (.pointer (some ⟨k.g, 0, none⟩)) rfl rfl (by kernel_rfl) (fun _ _ _ h => h) (fun _ => by go_simp) hH ?_
  simp only [pz, pz0, pzs]
  refine AnyL.pp 1 484 (.pointer (some ⟨k.g, 0, none⟩)) rfl rfl (by kernel_rfl) (fun _ _ _ h => h) (fun _ => by go_simp) hH ?_
  simp only [pz, pz0, pzs]
  refine AnyL.pp 2 485 (.pointer (some ⟨k.g, 1, none⟩)) rfl rfl (by kernel_rfl) (fun _ _ _ h => h) (fun _ => by go_simp) hH ?_
  simp only [pz, pz0, pzs]
  refine AnyL.tt 3 486 (.slice (some ⟨tb, 0, none⟩) s.sides.length tc) rfl rfl (by kernel_rfl) (fun _ _ _ h => h) (fun w' hw' => by subst hw'; go_simp) hH ?_
  simp only [pz, pz0, pzs]
  refine AnyL.pp 4 487 (.int .i64 i) rfl rfl (by kernel_rfl) (fun _ _ _ h => h) (fun _ => by go_simp) hH ?_
  simp only [pz, pz0, pzs]
  refine AnyL.yy 5 488 (.agg (thC t9)) rfl rfl (by kernel_rfl) (fun _ _ _ h => h) (yieldsIf_load_mid (by kernel_rfl) 46 _ rfl tx 0 rfl (thL t9) _ (fun w' hw' => by subst hw'; exact fun j v hv => (by rw [Nat.zero_add]; exact t11.cell (by simpa [thC] using hv))) Tryz.underlying46 rfl (infoT10 HK.out)) hH ?_
  simp only [pz, pz0, pzs]
  refine AnyL.pp 6 489 (.pointer (some ⟨tb, i * 10, none⟩)) rfl rfl (by kernel_rfl) (fun _ _ _ h => h) (fun _ => by go_simp) hH ?_
  simp only [pz, pz0, pzs]
  refine AnyL.one 7 (by kernel_rfl) rfl (by kernel_rfl) ?_
  refine wp_store_mid 46 _ _ rfl tb (i * 10) (thC t9) (by kernel_rfl) (by kernel_rfl) thr iT2 one ?_
  refine ⟨late (by kernel_rfl), ?_⟩
  refine AnyL.done (by kernel_rfl) ?_
  obtain ⟨h12, e12⟩ := late12 h11 rfl (rfl) hi HK.out e11
  replace h12 : Ws k _ ((s).setT i t9) (w10.drew.setCells tb (i * 10) (thC t9).toList) := h12
  clear h11 t11 e11 q1 thr iT2 one hH
  generalize w10.drew.setCells tb (i * 10) (thC t9).toList = w12 at h12 e12 ⊢
  have z0 := e12.cell (o := 0) (v := .int .i64 6) rfl
  clear z0
  have z0 := e12.cell (o := 0) (v := .int .i64 6) rfl
  go_upto_region 92 with (fail)
  clear z0
  have h13 := h12.later (Gr.refl w12).drew
  have e13 := e12.drew
  obtain ⟨ad, cap, he, -, -, -, -⟩ := own_at h13.evs
  simp only at he
  have neg : k.g ∉ ob ev := fun z => own_aside h13.evs h13.box (by decide) z
  have HX := hide (fun w' (q : Kp (ob ev) w12.drew w') => e13.kept q hexs)
  have HE := hide (fun w' (q : Kp (ob ev) w12.drew w') => (h13.box.kept q neg).cell (o := 6) (v := ev) rfl)
  refine begin_late 11 [10] (fun w' => Kp (ob ev) w12.drew w') (by kernel_rfl) rfl ?_
  have hH : Kp (ob ev) w12.drew w12.drew := Kp.refl _ _
  refine AnyL.pp 0 493 (.pointer (some ⟨k.g, 0, none⟩)) rfl rfl (by kernel_rfl) (fun _ _ _ h => h) (fun _ => by go_simp) hH ?_
  simp only [pz, pz0, pzs]
  refine AnyL.pp 1 494 (.pointer (some ⟨k.g, 0, none⟩)) rfl rfl (by kernel_rfl) (fun _ _ _ h => h) (fun _ => by go_simp) hH ?_
  simp only [pz, pz0, pzs]
  refine AnyL.pp 2 495 (.pointer (some ⟨k.g, 0, none⟩)) rfl rfl (by kernel_rfl) (fun _ _ _ h => h) (fun _ => by go_simp) hH ?_
  simp only [pz, pz0, pzs]
  refine AnyL.pp 3 496 (.pointer (some ⟨k.g, 6, none⟩)) rfl rfl (by kernel_rfl) (fun _ _ _ h => h) (fun _ => by go_simp) hH ?_
  simp only [pz, pz0, pzs]
  refine AnyL.tt 4 497 (ev) rfl rfl (by kernel_rfl) (fun _ _ _ h => h) (fun w' hw' => by have c1 := HE.out w' hw'; go_simp) hH ?_
  simp only [pz, pz0, pzs]
  refine AnyL.yy 5 498 (.agg (evA ⟨6, i, (pn : Int), 0, (s.side i).t.reg (an : Int), 0, 0, false⟩)) rfl rfl (by kernel_rfl) (fun _ _ _ h => h) (take_ev (by kernel_rfl) _ rfl ex rfl ⟨6, i, (pn : Int), 0, (s.side i).t.reg (an : Int), 0, 0, false⟩ (fun w' hw' => HX.out w' hw')) hH ?_
  simp only [pz, pz0, pzs]
  refine AnyL.one 6 (by kernel_rfl) rfl (by kernel_rfl) ?_
  refine wp_made (some 499) rfl _ _ (build_ev _ rfl ⟨6, i, (pn : Int), 0, (s.side i).t.reg (an : Int), 0, 0, false⟩ (by kernel_rfl)) ?_
  refine ⟨fun _ => (((Gr.refl w12.drew).alloc (evA ⟨6, i, (pn : Int), 0, (s.side i).t.reg (an : Int), 0, 0, false⟩) 79).kp _), ?_⟩
  simp only [pz, pz0, pzs]
  obtain ⟨e'', w'', hr2, hk2, ⟨ea2, ec2, hev2⟩, hws⟩ := h13.gather (ty := 39) (by have q := HF.out.evs; show s.evs.length ≤ 95000; omega) i ⟨6, i, (pn : Int), 0, (s.side i).t.reg (an : Int), 0, 0, false⟩ rfl
  subst hev2
  refine AnyL.one 7 (by kernel_rfl) rfl (by kernel_rfl) ?_
  refine wp_app (some 500) rfl _ _ 39 rfl ev _ (by kernel_rfl) rfl _ w'' hr2 ?_
  refine ⟨fun _ => hk2, ?_⟩
  simp only [pz, pz0, pzs]
  replace hH := hk2
  refine AnyL.pp 8 501 (.pointer (some ⟨k.g, 0, none⟩)) rfl rfl (by kernel_rfl) (fun _ _ _ h => h) (fun _ => by go_simp) hH ?_
  simp only [pz, pz0, pzs]
  refine AnyL.pp 9 502 (.pointer (some ⟨k.g, 6, none⟩)) rfl rfl (by kernel_rfl) (fun _ _ _ h => h) (fun _ => by go_simp) hH ?_
  simp only [pz, pz0, pzs]
  have cg := HE.out w'' hk2
  rw [he] at cg
  have cf := (h13.box.kept hk2 neg).free 6
  refine AnyL.one 10 (by kernel_rfl) rfl (by kernel_rfl) ?_
  refine wp_store_evs rfl _ _ rfl k.g 6 (by kernel_rfl) ea2 ((s.setT i t9).evs.length + 1) ec2 (by kernel_rfl) _ _ _ cg cf ?_
  refine ⟨late (by kernel_rfl), ?_⟩
  refine AnyL.done (by kernel_rfl) ?_
  have HW := hide (hws _ rfl)
  clear hws hk2 hr2 hH HX HE cg cf h13 e13 h12 e12
  generalize w''.setCell ⟨k.g, 6, none⟩ (.slice ea2 ((s.setT i t9).evs.length + 1) ec2) = w15 at HW ⊢
  go_wp2_with (fail)
  go_end0
  exact ⟨rfl, _, by rw [HS.out]; exact HW.out⟩

set_option maxHeartbeats 16000000 in
theorem step_go18 (k : Wk) (v : Wv) (s : Ms) (w : World) (h : Ws k v s w) (f : Fit k.p s) (i : Nat) (hi : i < s.sides.length) (N : Int) (hN : N = s.mem.length) (hst : (s.side i).t.st = 0) (pn : Nat) (hpce : (s.side i).t.pc = pn)
    (x : Cd) (hxc : k.p.codes.getD i cd0 = x) (hpl : pn < x.l.length) (ca cb2 cc2 ck : Int) (hcc : x.l.getD pn ins0 = ⟨18, ca, cb2, cc2, ck⟩) (hri : rightB 18 ca cb2 cc2 ck (x.l.length : Int) = true) (hna : askB 18 = false) (hb : (s.side i).buf.length = 0) (hheld : heldM (port N i) ⟨18, ca, cb2, cc2, ck⟩ s = false) :
    Calls Tryz.prog 30 #[.pointer (some ⟨k.g, 0, none⟩), .int .i64 i] w (WlP k (s.step N i)) := by
  obtain ⟨tv, bv, mv, sv, ev, bl⟩ := v
  have HB0 := hide hb
  clear hb
  have hi0 : ¬ (i : Int) < 0 := by omega
  have hi1 : (i : Int) < s.sides.length := by omega
  have hi2 : ¬ (s.sides.length : Int) ≤ i := by omega
  obtain ⟨tb, tc, rfl, hBt, c1, cs, cfz, RT, thr, T1, G1, HTX, HEX, HTH⟩ := pre1 h f hi hst
  have iT := infoT10 HTH.out
  have iT2 : (Tryz.prog.info? 46).map (·.size) = some (thC (s.side i).t).size := infoT_of HTH.out
  have IT2 := hide iT2
  have one := thC_one (s.side i).t
  have HH := hide h
  have HF := hide f
  have HN := hide hN
  have HST := hide hst
  have hsz := h.sz
  have HRI := hide hri
  clear h f hN hst hri
  go_enter Tryz.func30, Tryz.ntmps30
  go_upto_region 2 with (first
    | (refine wpList_load_mid rfl 46 _ rfl tb (i * 10) rfl (thL (s.side i).t) _ RT Tryz.underlying46 rfl iT ?_)
    | (refine wpList_store_mid rfl 46 _ _ rfl w.heap.size 0 (thC (s.side i).t) rfl rfl thr iT2 one ?_))
  change Code.wp _ _ _ _ ((w.alloc (.cells (thC thZ) 46)).setCells w.heap.size 0 (thC (s.side i).t).toList)
  clear thr RT iT iT2 one cs cfz c1
  generalize (w.alloc (.cells (thC thZ) 46)).setCells w.heap.size 0 (thC (s.side i).t).toList = w1 at T1 G1 ⊢
  obtain ⟨hic, hxsh, HXC, HXA, htpc, cb, co, c0, cC⟩ := pre2 HH.out HF.out G1.out hi hxc T1.out hpce
  have hic' : (i : Int) < k.p.codes.length := by omega
  have e0 := Has.new w1 (evA ⟨0, i, (pn : Int), 0, 0, 0, 0, false⟩) 79
  have g2 := (Gr.refl w1).alloc (evA ⟨0, i, (pn : Int), 0, 0, 0, 0, false⟩) 79
  have hexs := HEX.out w1.heap.size G1.out.size
  have hexb : k.w0.heap.size ≤ w1.heap.size := Nat.le_trans hsz G1.out.size
  have HPC := hide hpce
  clear hpce hxc
  go_upto_region 4 with (fail)
  change Code.wp _ _ _ _ (w1.alloc (.cells (evA ⟨0, i, (pn : Int), 0, 0, 0, 0, false⟩) 79))
  generalize w1.alloc (.cells (evA ⟨0, i, (pn : Int), 0, 0, 0, 0, false⟩) 79) = w2 at e0 g2 ⊢
  generalize w1.heap.size = ex at e0 hexs hexb ⊢
  generalize hw0s : w.heap.size = tx at T1 HTX ⊢
  have E2 := hide e0
  have T2 := hide (T1.out.later g2)
  have H2 := hide (HH.out.later (G1.out.trans g2))
  have d0 := T2.out.cell (o := 0) (v := .int .i64 (pn : Int)) (by rw [← HPC.out]; rfl)
  have htxB : k.w0.heap.size ≤ tx := by rw [← hw0s]; exact hsz
  clear c0 cC htpc e0 g2 T1 G1 hic hic' hw0s HEX
  have HAT := at3 (N := N) HST.out HPC.out HXC.out hpl hcc
  have hpl' : (pn : Int) < x.l.length := by omega
  have hpn0 : ¬ (pn : Int) < 0 := by omega
  have hpn1 : ¬ (x.l.length : Int) ≤ pn := by omega
  obtain ⟨hcok, ib, io, hia, x0, x1, x2, x3, x4⟩ := pre3 H2.out HXA.out hpl hcc
  have i0 := Has.new w2 (insA ⟨18, ca, cb2, cc2, ck⟩) 53
  have g3 := (Gr.refl w2).alloc (insA ⟨18, ca, cb2, cc2, ck⟩) 53
  have RI := hide (fun u => Nm.refright_calls 18 ca cb2 cc2 ck (x.l.length : Int) hcok.k0 hcok.k1 u)
  have HCO := hide hcok
  rw [hia]
  clear hcok hia hcc
  go_upto_region 7 with (fail)
  change Code.wp _ _ _ _ (w2.alloc (.cells (insA ⟨18, ca, cb2, cc2, ck⟩) 53))
  generalize w2.alloc (.cells (insA ⟨18, ca, cb2, cc2, ck⟩) 53) = w3 at i0 g3 ⊢
  generalize w2.heap.size = ix at i0 ⊢
  have I3 := hide i0
  have T3 := hide (T2.out.later g3)
  have E3 := hide (E2.out.later g3)
  have H3 := hide (H2.out.later g3)
  obtain ⟨j0, j1, j2, j3, j4⟩ := five i0
  clear d0 x0 x1 x2 x3 x4 g3 i0
  go_wp2_with (fail)
  refine (RI.out _).mono ?_
  rintro r w4 ⟨rfl, g4⟩
  rw [HRI.out]
  obtain ⟨I4, T4, E4, H4⟩ := later4 I3 T3 E3 H3 g4
  clear j0 j1 j2 j3 j4 I3 T3 E3 H3 T2 E2 H2 g4 RI
  have HA := hide (fun u => Nm.has_calls 18 77 u)
  rw [Nm.has_is] at HA
  have j0 := I4.out.cell (o := 0) (v := .int .i64 18) rfl
  have HGO := hide (step_go (N := N) (i := i) (show stepM (port N i) (s.side i).t (s.side i).code s = _ by rw [HXC.out, HAT.out]) (HRI.out) (fun h => by rw [hna] at h; cases h) hheld)
  clear hheld
  rw [hna] at HA
  go_wp2_with (fail)
  refine (HA.out _).mono ?_
  rintro r w7 ⟨rfl, g7⟩
  obtain ⟨I7, T7, E7, H7⟩ := later4 I4 T4 E4 H4 g7
  clear j0 HA I4 T4 E4 H4 g7
  obtain ⟨bb, bc, ba, bcc, rfl, ci, c2, c4, c7⟩ := buf7 H7.out hi
  have j0 := I7.out.cell (o := 0) (v := .int .i64 18) rfl
  have hb := HB0.out
  have l1 : ¬ (0 : Int) < ((s.side i).buf.length : Int) := by omega
  have l2 : decide ((0 : Int) < ((s.side i).buf.length : Int)) = false := by simp [hb]
  have l3 : decide (0 < (s.side i).buf.length) = false := by simp [hb]
  clear hb
  generalize hbng : (s.side i).buf.length = bn at ci l1 l2 l3
  go_upto_region 17 with (fail)
  go_quiet (fail)
  have g8 := (Gr.refl w7).drewN nq
  obtain ⟨I8, T8, E8, H8⟩ := later4 I7 T7 E7 H7 g8
  clear ci c2 c4 c7 j0 l1 l2 l3 g8 I7 T7 E7 H7 hbng
  generalize w7.drewN nq = w8 at I8 T8 E8 H8 ⊢
  obtain ⟨an, rfl, han⟩ := reg_nat (right_a HRI.out)
  have han' : (an : Int) < 8 := by omega
  have han0 : ¬ (an : Int) < 0 := by omega
  have hpw : pn < 100000 := by omega
  obtain ⟨j0, j1, j2, j3, j4⟩ := five I8.out
  have d0 := T8.out.cell (thC_pc (s.side i).t)
  rw [HPC.out] at d0
  have cr := T8.out.cell (thC_reg HTH.out an han)
  have rf := T8.out.free (1 + an)
  have HS : Hid (s.step N i = (s.setT i ((s.side i).t.at ((pn : Int) + 1))).note i ⟨5, i, (pn : Int), 0, 0, 0, 0, false⟩) := by
    show _ = _
    rw [HGO.out]
    show (s.setT i ((s.side i).t.at ((s.side i).t.pc + 1))).note i (evt 5 (s.side i).t.pc) = _
    rw [HPC.out]
    rfl
  have q0 := E8.out.cell (o := 0) (v := .int .i64 0) rfl
  have f0 := E8.out.free 0
  have b9 : Has (w8.setCell ⟨ex, 0, none⟩ (.int .i64 5)) ex (evA ⟨5, i, (pn : Int), 0, 0, 0, 0, false⟩) 79 := (E8.out.set 0 (.int .i64 5))
  have kq : Kp [ex] w8 (w8.setCell ⟨ex, 0, none⟩ (.int .i64 5)) := Kp.setCell w8 ex 0 (.int .i64 5)
  have t9 := T8.out.kept kq (fun z => (T8.out.apart E8.out (by decide)) (by simpa using z))
  have h9 := H8.out.asideV E8.out hexb hexs kq
  have HOK9 := HTH
  clear kq
  go_upto_region 89 with (fail)
  generalize w8.setCell ⟨ex, 0, none⟩ (.int .i64 5) = w9 at b9 t9 h9 ⊢
  have T9 := hide t9
  have E9 := hide b9
  have H9 := hide h9
  clear t9 b9 h9 cr rf d0 j0 j1 j2 j3 j4 T8 E8 H8 I8 q0 f0
  have z0 := T9.out.cell (thC_pc (s.side i).t)
  have zf := T9.out.free 0
  have tq := T9.out.set 0 (.int .i64 ((pn : Int) + 1))
  rw [thC_at] at tq
  have kq := Kp.setCell w9 tx 0 (.int .i64 ((pn : Int) + 1))
  have eq := E9.out.kept kq (fun z => (E9.out.apart T9.out (by decide)) (by simpa using z))
  have hq := H9.out.asideT T9.out htxB HTX.out kq
  clear kq
  go_upto_region 90 with (fail)
  generalize w9.setCell ⟨tx, 0, none⟩ (.int .i64 ((pn : Int) + 1)) = w10 at tq eq hq ⊢
  have HK := hide (ThOk.at' HOK9.out ((pn : Int) + 1))
  generalize hth9 : ((s.side i).t).at ((pn : Int) + 1) = t9 at tq HK HS
  have h11 := hq.later (Gr.refl w10).drew
  have t11 := tq.drew
  have e11 := eq.drew
  have q1 := h11.box.cell (o := 1) (v := .slice (some ⟨tb, 0, none⟩) s.sides.length tc) rfl
  have thr := thr12 h11 rfl (rfl) hi HK.out
  have iT2 : (Tryz.prog.info? 46).map (·.size) = some (thC t9).size := infoT_of HK.out
  have one := thC_one t9
  clear z0 zf tq eq hq hth9
  refine begin_late 8 [7] (fun w' => w' = w10.drew) (by kernel_rfl) rfl ?_
  have hH : w10.drew = w10.drew := rfl
  refine AnyL.pp 0 483 (.pointer (some ⟨k.g, 0, none⟩)) rfl rfl (by kernel_rfl) (fun _ _ _ h => h) (fun _ => by go_simp) hH ?_
  simp only [pz, pz0, pzs]
  refine AnyL.pp 1 484 (.pointer (some ⟨k.g, 0, none⟩)) rfl rfl (by kernel_rfl) (fun _ _ _ h => h) (fun _ => by go_simp) hH ?_
  simp only [pz, pz0, pzs]
  refine AnyL.pp 2 485 (.pointer (some ⟨k.g, 1, none⟩)) rfl rfl (by kernel_rfl) (fun _ _ _ h => h) (fun _ => by go_simp) hH ?_
  simp only [pz, pz0, pzs]
  refine AnyL.tt 3 486 (.slice (some ⟨tb, 0, none⟩) s.sides.length tc) rfl rfl (by kernel_rfl) (fun _ _ _ h => h) (fun w' hw' => by subst hw'; go_simp) hH ?_
  simp only [pz, pz0, pzs]
  refine AnyL.pp 4 487 (.int .i64 i) rfl rfl (by kernel_rfl) (fun _ _ _ h => h) (fun _ => by go_simp) hH ?_
  simp only [pz, pz0, pzs]
  refine AnyL.yy 5 488 (.agg (thC t9)) rfl rfl (by kernel_rfl) (fun _ _ _ h => h) (yieldsIf_load_mid (by kernel_rfl) 46 _ rfl tx 0 rfl (thL t9) _ (fun w' hw' => by subst hw'; exact fun j v hv => (by rw [Nat.zero_add]; exact t11.cell (by simpa [thC] using hv))) Tryz.underlying46 rfl (infoT10 HK.out)) hH ?_
  simp only [pz, pz0, pzs]
  refine AnyL.pp 6 489 (.pointer (some ⟨tb, i * 10, none⟩)) rfl rfl (by kernel_rfl) (fun _ _ _ h => h) (fun _ => by go_simp) hH ?_
  simp only [pz, pz0, pzs]
  refine AnyL.one 7 (by kernel_rfl) rfl (by kernel_rfl) ?_
  refine wp_store_mid 46 _ _ rfl tb (i * 10) (thC t9) (by kernel_rfl) (by kernel_rfl) thr iT2 one ?_
  refine ⟨late (by kernel_rfl), ?_⟩
  refine AnyL.done (by kernel_rfl) ?_
  obtain ⟨h12, e12⟩ := late12 h11 rfl (rfl) hi HK.out e11
  replace h12 : Ws k _ ((s).setT i t9) (w10.drew.setCells tb (i * 10) (thC t9).toList) := h12
  clear h11 t11 e11 q1 thr iT2 one hH
  generalize w10.drew.setCells tb (i * 10) (thC t9).toList = w12 at h12 e12 ⊢
  have z0 := e12.cell (o := 0) (v := .int .i64 5) rfl
  clear z0
  have z0 := e12.cell (o := 0) (v := .int .i64 5) rfl
  go_upto_region 92 with (fail)
  clear z0
  have h13 := h12.later (Gr.refl w12).drew
  have e13 := e12.drew
  obtain ⟨ad, cap, he, -, -, -, -⟩ := own_at h13.evs
  simp only at he
  have neg : k.g ∉ ob ev := fun z => own_aside h13.evs h13.box (by decide) z
  have HX := hide (fun w' (q : Kp (ob ev) w12.drew w') => e13.kept q hexs)
  have HE := hide (fun w' (q : Kp (ob ev) w12.drew w') => (h13.box.kept q neg).cell (o := 6) (v := ev) rfl)
  refine begin_late 11 [10] (fun w' => Kp (ob ev) w12.drew w') (by kernel_rfl) rfl ?_
  have hH : Kp (ob ev) w12.drew w12.drew := Kp.refl _ _
  refine AnyL.pp 0 493 (.pointer (some ⟨k.g, 0, none⟩)) rfl rfl (by kernel_rfl) (fun _ _ _ h => h) (fun _ => by go_simp) hH ?_
  simp only [pz, pz0, pzs]
  refine AnyL.pp 1 494 (.pointer (some ⟨k.g, 0, none⟩)) rfl rfl (by kernel_rfl) (fun _ _ _ h => h) (fun _ => by go_simp) hH ?_
  simp only [pz, pz0, pzs]
  refine AnyL.pp 2 495 (.pointer (some ⟨k.g, 0, none⟩)) rfl rfl (by kernel_rfl) (fun _ _ _ h => h) (fun _ => by go_simp) hH ?_
  simp only [pz, pz0, pzs]
  refine AnyL.pp 3 496 (.pointer (some ⟨k.g, 6, none⟩)) rfl rfl (by kernel_rfl) (fun _ _ _ h => h) (fun _ => by go_simp) hH ?_
  simp only [pz, pz0, pzs]
  refine AnyL.tt 4 497 (ev) rfl rfl (by kernel_rfl) (fun _ _ _ h => h) (fun w' hw' => by have c1 := HE.out w' hw'; go_simp) hH ?_
  simp only [pz, pz0, pzs]
  refine AnyL.yy 5 498 (.agg (evA ⟨5, i, (pn : Int), 0, 0, 0, 0, false⟩)) rfl rfl (by kernel_rfl) (fun _ _ _ h => h) (take_ev (by kernel_rfl) _ rfl ex rfl ⟨5, i, (pn : Int), 0, 0, 0, 0, false⟩ (fun w' hw' => HX.out w' hw')) hH ?_
  simp only [pz, pz0, pzs]
  refine AnyL.one 6 (by kernel_rfl) rfl (by kernel_rfl) ?_
  refine wp_made (some 499) rfl _ _ (build_ev _ rfl ⟨5, i, (pn : Int), 0, 0, 0, 0, false⟩ (by kernel_rfl)) ?_
  refine ⟨fun _ => (((Gr.refl w12.drew).alloc (evA ⟨5, i, (pn : Int), 0, 0, 0, 0, false⟩) 79).kp _), ?_⟩
  simp only [pz, pz0, pzs]
  obtain ⟨e'', w'', hr2, hk2, ⟨ea2, ec2, hev2⟩, hws⟩ := h13.gather (ty := 39) (by have q := HF.out.evs; show s.evs.length ≤ 95000; omega) i ⟨5, i, (pn : Int), 0, 0, 0, 0, false⟩ rfl
  subst hev2
  refine AnyL.one 7 (by kernel_rfl) rfl (by kernel_rfl) ?_
  refine wp_app (some 500) rfl _ _ 39 rfl ev _ (by kernel_rfl) rfl _ w'' hr2 ?_
  refine ⟨fun _ => hk2, ?_⟩
  simp only [pz, pz0, pzs]
  replace hH := hk2
  refine AnyL.pp 8 501 (.pointer (some ⟨k.g, 0, none⟩)) rfl rfl (by kernel_rfl) (fun _ _ _ h => h) (fun _ => by go_simp) hH ?_
  simp only [pz, pz0, pzs]
  refine AnyL.pp 9 502 (.pointer (some ⟨k.g, 6, none⟩)) rfl rfl (by kernel_rfl) (fun _ _ _ h => h) (fun _ => by go_simp) hH ?_
  simp only [pz, pz0, pzs]
  have cg := HE.out w'' hk2
  rw [he] at cg
  have cf := (h13.box.kept hk2 neg).free 6
  refine AnyL.one 10 (by kernel_rfl) rfl (by kernel_rfl) ?_
  refine wp_store_evs rfl _ _ rfl k.g 6 (by kernel_rfl) ea2 ((s.setT i t9).evs.length + 1) ec2 (by kernel_rfl) _ _ _ cg cf ?_
  refine ⟨late (by kernel_rfl), ?_⟩
  refine AnyL.done (by kernel_rfl) ?_
  have HW := hide (hws _ rfl)
  clear hws hk2 hr2 hH HX HE cg cf h13 e13 h12 e12
  generalize w''.setCell ⟨k.g, 6, none⟩ (.slice ea2 ((s.setT i t9).evs.length + 1) ec2) = w15 at HW ⊢
  go_wp2_with (fail)
  go_end0
  exact ⟨rfl, _, by rw [HS.out]; exact HW.out⟩
end Go.Proofs.YtfhplbmgjgfihaaGreatDoor.Wl
