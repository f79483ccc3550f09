/-
  What a step of a thread does to the document's world: operations of two words. No condition but what each law names.
-/
import Derived.Test.YtfhplbmgjgfihaaGreatDoorZzbh
import Derived.Test.YtfhplbmgjgfihaaGreatDoorZzaa
import Derived.BigQuiet
import Derived.Deep.QuietTactic
namespace Go.Proofs.YtfhplbmgjgfihaaGreatDoor.Wl
open Go.Proofs.YtfhplbmgjgfihaaGreatDoor.Mc Go.ChangeShapes Go.WideShapes Go.ChangeAt Go.RowKit
set_option linter.unusedVariables false
set_option maxRecDepth 20000
set_option maxHeartbeats 16000000 in
theorem step_goalu (k : Wk) (v : Wv) (s : Ms) (w : World) (h : Ws k v s w) (f : Fit k.p s) (i : Nat) (hi : i < s.sides.length) (N : Int) (hN : N = s.mem.length) (hst : (s.side i).t.st = 0) (pn : Nat) (hpce : (s.side i).t.pc = pn)
    (x : Cd) (hxc : k.p.codes.getD i cd0 = x) (hpl : pn < x.l.length) (op ca cb2 cc2 ck : Int) (hcc : x.l.getD pn ins0 = ⟨op, ca, cb2, cc2, ck⟩) (hri : rightB op ca cb2 cc2 ck (x.l.length : Int) = true) (hna : askB op = false) (hheld : heldM (port N i) ⟨op, ca, cb2, cc2, ck⟩ s = false) (h3 : 3 ≤ op) (h12 : op ≤ 12) :
    Calls Tryz.prog 30 #[.pointer (some ⟨k.g, 0, none⟩), .int .i64 i] w (WlP k (s.step N i)) := by
  obtain ⟨tv, bv, mv, sv, ev, bl⟩ := v
  have oe0 : (op == 0) = false := by simp; omega
  have oe1 : (op == 1) = false := by simp; omega
  have oe2 : (op == 2) = false := by simp; omega
  have oe13 : (op == 13) = false := by simp; omega
  have oe14 : (op == 14) = false := by simp; omega
  have oe15 : (op == 15) = false := by simp; omega
  have oe16 : (op == 16) = false := by simp; omega
  have oe17 : (op == 17) = false := by simp; omega
  have oe18 : (op == 18) = false := by simp; omega
  have oe19 : (op == 19) = false := by simp; omega
  have oe20 : (op == 20) = false := by simp; omega
  have oe21 : (op == 21) = false := by simp; omega
  have oe22 : (op == 22) = false := by simp; omega
  have oe23 : (op == 23) = false := by simp; omega
  have oe24 : (op == 24) = false := by simp; omega
  have oe25 : (op == 25) = false := by simp; omega
  have oe27 : (op == 27) = false := by simp; omega
  have on18 : ¬ 18 ≤ op := by omega
  have on23 : ¬ 23 ≤ op := by omega
  have hi0 : ¬ (i : Int) < 0 := by omega
  have hi1 : (i : Int) < s.sides.length := by omega
  have hi2 : ¬ (s.sides.length : Int) ≤ i := by omega
  obtain ⟨tb, tc, rfl, hBt, c1, cs, cfz, RT, thr, T1, G1, HTX, HEX, HTH⟩ := pre1 h f hi hst
  have iT := infoT10 HTH.out
  have iT2 : (Tryz.prog.info? 46).map (·.size) = some (thC (s.side i).t).size := infoT_of HTH.out
  have IT2 := hide iT2
  have one := thC_one (s.side i).t
  have HH := hide h
  have HF := hide f
  have HN := hide hN
  have HST := hide hst
  have hsz := h.sz
  have HRI := hide hri
  clear h f hN hst hri
  go_enter Tryz.func30, Tryz.ntmps30
  go_upto_region 2 with (first
    | (refine wpList_load_mid rfl 46 _ rfl tb (i * 10) rfl (thL (s.side i).t) _ RT Tryz.underlying46 rfl iT ?_)
    | (refine wpList_store_mid rfl 46 _ _ rfl w.heap.size 0 (thC (s.side i).t) rfl rfl thr iT2 one ?_))
  change Code.wp _ _ _ _ ((w.alloc (.cells (thC thZ) 46)).setCells w.heap.size 0 (thC (s.side i).t).toList)
  clear thr RT iT iT2 one cs cfz c1
  generalize (w.alloc (.cells (thC thZ) 46)).setCells w.heap.size 0 (thC (s.side i).t).toList = w1 at T1 G1 ⊢
  obtain ⟨hic, hxsh, HXC, HXA, htpc, cb, co, c0, cC⟩ := pre2 HH.out HF.out G1.out hi hxc T1.out hpce
  have hic' : (i : Int) < k.p.codes.length := by omega
  have e0 := Has.new w1 (evA ⟨0, i, (pn : Int), 0, 0, 0, 0, false⟩) 79
  have g2 := (Gr.refl w1).alloc (evA ⟨0, i, (pn : Int), 0, 0, 0, 0, false⟩) 79
  have hexs := HEX.out w1.heap.size G1.out.size
  have hexb : k.w0.heap.size ≤ w1.heap.size := Nat.le_trans hsz G1.out.size
  have HPC := hide hpce
  clear hpce hxc
  go_upto_region 4 with (fail)
  change Code.wp _ _ _ _ (w1.alloc (.cells (evA ⟨0, i, (pn : Int), 0, 0, 0, 0, false⟩) 79))
  generalize w1.alloc (.cells (evA ⟨0, i, (pn : Int), 0, 0, 0, 0, false⟩) 79) = w2 at e0 g2 ⊢
  generalize w1.heap.size = ex at e0 hexs hexb ⊢
  generalize hw0s : w.heap.size = tx at T1 HTX ⊢
  have E2 := hide e0
  have T2 := hide (T1.out.later g2)
  have H2 := hide (HH.out.later (G1.out.trans g2))
  have d0 := T2.out.cell (o := 0) (v := .int .i64 (pn : Int)) (by rw [← HPC.out]; rfl)
  have htxB : k.w0.heap.size ≤ tx := by rw [← hw0s]; exact hsz
  clear c0 cC htpc e0 g2 T1 G1 hic hic' hw0s HEX
  have HAT := at3 (N := N) HST.out HPC.out HXC.out hpl hcc
  have hpl' : (pn : Int) < x.l.length := by omega
  have hpn0 : ¬ (pn : Int) < 0 := by omega
  have hpn1 : ¬ (x.l.length : Int) ≤ pn := by omega
  obtain ⟨hcok, ib, io, hia, x0, x1, x2, x3, x4⟩ := pre3 H2.out HXA.out hpl hcc
  have i0 := Has.new w2 (insA ⟨op, ca, cb2, cc2, ck⟩) 53
  have g3 := (Gr.refl w2).alloc (insA ⟨op, ca, cb2, cc2, ck⟩) 53
  have RI := hide (fun u => Nm.refright_calls op ca cb2 cc2 ck (x.l.length : Int) hcok.k0 hcok.k1 u)
  have HCO := hide hcok
  rw [hia]
  clear hcok hia hcc
  go_upto_region 7 with (fail)
  change Code.wp _ _ _ _ (w2.alloc (.cells (insA ⟨op, ca, cb2, cc2, ck⟩) 53))
  generalize w2.alloc (.cells (insA ⟨op, ca, cb2, cc2, ck⟩) 53) = w3 at i0 g3 ⊢
  generalize w2.heap.size = ix at i0 ⊢
  have I3 := hide i0
  have T3 := hide (T2.out.later g3)
  have E3 := hide (E2.out.later g3)
  have H3 := hide (H2.out.later g3)
  obtain ⟨j0, j1, j2, j3, j4⟩ := five i0
  clear d0 x0 x1 x2 x3 x4 g3 i0
  go_wp2_with (fail)
  refine (RI.out _).mono ?_
  rintro r w4 ⟨rfl, g4⟩
  rw [HRI.out]
  obtain ⟨I4, T4, E4, H4⟩ := later4 I3 T3 E3 H3 g4
  clear j0 j1 j2 j3 j4 I3 T3 E3 H3 T2 E2 H2 g4 RI
  have HA := hide (fun u => Nm.has_calls op 77 u)
  rw [Nm.has_is] at HA
  have j0 := I4.out.cell (o := 0) (v := .int .i64 op) rfl
  have HGO := hide (step_go (N := N) (i := i) (show stepM (port N i) (s.side i).t (s.side i).code s = _ by rw [HXC.out, HAT.out]) (HRI.out) (fun h => by rw [hna] at h; cases h) hheld)
  clear hheld
  rw [hna] at HA
  go_wp2_with (fail)
  refine (HA.out _).mono ?_
  rintro r w7 ⟨rfl, g7⟩
  obtain ⟨I7, T7, E7, H7⟩ := later4 I4 T4 E4 H4 g7
  clear j0 HA I4 T4 E4 H4 g7
  obtain ⟨bb, bc, ba, bcc, rfl, ci, c2, c4, c7⟩ := buf7 H7.out hi
  have j0 := I7.out.cell (o := 0) (v := .int .i64 op) rfl
  have l1 : True := trivial
  have l2 : True := trivial
  have l3 : True := trivial
  generalize hbng : (s.side i).buf.length = bn at ci l1 l2 l3
  go_upto_region 17 with (fail)
  go_quiet (fail)
  have g8 := (Gr.refl w7).drewN nq
  obtain ⟨I8, T8, E8, H8⟩ := later4 I7 T7 E7 H7 g8
  clear ci c2 c4 c7 j0 l1 l2 l3 g8 I7 T7 E7 H7 hbng
  generalize w7.drewN nq = w8 at I8 T8 E8 H8 ⊢
  obtain ⟨an, rfl, han⟩ := reg_nat (right_a HRI.out)
  have han' : (an : Int) < 8 := by omega
  have han0 : ¬ (an : Int) < 0 := by omega
  have hpw : pn < 100000 := by omega
  obtain ⟨j0, j1, j2, j3, j4⟩ := five I8.out
  have d0 := T8.out.cell (thC_pc (s.side i).t)
  rw [HPC.out] at d0
  have cr := T8.out.cell (thC_reg HTH.out an han)
  have rf := T8.out.free (1 + an)
  have HS : Hid (s.step N i = s.setT i (((s.side i).t.put an (doI op ((s.side i).t.reg cb2) ((s.side i).t.reg cc2))).at ((pn : Int) + 1))) := by
    show _ = _
    rw [HGO.out, done_alu _ _ _ h3 h12, HPC.out]
  have hdv : U32 (doI op ((s.side i).t.reg cb2) ((s.side i).t.reg cc2)) := u32_doI _ _ _
  obtain ⟨bn, rfl, hbn⟩ := reg_nat (right_b HRI.out (alu_at h3 h12).1)
  obtain ⟨cn, rfl, hcn⟩ := reg_nat (right_c HRI.out (alu_at h3 h12).2.1)
  have hbn' : (bn : Int) < 8 := by omega
  have hbn0 : ¬ (bn : Int) < 0 := by omega
  have hcn' : (cn : Int) < 8 := by omega
  have hcn0 : ¬ (cn : Int) < 0 := by omega
  have DO := hide (fun u => @do_int op _ _ (HTH.out.reg (bn : Int)) (HTH.out.reg (cn : Int)) u)
  rw [show (Ra.isN op : Nat) = 1 from by unfold Ra.isN; rw [if_pos ⟨h3, h12⟩]] at DO
  go_upto_region 24 with (fail)
  have K0 := hide (fun w' (q : Gr w8.drew w') => (I8.out.drew.later q).cell (o := 0) (v := .int .i64 op) rfl)
  have K2 := hide (fun w' (q : Gr w8.drew w') => (I8.out.drew.later q).cell (o := 2) (v := .int .i64 (bn : Int)) rfl)
  have K3 := hide (fun w' (q : Gr w8.drew w') => (I8.out.drew.later q).cell (o := 3) (v := .int .i64 (cn : Int)) rfl)
  have KB := hide (fun w' (q : Gr w8.drew w') => (T8.out.drew.later q).cell (thC_reg HTH.out bn hbn))
  have KC := hide (fun w' (q : Gr w8.drew w') => (T8.out.drew.later q).cell (thC_reg HTH.out cn hcn))
  refine begin_late 18 [] (fun w' => Gr w8.drew w') (by kernel_rfl) rfl ?_
  have hH : Gr w8.drew w8.drew := Gr.refl _
  refine AnyL.pp 0 184 (.pointer (some ⟨ix, 0, none⟩)) rfl rfl (by kernel_rfl) (fun _ _ _ h => h) (fun _ => by go_simp) hH ?_
  simp only [pz, pz0, pzs]
  refine AnyL.tt 1 185 (.int .i64 op) rfl rfl (by kernel_rfl) (fun _ _ _ h => h) (fun w' hw' => by have c1 := K0.out w' hw'; go_simp) hH ?_
  simp only [pz, pz0, pzs]
  refine AnyL.pp 2 186 (.pointer (some ⟨ix, 2, none⟩)) rfl rfl (by kernel_rfl) (fun _ _ _ h => h) (fun _ => by go_simp) hH ?_
  simp only [pz, pz0, pzs]
  refine AnyL.tt 3 187 (.int .i64 bn) rfl rfl (by kernel_rfl) (fun _ _ _ h => h) (fun w' hw' => by have c1 := K2.out w' hw'; go_simp) hH ?_
  simp only [pz, pz0, pzs]
  refine AnyL.pp 4 188 (.pointer (some ⟨tx, 1, none⟩)) rfl rfl (by kernel_rfl) (fun _ _ _ h => h) (fun _ => by go_simp) hH ?_
  simp only [pz, pz0, pzs]
  refine AnyL.pp 5 189 (.pointer (some ⟨tx, 1 + bn, none⟩)) rfl rfl (by kernel_rfl) (fun _ _ _ h => h) (fun _ => by go_simp) hH ?_
  simp only [pz, pz0, pzs]
  refine AnyL.tt 6 190 (.int .u32 ((s.side i).t.reg (bn : Int))) rfl rfl (by kernel_rfl) (fun _ _ _ h => h) (fun w' hw' => by have c1 := KB.out w' hw'; go_simp) hH ?_
  simp only [pz, pz0, pzs]
  refine AnyL.pp 7 191 (.pointer (some ⟨ix, 3, none⟩)) rfl rfl (by kernel_rfl) (fun _ _ _ h => h) (fun _ => by go_simp) hH ?_
  simp only [pz, pz0, pzs]
  refine AnyL.tt 8 192 (.int .i64 cn) rfl rfl (by kernel_rfl) (fun _ _ _ h => h) (fun w' hw' => by have c1 := K3.out w' hw'; go_simp) hH ?_
  simp only [pz, pz0, pzs]
  refine AnyL.pp 9 193 (.pointer (some ⟨tx, 1, none⟩)) rfl rfl (by kernel_rfl) (fun _ _ _ h => h) (fun _ => by go_simp) hH ?_
  simp only [pz, pz0, pzs]
  refine AnyL.pp 10 194 (.pointer (some ⟨tx, 1 + cn, none⟩)) rfl rfl (by kernel_rfl) (fun _ _ _ h => h) (fun _ => by go_simp) hH ?_
  simp only [pz, pz0, pzs]
  refine AnyL.tt 11 195 (.int .u32 ((s.side i).t.reg (cn : Int))) rfl rfl (by kernel_rfl) (fun _ _ _ h => h) (fun w' hw' => by have c1 := KC.out w' hw'; go_simp) hH ?_
  simp only [pz, pz0, pzs]
  refine AnyL.one 12 (by kernel_rfl) rfl (by kernel_rfl) ?_
  refine wp_call (some 196) rfl _ _ (by kernel_rfl) (DO.out _) ?_
  rintro r wa ⟨rfl, ga⟩
  refine ⟨_, rfl, fun _ => ga, ?_⟩
  simp only [pz, pz0, pzs]
  replace hH := ga
  generalize doI op ((s.side i).t.reg (bn : Int)) ((s.side i).t.reg (cn : Int)) = dv at HS hdv ⊢
  refine AnyL.pp 13 183 (.tuple #[.int .u32 dv, .int .i64 1]) rfl rfl (by kernel_rfl) (fun _ _ _ h => h) (fun _ => by go_simp) hH ?_
  simp only [pz, pz0, pzs]
  refine AnyL.pp 14 197 (.int .u32 dv) rfl rfl (by kernel_rfl) (fun _ _ _ h => h) (fun _ => by go_simp) hH ?_
  simp only [pz, pz0, pzs]
  refine AnyL.pp 15 198 (.int .i64 1) rfl rfl (by kernel_rfl) (fun _ _ _ h => h) (fun _ => by go_simp) hH ?_
  simp only [pz, pz0, pzs]
  refine AnyL.pp 16 18 (.int .u32 dv) rfl rfl (by kernel_rfl) (fun _ _ _ h => h) (fun _ => by go_simp) hH ?_
  simp only [pz, pz0, pzs]
  refine AnyL.pp 17 19 (.int .i64 1) rfl rfl (by kernel_rfl) (fun _ _ _ h => h) (fun _ => by go_simp) hH ?_
  simp only [pz, pz0, pzs]
  refine AnyL.done (by kernel_rfl) ?_
  have g9 := (Gr.refl w8).drew.trans ga
  have ja := (I8.out.later g9).cell (o := 1) (v := .int .i64 (an : Int)) rfl
  have ra := (T8.out.later g9).cell (thC_reg HTH.out an han)
  have fa := (T8.out.later g9).free (1 + an)
  clear K0 K2 K3 KB KC DO hH
  have HOK9 := hide (ThOk.put HTH.out (an : Int) dv hdv)
  have t9 := (T8.out.later g9).set (1 + an) (.int .u32 dv)
  rw [thC_put HTH.out an han] at t9
  have kq := Kp.setCell wa tx (1 + an) (.int .u32 dv)
  have e9 := (E8.out.later g9).kept kq (fun z => (E8.out.apart T8.out (by decide)) (by simpa using z))
  have h9 := (H8.out.later g9).asideT (T8.out.later g9) htxB HTX.out kq
  clear kq cr rf d0 j0 j1 j2 j3 j4 ga g9
  go_upto_region 89 with (fail)
  generalize wa.setCell ⟨tx, 1 + an, none⟩ (.int .u32 dv) = w9 at t9 e9 h9 ⊢
  have T9 := hide t9
  have E9 := hide e9
  have H9 := hide h9
  clear t9 e9 h9 ja ra fa T8 E8 H8 I8
  have z0 := T9.out.cell (thC_pc ((s.side i).t.put an dv))
  have zf := T9.out.free 0
  have tq := T9.out.set 0 (.int .i64 ((pn : Int) + 1))
  rw [thC_at] at tq
  have kq := Kp.setCell w9 tx 0 (.int .i64 ((pn : Int) + 1))
  have eq := E9.out.kept kq (fun z => (E9.out.apart T9.out (by decide)) (by simpa using z))
  have hq := H9.out.asideT T9.out htxB HTX.out kq
  clear kq
  go_upto_region 90 with (fail)
  generalize w9.setCell ⟨tx, 0, none⟩ (.int .i64 ((pn : Int) + 1)) = w10 at tq eq hq ⊢
  have HK := hide (ThOk.at' HOK9.out ((pn : Int) + 1))
  generalize hth9 : (((s.side i).t.put an dv)).at ((pn : Int) + 1) = t9 at tq HK HS
  have h11 := hq.later (Gr.refl w10).drew
  have t11 := tq.drew
  have e11 := eq.drew
  have q1 := h11.box.cell (o := 1) (v := .slice (some ⟨tb, 0, none⟩) s.sides.length tc) rfl
  have thr := thr12 h11 rfl (rfl) hi HK.out
  have iT2 : (Tryz.prog.info? 46).map (·.size) = some (thC t9).size := infoT_of HK.out
  have one := thC_one t9
  clear z0 zf tq eq hq hth9
  refine begin_late 8 [7] (fun w' => w' = w10.drew) (by kernel_rfl) rfl ?_
  have hH : w10.drew = w10.drew := rfl
  refine AnyL.pp 0 483 (.pointer (some ⟨k.g, 0, none⟩)) rfl rfl (by kernel_rfl) (fun _ _ _ h => h) (fun _ => by go_simp) hH ?_
  simp only [pz, pz0, pzs]
  refine AnyL.pp 1 484 (.pointer (some ⟨k.g, 0, none⟩)) rfl rfl (by kernel_rfl) (fun _ _ _ h => h) (fun _ => by go_simp) hH ?_
  simp only [pz, pz0, pzs]
  refine AnyL.pp 2 485 (.pointer (some ⟨k.g, 1, none⟩)) rfl rfl (by kernel_rfl) (fun _ _ _ h => h) (fun _ => by go_simp) hH ?_
  simp only [pz, pz0, pzs]
  refine AnyL.tt 3 486 (.slice (some ⟨tb, 0, none⟩) s.sides.length tc) rfl rfl (by kernel_rfl) (fun _ _ _ h => h) (fun w' hw' => by subst hw'; go_simp) hH ?_
  simp only [pz, pz0, pzs]
  refine AnyL.pp 4 487 (.int .i64 i) rfl rfl (by kernel_rfl) (fun _ _ _ h => h) (fun _ => by go_simp) hH ?_
  simp only [pz, pz0, pzs]
  refine AnyL.yy 5 488 (.agg (thC t9)) rfl rfl (by kernel_rfl) (fun _ _ _ h => h) (yieldsIf_load_mid (by kernel_rfl) 46 _ rfl tx 0 rfl (thL t9) _ (fun w' hw' => by subst hw'; exact fun j v hv => (by rw [Nat.zero_add]; exact t11.cell (by simpa [thC] using hv))) Tryz.underlying46 rfl (infoT10 HK.out)) hH ?_
  simp only [pz, pz0, pzs]
  refine AnyL.pp 6 489 (.pointer (some ⟨tb, i * 10, none⟩)) rfl rfl (by kernel_rfl) (fun _ _ _ h => h) (fun _ => by go_simp) hH ?_
  simp only [pz, pz0, pzs]
  refine AnyL.one 7 (by kernel_rfl) rfl (by kernel_rfl) ?_
  refine wp_store_mid 46 _ _ rfl tb (i * 10) (thC t9) (by kernel_rfl) (by kernel_rfl) thr iT2 one ?_
  refine ⟨late (by kernel_rfl), ?_⟩
  refine AnyL.done (by kernel_rfl) ?_
  obtain ⟨h12, e12⟩ := late12 h11 rfl (rfl) hi HK.out e11
  replace h12 : Ws k _ ((s).setT i t9) (w10.drew.setCells tb (i * 10) (thC t9).toList) := h12
  clear h11 t11 e11 q1 thr iT2 one hH
  generalize w10.drew.setCells tb (i * 10) (thC t9).toList = w12 at h12 e12 ⊢
  have z0 := e12.cell (o := 0) (v := .int .i64 0) rfl
  have HH12 := hide h12
  clear h12 e12
  go_wp2_with (fail)
  exact bodyPost_ret (results_none rfl _ _ _) rfl ⟨rfl, _, by rw [HS.out]; exact HH12.out⟩

set_option maxHeartbeats 16000000 in
theorem step_go26 (k : Wk) (v : Wv) (s : Ms) (w : World) (h : Ws k v s w) (f : Fit k.p s) (i : Nat) (hi : i < s.sides.length) (N : Int) (hN : N = s.mem.length) (hst : (s.side i).t.st = 0) (pn : Nat) (hpce : (s.side i).t.pc = pn)
    (x : Cd) (hxc : k.p.codes.getD i cd0 = x) (hpl : pn < x.l.length) (ca cb2 cc2 ck : Int) (hcc : x.l.getD pn ins0 = ⟨26, ca, cb2, cc2, ck⟩) (hri : rightB 26 ca cb2 cc2 ck (x.l.length : Int) = true) (hna : askB 26 = false) (hheld : heldM (port N i) ⟨26, ca, cb2, cc2, ck⟩ s = false) :
    Calls Tryz.prog 30 #[.pointer (some ⟨k.g, 0, none⟩), .int .i64 i] w (WlP k (s.step N i)) := by
  obtain ⟨tv, bv, mv, sv, ev, bl⟩ := v
  have hi0 : ¬ (i : Int) < 0 := by omega
  have hi1 : (i : Int) < s.sides.length := by omega
  have hi2 : ¬ (s.sides.length : Int) ≤ i := by omega
  obtain ⟨tb, tc, rfl, hBt, c1, cs, cfz, RT, thr, T1, G1, HTX, HEX, HTH⟩ := pre1 h f hi hst
  have iT := infoT10 HTH.out
  have iT2 : (Tryz.prog.info? 46).map (·.size) = some (thC (s.side i).t).size := infoT_of HTH.out
  have IT2 := hide iT2
  have one := thC_one (s.side i).t
  have HH := hide h
  have HF := hide f
  have HN := hide hN
  have HST := hide hst
  have hsz := h.sz
  have HRI := hide hri
  clear h f hN hst hri
  go_enter Tryz.func30, Tryz.ntmps30
  go_upto_region 2 with (first
    | (refine wpList_load_mid rfl 46 _ rfl tb (i * 10) rfl (thL (s.side i).t) _ RT Tryz.underlying46 rfl iT ?_)
    | (refine wpList_store_mid rfl 46 _ _ rfl w.heap.size 0 (thC (s.side i).t) rfl rfl thr iT2 one ?_))
  change Code.wp _ _ _ _ ((w.alloc (.cells (thC thZ) 46)).setCells w.heap.size 0 (thC (s.side i).t).toList)
  clear thr RT iT iT2 one cs cfz c1
  generalize (w.alloc (.cells (thC thZ) 46)).setCells w.heap.size 0 (thC (s.side i).t).toList = w1 at T1 G1 ⊢
  obtain ⟨hic, hxsh, HXC, HXA, htpc, cb, co, c0, cC⟩ := pre2 HH.out HF.out G1.out hi hxc T1.out hpce
  have hic' : (i : Int) < k.p.codes.length := by omega
  have e0 := Has.new w1 (evA ⟨0, i, (pn : Int), 0, 0, 0, 0, false⟩) 79
  have g2 := (Gr.refl w1).alloc (evA ⟨0, i, (pn : Int), 0, 0, 0, 0, false⟩) 79
  have hexs := HEX.out w1.heap.size G1.out.size
  have hexb : k.w0.heap.size ≤ w1.heap.size := Nat.le_trans hsz G1.out.size
  have HPC := hide hpce
  clear hpce hxc
  go_upto_region 4 with (fail)
  change Code.wp _ _ _ _ (w1.alloc (.cells (evA ⟨0, i, (pn : Int), 0, 0, 0, 0, false⟩) 79))
  generalize w1.alloc (.cells (evA ⟨0, i, (pn : Int), 0, 0, 0, 0, false⟩) 79) = w2 at e0 g2 ⊢
  generalize w1.heap.size = ex at e0 hexs hexb ⊢
  generalize hw0s : w.heap.size = tx at T1 HTX ⊢
  have E2 := hide e0
  have T2 := hide (T1.out.later g2)
  have H2 := hide (HH.out.later (G1.out.trans g2))
  have d0 := T2.out.cell (o := 0) (v := .int .i64 (pn : Int)) (by rw [← HPC.out]; rfl)
  have htxB : k.w0.heap.size ≤ tx := by rw [← hw0s]; exact hsz
  clear c0 cC htpc e0 g2 T1 G1 hic hic' hw0s HEX
  have HAT := at3 (N := N) HST.out HPC.out HXC.out hpl hcc
  have hpl' : (pn : Int) < x.l.length := by omega
  have hpn0 : ¬ (pn : Int) < 0 := by omega
  have hpn1 : ¬ (x.l.length : Int) ≤ pn := by omega
  obtain ⟨hcok, ib, io, hia, x0, x1, x2, x3, x4⟩ := pre3 H2.out HXA.out hpl hcc
  have i0 := Has.new w2 (insA ⟨26, ca, cb2, cc2, ck⟩) 53
  have g3 := (Gr.refl w2).alloc (insA ⟨26, ca, cb2, cc2, ck⟩) 53
  have RI := hide (fun u => Nm.refright_calls 26 ca cb2 cc2 ck (x.l.length : Int) hcok.k0 hcok.k1 u)
  have HCO := hide hcok
  rw [hia]
  clear hcok hia hcc
  go_upto_region 7 with (fail)
  change Code.wp _ _ _ _ (w2.alloc (.cells (insA ⟨26, ca, cb2, cc2, ck⟩) 53))
  generalize w2.alloc (.cells (insA ⟨26, ca, cb2, cc2, ck⟩) 53) = w3 at i0 g3 ⊢
  generalize w2.heap.size = ix at i0 ⊢
  have I3 := hide i0
  have T3 := hide (T2.out.later g3)
  have E3 := hide (E2.out.later g3)
  have H3 := hide (H2.out.later g3)
  obtain ⟨j0, j1, j2, j3, j4⟩ := five i0
  clear d0 x0 x1 x2 x3 x4 g3 i0
  go_wp2_with (fail)
  refine (RI.out _).mono ?_
  rintro r w4 ⟨rfl, g4⟩
  rw [HRI.out]
  obtain ⟨I4, T4, E4, H4⟩ := later4 I3 T3 E3 H3 g4
  clear j0 j1 j2 j3 j4 I3 T3 E3 H3 T2 E2 H2 g4 RI
  have HA := hide (fun u => Nm.has_calls 26 77 u)
  rw [Nm.has_is] at HA
  have j0 := I4.out.cell (o := 0) (v := .int .i64 26) rfl
  have HGO := hide (step_go (N := N) (i := i) (show stepM (port N i) (s.side i).t (s.side i).code s = _ by rw [HXC.out, HAT.out]) (HRI.out) (fun h => by rw [hna] at h; cases h) hheld)
  clear hheld
  rw [hna] at HA
  go_wp2_with (fail)
  refine (HA.out _).mono ?_
  rintro r w7 ⟨rfl, g7⟩
  obtain ⟨I7, T7, E7, H7⟩ := later4 I4 T4 E4 H4 g7
  clear j0 HA I4 T4 E4 H4 g7
  obtain ⟨bb, bc, ba, bcc, rfl, ci, c2, c4, c7⟩ := buf7 H7.out hi
  have j0 := I7.out.cell (o := 0) (v := .int .i64 26) rfl
  have l1 : True := trivial
  have l2 : True := trivial
  have l3 : True := trivial
  generalize hbng : (s.side i).buf.length = bn at ci l1 l2 l3
  go_upto_region 17 with (fail)
  go_quiet (fail)
  have g8 := (Gr.refl w7).drewN nq
  obtain ⟨I8, T8, E8, H8⟩ := later4 I7 T7 E7 H7 g8
  clear ci c2 c4 c7 j0 l1 l2 l3 g8 I7 T7 E7 H7 hbng
  generalize w7.drewN nq = w8 at I8 T8 E8 H8 ⊢
  obtain ⟨an, rfl, han⟩ := reg_nat (right_a HRI.out)
  have han' : (an : Int) < 8 := by omega
  have han0 : ¬ (an : Int) < 0 := by omega
  have hpw : pn < 100000 := by omega
  obtain ⟨j0, j1, j2, j3, j4⟩ := five I8.out
  have d0 := T8.out.cell (thC_pc (s.side i).t)
  rw [HPC.out] at d0
  have cr := T8.out.cell (thC_reg HTH.out an han)
  have rf := T8.out.free (1 + an)
  have HS : Hid (s.step N i = s.setT i ((s.side i).t.at ((pn : Int) + 1))) := by
    show _ = _
    rw [HGO.out]
    show s.setT i ((s.side i).t.at ((s.side i).t.pc + 1)) = _
    rw [HPC.out]
  have hdv : True := trivial
  obtain ⟨bn, rfl, hbn⟩ := reg_nat (fits_reg (.inl rfl) (right_parts HRI.out).2.1.2)
  obtain ⟨cn, rfl, hcn⟩ := reg_nat (fits_reg (.inl rfl) (right_parts HRI.out).2.2.1)
  have hbn' : (bn : Int) < 8 := by omega
  have hbn0 : ¬ (bn : Int) < 0 := by omega
  have hcn' : (cn : Int) < 8 := by omega
  have hcn0 : ¬ (cn : Int) < 0 := by omega
  have DO := hide (fun u => @do_int 26 _ _ (HTH.out.reg (bn : Int)) (HTH.out.reg (cn : Int)) u)
  rw [show (Ra.isN 26 : Nat) = 0 from rfl] at DO
  go_upto_region 24 with (fail)
  have K0 := hide (fun w' (q : Gr w8.drew w') => (I8.out.drew.later q).cell (o := 0) (v := .int .i64 26) rfl)
  have K2 := hide (fun w' (q : Gr w8.drew w') => (I8.out.drew.later q).cell (o := 2) (v := .int .i64 (bn : Int)) rfl)
  have K3 := hide (fun w' (q : Gr w8.drew w') => (I8.out.drew.later q).cell (o := 3) (v := .int .i64 (cn : Int)) rfl)
  have KB := hide (fun w' (q : Gr w8.drew w') => (T8.out.drew.later q).cell (thC_reg HTH.out bn hbn))
  have KC := hide (fun w' (q : Gr w8.drew w') => (T8.out.drew.later q).cell (thC_reg HTH.out cn hcn))
  refine begin_late 18 [] (fun w' => Gr w8.drew w') (by kernel_rfl) rfl ?_
  have hH : Gr w8.drew w8.drew := Gr.refl _
  refine AnyL.pp 0 184 (.pointer (some ⟨ix, 0, none⟩)) rfl rfl (by kernel_rfl) (fun _ _ _ h => h) (fun _ => by go_simp) hH ?_
  simp only [pz, pz0, pzs]
  refine AnyL.tt 1 185 (.int .i64 26) rfl rfl (by kernel_rfl) (fun _ _ _ h => h) (fun w' hw' => by have c1 := K0.out w' hw'; go_simp) hH ?_
  simp only [pz, pz0, pzs]
  refine AnyL.pp 2 186 (.pointer (some ⟨ix, 2, none⟩)) rfl rfl (by kernel_rfl) (fun _ _ _ h => h) (fun _ => by go_simp) hH ?_
  simp only [pz, pz0, pzs]
  refine AnyL.tt 3 187 (.int .i64 bn) rfl rfl (by kernel_rfl) (fun _ _ _ h => h) (fun w' hw' => by have c1 := K2.out w' hw'; go_simp) hH ?_
  simp only [pz, pz0, pzs]
  refine AnyL.pp 4 188 (.pointer (some ⟨tx, 1, none⟩)) rfl rfl (by kernel_rfl) (fun _ _ _ h => h) (fun _ => by go_simp) hH ?_
  simp only [pz, pz0, pzs]
  refine AnyL.pp 5 189 (.pointer (some ⟨tx, 1 + bn, none⟩)) rfl rfl (by kernel_rfl) (fun _ _ _ h => h) (fun _ => by go_simp) hH ?_
  simp only [pz, pz0, pzs]
  refine AnyL.tt 6 190 (.int .u32 ((s.side i).t.reg (bn : Int))) rfl rfl (by kernel_rfl) (fun _ _ _ h => h) (fun w' hw' => by have c1 := KB.out w' hw'; go_simp) hH ?_
  simp only [pz, pz0, pzs]
  refine AnyL.pp 7 191 (.pointer (some ⟨ix, 3, none⟩)) rfl rfl (by kernel_rfl) (fun _ _ _ h => h) (fun _ => by go_simp) hH ?_
  simp only [pz, pz0, pzs]
  refine AnyL.tt 8 192 (.int .i64 cn) rfl rfl (by kernel_rfl) (fun _ _ _ h => h) (fun w' hw' => by have c1 := K3.out w' hw'; go_simp) hH ?_
  simp only [pz, pz0, pzs]
  refine AnyL.pp 9 193 (.pointer (some ⟨tx, 1, none⟩)) rfl rfl (by kernel_rfl) (fun _ _ _ h => h) (fun _ => by go_simp) hH ?_
  simp only [pz, pz0, pzs]
  refine AnyL.pp 10 194 (.pointer (some ⟨tx, 1 + cn, none⟩)) rfl rfl (by kernel_rfl) (fun _ _ _ h => h) (fun _ => by go_simp) hH ?_
  simp only [pz, pz0, pzs]
  refine AnyL.tt 11 195 (.int .u32 ((s.side i).t.reg (cn : Int))) rfl rfl (by kernel_rfl) (fun _ _ _ h => h) (fun w' hw' => by have c1 := KC.out w' hw'; go_simp) hH ?_
  simp only [pz, pz0, pzs]
  refine AnyL.one 12 (by kernel_rfl) rfl (by kernel_rfl) ?_
  refine wp_call (some 196) rfl _ _ (by kernel_rfl) (DO.out _) ?_
  rintro r wa ⟨rfl, ga⟩
  refine ⟨_, rfl, fun _ => ga, ?_⟩
  simp only [pz, pz0, pzs]
  replace hH := ga
  generalize doI 26 ((s.side i).t.reg (bn : Int)) ((s.side i).t.reg (cn : Int)) = dv
  refine AnyL.pp 13 183 (.tuple #[.int .u32 dv, .int .i64 0]) rfl rfl (by kernel_rfl) (fun _ _ _ h => h) (fun _ => by go_simp) hH ?_
  simp only [pz, pz0, pzs]
  refine AnyL.pp 14 197 (.int .u32 dv) rfl rfl (by kernel_rfl) (fun _ _ _ h => h) (fun _ => by go_simp) hH ?_
  simp only [pz, pz0, pzs]
  refine AnyL.pp 15 198 (.int .i64 0) rfl rfl (by kernel_rfl) (fun _ _ _ h => h) (fun _ => by go_simp) hH ?_
  simp only [pz, pz0, pzs]
  refine AnyL.pp 16 18 (.int .u32 dv) rfl rfl (by kernel_rfl) (fun _ _ _ h => h) (fun _ => by go_simp) hH ?_
  simp only [pz, pz0, pzs]
  refine AnyL.pp 17 19 (.int .i64 0) rfl rfl (by kernel_rfl) (fun _ _ _ h => h) (fun _ => by go_simp) hH ?_
  simp only [pz, pz0, pzs]
  refine AnyL.done (by kernel_rfl) ?_
  have g9 := (Gr.refl w8).drew.trans ga
  have ja := (I8.out.later g9).cell (o := 1) (v := .int .i64 (an : Int)) rfl
  have ra := (T8.out.later g9).cell (thC_reg HTH.out an han)
  have fa := (T8.out.later g9).free (1 + an)
  clear K0 K2 K3 KB KC DO hH
  have T9 := hide (T8.out.later g9)
  have E9 := hide (E8.out.later g9)
  have H9 := hide (H8.out.later g9)
  have HOK9 := HTH
  clear cr rf d0 j0 j1 j2 j3 j4 ga g9
  go_upto_region 89 with (fail)
  generalize wa = w9 at T9 E9 H9 ⊢
  clear ja ra fa T8 E8 H8 I8
  have z0 := T9.out.cell (thC_pc (s.side i).t)
  have zf := T9.out.free 0
  have tq := T9.out.set 0 (.int .i64 ((pn : Int) + 1))
  rw [thC_at] at tq
  have kq := Kp.setCell w9 tx 0 (.int .i64 ((pn : Int) + 1))
  have eq := E9.out.kept kq (fun z => (E9.out.apart T9.out (by decide)) (by simpa using z))
  have hq := H9.out.asideT T9.out htxB HTX.out kq
  clear kq
  go_upto_region 90 with (fail)
  generalize w9.setCell ⟨tx, 0, none⟩ (.int .i64 ((pn : Int) + 1)) = w10 at tq eq hq ⊢
  have HK := hide (ThOk.at' HOK9.out ((pn : Int) + 1))
  generalize hth9 : ((s.side i).t).at ((pn : Int) + 1) = t9 at tq HK HS
  have h11 := hq.later (Gr.refl w10).drew
  have t11 := tq.drew
  have e11 := eq.drew
  have q1 := h11.box.cell (o := 1) (v := .slice (some ⟨tb, 0, none⟩) s.sides.length tc) rfl
  have thr := thr12 h11 rfl (rfl) hi HK.out
  have iT2 : (Tryz.prog.info? 46).map (·.size) = some (thC t9).size := infoT_of HK.out
  have one := thC_one t9
  clear z0 zf tq eq hq hth9
  refine begin_late 8 [7] (fun w' => w' = w10.drew) (by kernel_rfl) rfl ?_
  have hH : w10.drew = w10.drew := rfl
  refine AnyL.pp 0 483 (.pointer (some ⟨k.g, 0, none⟩)) rfl rfl (by kernel_rfl) (fun _ _ _ h => h) (fun _ => by go_simp) hH ?_
  simp only [pz, pz0, pzs]
  refine AnyL.pp 1 484 (.pointer (some ⟨k.g, 0, none⟩)) rfl rfl (by kernel_rfl) (fun _ _ _ h => h) (fun _ => by go_simp) hH ?_
  simp only [pz, pz0, pzs]
  refine AnyL.pp 2 485 (.pointer (some ⟨k.g, 1, none⟩)) rfl rfl (by kernel_rfl) (fun _ _ _ h => h) (fun _ => by go_simp) hH ?_
  simp only [pz, pz0, pzs]
  refine AnyL.tt 3 486 (.slice (some ⟨tb, 0, none⟩) s.sides.length tc) rfl rfl (by kernel_rfl) (fun _ _ _ h => h) (fun w' hw' => by subst hw'; go_simp) hH ?_
  simp only [pz, pz0, pzs]
  refine AnyL.pp 4 487 (.int .i64 i) rfl rfl (by kernel_rfl) (fun _ _ _ h => h) (fun _ => by go_simp) hH ?_
  simp only [pz, pz0, pzs]
  refine AnyL.yy 5 488 (.agg (thC t9)) rfl rfl (by kernel_rfl) (fun _ _ _ h => h) (yieldsIf_load_mid (by kernel_rfl) 46 _ rfl tx 0 rfl (thL t9) _ (fun w' hw' => by subst hw'; exact fun j v hv => (by rw [Nat.zero_add]; exact t11.cell (by simpa [thC] using hv))) Tryz.underlying46 rfl (infoT10 HK.out)) hH ?_
  simp only [pz, pz0, pzs]
  refine AnyL.pp 6 489 (.pointer (some ⟨tb, i * 10, none⟩)) rfl rfl (by kernel_rfl) (fun _ _ _ h => h) (fun _ => by go_simp) hH ?_
  simp only [pz, pz0, pzs]
  refine AnyL.one 7 (by kernel_rfl) rfl (by kernel_rfl) ?_
  refine wp_store_mid 46 _ _ rfl tb (i * 10) (thC t9) (by kernel_rfl) (by kernel_rfl) thr iT2 one ?_
  refine ⟨late (by kernel_rfl), ?_⟩
  refine AnyL.done (by kernel_rfl) ?_
  obtain ⟨h12, e12⟩ := late12 h11 rfl (rfl) hi HK.out e11
  replace h12 : Ws k _ ((s).setT i t9) (w10.drew.setCells tb (i * 10) (thC t9).toList) := h12
  clear h11 t11 e11 q1 thr iT2 one hH
  generalize w10.drew.setCells tb (i * 10) (thC t9).toList = w12 at h12 e12 ⊢
  have z0 := e12.cell (o := 0) (v := .int .i64 0) rfl
  have HH12 := hide h12
  clear h12 e12
  go_wp2_with (fail)
  exact bodyPost_ret (results_none rfl _ _ _) rfl ⟨rfl, _, by rw [HS.out]; exact HH12.out⟩
end Go.Proofs.YtfhplbmgjgfihaaGreatDoor.Wl
