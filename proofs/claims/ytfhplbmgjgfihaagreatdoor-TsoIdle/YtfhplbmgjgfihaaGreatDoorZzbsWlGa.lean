/-
  What a step of a thread does to the document's world: words are swapped if they are alike. No condition but what each law names.
-/
import Derived.Test.YtfhplbmgjgfihaaGreatDoorZzbh
import Derived.Test.YtfhplbmgjgfihaaGreatDoorZzaa
import Derived.BigQuiet
import Derived.Deep.QuietTactic
namespace Go.Proofs.YtfhplbmgjgfihaaGreatDoor.Wl
open Go.Proofs.YtfhplbmgjgfihaaGreatDoor.Mc Go.ChangeShapes Go.WideShapes Go.ChangeAt Go.RowKit
set_option linter.unusedVariables false
set_option maxRecDepth 20000
set_option maxHeartbeats 16000000 in
theorem step_go21a (k : Wk) (v : Wv) (s : Ms) (w : World) (h : Ws k v s w) (f : Fit k.p s) (i : Nat) (hi : i < s.sides.length) (N : Int) (hN : N = s.mem.length) (hst : (s.side i).t.st = 0) (pn : Nat) (hpce : (s.side i).t.pc = pn)
    (x : Cd) (hxc : k.p.codes.getD i cd0 = x) (hpl : pn < x.l.length) (ca cb2 cc2 ck : Int) (hcc : x.l.getD pn ins0 = ⟨21, ca, cb2, cc2, ck⟩) (hri : rightB 21 ca cb2 cc2 ck (x.l.length : Int) = true) (hna : askB 21 = true) (hin : addrM (s.side i).t ⟨21, ca, cb2, cc2, ck⟩ < N) (hb : (s.side i).buf.length = 0) (hheld : heldM (port N i) ⟨21, ca, cb2, cc2, ck⟩ s = false) (hreg : (s.mem.getD (addrM (s.side i).t ⟨21, ca, cb2, cc2, ck⟩).toNat 0 == (s.side i).t.reg ca) = true) :
    Calls Tryz.prog 30 #[.pointer (some ⟨k.g, 0, none⟩), .int .i64 i] w (WlP k (s.step N i)) := by
  obtain ⟨tv, bv, mv, sv, ev, bl⟩ := v
  have HB0 := hide hb
  clear hb
  have HRG := hide hreg
  clear hreg
  have hi0 : ¬ (i : Int) < 0 := by omega
  have hi1 : (i : Int) < s.sides.length := by omega
  have hi2 : ¬ (s.sides.length : Int) ≤ i := by omega
  obtain ⟨tb, tc, rfl, hBt, c1, cs, cfz, RT, thr, T1, G1, HTX, HEX, HTH⟩ := pre1 h f hi hst
  have iT := infoT10 HTH.out
  have iT2 : (Tryz.prog.info? 46).map (·.size) = some (thC (s.side i).t).size := infoT_of HTH.out
  have IT2 := hide iT2
  have one := thC_one (s.side i).t
  have HH := hide h
  have HF := hide f
  have HN := hide hN
  have HST := hide hst
  have hsz := h.sz
  have HRI := hide hri
  clear h f hN hst hri
  go_enter Tryz.func30, Tryz.ntmps30
  go_upto_region 2 with (first
    | (refine wpList_load_mid rfl 46 _ rfl tb (i * 10) rfl (thL (s.side i).t) _ RT Tryz.underlying46 rfl iT ?_)
    | (refine wpList_store_mid rfl 46 _ _ rfl w.heap.size 0 (thC (s.side i).t) rfl rfl thr iT2 one ?_))
  change Code.wp _ _ _ _ ((w.alloc (.cells (thC thZ) 46)).setCells w.heap.size 0 (thC (s.side i).t).toList)
  clear thr RT iT iT2 one cs cfz c1
  generalize (w.alloc (.cells (thC thZ) 46)).setCells w.heap.size 0 (thC (s.side i).t).toList = w1 at T1 G1 ⊢
  obtain ⟨hic, hxsh, HXC, HXA, htpc, cb, co, c0, cC⟩ := pre2 HH.out HF.out G1.out hi hxc T1.out hpce
  have hic' : (i : Int) < k.p.codes.length := by omega
  have e0 := Has.new w1 (evA ⟨0, i, (pn : Int), 0, 0, 0, 0, false⟩) 79
  have g2 := (Gr.refl w1).alloc (evA ⟨0, i, (pn : Int), 0, 0, 0, 0, false⟩) 79
  have hexs := HEX.out w1.heap.size G1.out.size
  have hexb : k.w0.heap.size ≤ w1.heap.size := Nat.le_trans hsz G1.out.size
  have HPC := hide hpce
  clear hpce hxc
  go_upto_region 4 with (fail)
  change Code.wp _ _ _ _ (w1.alloc (.cells (evA ⟨0, i, (pn : Int), 0, 0, 0, 0, false⟩) 79))
  generalize w1.alloc (.cells (evA ⟨0, i, (pn : Int), 0, 0, 0, 0, false⟩) 79) = w2 at e0 g2 ⊢
  generalize w1.heap.size = ex at e0 hexs hexb ⊢
  generalize hw0s : w.heap.size = tx at T1 HTX ⊢
  have E2 := hide e0
  have T2 := hide (T1.out.later g2)
  have H2 := hide (HH.out.later (G1.out.trans g2))
  have d0 := T2.out.cell (o := 0) (v := .int .i64 (pn : Int)) (by rw [← HPC.out]; rfl)
  have htxB : k.w0.heap.size ≤ tx := by rw [← hw0s]; exact hsz
  clear c0 cC htpc e0 g2 T1 G1 hic hic' hw0s HEX
  have HAT := at3 (N := N) HST.out HPC.out HXC.out hpl hcc
  have hpl' : (pn : Int) < x.l.length := by omega
  have hpn0 : ¬ (pn : Int) < 0 := by omega
  have hpn1 : ¬ (x.l.length : Int) ≤ pn := by omega
  obtain ⟨hcok, ib, io, hia, x0, x1, x2, x3, x4⟩ := pre3 H2.out HXA.out hpl hcc
  have i0 := Has.new w2 (insA ⟨21, ca, cb2, cc2, ck⟩) 53
  have g3 := (Gr.refl w2).alloc (insA ⟨21, ca, cb2, cc2, ck⟩) 53
  have RI := hide (fun u => Nm.refright_calls 21 ca cb2 cc2 ck (x.l.length : Int) hcok.k0 hcok.k1 u)
  have HCO := hide hcok
  rw [hia]
  clear hcok hia hcc
  go_upto_region 7 with (fail)
  change Code.wp _ _ _ _ (w2.alloc (.cells (insA ⟨21, ca, cb2, cc2, ck⟩) 53))
  generalize w2.alloc (.cells (insA ⟨21, ca, cb2, cc2, ck⟩) 53) = w3 at i0 g3 ⊢
  generalize w2.heap.size = ix at i0 ⊢
  have I3 := hide i0
  have T3 := hide (T2.out.later g3)
  have E3 := hide (E2.out.later g3)
  have H3 := hide (H2.out.later g3)
  obtain ⟨j0, j1, j2, j3, j4⟩ := five i0
  clear d0 x0 x1 x2 x3 x4 g3 i0
  go_wp2_with (fail)
  refine (RI.out _).mono ?_
  rintro r w4 ⟨rfl, g4⟩
  rw [HRI.out]
  obtain ⟨I4, T4, E4, H4⟩ := later4 I3 T3 E3 H3 g4
  clear j0 j1 j2 j3 j4 I3 T3 E3 H3 T2 E2 H2 g4 RI
  have HA := hide (fun u => Nm.has_calls 21 77 u)
  rw [Nm.has_is] at HA
  have j0 := I4.out.cell (o := 0) (v := .int .i64 21) rfl
  have HGO := hide (step_go (N := N) (i := i) (show stepM (port N i) (s.side i).t (s.side i).code s = _ by rw [HXC.out, HAT.out]) (HRI.out) (fun h => hin) hheld)
  clear hheld
  rw [hna] at HA
  go_wp2_with (fail)
  refine (HA.out _).mono ?_
  rintro r w5 ⟨rfl, g5⟩
  obtain ⟨I5, T5, E5, H5⟩ := later4 I4 T4 E4 H4 g5
  have AD := hide (fun u => addr_calls HTH.out (i := ⟨21, ca, cb2, cc2, ck⟩) HCO.out u)
  have hau : U32 (addrM (s.side i).t ⟨21, ca, cb2, cc2, ck⟩) := addr_u32 HTH.out HCO.out
  clear j0 HA I4 T4 E4 H4 g5
  obtain ⟨ma, mc, hmv, -, -, -, -⟩ := own_at H5.out.mem
  simp only at hmv
  subst hmv
  have hT := T5.out
  have iT2 := IT2.out
  obtain ⟨j0, j1, j2, j3, j4⟩ := five I5.out
  go_wp2_with (first
    | (refine wpList_load_row rfl 46 _ rfl tx rfl 46 (thC (s.side i).t) (0, 0) _ hT Tryz.underlying46 rfl iT2 ?_))
  refine (AD.out _).mono ?_
  rintro r w6 ⟨rfl, g6⟩
  obtain ⟨I6, T6, E6, H6⟩ := later4 I5 T5 E5 H5 g6
  clear j0 j1 j2 j3 j4 hT iT2 AD I5 T5 E5 H5 g6
  have hwa := wrap_u32 hau
  have c3 := H6.out.box.cell (o := 3) (v := .slice ma s.mem.length mc) rfl
  obtain ⟨m, hm⟩ := Int.eq_ofNat_of_zero_le hau.1
  rw [hm] at hwa hin ⊢
  have HM := hide hm
  have hmm : m < s.mem.length := by have := HN.out; omega
  have hm1 : ¬ (s.mem.length : Int) ≤ m := by omega
  have q3 := E6.out.cell (o := 3) (v := .int .i64 0) rfl
  have f3 := E6.out.free 3
  have b7 := E6.out.set 3 (.int .i64 (m : Int))
  have kq := Kp.setCell w6 ex 3 (.int .i64 (m : Int))
  have t7 := T6.out.kept kq (fun z => (T6.out.apart E6.out (by decide)) (by simpa using z))
  have i7 := I6.out.kept kq (fun z => (I6.out.apart E6.out (by decide)) (by simpa using z))
  have h7 := H6.out.asideV E6.out hexb hexs kq
  have j0 := I6.out.cell (o := 0) (v := .int .i64 21) rfl
  clear hau hin hm kq
  go_upto_region 16 with (fail)
  generalize w6.setCell ⟨ex, 3, none⟩ (.int .i64 (m : Int)) = w7 at b7 t7 i7 h7 ⊢
  have I7 := hide i7
  have T7 := hide t7
  have E7 := hide (show Has w7 ex (evA ⟨0, i, (pn : Int), m, 0, 0, 0, false⟩) 79 from b7)
  have H7 := hide h7
  clear b7 t7 i7 h7 q3 f3 c3 j0 I6 T6 E6 H6 hwa
  obtain ⟨bb, bc, ba, bcc, rfl, ci, c2, c4, c7⟩ := buf7 H7.out hi
  have j0 := I7.out.cell (o := 0) (v := .int .i64 21) rfl
  have hb := HB0.out
  have l1 : ¬ (0 : Int) < ((s.side i).buf.length : Int) := by omega
  have l2 : decide ((0 : Int) < ((s.side i).buf.length : Int)) = false := by simp [hb]
  have l3 : decide (0 < (s.side i).buf.length) = false := by simp [hb]
  clear hb
  generalize hbng : (s.side i).buf.length = bn at ci l1 l2 l3
  go_upto_region 17 with (fail)
  go_quiet (fail)
  have g8 := (Gr.refl w7).drewN nq
  obtain ⟨I8, T8, E8, H8⟩ := later4 I7 T7 E7 H7 g8
  clear ci c2 c4 c7 j0 l1 l2 l3 g8 I7 T7 E7 H7 hbng
  generalize w7.drewN nq = w8 at I8 T8 E8 H8 ⊢
  obtain ⟨an, rfl, han⟩ := reg_nat (right_a HRI.out)
  have han' : (an : Int) < 8 := by omega
  have han0 : ¬ (an : Int) < 0 := by omega
  have hpw : pn < 100000 := by omega
  obtain ⟨j0, j1, j2, j3, j4⟩ := five I8.out
  have d0 := T8.out.cell (thC_pc (s.side i).t)
  rw [HPC.out] at d0
  have cr := T8.out.cell (thC_reg HTH.out an han)
  have rf := T8.out.free (1 + an)
  have HLD : Hid (s.load i (m : Int) = s.mem.getD m 0) := by
    show _ = _
    unfold Ms.load
    rw [List.eq_nil_of_length_eq_zero HB0.out]
    rfl
  obtain ⟨cn, rfl, hcn⟩ := reg_nat (right_c HRI.out rfl)
  have hcn' : (cn : Int) < 8 := by omega
  have hcn0 : ¬ (cn : Int) < 0 := by omega
  have hcmp := HRG.out
  rw [HM.out, Int.toNat_natCast] at hcmp
  have HI : insteadM (s.side i).t ⟨21, an, cb2, cn, ck⟩ (s.mem.getD m 0) = (((s.side i).t.reg (cn : Int)), true) := by
    show (if (21 : Int) = 20 then _ else if (21 : Int) = 21 then (if (s.mem.getD m 0 == (s.side i).t.reg (an : Int)) = true then ((s.side i).t.reg (cn : Int), true) else (s.mem.getD m 0, false)) else _) = _
    rw [if_neg (show ¬ (21 : Int) = 20 by decide), if_pos rfl, if_pos hcmp]
  have HS : Hid (s.step N i = ((s.setM m ((s.side i).t.reg (cn : Int))).setT i (((s.side i).t.put an (s.mem.getD m 0)).at ((pn : Int) + 1))).note i ⟨4, i, (pn : Int), m, ((s.side i).t.reg (cn : Int)), s.mem.getD m 0, 0, true⟩) := by
    show _ = _
    rw [HGO.out]
    show ((if (insteadM (s.side i).t ⟨21, an, cb2, cn, ck⟩ (s.load i (addrM (s.side i).t ⟨21, an, cb2, cn, ck⟩))).2 then s.setM (addrM (s.side i).t ⟨21, an, cb2, cn, ck⟩) (insteadM (s.side i).t ⟨21, an, cb2, cn, ck⟩ (s.load i (addrM (s.side i).t ⟨21, an, cb2, cn, ck⟩))).1 else s).setT i (((s.side i).t.put an (s.load i (addrM (s.side i).t ⟨21, an, cb2, cn, ck⟩))).at ((s.side i).t.pc + 1))).note i ⟨4, 0, (s.side i).t.pc, addrM (s.side i).t ⟨21, an, cb2, cn, ck⟩, (insteadM (s.side i).t ⟨21, an, cb2, cn, ck⟩ (s.load i (addrM (s.side i).t ⟨21, an, cb2, cn, ck⟩))).1, s.load i (addrM (s.side i).t ⟨21, an, cb2, cn, ck⟩), 0, (insteadM (s.side i).t ⟨21, an, cb2, cn, ck⟩ (s.load i (addrM (s.side i).t ⟨21, an, cb2, cn, ck⟩))).2⟩ = _
    rw [HPC.out, HM.out, HLD.out, HI]
    rfl
  clear HI HLD HGO HM
  have hm2 : (m : Int) < s.mem.length := by omega
  have hm0 : ¬ (m : Int) < 0 := by omega
  obtain ⟨mb, mc', C3, hmv, -, hC3, hmr⟩ := H8.out.memAt (by omega)
  simp only [Value.slice.injEq] at hmv
  obtain ⟨rfl, -, rfl⟩ := hmv
  have cm := hmr.cell wordL_len hmm 0 0 (by omega)
  simp only [wordL, List.getElem?_cons_zero, Nat.mul_one, Nat.add_zero, Nat.zero_add] at cm
  have c3 := H8.out.box.cell (o := 3) (v := .slice (some ⟨mb, 0, none⟩) s.mem.length mc) rfl
  have HOLD := hide (mem_u32 HF.out hmm)
  have HURV := hide (HTH.out.reg (an : Int))
  generalize s.mem.getD m 0 = old at cm HS HOLD hcmp
  have HOK9 := hide (ThOk.put HTH.out (an : Int) old HOLD.out)
  generalize hrv : (s.side i).t.reg (an : Int) = RV at HS HURV cr hcmp
  have cr1 := T8.out.cell (thC_reg HTH.out an han)
  rw [hrv] at cr1
  go_upto_region 53 with (fail)
  have q0 := E8.out.cell (o := 0) (v := .int .i64 0) rfl
  have f0 := E8.out.free (0)
  have q1 := E8.out.cell (o := 5) (v := .int .u32 0) rfl
  have f1 := E8.out.free (5)
  have q2 := E8.out.cell (o := 4) (v := .int .u32 0) rfl
  have f2 := E8.out.free (4)
  have q3 := E8.out.cell (o := 7) (v := .bool false) rfl
  have f3 := E8.out.free (7)
  have b9 : Has ((((w8.setCell ⟨ex, 0, none⟩ (.int .i64 4)).setCell ⟨ex, 5, none⟩ (.int .u32 old)).setCell ⟨ex, 4, none⟩ (.int .u32 RV)).setCell ⟨ex, 7, none⟩ (.bool true)) ex (evA ⟨4, i, (pn : Int), m, RV, old, 0, true⟩) 79 := by
    have z := ((((E8.out.set (0) (.int .i64 4)).set (5) (.int .u32 old)).set (4) (.int .u32 RV)).set (7) (.bool true))
    exact z
  have kq : Kp [ex] w8 ((((w8.setCell ⟨ex, 0, none⟩ (.int .i64 4)).setCell ⟨ex, 5, none⟩ (.int .u32 old)).setCell ⟨ex, 4, none⟩ (.int .u32 RV)).setCell ⟨ex, 7, none⟩ (.bool true)) := (((Kp.setCell w8 ex (0) (.int .i64 4)).trans (Kp.setCell _ ex (5) (.int .u32 old)) (fun _ h => h) (fun _ h => .inl h)).trans (Kp.setCell _ ex (4) (.int .u32 RV)) (fun _ h => h) (fun _ h => .inl h)).trans (Kp.setCell _ ex (7) (.bool true)) (fun _ h => h) (fun _ h => .inl h)
  have o9 := T8.out.kept kq (fun z => (T8.out.apart E8.out (by decide)) (by simpa using z))
  have h9 := H8.out.asideV E8.out hexb hexs kq
  have i9 := I8.out.kept kq (fun z => (I8.out.apart E8.out (by decide)) (by simpa using z))
  clear kq
  go_upto_region 54 with (fail)
  generalize (((w8.setCell ⟨ex, 0, none⟩ (.int .i64 4)).setCell ⟨ex, 5, none⟩ (.int .u32 old)).setCell ⟨ex, 4, none⟩ (.int .u32 RV)).setCell ⟨ex, 7, none⟩ (.bool true) = wa at b9 o9 h9 i9 ⊢
  have EA := hide b9
  have TA := hide o9
  have HA := hide h9
  have IA := hide i9
  clear b9 o9 h9 i9 cr cr1 rf d0 j0 j1 j2 j3 j4 cm c3 hmr hC3 T8 E8 H8 I8 q0 f0 q1 f1 q2 f2 q3 f3
  have j0 := IA.out.cell (o := 0) (v := .int .i64 21) rfl
  go_upto_region 57 with (fail)
  have j3 := IA.out.cell (o := 3) (v := .int .i64 (cn : Int)) rfl
  have cc := TA.out.cell (thC_reg HTH.out cn hcn)
  generalize hcv : (s.side i).t.reg (cn : Int) = CV at cc HS
  have q0 := EA.out.cell (o := 4) (v := .int .u32 RV) rfl
  have f0 := EA.out.free (4)
  have q1 := EA.out.cell (o := 7) (v := .bool true) rfl
  have f1 := EA.out.free (7)
  have b9 : Has ((wa.setCell ⟨ex, 4, none⟩ (.int .u32 CV)).setCell ⟨ex, 7, none⟩ (.bool true)) ex (evA ⟨4, i, (pn : Int), m, CV, old, 0, true⟩) 79 := by
    have z := ((EA.out.set (4) (.int .u32 CV)).set (7) (.bool true))
    exact z
  have kq : Kp [ex] wa ((wa.setCell ⟨ex, 4, none⟩ (.int .u32 CV)).setCell ⟨ex, 7, none⟩ (.bool true)) := (Kp.setCell wa ex (4) (.int .u32 CV)).trans (Kp.setCell _ ex (7) (.bool true)) (fun _ h => h) (fun _ h => .inl h)
  have o9 := TA.out.kept kq (fun z => (TA.out.apart EA.out (by decide)) (by simpa using z))
  have h9 := HA.out.asideV EA.out hexb hexs kq
  have i9 := IA.out.kept kq (fun z => (IA.out.apart EA.out (by decide)) (by simpa using z))
  clear kq
  go_upto_region 58 with (fail)
  try rw [hcmp]
  generalize (wa.setCell ⟨ex, 4, none⟩ (.int .u32 CV)).setCell ⟨ex, 7, none⟩ (.bool true) = wb at b9 o9 h9 i9 ⊢
  have EB := hide b9
  have TB := hide o9
  have HB := hide h9
  have IB := hide i9
  clear b9 o9 h9 i9 j0 j3 cc TA EA HA IA q0 f0 q1 f1
  have j7 := EB.out.cell (o := 7) (v := .bool true) rfl
  go_upto_region 60 with (fail)
  clear j7
  have hD := HB.out.later (Gr.refl wb).drew
  obtain ⟨mb', mc2, C4, hmv, -, hC4, hmr⟩ := hD.memAt (by omega)
  simp only [Value.slice.injEq, Option.some.injEq, Addr.mk.injEq] at hmv
  obtain rfl : mb' = mb := hmv.1.1.symm
  have cm := hmr.cell wordL_len hmm 0 0 (by omega)
  simp only [wordL, List.getElem?_cons_zero, Nat.mul_one, Nat.add_zero, Nat.zero_add] at cm
  have fm := hC4.free m
  have q3 := hD.box.cell (o := 3) (v := .slice (some ⟨mb', 0, none⟩) s.mem.length mc) rfl
  have q4 := EB.out.drew.cell (o := 4) (v := .int .u32 CV) rfl
  refine begin_late 9 [8] (fun w' => w' = wb.drew) (by kernel_rfl) rfl ?_
  have hH : wb.drew = wb.drew := rfl
  refine AnyL.pp 0 342 (.pointer (some ⟨k.g, 0, none⟩)) rfl rfl (by kernel_rfl) (fun _ _ _ h => h) (fun _ => by go_simp) hH ?_
  simp only [pz, pz0, pzs]
  refine AnyL.pp 1 343 (.pointer (some ⟨k.g, 0, none⟩)) rfl rfl (by kernel_rfl) (fun _ _ _ h => h) (fun _ => by go_simp) hH ?_
  simp only [pz, pz0, pzs]
  refine AnyL.pp 2 344 (.pointer (some ⟨k.g, 3, none⟩)) rfl rfl (by kernel_rfl) (fun _ _ _ h => h) (fun _ => by go_simp) hH ?_
  simp only [pz, pz0, pzs]
  refine AnyL.tt 3 345 (.slice (some ⟨mb', 0, none⟩) s.mem.length mc) rfl rfl (by kernel_rfl) (fun _ _ _ h => h) (fun w' hw' => by subst hw'; go_simp) hH ?_
  simp only [pz, pz0, pzs]
  refine AnyL.pp 4 346 (.int .i64 m) rfl rfl (by kernel_rfl) (fun _ _ _ h => h) (fun _ => by go_simp) hH ?_
  simp only [pz, pz0, pzs]
  refine AnyL.pp 5 347 (.pointer (some ⟨ex, 4, none⟩)) rfl rfl (by kernel_rfl) (fun _ _ _ h => h) (fun _ => by go_simp) hH ?_
  simp only [pz, pz0, pzs]
  refine AnyL.tt 6 348 (.int .u32 CV) rfl rfl (by kernel_rfl) (fun _ _ _ h => h) (fun w' hw' => by subst hw'; go_simp) hH ?_
  simp only [pz, pz0, pzs]
  refine AnyL.pp 7 349 (.pointer (some ⟨mb', m, none⟩)) rfl rfl (by kernel_rfl) (fun _ _ _ h => h) (fun _ => by go_simp) hH ?_
  simp only [pz, pz0, pzs]
  refine AnyL.one 8 (by kernel_rfl) rfl (by kernel_rfl) ?_
  refine Mp.wp_store_word rfl _ _ rfl mb' m (by kernel_rfl) CV (by kernel_rfl) _ cm fm ?_
  refine ⟨late (by kernel_rfl), ?_⟩
  refine AnyL.done (by kernel_rfl) ?_
  have hM := hD.setM rfl m hmm CV
  have kq := Kp.setCell wb.drew mb' m (.int .u32 CV)
  have eM := EB.out.drew.kept kq (fun z => (EB.out.drew.apart hC4 (by decide)) (by simpa using z))
  have tM := TB.out.drew.kept kq (fun z => (TB.out.drew.apart hC4 (by decide)) (by simpa using z))
  have iM := IB.out.drew.kept kq (fun z => (IB.out.drew.apart hC4 (by decide)) (by simpa using z))
  clear cm fm q3 q4 hH hD hC4 hmr kq IB TB EB HB
  generalize wb.drew.setCell ⟨mb', m, none⟩ (.int .u32 CV) = wm at hM eM tM iM ⊢
  have EM := hide eM
  have TM := hide tM
  have IM := hide iM
  have HMM := hide hM
  clear eM tM iM hM
  have j1 := IM.out.cell (o := 1) (v := .int .i64 (an : Int)) rfl
  have cr := TM.out.cell (thC_reg HTH.out an han)
  have rf := TM.out.free (1 + an)
  have t9 := TM.out.set (1 + an) (.int .u32 old)
  rw [thC_put HTH.out an han] at t9
  have kq := Kp.setCell wm tx (1 + an) (.int .u32 old)
  have e9 := EM.out.kept kq (fun z => (EM.out.apart TM.out (by decide)) (by simpa using z))
  have h9 := HMM.out.asideT TM.out htxB HTX.out kq
  clear kq
  go_upto_region 89 with (fail)
  generalize wm.setCell ⟨tx, 1 + an, none⟩ (.int .u32 old) = w9 at t9 e9 h9 ⊢
  have T9 := hide t9
  have E9 := hide e9
  have H9 := hide h9
  clear t9 e9 h9 j1 cr rf IM TM EM HMM
  have z0 := T9.out.cell (thC_pc ((s.side i).t.put an old))
  have zf := T9.out.free 0
  have tq := T9.out.set 0 (.int .i64 ((pn : Int) + 1))
  rw [thC_at] at tq
  have kq := Kp.setCell w9 tx 0 (.int .i64 ((pn : Int) + 1))
  have eq := E9.out.kept kq (fun z => (E9.out.apart T9.out (by decide)) (by simpa using z))
  have hq := H9.out.asideT T9.out htxB HTX.out kq
  clear kq
  go_upto_region 90 with (fail)
  generalize w9.setCell ⟨tx, 0, none⟩ (.int .i64 ((pn : Int) + 1)) = w10 at tq eq hq ⊢
  have HK := hide (ThOk.at' HOK9.out ((pn : Int) + 1))
  generalize hth9 : (((s.side i).t.put an old)).at ((pn : Int) + 1) = t9 at tq HK HS
  have h11 := hq.later (Gr.refl w10).drew
  have t11 := tq.drew
  have e11 := eq.drew
  have q1 := h11.box.cell (o := 1) (v := .slice (some ⟨tb, 0, none⟩) s.sides.length tc) rfl
  have thr := thr12 h11 rfl (show (s.setM (m : Int) CV).sides.length = s.sides.length from rfl) hi HK.out
  have iT2 : (Tryz.prog.info? 46).map (·.size) = some (thC t9).size := infoT_of HK.out
  have one := thC_one t9
  clear z0 zf tq eq hq hth9
  refine begin_late 8 [7] (fun w' => w' = w10.drew) (by kernel_rfl) rfl ?_
  have hH : w10.drew = w10.drew := rfl
  refine AnyL.pp 0 483 (.pointer (some ⟨k.g, 0, none⟩)) rfl rfl (by kernel_rfl) (fun _ _ _ h => h) (fun _ => by go_simp) hH ?_
  simp only [pz, pz0, pzs]
  refine AnyL.pp 1 484 (.pointer (some ⟨k.g, 0, none⟩)) rfl rfl (by kernel_rfl) (fun _ _ _ h => h) (fun _ => by go_simp) hH ?_
  simp only [pz, pz0, pzs]
  refine AnyL.pp 2 485 (.pointer (some ⟨k.g, 1, none⟩)) rfl rfl (by kernel_rfl) (fun _ _ _ h => h) (fun _ => by go_simp) hH ?_
  simp only [pz, pz0, pzs]
  refine AnyL.tt 3 486 (.slice (some ⟨tb, 0, none⟩) s.sides.length tc) rfl rfl (by kernel_rfl) (fun _ _ _ h => h) (fun w' hw' => by subst hw'; go_simp) hH ?_
  simp only [pz, pz0, pzs]
  refine AnyL.pp 4 487 (.int .i64 i) rfl rfl (by kernel_rfl) (fun _ _ _ h => h) (fun _ => by go_simp) hH ?_
  simp only [pz, pz0, pzs]
  refine AnyL.yy 5 488 (.agg (thC t9)) rfl rfl (by kernel_rfl) (fun _ _ _ h => h) (yieldsIf_load_mid (by kernel_rfl) 46 _ rfl tx 0 rfl (thL t9) _ (fun w' hw' => by subst hw'; exact fun j v hv => (by rw [Nat.zero_add]; exact t11.cell (by simpa [thC] using hv))) Tryz.underlying46 rfl (infoT10 HK.out)) hH ?_
  simp only [pz, pz0, pzs]
  refine AnyL.pp 6 489 (.pointer (some ⟨tb, i * 10, none⟩)) rfl rfl (by kernel_rfl) (fun _ _ _ h => h) (fun _ => by go_simp) hH ?_
  simp only [pz, pz0, pzs]
  refine AnyL.one 7 (by kernel_rfl) rfl (by kernel_rfl) ?_
  refine wp_store_mid 46 _ _ rfl tb (i * 10) (thC t9) (by kernel_rfl) (by kernel_rfl) thr iT2 one ?_
  refine ⟨late (by kernel_rfl), ?_⟩
  refine AnyL.done (by kernel_rfl) ?_
  obtain ⟨h12, e12⟩ := late12 h11 rfl (show (s.setM (m : Int) CV).sides.length = s.sides.length from rfl) hi HK.out e11
  replace h12 : Ws k _ (((s.setM (m : Int) CV)).setT i t9) (w10.drew.setCells tb (i * 10) (thC t9).toList) := h12
  clear h11 t11 e11 q1 thr iT2 one hH
  generalize w10.drew.setCells tb (i * 10) (thC t9).toList = w12 at h12 e12 ⊢
  have z0 := e12.cell (o := 0) (v := .int .i64 4) rfl
  clear z0
  have z0 := e12.cell (o := 0) (v := .int .i64 4) rfl
  go_upto_region 92 with (fail)
  clear z0
  have h13 := h12.later (Gr.refl w12).drew
  have e13 := e12.drew
  obtain ⟨ad, cap, he, -, -, -, -⟩ := own_at h13.evs
  simp only at he
  have neg : k.g ∉ ob ev := fun z => own_aside h13.evs h13.box (by decide) z
  have HX := hide (fun w' (q : Kp (ob ev) w12.drew w') => e13.kept q hexs)
  have HE := hide (fun w' (q : Kp (ob ev) w12.drew w') => (h13.box.kept q neg).cell (o := 6) (v := ev) rfl)
  refine begin_late 11 [10] (fun w' => Kp (ob ev) w12.drew w') (by kernel_rfl) rfl ?_
  have hH : Kp (ob ev) w12.drew w12.drew := Kp.refl _ _
  refine AnyL.pp 0 493 (.pointer (some ⟨k.g, 0, none⟩)) rfl rfl (by kernel_rfl) (fun _ _ _ h => h) (fun _ => by go_simp) hH ?_
  simp only [pz, pz0, pzs]
  refine AnyL.pp 1 494 (.pointer (some ⟨k.g, 0, none⟩)) rfl rfl (by kernel_rfl) (fun _ _ _ h => h) (fun _ => by go_simp) hH ?_
  simp only [pz, pz0, pzs]
  refine AnyL.pp 2 495 (.pointer (some ⟨k.g, 0, none⟩)) rfl rfl (by kernel_rfl) (fun _ _ _ h => h) (fun _ => by go_simp) hH ?_
  simp only [pz, pz0, pzs]
  refine AnyL.pp 3 496 (.pointer (some ⟨k.g, 6, none⟩)) rfl rfl (by kernel_rfl) (fun _ _ _ h => h) (fun _ => by go_simp) hH ?_
  simp only [pz, pz0, pzs]
  refine AnyL.tt 4 497 (ev) rfl rfl (by kernel_rfl) (fun _ _ _ h => h) (fun w' hw' => by have c1 := HE.out w' hw'; go_simp) hH ?_
  simp only [pz, pz0, pzs]
  refine AnyL.yy 5 498 (.agg (evA ⟨4, i, (pn : Int), (m : Int), CV, old, 0, true⟩)) rfl rfl (by kernel_rfl) (fun _ _ _ h => h) (take_ev (by kernel_rfl) _ rfl ex rfl ⟨4, i, (pn : Int), (m : Int), CV, old, 0, true⟩ (fun w' hw' => HX.out w' hw')) hH ?_
  simp only [pz, pz0, pzs]
  refine AnyL.one 6 (by kernel_rfl) rfl (by kernel_rfl) ?_
  refine wp_made (some 499) rfl _ _ (build_ev _ rfl ⟨4, i, (pn : Int), (m : Int), CV, old, 0, true⟩ (by kernel_rfl)) ?_
  refine ⟨fun _ => (((Gr.refl w12.drew).alloc (evA ⟨4, i, (pn : Int), (m : Int), CV, old, 0, true⟩) 79).kp _), ?_⟩
  simp only [pz, pz0, pzs]
  obtain ⟨e'', w'', hr2, hk2, ⟨ea2, ec2, hev2⟩, hws⟩ := h13.gather (ty := 39) (by have q := HF.out.evs; show s.evs.length ≤ 95000; omega) i ⟨4, i, (pn : Int), (m : Int), CV, old, 0, true⟩ rfl
  subst hev2
  refine AnyL.one 7 (by kernel_rfl) rfl (by kernel_rfl) ?_
  refine wp_app (some 500) rfl _ _ 39 rfl ev _ (by kernel_rfl) rfl _ w'' hr2 ?_
  refine ⟨fun _ => hk2, ?_⟩
  simp only [pz, pz0, pzs]
  replace hH := hk2
  refine AnyL.pp 8 501 (.pointer (some ⟨k.g, 0, none⟩)) rfl rfl (by kernel_rfl) (fun _ _ _ h => h) (fun _ => by go_simp) hH ?_
  simp only [pz, pz0, pzs]
  refine AnyL.pp 9 502 (.pointer (some ⟨k.g, 6, none⟩)) rfl rfl (by kernel_rfl) (fun _ _ _ h => h) (fun _ => by go_simp) hH ?_
  simp only [pz, pz0, pzs]
  have cg := HE.out w'' hk2
  rw [he] at cg
  have cf := (h13.box.kept hk2 neg).free 6
  refine AnyL.one 10 (by kernel_rfl) rfl (by kernel_rfl) ?_
  refine wp_store_evs rfl _ _ rfl k.g 6 (by kernel_rfl) ea2 (((s.setM (m : Int) CV).setT i t9).evs.length + 1) ec2 (by kernel_rfl) _ _ _ cg cf ?_
  refine ⟨late (by kernel_rfl), ?_⟩
  refine AnyL.done (by kernel_rfl) ?_
  have HW := hide (hws _ rfl)
  clear hws hk2 hr2 hH HX HE cg cf h13 e13 h12 e12
  generalize w''.setCell ⟨k.g, 6, none⟩ (.slice ea2 (((s.setM (m : Int) CV).setT i t9).evs.length + 1) ec2) = w15 at HW ⊢
  go_wp2_with (fail)
  go_end0
  exact ⟨rfl, _, by rw [HS.out]; exact HW.out⟩
theorem setM_self (s : Ms) {m : Nat} (hm : m < s.mem.length) : s.setM (m : Int) (s.mem.getD m 0) = s := by
  unfold Ms.setM
  have : s.mem.set (m : Int).toNat (s.mem.getD m 0) = s.mem := by
    rw [Int.toNat_natCast, List.getD_eq_getElem?_getD, List.getElem?_eq_getElem hm]
    exact List.set_getElem_self hm
  rw [this]

set_option maxHeartbeats 16000000 in
theorem step_go21b (k : Wk) (v : Wv) (s : Ms) (w : World) (h : Ws k v s w) (f : Fit k.p s) (i : Nat) (hi : i < s.sides.length) (N : Int) (hN : N = s.mem.length) (hst : (s.side i).t.st = 0) (pn : Nat) (hpce : (s.side i).t.pc = pn)
    (x : Cd) (hxc : k.p.codes.getD i cd0 = x) (hpl : pn < x.l.length) (ca cb2 cc2 ck : Int) (hcc : x.l.getD pn ins0 = ⟨21, ca, cb2, cc2, ck⟩) (hri : rightB 21 ca cb2 cc2 ck (x.l.length : Int) = true) (hna : askB 21 = true) (hin : addrM (s.side i).t ⟨21, ca, cb2, cc2, ck⟩ < N) (hb : (s.side i).buf.length = 0) (hheld : heldM (port N i) ⟨21, ca, cb2, cc2, ck⟩ s = false) (hreg : (s.mem.getD (addrM (s.side i).t ⟨21, ca, cb2, cc2, ck⟩).toNat 0 == (s.side i).t.reg ca) = false) :
    Calls Tryz.prog 30 #[.pointer (some ⟨k.g, 0, none⟩), .int .i64 i] w (WlP k (s.step N i)) := by
  obtain ⟨tv, bv, mv, sv, ev, bl⟩ := v
  have HB0 := hide hb
  clear hb
  have HRG := hide hreg
  clear hreg
  have hi0 : ¬ (i : Int) < 0 := by omega
  have hi1 : (i : Int) < s.sides.length := by omega
  have hi2 : ¬ (s.sides.length : Int) ≤ i := by omega
  obtain ⟨tb, tc, rfl, hBt, c1, cs, cfz, RT, thr, T1, G1, HTX, HEX, HTH⟩ := pre1 h f hi hst
  have iT := infoT10 HTH.out
  have iT2 : (Tryz.prog.info? 46).map (·.size) = some (thC (s.side i).t).size := infoT_of HTH.out
  have IT2 := hide iT2
  have one := thC_one (s.side i).t
  have HH := hide h
  have HF := hide f
  have HN := hide hN
  have HST := hide hst
  have hsz := h.sz
  have HRI := hide hri
  clear h f hN hst hri
  go_enter Tryz.func30, Tryz.ntmps30
  go_upto_region 2 with (first
    | (refine wpList_load_mid rfl 46 _ rfl tb (i * 10) rfl (thL (s.side i).t) _ RT Tryz.underlying46 rfl iT ?_)
    | (refine wpList_store_mid rfl 46 _ _ rfl w.heap.size 0 (thC (s.side i).t) rfl rfl thr iT2 one ?_))
  change Code.wp _ _ _ _ ((w.alloc (.cells (thC thZ) 46)).setCells w.heap.size 0 (thC (s.side i).t).toList)
  clear thr RT iT iT2 one cs cfz c1
  generalize (w.alloc (.cells (thC thZ) 46)).setCells w.heap.size 0 (thC (s.side i).t).toList = w1 at T1 G1 ⊢
  obtain ⟨hic, hxsh, HXC, HXA, htpc, cb, co, c0, cC⟩ := pre2 HH.out HF.out G1.out hi hxc T1.out hpce
  have hic' : (i : Int) < k.p.codes.length := by omega
  have e0 := Has.new w1 (evA ⟨0, i, (pn : Int), 0, 0, 0, 0, false⟩) 79
  have g2 := (Gr.refl w1).alloc (evA ⟨0, i, (pn : Int), 0, 0, 0, 0, false⟩) 79
  have hexs := HEX.out w1.heap.size G1.out.size
  have hexb : k.w0.heap.size ≤ w1.heap.size := Nat.le_trans hsz G1.out.size
  have HPC := hide hpce
  clear hpce hxc
  go_upto_region 4 with (fail)
  change Code.wp _ _ _ _ (w1.alloc (.cells (evA ⟨0, i, (pn : Int), 0, 0, 0, 0, false⟩) 79))
  generalize w1.alloc (.cells (evA ⟨0, i, (pn : Int), 0, 0, 0, 0, false⟩) 79) = w2 at e0 g2 ⊢
  generalize w1.heap.size = ex at e0 hexs hexb ⊢
  generalize hw0s : w.heap.size = tx at T1 HTX ⊢
  have E2 := hide e0
  have T2 := hide (T1.out.later g2)
  have H2 := hide (HH.out.later (G1.out.trans g2))
  have d0 := T2.out.cell (o := 0) (v := .int .i64 (pn : Int)) (by rw [← HPC.out]; rfl)
  have htxB : k.w0.heap.size ≤ tx := by rw [← hw0s]; exact hsz
  clear c0 cC htpc e0 g2 T1 G1 hic hic' hw0s HEX
  have HAT := at3 (N := N) HST.out HPC.out HXC.out hpl hcc
  have hpl' : (pn : Int) < x.l.length := by omega
  have hpn0 : ¬ (pn : Int) < 0 := by omega
  have hpn1 : ¬ (x.l.length : Int) ≤ pn := by omega
  obtain ⟨hcok, ib, io, hia, x0, x1, x2, x3, x4⟩ := pre3 H2.out HXA.out hpl hcc
  have i0 := Has.new w2 (insA ⟨21, ca, cb2, cc2, ck⟩) 53
  have g3 := (Gr.refl w2).alloc (insA ⟨21, ca, cb2, cc2, ck⟩) 53
  have RI := hide (fun u => Nm.refright_calls 21 ca cb2 cc2 ck (x.l.length : Int) hcok.k0 hcok.k1 u)
  have HCO := hide hcok
  rw [hia]
  clear hcok hia hcc
  go_upto_region 7 with (fail)
  change Code.wp _ _ _ _ (w2.alloc (.cells (insA ⟨21, ca, cb2, cc2, ck⟩) 53))
  generalize w2.alloc (.cells (insA ⟨21, ca, cb2, cc2, ck⟩) 53) = w3 at i0 g3 ⊢
  generalize w2.heap.size = ix at i0 ⊢
  have I3 := hide i0
  have T3 := hide (T2.out.later g3)
  have E3 := hide (E2.out.later g3)
  have H3 := hide (H2.out.later g3)
  obtain ⟨j0, j1, j2, j3, j4⟩ := five i0
  clear d0 x0 x1 x2 x3 x4 g3 i0
  go_wp2_with (fail)
  refine (RI.out _).mono ?_
  rintro r w4 ⟨rfl, g4⟩
  rw [HRI.out]
  obtain ⟨I4, T4, E4, H4⟩ := later4 I3 T3 E3 H3 g4
  clear j0 j1 j2 j3 j4 I3 T3 E3 H3 T2 E2 H2 g4 RI
  have HA := hide (fun u => Nm.has_calls 21 77 u)
  rw [Nm.has_is] at HA
  have j0 := I4.out.cell (o := 0) (v := .int .i64 21) rfl
  have HGO := hide (step_go (N := N) (i := i) (show stepM (port N i) (s.side i).t (s.side i).code s = _ by rw [HXC.out, HAT.out]) (HRI.out) (fun h => hin) hheld)
  clear hheld
  rw [hna] at HA
  go_wp2_with (fail)
  refine (HA.out _).mono ?_
  rintro r w5 ⟨rfl, g5⟩
  obtain ⟨I5, T5, E5, H5⟩ := later4 I4 T4 E4 H4 g5
  have AD := hide (fun u => addr_calls HTH.out (i := ⟨21, ca, cb2, cc2, ck⟩) HCO.out u)
  have hau : U32 (addrM (s.side i).t ⟨21, ca, cb2, cc2, ck⟩) := addr_u32 HTH.out HCO.out
  clear j0 HA I4 T4 E4 H4 g5
  obtain ⟨ma, mc, hmv, -, -, -, -⟩ := own_at H5.out.mem
  simp only at hmv
  subst hmv
  have hT := T5.out
  have iT2 := IT2.out
  obtain ⟨j0, j1, j2, j3, j4⟩ := five I5.out
  go_wp2_with (first
    | (refine wpList_load_row rfl 46 _ rfl tx rfl 46 (thC (s.side i).t) (0, 0) _ hT Tryz.underlying46 rfl iT2 ?_))
  refine (AD.out _).mono ?_
  rintro r w6 ⟨rfl, g6⟩
  obtain ⟨I6, T6, E6, H6⟩ := later4 I5 T5 E5 H5 g6
  clear j0 j1 j2 j3 j4 hT iT2 AD I5 T5 E5 H5 g6
  have hwa := wrap_u32 hau
  have c3 := H6.out.box.cell (o := 3) (v := .slice ma s.mem.length mc) rfl
  obtain ⟨m, hm⟩ := Int.eq_ofNat_of_zero_le hau.1
  rw [hm] at hwa hin ⊢
  have HM := hide hm
  have hmm : m < s.mem.length := by have := HN.out; omega
  have hm1 : ¬ (s.mem.length : Int) ≤ m := by omega
  have q3 := E6.out.cell (o := 3) (v := .int .i64 0) rfl
  have f3 := E6.out.free 3
  have b7 := E6.out.set 3 (.int .i64 (m : Int))
  have kq := Kp.setCell w6 ex 3 (.int .i64 (m : Int))
  have t7 := T6.out.kept kq (fun z => (T6.out.apart E6.out (by decide)) (by simpa using z))
  have i7 := I6.out.kept kq (fun z => (I6.out.apart E6.out (by decide)) (by simpa using z))
  have h7 := H6.out.asideV E6.out hexb hexs kq
  have j0 := I6.out.cell (o := 0) (v := .int .i64 21) rfl
  clear hau hin hm kq
  go_upto_region 16 with (fail)
  generalize w6.setCell ⟨ex, 3, none⟩ (.int .i64 (m : Int)) = w7 at b7 t7 i7 h7 ⊢
  have I7 := hide i7
  have T7 := hide t7
  have E7 := hide (show Has w7 ex (evA ⟨0, i, (pn : Int), m, 0, 0, 0, false⟩) 79 from b7)
  have H7 := hide h7
  clear b7 t7 i7 h7 q3 f3 c3 j0 I6 T6 E6 H6 hwa
  obtain ⟨bb, bc, ba, bcc, rfl, ci, c2, c4, c7⟩ := buf7 H7.out hi
  have j0 := I7.out.cell (o := 0) (v := .int .i64 21) rfl
  have hb := HB0.out
  have l1 : ¬ (0 : Int) < ((s.side i).buf.length : Int) := by omega
  have l2 : decide ((0 : Int) < ((s.side i).buf.length : Int)) = false := by simp [hb]
  have l3 : decide (0 < (s.side i).buf.length) = false := by simp [hb]
  clear hb
  generalize hbng : (s.side i).buf.length = bn at ci l1 l2 l3
  go_upto_region 17 with (fail)
  go_quiet (fail)
  have g8 := (Gr.refl w7).drewN nq
  obtain ⟨I8, T8, E8, H8⟩ := later4 I7 T7 E7 H7 g8
  clear ci c2 c4 c7 j0 l1 l2 l3 g8 I7 T7 E7 H7 hbng
  generalize w7.drewN nq = w8 at I8 T8 E8 H8 ⊢
  obtain ⟨an, rfl, han⟩ := reg_nat (right_a HRI.out)
  have han' : (an : Int) < 8 := by omega
  have han0 : ¬ (an : Int) < 0 := by omega
  have hpw : pn < 100000 := by omega
  obtain ⟨j0, j1, j2, j3, j4⟩ := five I8.out
  have d0 := T8.out.cell (thC_pc (s.side i).t)
  rw [HPC.out] at d0
  have cr := T8.out.cell (thC_reg HTH.out an han)
  have rf := T8.out.free (1 + an)
  have HLD : Hid (s.load i (m : Int) = s.mem.getD m 0) := by
    show _ = _
    unfold Ms.load
    rw [List.eq_nil_of_length_eq_zero HB0.out]
    rfl
  obtain ⟨cn, rfl, hcn⟩ := reg_nat (right_c HRI.out rfl)
  have hcn' : (cn : Int) < 8 := by omega
  have hcn0 : ¬ (cn : Int) < 0 := by omega
  have hcmp := HRG.out
  rw [HM.out, Int.toNat_natCast] at hcmp
  have HI : insteadM (s.side i).t ⟨21, an, cb2, cn, ck⟩ (s.mem.getD m 0) = ((s.mem.getD m 0), false) := by
    show (if (21 : Int) = 20 then _ else if (21 : Int) = 21 then (if (s.mem.getD m 0 == (s.side i).t.reg (an : Int)) = true then ((s.side i).t.reg (cn : Int), true) else (s.mem.getD m 0, false)) else _) = _
    rw [if_neg (show ¬ (21 : Int) = 20 by decide), if_pos rfl, if_neg (by rw [hcmp]; simp)]
  have HS : Hid (s.step N i = ((s.setM m (s.mem.getD m 0)).setT i (((s.side i).t.put an (s.mem.getD m 0)).at ((pn : Int) + 1))).note i ⟨4, i, (pn : Int), m, (s.mem.getD m 0), s.mem.getD m 0, 0, false⟩) := by
    show _ = _
    rw [HGO.out]
    show ((if (insteadM (s.side i).t ⟨21, an, cb2, cn, ck⟩ (s.load i (addrM (s.side i).t ⟨21, an, cb2, cn, ck⟩))).2 then s.setM (addrM (s.side i).t ⟨21, an, cb2, cn, ck⟩) (insteadM (s.side i).t ⟨21, an, cb2, cn, ck⟩ (s.load i (addrM (s.side i).t ⟨21, an, cb2, cn, ck⟩))).1 else s).setT i (((s.side i).t.put an (s.load i (addrM (s.side i).t ⟨21, an, cb2, cn, ck⟩))).at ((s.side i).t.pc + 1))).note i ⟨4, 0, (s.side i).t.pc, addrM (s.side i).t ⟨21, an, cb2, cn, ck⟩, (insteadM (s.side i).t ⟨21, an, cb2, cn, ck⟩ (s.load i (addrM (s.side i).t ⟨21, an, cb2, cn, ck⟩))).1, s.load i (addrM (s.side i).t ⟨21, an, cb2, cn, ck⟩), 0, (insteadM (s.side i).t ⟨21, an, cb2, cn, ck⟩ (s.load i (addrM (s.side i).t ⟨21, an, cb2, cn, ck⟩))).2⟩ = _
    rw [HPC.out, HM.out, HLD.out, HI]
    rw [setM_self s hmm]
    rfl
  clear HI HLD HGO HM
  have hm2 : (m : Int) < s.mem.length := by omega
  have hm0 : ¬ (m : Int) < 0 := by omega
  obtain ⟨mb, mc', C3, hmv, -, hC3, hmr⟩ := H8.out.memAt (by omega)
  simp only [Value.slice.injEq] at hmv
  obtain ⟨rfl, -, rfl⟩ := hmv
  have cm := hmr.cell wordL_len hmm 0 0 (by omega)
  simp only [wordL, List.getElem?_cons_zero, Nat.mul_one, Nat.add_zero, Nat.zero_add] at cm
  have c3 := H8.out.box.cell (o := 3) (v := .slice (some ⟨mb, 0, none⟩) s.mem.length mc) rfl
  have HOLD := hide (mem_u32 HF.out hmm)
  have HURV := hide (HTH.out.reg (an : Int))
  generalize s.mem.getD m 0 = old at cm HS HOLD hcmp
  have HOK9 := hide (ThOk.put HTH.out (an : Int) old HOLD.out)
  generalize hrv : (s.side i).t.reg (an : Int) = RV at HS HURV cr hcmp
  have cr1 := T8.out.cell (thC_reg HTH.out an han)
  rw [hrv] at cr1
  go_upto_region 53 with (fail)
  have q0 := E8.out.cell (o := 0) (v := .int .i64 0) rfl
  have f0 := E8.out.free (0)
  have q1 := E8.out.cell (o := 5) (v := .int .u32 0) rfl
  have f1 := E8.out.free (5)
  have q2 := E8.out.cell (o := 4) (v := .int .u32 0) rfl
  have f2 := E8.out.free (4)
  have q3 := E8.out.cell (o := 7) (v := .bool false) rfl
  have f3 := E8.out.free (7)
  have b9 : Has ((((w8.setCell ⟨ex, 0, none⟩ (.int .i64 4)).setCell ⟨ex, 5, none⟩ (.int .u32 old)).setCell ⟨ex, 4, none⟩ (.int .u32 RV)).setCell ⟨ex, 7, none⟩ (.bool true)) ex (evA ⟨4, i, (pn : Int), m, RV, old, 0, true⟩) 79 := by
    have z := ((((E8.out.set (0) (.int .i64 4)).set (5) (.int .u32 old)).set (4) (.int .u32 RV)).set (7) (.bool true))
    exact z
  have kq : Kp [ex] w8 ((((w8.setCell ⟨ex, 0, none⟩ (.int .i64 4)).setCell ⟨ex, 5, none⟩ (.int .u32 old)).setCell ⟨ex, 4, none⟩ (.int .u32 RV)).setCell ⟨ex, 7, none⟩ (.bool true)) := (((Kp.setCell w8 ex (0) (.int .i64 4)).trans (Kp.setCell _ ex (5) (.int .u32 old)) (fun _ h => h) (fun _ h => .inl h)).trans (Kp.setCell _ ex (4) (.int .u32 RV)) (fun _ h => h) (fun _ h => .inl h)).trans (Kp.setCell _ ex (7) (.bool true)) (fun _ h => h) (fun _ h => .inl h)
  have o9 := T8.out.kept kq (fun z => (T8.out.apart E8.out (by decide)) (by simpa using z))
  have h9 := H8.out.asideV E8.out hexb hexs kq
  have i9 := I8.out.kept kq (fun z => (I8.out.apart E8.out (by decide)) (by simpa using z))
  clear kq
  go_upto_region 54 with (fail)
  generalize (((w8.setCell ⟨ex, 0, none⟩ (.int .i64 4)).setCell ⟨ex, 5, none⟩ (.int .u32 old)).setCell ⟨ex, 4, none⟩ (.int .u32 RV)).setCell ⟨ex, 7, none⟩ (.bool true) = wa at b9 o9 h9 i9 ⊢
  have EA := hide b9
  have TA := hide o9
  have HA := hide h9
  have IA := hide i9
  clear b9 o9 h9 i9 cr cr1 rf d0 j0 j1 j2 j3 j4 cm c3 hmr hC3 T8 E8 H8 I8 q0 f0 q1 f1 q2 f2 q3 f3
  have j0 := IA.out.cell (o := 0) (v := .int .i64 21) rfl
  go_upto_region 57 with (fail)
  have j3 := IA.out.cell (o := 3) (v := .int .i64 (cn : Int)) rfl
  have cc := TA.out.cell (thC_reg HTH.out cn hcn)
  generalize hcv : (s.side i).t.reg (cn : Int) = CV at cc HS
  have q0 := EA.out.cell (o := 4) (v := .int .u32 RV) rfl
  have f0 := EA.out.free (4)
  have q1 := EA.out.cell (o := 7) (v := .bool true) rfl
  have f1 := EA.out.free (7)
  have b9 : Has ((wa.setCell ⟨ex, 4, none⟩ (.int .u32 CV)).setCell ⟨ex, 7, none⟩ (.bool false)) ex (evA ⟨4, i, (pn : Int), m, CV, old, 0, false⟩) 79 := by
    have z := ((EA.out.set (4) (.int .u32 CV)).set (7) (.bool false))
    exact z
  have kq : Kp [ex] wa ((wa.setCell ⟨ex, 4, none⟩ (.int .u32 CV)).setCell ⟨ex, 7, none⟩ (.bool false)) := (Kp.setCell wa ex (4) (.int .u32 CV)).trans (Kp.setCell _ ex (7) (.bool false)) (fun _ h => h) (fun _ h => .inl h)
  have o9 := TA.out.kept kq (fun z => (TA.out.apart EA.out (by decide)) (by simpa using z))
  have h9 := HA.out.asideV EA.out hexb hexs kq
  have i9 := IA.out.kept kq (fun z => (IA.out.apart EA.out (by decide)) (by simpa using z))
  clear kq
  go_upto_region 58 with (fail)
  try rw [hcmp]
  generalize (wa.setCell ⟨ex, 4, none⟩ (.int .u32 CV)).setCell ⟨ex, 7, none⟩ (.bool false) = wb at b9 o9 h9 i9 ⊢
  have EB := hide b9
  have TB := hide o9
  have HB := hide h9
  have IB := hide i9
  clear b9 o9 h9 i9 j0 j3 cc TA EA HA IA q0 f0 q1 f1
  have j7 := EB.out.cell (o := 7) (v := .bool false) rfl
  go_upto_region 59 with (fail)
  clear j7
  have q0 := EB.out.cell (o := 4) (v := .int .u32 CV) rfl
  have f0 := EB.out.free (4)
  have b9 : Has (wb.setCell ⟨ex, 4, none⟩ (.int .u32 old)) ex (evA ⟨4, i, (pn : Int), m, old, old, 0, false⟩) 79 := by
    have z := (EB.out.set (4) (.int .u32 old))
    exact z
  have kq : Kp [ex] wb (wb.setCell ⟨ex, 4, none⟩ (.int .u32 old)) := Kp.setCell wb ex (4) (.int .u32 old)
  have o9 := TB.out.kept kq (fun z => (TB.out.apart EB.out (by decide)) (by simpa using z))
  have h9 := HB.out.asideV EB.out hexb hexs kq
  have i9 := IB.out.kept kq (fun z => (IB.out.apart EB.out (by decide)) (by simpa using z))
  clear kq
  go_upto_region 60 with (fail)
  generalize wb.setCell ⟨ex, 4, none⟩ (.int .u32 old) = wc at b9 o9 h9 i9 ⊢
  have EC := hide b9
  have TC := hide o9
  have HC := hide h9
  have IC := hide i9
  clear b9 o9 h9 i9  TB EB HB IB q0 f0
  have hD := HC.out.later (Gr.refl wc).drew
  obtain ⟨mb', mc2, C4, hmv, -, hC4, hmr⟩ := hD.memAt (by omega)
  simp only [Value.slice.injEq, Option.some.injEq, Addr.mk.injEq] at hmv
  obtain rfl : mb' = mb := hmv.1.1.symm
  have cm := hmr.cell wordL_len hmm 0 0 (by omega)
  simp only [wordL, List.getElem?_cons_zero, Nat.mul_one, Nat.add_zero, Nat.zero_add] at cm
  have fm := hC4.free m
  have q3 := hD.box.cell (o := 3) (v := .slice (some ⟨mb', 0, none⟩) s.mem.length mc) rfl
  have q4 := EC.out.drew.cell (o := 4) (v := .int .u32 old) rfl
  refine begin_late 9 [8] (fun w' => w' = wc.drew) (by kernel_rfl) rfl ?_
  have hH : wc.drew = wc.drew := rfl
  refine AnyL.pp 0 342 (.pointer (some ⟨k.g, 0, none⟩)) rfl rfl (by kernel_rfl) (fun _ _ _ h => h) (fun _ => by go_simp) hH ?_
  simp only [pz, pz0, pzs]
  refine AnyL.pp 1 343 (.pointer (some ⟨k.g, 0, none⟩)) rfl rfl (by kernel_rfl) (fun _ _ _ h => h) (fun _ => by go_simp) hH ?_
  simp only [pz, pz0, pzs]
  refine AnyL.pp 2 344 (.pointer (some ⟨k.g, 3, none⟩)) rfl rfl (by kernel_rfl) (fun _ _ _ h => h) (fun _ => by go_simp) hH ?_
  simp only [pz, pz0, pzs]
  refine AnyL.tt 3 345 (.slice (some ⟨mb', 0, none⟩) s.mem.length mc) rfl rfl (by kernel_rfl) (fun _ _ _ h => h) (fun w' hw' => by subst hw'; go_simp) hH ?_
  simp only [pz, pz0, pzs]
  refine AnyL.pp 4 346 (.int .i64 m) rfl rfl (by kernel_rfl) (fun _ _ _ h => h) (fun _ => by go_simp) hH ?_
  simp only [pz, pz0, pzs]
  refine AnyL.pp 5 347 (.pointer (some ⟨ex, 4, none⟩)) rfl rfl (by kernel_rfl) (fun _ _ _ h => h) (fun _ => by go_simp) hH ?_
  simp only [pz, pz0, pzs]
  refine AnyL.tt 6 348 (.int .u32 old) rfl rfl (by kernel_rfl) (fun _ _ _ h => h) (fun w' hw' => by subst hw'; go_simp) hH ?_
  simp only [pz, pz0, pzs]
  refine AnyL.pp 7 349 (.pointer (some ⟨mb', m, none⟩)) rfl rfl (by kernel_rfl) (fun _ _ _ h => h) (fun _ => by go_simp) hH ?_
  simp only [pz, pz0, pzs]
  refine AnyL.one 8 (by kernel_rfl) rfl (by kernel_rfl) ?_
  refine Mp.wp_store_word rfl _ _ rfl mb' m (by kernel_rfl) old (by kernel_rfl) _ cm fm ?_
  refine ⟨late (by kernel_rfl), ?_⟩
  refine AnyL.done (by kernel_rfl) ?_
  have hM := hD.setM rfl m hmm old
  have kq := Kp.setCell wc.drew mb' m (.int .u32 old)
  have eM := EC.out.drew.kept kq (fun z => (EC.out.drew.apart hC4 (by decide)) (by simpa using z))
  have tM := TC.out.drew.kept kq (fun z => (TC.out.drew.apart hC4 (by decide)) (by simpa using z))
  have iM := IC.out.drew.kept kq (fun z => (IC.out.drew.apart hC4 (by decide)) (by simpa using z))
  clear cm fm q3 q4 hH hD hC4 hmr kq IC TC EC HC
  generalize wc.drew.setCell ⟨mb', m, none⟩ (.int .u32 old) = wm at hM eM tM iM ⊢
  have EM := hide eM
  have TM := hide tM
  have IM := hide iM
  have HMM := hide hM
  clear eM tM iM hM
  have j1 := IM.out.cell (o := 1) (v := .int .i64 (an : Int)) rfl
  have cr := TM.out.cell (thC_reg HTH.out an han)
  have rf := TM.out.free (1 + an)
  have t9 := TM.out.set (1 + an) (.int .u32 old)
  rw [thC_put HTH.out an han] at t9
  have kq := Kp.setCell wm tx (1 + an) (.int .u32 old)
  have e9 := EM.out.kept kq (fun z => (EM.out.apart TM.out (by decide)) (by simpa using z))
  have h9 := HMM.out.asideT TM.out htxB HTX.out kq
  clear kq
  go_upto_region 89 with (fail)
  generalize wm.setCell ⟨tx, 1 + an, none⟩ (.int .u32 old) = w9 at t9 e9 h9 ⊢
  have T9 := hide t9
  have E9 := hide e9
  have H9 := hide h9
  clear t9 e9 h9 j1 cr rf IM TM EM HMM
  have z0 := T9.out.cell (thC_pc ((s.side i).t.put an old))
  have zf := T9.out.free 0
  have tq := T9.out.set 0 (.int .i64 ((pn : Int) + 1))
  rw [thC_at] at tq
  have kq := Kp.setCell w9 tx 0 (.int .i64 ((pn : Int) + 1))
  have eq := E9.out.kept kq (fun z => (E9.out.apart T9.out (by decide)) (by simpa using z))
  have hq := H9.out.asideT T9.out htxB HTX.out kq
  clear kq
  go_upto_region 90 with (fail)
  generalize w9.setCell ⟨tx, 0, none⟩ (.int .i64 ((pn : Int) + 1)) = w10 at tq eq hq ⊢
  have HK := hide (ThOk.at' HOK9.out ((pn : Int) + 1))
  generalize hth9 : (((s.side i).t.put an old)).at ((pn : Int) + 1) = t9 at tq HK HS
  have h11 := hq.later (Gr.refl w10).drew
  have t11 := tq.drew
  have e11 := eq.drew
  have q1 := h11.box.cell (o := 1) (v := .slice (some ⟨tb, 0, none⟩) s.sides.length tc) rfl
  have thr := thr12 h11 rfl (show (s.setM (m : Int) old).sides.length = s.sides.length from rfl) hi HK.out
  have iT2 : (Tryz.prog.info? 46).map (·.size) = some (thC t9).size := infoT_of HK.out
  have one := thC_one t9
  clear z0 zf tq eq hq hth9
  refine begin_late 8 [7] (fun w' => w' = w10.drew) (by kernel_rfl) rfl ?_
  have hH : w10.drew = w10.drew := rfl
  refine AnyL.pp 0 483 (.pointer (some ⟨k.g, 0, none⟩)) rfl rfl (by kernel_rfl) (fun _ _ _ h => h) (fun _ => by go_simp) hH ?_
  simp only [pz, pz0, pzs]
  refine AnyL.pp 1 484 (.pointer (some ⟨k.g, 0, none⟩)) rfl rfl (by kernel_rfl) (fun _ _ _ h => h) (fun _ => by go_simp) hH ?_
  simp only [pz, pz0, pzs]
  refine AnyL.pp 2 485 (.pointer (some ⟨k.g, 1, none⟩)) rfl rfl (by kernel_rfl) (fun _ _ _ h => h) (fun _ => by go_simp) hH ?_
  simp only [pz, pz0, pzs]
  refine AnyL.tt 3 486 (.slice (some ⟨tb, 0, none⟩) s.sides.length tc) rfl rfl (by kernel_rfl) (fun _ _ _ h => h) (fun w' hw' => by subst hw'; go_simp) hH ?_
  simp only [pz, pz0, pzs]
  refine AnyL.pp 4 487 (.int .i64 i) rfl rfl (by kernel_rfl) (fun _ _ _ h => h) (fun _ => by go_simp) hH ?_
  simp only [pz, pz0, pzs]
  refine AnyL.yy 5 488 (.agg (thC t9)) rfl rfl (by kernel_rfl) (fun _ _ _ h => h) (yieldsIf_load_mid (by kernel_rfl) 46 _ rfl tx 0 rfl (thL t9) _ (fun w' hw' => by subst hw'; exact fun j v hv => (by rw [Nat.zero_add]; exact t11.cell (by simpa [thC] using hv))) Tryz.underlying46 rfl (infoT10 HK.out)) hH ?_
  simp only [pz, pz0, pzs]
  refine AnyL.pp 6 489 (.pointer (some ⟨tb, i * 10, none⟩)) rfl rfl (by kernel_rfl) (fun _ _ _ h => h) (fun _ => by go_simp) hH ?_
  simp only [pz, pz0, pzs]
  refine AnyL.one 7 (by kernel_rfl) rfl (by kernel_rfl) ?_
  refine wp_store_mid 46 _ _ rfl tb (i * 10) (thC t9) (by kernel_rfl) (by kernel_rfl) thr iT2 one ?_
  refine ⟨late (by kernel_rfl), ?_⟩
  refine AnyL.done (by kernel_rfl) ?_
  obtain ⟨h12, e12⟩ := late12 h11 rfl (show (s.setM (m : Int) old).sides.length = s.sides.length from rfl) hi HK.out e11
  replace h12 : Ws k _ (((s.setM (m : Int) old)).setT i t9) (w10.drew.setCells tb (i * 10) (thC t9).toList) := h12
  clear h11 t11 e11 q1 thr iT2 one hH
  generalize w10.drew.setCells tb (i * 10) (thC t9).toList = w12 at h12 e12 ⊢
  have z0 := e12.cell (o := 0) (v := .int .i64 4) rfl
  clear z0
  have z0 := e12.cell (o := 0) (v := .int .i64 4) rfl
  go_upto_region 92 with (fail)
  clear z0
  have h13 := h12.later (Gr.refl w12).drew
  have e13 := e12.drew
  obtain ⟨ad, cap, he, -, -, -, -⟩ := own_at h13.evs
  simp only at he
  have neg : k.g ∉ ob ev := fun z => own_aside h13.evs h13.box (by decide) z
  have HX := hide (fun w' (q : Kp (ob ev) w12.drew w') => e13.kept q hexs)
  have HE := hide (fun w' (q : Kp (ob ev) w12.drew w') => (h13.box.kept q neg).cell (o := 6) (v := ev) rfl)
  refine begin_late 11 [10] (fun w' => Kp (ob ev) w12.drew w') (by kernel_rfl) rfl ?_
  have hH : Kp (ob ev) w12.drew w12.drew := Kp.refl _ _
  refine AnyL.pp 0 493 (.pointer (some ⟨k.g, 0, none⟩)) rfl rfl (by kernel_rfl) (fun _ _ _ h => h) (fun _ => by go_simp) hH ?_
  simp only [pz, pz0, pzs]
  refine AnyL.pp 1 494 (.pointer (some ⟨k.g, 0, none⟩)) rfl rfl (by kernel_rfl) (fun _ _ _ h => h) (fun _ => by go_simp) hH ?_
  simp only [pz, pz0, pzs]
  refine AnyL.pp 2 495 (.pointer (some ⟨k.g, 0, none⟩)) rfl rfl (by kernel_rfl) (fun _ _ _ h => h) (fun _ => by go_simp) hH ?_
  simp only [pz, pz0, pzs]
  refine AnyL.pp 3 496 (.pointer (some ⟨k.g, 6, none⟩)) rfl rfl (by kernel_rfl) (fun _ _ _ h => h) (fun _ => by go_simp) hH ?_
  simp only [pz, pz0, pzs]
  refine AnyL.tt 4 497 (ev) rfl rfl (by kernel_rfl) (fun _ _ _ h => h) (fun w' hw' => by have c1 := HE.out w' hw'; go_simp) hH ?_
  simp only [pz, pz0, pzs]
  refine AnyL.yy 5 498 (.agg (evA ⟨4, i, (pn : Int), (m : Int), old, old, 0, false⟩)) rfl rfl (by kernel_rfl) (fun _ _ _ h => h) (take_ev (by kernel_rfl) _ rfl ex rfl ⟨4, i, (pn : Int), (m : Int), old, old, 0, false⟩ (fun w' hw' => HX.out w' hw')) hH ?_
  simp only [pz, pz0, pzs]
  refine AnyL.one 6 (by kernel_rfl) rfl (by kernel_rfl) ?_
  refine wp_made (some 499) rfl _ _ (build_ev _ rfl ⟨4, i, (pn : Int), (m : Int), old, old, 0, false⟩ (by kernel_rfl)) ?_
  refine ⟨fun _ => (((Gr.refl w12.drew).alloc (evA ⟨4, i, (pn : Int), (m : Int), old, old, 0, false⟩) 79).kp _), ?_⟩
  simp only [pz, pz0, pzs]
  obtain ⟨e'', w'', hr2, hk2, ⟨ea2, ec2, hev2⟩, hws⟩ := h13.gather (ty := 39) (by have q := HF.out.evs; show s.evs.length ≤ 95000; omega) i ⟨4, i, (pn : Int), (m : Int), old, old, 0, false⟩ rfl
  subst hev2
  refine AnyL.one 7 (by kernel_rfl) rfl (by kernel_rfl) ?_
  refine wp_app (some 500) rfl _ _ 39 rfl ev _ (by kernel_rfl) rfl _ w'' hr2 ?_
  refine ⟨fun _ => hk2, ?_⟩
  simp only [pz, pz0, pzs]
  replace hH := hk2
  refine AnyL.pp 8 501 (.pointer (some ⟨k.g, 0, none⟩)) rfl rfl (by kernel_rfl) (fun _ _ _ h => h) (fun _ => by go_simp) hH ?_
  simp only [pz, pz0, pzs]
  refine AnyL.pp 9 502 (.pointer (some ⟨k.g, 6, none⟩)) rfl rfl (by kernel_rfl) (fun _ _ _ h => h) (fun _ => by go_simp) hH ?_
  simp only [pz, pz0, pzs]
  have cg := HE.out w'' hk2
  rw [he] at cg
  have cf := (h13.box.kept hk2 neg).free 6
  refine AnyL.one 10 (by kernel_rfl) rfl (by kernel_rfl) ?_
  refine wp_store_evs rfl _ _ rfl k.g 6 (by kernel_rfl) ea2 (((s.setM (m : Int) old).setT i t9).evs.length + 1) ec2 (by kernel_rfl) _ _ _ cg cf ?_
  refine ⟨late (by kernel_rfl), ?_⟩
  refine AnyL.done (by kernel_rfl) ?_
  have HW := hide (hws _ rfl)
  clear hws hk2 hr2 hH HX HE cg cf h13 e13 h12 e12
  generalize w''.setCell ⟨k.g, 6, none⟩ (.slice ea2 (((s.setM (m : Int) old).setT i t9).evs.length + 1) ec2) = w15 at HW ⊢
  go_wp2_with (fail)
  go_end0
  exact ⟨rfl, _, by rw [HS.out]; exact HW.out⟩
end Go.Proofs.YtfhplbmgjgfihaaGreatDoor.Wl
