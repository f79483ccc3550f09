/-
  What a step of a thread does to the document's world: a buffer ahead of it. No condition but what each law names.
-/
import Derived.Test.YtfhplbmgjgfihaaGreatDoorZzbh
import Derived.Test.YtfhplbmgjgfihaaGreatDoorZzaa
import Derived.BigQuiet
import Derived.Deep.QuietTactic
namespace Go.Proofs.YtfhplbmgjgfihaaGreatDoor.Wl
open Go.Proofs.YtfhplbmgjgfihaaGreatDoor.Mc Go.ChangeShapes Go.WideShapes Go.ChangeAt Go.RowKit
set_option linter.unusedVariables false
set_option maxRecDepth 20000
set_option maxHeartbeats 16000000 in
theorem step_held25 (k : Wk) (v : Wv) (s : Ms) (w : World) (h : Ws k v s w) (f : Fit k.p s) (i : Nat) (hi : i < s.sides.length) (N : Int) (hN : N = s.mem.length) (hst : (s.side i).t.st = 0) (pn : Nat) (hpce : (s.side i).t.pc = pn)
    (x : Cd) (hxc : k.p.codes.getD i cd0 = x) (hpl : pn < x.l.length) (ca cb2 cc2 ck : Int) (hcc : x.l.getD pn ins0 = ⟨25, ca, cb2, cc2, ck⟩) (hri : rightB 25 ca cb2 cc2 ck (x.l.length : Int) = true) (hna : askB 25 = false) (hb : 0 < (s.side i).buf.length) (hheld : heldM (port N i) ⟨25, ca, cb2, cc2, ck⟩ s = true) :
    Calls Tryz.prog 30 #[.pointer (some ⟨k.g, 0, none⟩), .int .i64 i] w (WlP k (s.step N i)) := by
  obtain ⟨tv, bv, mv, sv, ev, bl⟩ := v
  have hi0 : ¬ (i : Int) < 0 := by omega
  have hi1 : (i : Int) < s.sides.length := by omega
  have hi2 : ¬ (s.sides.length : Int) ≤ i := by omega
  obtain ⟨tb, tc, rfl, hBt, c1, cs, cfz, RT, thr, T1, G1, HTX, HEX, HTH⟩ := pre1 h f hi hst
  have iT := infoT10 HTH.out
  have iT2 : (Tryz.prog.info? 46).map (·.size) = some (thC (s.side i).t).size := infoT_of HTH.out
  have IT2 := hide iT2
  have one := thC_one (s.side i).t
  have HH := hide h
  have HF := hide f
  have HN := hide hN
  have HST := hide hst
  have hsz := h.sz
  have HRI := hide hri
  clear h f hN hst hri
  go_enter Tryz.func30, Tryz.ntmps30
  go_upto_region 2 with (first
    | (refine wpList_load_mid rfl 46 _ rfl tb (i * 10) rfl (thL (s.side i).t) _ RT Tryz.underlying46 rfl iT ?_)
    | (refine wpList_store_mid rfl 46 _ _ rfl w.heap.size 0 (thC (s.side i).t) rfl rfl thr iT2 one ?_))
  change Code.wp _ _ _ _ ((w.alloc (.cells (thC thZ) 46)).setCells w.heap.size 0 (thC (s.side i).t).toList)
  clear thr RT iT iT2 one cs cfz c1
  generalize (w.alloc (.cells (thC thZ) 46)).setCells w.heap.size 0 (thC (s.side i).t).toList = w1 at T1 G1 ⊢
  obtain ⟨hic, hxsh, HXC, HXA, htpc, cb, co, c0, cC⟩ := pre2 HH.out HF.out G1.out hi hxc T1.out hpce
  have hic' : (i : Int) < k.p.codes.length := by omega
  have e0 := Has.new w1 (evA ⟨0, i, (pn : Int), 0, 0, 0, 0, false⟩) 79
  have g2 := (Gr.refl w1).alloc (evA ⟨0, i, (pn : Int), 0, 0, 0, 0, false⟩) 79
  have hexs := HEX.out w1.heap.size G1.out.size
  have hexb : k.w0.heap.size ≤ w1.heap.size := Nat.le_trans hsz G1.out.size
  have HPC := hide hpce
  clear hpce hxc
  go_upto_region 4 with (fail)
  change Code.wp _ _ _ _ (w1.alloc (.cells (evA ⟨0, i, (pn : Int), 0, 0, 0, 0, false⟩) 79))
  generalize w1.alloc (.cells (evA ⟨0, i, (pn : Int), 0, 0, 0, 0, false⟩) 79) = w2 at e0 g2 ⊢
  generalize w1.heap.size = ex at e0 hexs hexb ⊢
  generalize hw0s : w.heap.size = tx at T1 HTX ⊢
  have E2 := hide e0
  have T2 := hide (T1.out.later g2)
  have H2 := hide (HH.out.later (G1.out.trans g2))
  have d0 := T2.out.cell (o := 0) (v := .int .i64 (pn : Int)) (by rw [← HPC.out]; rfl)
  have htxB : k.w0.heap.size ≤ tx := by rw [← hw0s]; exact hsz
  clear c0 cC htpc e0 g2 T1 G1 hic hic' hw0s HEX
  have HAT := at3 (N := N) HST.out HPC.out HXC.out hpl hcc
  have hpl' : (pn : Int) < x.l.length := by omega
  have hpn0 : ¬ (pn : Int) < 0 := by omega
  have hpn1 : ¬ (x.l.length : Int) ≤ pn := by omega
  obtain ⟨hcok, ib, io, hia, x0, x1, x2, x3, x4⟩ := pre3 H2.out HXA.out hpl hcc
  have i0 := Has.new w2 (insA ⟨25, ca, cb2, cc2, ck⟩) 53
  have g3 := (Gr.refl w2).alloc (insA ⟨25, ca, cb2, cc2, ck⟩) 53
  have RI := hide (fun u => Nm.refright_calls 25 ca cb2 cc2 ck (x.l.length : Int) hcok.k0 hcok.k1 u)
  have HCO := hide hcok
  rw [hia]
  clear hcok hia hcc
  go_upto_region 7 with (fail)
  change Code.wp _ _ _ _ (w2.alloc (.cells (insA ⟨25, ca, cb2, cc2, ck⟩) 53))
  generalize w2.alloc (.cells (insA ⟨25, ca, cb2, cc2, ck⟩) 53) = w3 at i0 g3 ⊢
  generalize w2.heap.size = ix at i0 ⊢
  have I3 := hide i0
  have T3 := hide (T2.out.later g3)
  have E3 := hide (E2.out.later g3)
  have H3 := hide (H2.out.later g3)
  obtain ⟨j0, j1, j2, j3, j4⟩ := five i0
  clear d0 x0 x1 x2 x3 x4 g3 i0
  go_wp2_with (fail)
  refine (RI.out _).mono ?_
  rintro r w4 ⟨rfl, g4⟩
  rw [HRI.out]
  obtain ⟨I4, T4, E4, H4⟩ := later4 I3 T3 E3 H3 g4
  clear j0 j1 j2 j3 j4 I3 T3 E3 H3 T2 E2 H2 g4 RI
  have HA := hide (fun u => Nm.has_calls 25 77 u)
  rw [Nm.has_is] at HA
  have j0 := I4.out.cell (o := 0) (v := .int .i64 25) rfl
  have HS := hide (step_held (N := N) hi (by
    rw [HXC.out, HAT.out]
    unfold atM
    rw [HRI.out, if_neg (by rw [hna]; simp), if_pos hheld]
    rfl))
  clear HAT hheld
  rw [hna] at HA
  go_wp2_with (fail)
  refine (HA.out _).mono ?_
  rintro r w7 ⟨rfl, g7⟩
  obtain ⟨I7, T7, E7, H7⟩ := later4 I4 T4 E4 H4 g7
  clear j0 HA I4 T4 E4 H4 g7
  obtain ⟨bb, bc, ba, bcc, rfl, ci, c2, c4, c7⟩ := buf7 H7.out hi
  have j0 := I7.out.cell (o := 0) (v := .int .i64 25) rfl
  have FL := hide (fun u (g : Gr w7 u) => flush_calls k _ s u (H7.out.later g) i hi (by have := HF.out.evs; omega) (fun e he => (HF.out.ent i e he).1) (ok_side HF.out.ok i))
  have l1 : (0 : Int) < ((s.side i).buf.length : Int) := by omega
  have l2 : decide ((0 : Int) < ((s.side i).buf.length : Int)) = true := by simp; omega
  have l3 : decide (0 < (s.side i).buf.length) = true := by simp; omega
  generalize (s.side i).buf.length = bn at ci l1 l2 l3
  clear hb HTX HXA HCO
  go_upto_region 17 with (fail)
  go_quiet (fail)
  have FL2 := hide (FL.out (w7.drewN nq) ((Gr.refl w7).drewN nq))
  clear ci c2 c4 c7 j0 FL l1 l2 l3 T7 I7 E7 H7
  generalize w7.drewN nq = w8 at FL2 ⊢
  go_wp2_with (fail)
  refine FL2.out.mono ?_
  rintro r w9 ⟨rfl, v9, h9⟩
  have H9 := hide h9
  clear h9 FL2
  go_wp2_with (fail)
  exact bodyPost_ret (results_none rfl _ _ _) rfl ⟨rfl, _, by rw [HS.out]; exact H9.out⟩

set_option maxHeartbeats 16000000 in
theorem step_held19 (k : Wk) (v : Wv) (s : Ms) (w : World) (h : Ws k v s w) (f : Fit k.p s) (i : Nat) (hi : i < s.sides.length) (N : Int) (hN : N = s.mem.length) (hst : (s.side i).t.st = 0) (pn : Nat) (hpce : (s.side i).t.pc = pn)
    (x : Cd) (hxc : k.p.codes.getD i cd0 = x) (hpl : pn < x.l.length) (ca cb2 cc2 ck : Int) (hcc : x.l.getD pn ins0 = ⟨19, ca, cb2, cc2, ck⟩) (hri : rightB 19 ca cb2 cc2 ck (x.l.length : Int) = true) (hna : askB 19 = true) (hin : addrM (s.side i).t ⟨19, ca, cb2, cc2, ck⟩ < N) (hb : 0 < (s.side i).buf.length) (hheld : heldM (port N i) ⟨19, ca, cb2, cc2, ck⟩ s = true) :
    Calls Tryz.prog 30 #[.pointer (some ⟨k.g, 0, none⟩), .int .i64 i] w (WlP k (s.step N i)) := by
  obtain ⟨tv, bv, mv, sv, ev, bl⟩ := v
  have hi0 : ¬ (i : Int) < 0 := by omega
  have hi1 : (i : Int) < s.sides.length := by omega
  have hi2 : ¬ (s.sides.length : Int) ≤ i := by omega
  obtain ⟨tb, tc, rfl, hBt, c1, cs, cfz, RT, thr, T1, G1, HTX, HEX, HTH⟩ := pre1 h f hi hst
  have iT := infoT10 HTH.out
  have iT2 : (Tryz.prog.info? 46).map (·.size) = some (thC (s.side i).t).size := infoT_of HTH.out
  have IT2 := hide iT2
  have one := thC_one (s.side i).t
  have HH := hide h
  have HF := hide f
  have HN := hide hN
  have HST := hide hst
  have hsz := h.sz
  have HRI := hide hri
  clear h f hN hst hri
  go_enter Tryz.func30, Tryz.ntmps30
  go_upto_region 2 with (first
    | (refine wpList_load_mid rfl 46 _ rfl tb (i * 10) rfl (thL (s.side i).t) _ RT Tryz.underlying46 rfl iT ?_)
    | (refine wpList_store_mid rfl 46 _ _ rfl w.heap.size 0 (thC (s.side i).t) rfl rfl thr iT2 one ?_))
  change Code.wp _ _ _ _ ((w.alloc (.cells (thC thZ) 46)).setCells w.heap.size 0 (thC (s.side i).t).toList)
  clear thr RT iT iT2 one cs cfz c1
  generalize (w.alloc (.cells (thC thZ) 46)).setCells w.heap.size 0 (thC (s.side i).t).toList = w1 at T1 G1 ⊢
  obtain ⟨hic, hxsh, HXC, HXA, htpc, cb, co, c0, cC⟩ := pre2 HH.out HF.out G1.out hi hxc T1.out hpce
  have hic' : (i : Int) < k.p.codes.length := by omega
  have e0 := Has.new w1 (evA ⟨0, i, (pn : Int), 0, 0, 0, 0, false⟩) 79
  have g2 := (Gr.refl w1).alloc (evA ⟨0, i, (pn : Int), 0, 0, 0, 0, false⟩) 79
  have hexs := HEX.out w1.heap.size G1.out.size
  have hexb : k.w0.heap.size ≤ w1.heap.size := Nat.le_trans hsz G1.out.size
  have HPC := hide hpce
  clear hpce hxc
  go_upto_region 4 with (fail)
  change Code.wp _ _ _ _ (w1.alloc (.cells (evA ⟨0, i, (pn : Int), 0, 0, 0, 0, false⟩) 79))
  generalize w1.alloc (.cells (evA ⟨0, i, (pn : Int), 0, 0, 0, 0, false⟩) 79) = w2 at e0 g2 ⊢
  generalize w1.heap.size = ex at e0 hexs hexb ⊢
  generalize hw0s : w.heap.size = tx at T1 HTX ⊢
  have E2 := hide e0
  have T2 := hide (T1.out.later g2)
  have H2 := hide (HH.out.later (G1.out.trans g2))
  have d0 := T2.out.cell (o := 0) (v := .int .i64 (pn : Int)) (by rw [← HPC.out]; rfl)
  have htxB : k.w0.heap.size ≤ tx := by rw [← hw0s]; exact hsz
  clear c0 cC htpc e0 g2 T1 G1 hic hic' hw0s HEX
  have HAT := at3 (N := N) HST.out HPC.out HXC.out hpl hcc
  have hpl' : (pn : Int) < x.l.length := by omega
  have hpn0 : ¬ (pn : Int) < 0 := by omega
  have hpn1 : ¬ (x.l.length : Int) ≤ pn := by omega
  obtain ⟨hcok, ib, io, hia, x0, x1, x2, x3, x4⟩ := pre3 H2.out HXA.out hpl hcc
  have i0 := Has.new w2 (insA ⟨19, ca, cb2, cc2, ck⟩) 53
  have g3 := (Gr.refl w2).alloc (insA ⟨19, ca, cb2, cc2, ck⟩) 53
  have RI := hide (fun u => Nm.refright_calls 19 ca cb2 cc2 ck (x.l.length : Int) hcok.k0 hcok.k1 u)
  have HCO := hide hcok
  rw [hia]
  clear hcok hia hcc
  go_upto_region 7 with (fail)
  change Code.wp _ _ _ _ (w2.alloc (.cells (insA ⟨19, ca, cb2, cc2, ck⟩) 53))
  generalize w2.alloc (.cells (insA ⟨19, ca, cb2, cc2, ck⟩) 53) = w3 at i0 g3 ⊢
  generalize w2.heap.size = ix at i0 ⊢
  have I3 := hide i0
  have T3 := hide (T2.out.later g3)
  have E3 := hide (E2.out.later g3)
  have H3 := hide (H2.out.later g3)
  obtain ⟨j0, j1, j2, j3, j4⟩ := five i0
  clear d0 x0 x1 x2 x3 x4 g3 i0
  go_wp2_with (fail)
  refine (RI.out _).mono ?_
  rintro r w4 ⟨rfl, g4⟩
  rw [HRI.out]
  obtain ⟨I4, T4, E4, H4⟩ := later4 I3 T3 E3 H3 g4
  clear j0 j1 j2 j3 j4 I3 T3 E3 H3 T2 E2 H2 g4 RI
  have HA := hide (fun u => Nm.has_calls 19 77 u)
  rw [Nm.has_is] at HA
  have j0 := I4.out.cell (o := 0) (v := .int .i64 19) rfl
  have HS := hide (step_held (N := N) hi (by
    rw [HXC.out, HAT.out]
    unfold atM
    rw [HRI.out, if_neg (by rw [hna]; unfold inMemM; rw [show (port N i).size = N from rfl, decide_eq_true hin]; decide), if_pos hheld]
    rfl))
  clear HAT hheld
  rw [hna] at HA
  go_wp2_with (fail)
  refine (HA.out _).mono ?_
  rintro r w5 ⟨rfl, g5⟩
  obtain ⟨I5, T5, E5, H5⟩ := later4 I4 T4 E4 H4 g5
  have AD := hide (fun u => addr_calls HTH.out (i := ⟨19, ca, cb2, cc2, ck⟩) HCO.out u)
  have hau : U32 (addrM (s.side i).t ⟨19, ca, cb2, cc2, ck⟩) := addr_u32 HTH.out HCO.out
  clear j0 HA I4 T4 E4 H4 g5
  obtain ⟨ma, mc, hmv, -, -, -, -⟩ := own_at H5.out.mem
  simp only at hmv
  subst hmv
  have hT := T5.out
  have iT2 := IT2.out
  obtain ⟨j0, j1, j2, j3, j4⟩ := five I5.out
  go_wp2_with (first
    | (refine wpList_load_row rfl 46 _ rfl tx rfl 46 (thC (s.side i).t) (0, 0) _ hT Tryz.underlying46 rfl iT2 ?_))
  refine (AD.out _).mono ?_
  rintro r w6 ⟨rfl, g6⟩
  obtain ⟨I6, T6, E6, H6⟩ := later4 I5 T5 E5 H5 g6
  clear j0 j1 j2 j3 j4 hT iT2 AD I5 T5 E5 H5 g6
  have hwa := wrap_u32 hau
  have c3 := H6.out.box.cell (o := 3) (v := .slice ma s.mem.length mc) rfl
  obtain ⟨m, hm⟩ := Int.eq_ofNat_of_zero_le hau.1
  rw [hm] at hwa hin ⊢
  have HM := hide hm
  have hmm : m < s.mem.length := by have := HN.out; omega
  have hm1 : ¬ (s.mem.length : Int) ≤ m := by omega
  have q3 := E6.out.cell (o := 3) (v := .int .i64 0) rfl
  have f3 := E6.out.free 3
  have b7 := E6.out.set 3 (.int .i64 (m : Int))
  have kq := Kp.setCell w6 ex 3 (.int .i64 (m : Int))
  have t7 := T6.out.kept kq (fun z => (T6.out.apart E6.out (by decide)) (by simpa using z))
  have i7 := I6.out.kept kq (fun z => (I6.out.apart E6.out (by decide)) (by simpa using z))
  have h7 := H6.out.asideV E6.out hexb hexs kq
  have j0 := I6.out.cell (o := 0) (v := .int .i64 19) rfl
  clear hau hin hm kq
  go_upto_region 16 with (fail)
  generalize w6.setCell ⟨ex, 3, none⟩ (.int .i64 (m : Int)) = w7 at b7 t7 i7 h7 ⊢
  have I7 := hide i7
  have T7 := hide t7
  have E7 := hide (show Has w7 ex (evA ⟨0, i, (pn : Int), m, 0, 0, 0, false⟩) 79 from b7)
  have H7 := hide h7
  clear b7 t7 i7 h7 q3 f3 c3 j0 I6 T6 E6 H6 hwa
  obtain ⟨bb, bc, ba, bcc, rfl, ci, c2, c4, c7⟩ := buf7 H7.out hi
  have j0 := I7.out.cell (o := 0) (v := .int .i64 19) rfl
  have FL := hide (fun u (g : Gr w7 u) => flush_calls k _ s u (H7.out.later g) i hi (by have := HF.out.evs; omega) (fun e he => (HF.out.ent i e he).1) (ok_side HF.out.ok i))
  have l1 : (0 : Int) < ((s.side i).buf.length : Int) := by omega
  have l2 : decide ((0 : Int) < ((s.side i).buf.length : Int)) = true := by simp; omega
  have l3 : decide (0 < (s.side i).buf.length) = true := by simp; omega
  generalize (s.side i).buf.length = bn at ci l1 l2 l3
  clear hb HTX HXA HCO
  go_upto_region 17 with (fail)
  go_quiet (fail)
  have FL2 := hide (FL.out (w7.drewN nq) ((Gr.refl w7).drewN nq))
  clear ci c2 c4 c7 j0 FL l1 l2 l3 T7 I7 E7 H7
  generalize w7.drewN nq = w8 at FL2 ⊢
  go_wp2_with (fail)
  refine FL2.out.mono ?_
  rintro r w9 ⟨rfl, v9, h9⟩
  have H9 := hide h9
  clear h9 FL2
  go_wp2_with (fail)
  exact bodyPost_ret (results_none rfl _ _ _) rfl ⟨rfl, _, by rw [HS.out]; exact H9.out⟩

set_option maxHeartbeats 16000000 in
theorem step_held20 (k : Wk) (v : Wv) (s : Ms) (w : World) (h : Ws k v s w) (f : Fit k.p s) (i : Nat) (hi : i < s.sides.length) (N : Int) (hN : N = s.mem.length) (hst : (s.side i).t.st = 0) (pn : Nat) (hpce : (s.side i).t.pc = pn)
    (x : Cd) (hxc : k.p.codes.getD i cd0 = x) (hpl : pn < x.l.length) (ca cb2 cc2 ck : Int) (hcc : x.l.getD pn ins0 = ⟨20, ca, cb2, cc2, ck⟩) (hri : rightB 20 ca cb2 cc2 ck (x.l.length : Int) = true) (hna : askB 20 = true) (hin : addrM (s.side i).t ⟨20, ca, cb2, cc2, ck⟩ < N) (hb : 0 < (s.side i).buf.length) (hheld : heldM (port N i) ⟨20, ca, cb2, cc2, ck⟩ s = true) :
    Calls Tryz.prog 30 #[.pointer (some ⟨k.g, 0, none⟩), .int .i64 i] w (WlP k (s.step N i)) := by
  obtain ⟨tv, bv, mv, sv, ev, bl⟩ := v
  have hi0 : ¬ (i : Int) < 0 := by omega
  have hi1 : (i : Int) < s.sides.length := by omega
  have hi2 : ¬ (s.sides.length : Int) ≤ i := by omega
  obtain ⟨tb, tc, rfl, hBt, c1, cs, cfz, RT, thr, T1, G1, HTX, HEX, HTH⟩ := pre1 h f hi hst
  have iT := infoT10 HTH.out
  have iT2 : (Tryz.prog.info? 46).map (·.size) = some (thC (s.side i).t).size := infoT_of HTH.out
  have IT2 := hide iT2
  have one := thC_one (s.side i).t
  have HH := hide h
  have HF := hide f
  have HN := hide hN
  have HST := hide hst
  have hsz := h.sz
  have HRI := hide hri
  clear h f hN hst hri
  go_enter Tryz.func30, Tryz.ntmps30
  go_upto_region 2 with (first
    | (refine wpList_load_mid rfl 46 _ rfl tb (i * 10) rfl (thL (s.side i).t) _ RT Tryz.underlying46 rfl iT ?_)
    | (refine wpList_store_mid rfl 46 _ _ rfl w.heap.size 0 (thC (s.side i).t) rfl rfl thr iT2 one ?_))
  change Code.wp _ _ _ _ ((w.alloc (.cells (thC thZ) 46)).setCells w.heap.size 0 (thC (s.side i).t).toList)
  clear thr RT iT iT2 one cs cfz c1
  generalize (w.alloc (.cells (thC thZ) 46)).setCells w.heap.size 0 (thC (s.side i).t).toList = w1 at T1 G1 ⊢
  obtain ⟨hic, hxsh, HXC, HXA, htpc, cb, co, c0, cC⟩ := pre2 HH.out HF.out G1.out hi hxc T1.out hpce
  have hic' : (i : Int) < k.p.codes.length := by omega
  have e0 := Has.new w1 (evA ⟨0, i, (pn : Int), 0, 0, 0, 0, false⟩) 79
  have g2 := (Gr.refl w1).alloc (evA ⟨0, i, (pn : Int), 0, 0, 0, 0, false⟩) 79
  have hexs := HEX.out w1.heap.size G1.out.size
  have hexb : k.w0.heap.size ≤ w1.heap.size := Nat.le_trans hsz G1.out.size
  have HPC := hide hpce
  clear hpce hxc
  go_upto_region 4 with (fail)
  change Code.wp _ _ _ _ (w1.alloc (.cells (evA ⟨0, i, (pn : Int), 0, 0, 0, 0, false⟩) 79))
  generalize w1.alloc (.cells (evA ⟨0, i, (pn : Int), 0, 0, 0, 0, false⟩) 79) = w2 at e0 g2 ⊢
  generalize w1.heap.size = ex at e0 hexs hexb ⊢
  generalize hw0s : w.heap.size = tx at T1 HTX ⊢
  have E2 := hide e0
  have T2 := hide (T1.out.later g2)
  have H2 := hide (HH.out.later (G1.out.trans g2))
  have d0 := T2.out.cell (o := 0) (v := .int .i64 (pn : Int)) (by rw [← HPC.out]; rfl)
  have htxB : k.w0.heap.size ≤ tx := by rw [← hw0s]; exact hsz
  clear c0 cC htpc e0 g2 T1 G1 hic hic' hw0s HEX
  have HAT := at3 (N := N) HST.out HPC.out HXC.out hpl hcc
  have hpl' : (pn : Int) < x.l.length := by omega
  have hpn0 : ¬ (pn : Int) < 0 := by omega
  have hpn1 : ¬ (x.l.length : Int) ≤ pn := by omega
  obtain ⟨hcok, ib, io, hia, x0, x1, x2, x3, x4⟩ := pre3 H2.out HXA.out hpl hcc
  have i0 := Has.new w2 (insA ⟨20, ca, cb2, cc2, ck⟩) 53
  have g3 := (Gr.refl w2).alloc (insA ⟨20, ca, cb2, cc2, ck⟩) 53
  have RI := hide (fun u => Nm.refright_calls 20 ca cb2 cc2 ck (x.l.length : Int) hcok.k0 hcok.k1 u)
  have HCO := hide hcok
  rw [hia]
  clear hcok hia hcc
  go_upto_region 7 with (fail)
  change Code.wp _ _ _ _ (w2.alloc (.cells (insA ⟨20, ca, cb2, cc2, ck⟩) 53))
  generalize w2.alloc (.cells (insA ⟨20, ca, cb2, cc2, ck⟩) 53) = w3 at i0 g3 ⊢
  generalize w2.heap.size = ix at i0 ⊢
  have I3 := hide i0
  have T3 := hide (T2.out.later g3)
  have E3 := hide (E2.out.later g3)
  have H3 := hide (H2.out.later g3)
  obtain ⟨j0, j1, j2, j3, j4⟩ := five i0
  clear d0 x0 x1 x2 x3 x4 g3 i0
  go_wp2_with (fail)
  refine (RI.out _).mono ?_
  rintro r w4 ⟨rfl, g4⟩
  rw [HRI.out]
  obtain ⟨I4, T4, E4, H4⟩ := later4 I3 T3 E3 H3 g4
  clear j0 j1 j2 j3 j4 I3 T3 E3 H3 T2 E2 H2 g4 RI
  have HA := hide (fun u => Nm.has_calls 20 77 u)
  rw [Nm.has_is] at HA
  have j0 := I4.out.cell (o := 0) (v := .int .i64 20) rfl
  have HS := hide (step_held (N := N) hi (by
    rw [HXC.out, HAT.out]
    unfold atM
    rw [HRI.out, if_neg (by rw [hna]; unfold inMemM; rw [show (port N i).size = N from rfl, decide_eq_true hin]; decide), if_pos hheld]
    rfl))
  clear HAT hheld
  rw [hna] at HA
  go_wp2_with (fail)
  refine (HA.out _).mono ?_
  rintro r w5 ⟨rfl, g5⟩
  obtain ⟨I5, T5, E5, H5⟩ := later4 I4 T4 E4 H4 g5
  have AD := hide (fun u => addr_calls HTH.out (i := ⟨20, ca, cb2, cc2, ck⟩) HCO.out u)
  have hau : U32 (addrM (s.side i).t ⟨20, ca, cb2, cc2, ck⟩) := addr_u32 HTH.out HCO.out
  clear j0 HA I4 T4 E4 H4 g5
  obtain ⟨ma, mc, hmv, -, -, -, -⟩ := own_at H5.out.mem
  simp only at hmv
  subst hmv
  have hT := T5.out
  have iT2 := IT2.out
  obtain ⟨j0, j1, j2, j3, j4⟩ := five I5.out
  go_wp2_with (first
    | (refine wpList_load_row rfl 46 _ rfl tx rfl 46 (thC (s.side i).t) (0, 0) _ hT Tryz.underlying46 rfl iT2 ?_))
  refine (AD.out _).mono ?_
  rintro r w6 ⟨rfl, g6⟩
  obtain ⟨I6, T6, E6, H6⟩ := later4 I5 T5 E5 H5 g6
  clear j0 j1 j2 j3 j4 hT iT2 AD I5 T5 E5 H5 g6
  have hwa := wrap_u32 hau
  have c3 := H6.out.box.cell (o := 3) (v := .slice ma s.mem.length mc) rfl
  obtain ⟨m, hm⟩ := Int.eq_ofNat_of_zero_le hau.1
  rw [hm] at hwa hin ⊢
  have HM := hide hm
  have hmm : m < s.mem.length := by have := HN.out; omega
  have hm1 : ¬ (s.mem.length : Int) ≤ m := by omega
  have q3 := E6.out.cell (o := 3) (v := .int .i64 0) rfl
  have f3 := E6.out.free 3
  have b7 := E6.out.set 3 (.int .i64 (m : Int))
  have kq := Kp.setCell w6 ex 3 (.int .i64 (m : Int))
  have t7 := T6.out.kept kq (fun z => (T6.out.apart E6.out (by decide)) (by simpa using z))
  have i7 := I6.out.kept kq (fun z => (I6.out.apart E6.out (by decide)) (by simpa using z))
  have h7 := H6.out.asideV E6.out hexb hexs kq
  have j0 := I6.out.cell (o := 0) (v := .int .i64 20) rfl
  clear hau hin hm kq
  go_upto_region 16 with (fail)
  generalize w6.setCell ⟨ex, 3, none⟩ (.int .i64 (m : Int)) = w7 at b7 t7 i7 h7 ⊢
  have I7 := hide i7
  have T7 := hide t7
  have E7 := hide (show Has w7 ex (evA ⟨0, i, (pn : Int), m, 0, 0, 0, false⟩) 79 from b7)
  have H7 := hide h7
  clear b7 t7 i7 h7 q3 f3 c3 j0 I6 T6 E6 H6 hwa
  obtain ⟨bb, bc, ba, bcc, rfl, ci, c2, c4, c7⟩ := buf7 H7.out hi
  have j0 := I7.out.cell (o := 0) (v := .int .i64 20) rfl
  have FL := hide (fun u (g : Gr w7 u) => flush_calls k _ s u (H7.out.later g) i hi (by have := HF.out.evs; omega) (fun e he => (HF.out.ent i e he).1) (ok_side HF.out.ok i))
  have l1 : (0 : Int) < ((s.side i).buf.length : Int) := by omega
  have l2 : decide ((0 : Int) < ((s.side i).buf.length : Int)) = true := by simp; omega
  have l3 : decide (0 < (s.side i).buf.length) = true := by simp; omega
  generalize (s.side i).buf.length = bn at ci l1 l2 l3
  clear hb HTX HXA HCO
  go_upto_region 17 with (fail)
  go_quiet (fail)
  have FL2 := hide (FL.out (w7.drewN nq) ((Gr.refl w7).drewN nq))
  clear ci c2 c4 c7 j0 FL l1 l2 l3 T7 I7 E7 H7
  generalize w7.drewN nq = w8 at FL2 ⊢
  go_wp2_with (fail)
  refine FL2.out.mono ?_
  rintro r w9 ⟨rfl, v9, h9⟩
  have H9 := hide h9
  clear h9 FL2
  go_wp2_with (fail)
  exact bodyPost_ret (results_none rfl _ _ _) rfl ⟨rfl, _, by rw [HS.out]; exact H9.out⟩
end Go.Proofs.YtfhplbmgjgfihaaGreatDoor.Wl
