/-
  What a step of a thread does to the document's world: threads are woken. No condition but what each law names.
-/
import Derived.Test.YtfhplbmgjgfihaaGreatDoorZzbh
import Derived.Test.YtfhplbmgjgfihaaGreatDoorZzaa
import Derived.BigQuiet
import Derived.Deep.QuietTactic
namespace Go.Proofs.YtfhplbmgjgfihaaGreatDoor.Wl
open Go.Proofs.YtfhplbmgjgfihaaGreatDoor.Mc Go.ChangeShapes Go.WideShapes Go.ChangeAt Go.RowKit
set_option linter.unusedVariables false
set_option maxRecDepth 20000
theorem rises_len : ∀ (l : List Int) (s : Ms), (l.foldl Ms.rise s).sides.length = s.sides.length
  | [], s => rfl
  | x :: l, s => by
    rw [List.foldl_cons, rises_len l]
    simp [Ms.rise, Ms.setT, Ms.setS]
theorem rises_evs : ∀ (l : List Int) (s : Ms), (l.foldl Ms.rise s).evs = s.evs
  | [], s => rfl
  | x :: l, s => by
    rw [List.foldl_cons, rises_evs l]
    rfl
/-- what is so around the loop over those who are woken -/
def WkR (k : Wk) (v : Wv) (s0 : Ms) (out : List Int) (ad : Option Addr) (tx ex ix : Nat) (ct ce ci : Array Value) (j : Nat) (w : World) : Prop :=
  Ws k v ((out.take j).foldl Ms.rise s0) w ∧ (Has w tx ct 46 ∧ Has w ex ce 79 ∧ Has w ix ci 53) ∧ Kn.NumsAt w ad out

set_option maxHeartbeats 16000000 in
theorem step_go24 (k : Wk) (v : Wv) (s : Ms) (w : World) (h : Ws k v s w) (f : Fit k.p s) (i : Nat) (hi : i < s.sides.length) (N : Int) (hN : N = s.mem.length) (hst : (s.side i).t.st = 0) (pn : Nat) (hpce : (s.side i).t.pc = pn)
    (x : Cd) (hxc : k.p.codes.getD i cd0 = x) (hpl : pn < x.l.length) (ca cb2 cc2 ck : Int) (hcc : x.l.getD pn ins0 = ⟨24, ca, cb2, cc2, ck⟩) (hri : rightB 24 ca cb2 cc2 ck (x.l.length : Int) = true) (hna : askB 24 = true) (hin : addrM (s.side i).t ⟨24, ca, cb2, cc2, ck⟩ < N) (hb : (s.side i).buf.length = 0) (hheld : heldM (port N i) ⟨24, ca, cb2, cc2, ck⟩ s = false) :
    Calls Tryz.prog 30 #[.pointer (some ⟨k.g, 0, none⟩), .int .i64 i] w (WlP k (s.step N i)) := by
  obtain ⟨tv, bv, mv, sv, ev, bl⟩ := v
  have HB0 := hide hb
  clear hb
  have hi0 : ¬ (i : Int) < 0 := by omega
  have hi1 : (i : Int) < s.sides.length := by omega
  have hi2 : ¬ (s.sides.length : Int) ≤ i := by omega
  obtain ⟨tb, tc, rfl, hBt, c1, cs, cfz, RT, thr, T1, G1, HTX, HEX, HTH⟩ := pre1 h f hi hst
  have iT := infoT10 HTH.out
  have iT2 : (Tryz.prog.info? 46).map (·.size) = some (thC (s.side i).t).size := infoT_of HTH.out
  have IT2 := hide iT2
  have one := thC_one (s.side i).t
  have HH := hide h
  have HF := hide f
  have HN := hide hN
  have HST := hide hst
  have hsz := h.sz
  have HRI := hide hri
  clear h f hN hst hri
  go_enter Tryz.func30, Tryz.ntmps30
  go_upto_region 2 with (first
    | (refine wpList_load_mid rfl 46 _ rfl tb (i * 10) rfl (thL (s.side i).t) _ RT Tryz.underlying46 rfl iT ?_)
    | (refine wpList_store_mid rfl 46 _ _ rfl w.heap.size 0 (thC (s.side i).t) rfl rfl thr iT2 one ?_))
  change Code.wp _ _ _ _ ((w.alloc (.cells (thC thZ) 46)).setCells w.heap.size 0 (thC (s.side i).t).toList)
  clear thr RT iT iT2 one cs cfz c1
  generalize (w.alloc (.cells (thC thZ) 46)).setCells w.heap.size 0 (thC (s.side i).t).toList = w1 at T1 G1 ⊢
  obtain ⟨hic, hxsh, HXC, HXA, htpc, cb, co, c0, cC⟩ := pre2 HH.out HF.out G1.out hi hxc T1.out hpce
  have hic' : (i : Int) < k.p.codes.length := by omega
  have e0 := Has.new w1 (evA ⟨0, i, (pn : Int), 0, 0, 0, 0, false⟩) 79
  have g2 := (Gr.refl w1).alloc (evA ⟨0, i, (pn : Int), 0, 0, 0, 0, false⟩) 79
  have hexs := HEX.out w1.heap.size G1.out.size
  have hexb : k.w0.heap.size ≤ w1.heap.size := Nat.le_trans hsz G1.out.size
  have HPC := hide hpce
  clear hpce hxc
  go_upto_region 4 with (fail)
  change Code.wp _ _ _ _ (w1.alloc (.cells (evA ⟨0, i, (pn : Int), 0, 0, 0, 0, false⟩) 79))
  generalize w1.alloc (.cells (evA ⟨0, i, (pn : Int), 0, 0, 0, 0, false⟩) 79) = w2 at e0 g2 ⊢
  generalize w1.heap.size = ex at e0 hexs hexb ⊢
  generalize hw0s : w.heap.size = tx at T1 HTX ⊢
  have E2 := hide e0
  have T2 := hide (T1.out.later g2)
  have H2 := hide (HH.out.later (G1.out.trans g2))
  have d0 := T2.out.cell (o := 0) (v := .int .i64 (pn : Int)) (by rw [← HPC.out]; rfl)
  have htxB : k.w0.heap.size ≤ tx := by rw [← hw0s]; exact hsz
  clear c0 cC htpc e0 g2 T1 G1 hic hic' hw0s HEX
  have HAT := at3 (N := N) HST.out HPC.out HXC.out hpl hcc
  have hpl' : (pn : Int) < x.l.length := by omega
  have hpn0 : ¬ (pn : Int) < 0 := by omega
  have hpn1 : ¬ (x.l.length : Int) ≤ pn := by omega
  obtain ⟨hcok, ib, io, hia, x0, x1, x2, x3, x4⟩ := pre3 H2.out HXA.out hpl hcc
  have i0 := Has.new w2 (insA ⟨24, ca, cb2, cc2, ck⟩) 53
  have g3 := (Gr.refl w2).alloc (insA ⟨24, ca, cb2, cc2, ck⟩) 53
  have RI := hide (fun u => Nm.refright_calls 24 ca cb2 cc2 ck (x.l.length : Int) hcok.k0 hcok.k1 u)
  have HCO := hide hcok
  rw [hia]
  clear hcok hia hcc
  go_upto_region 7 with (fail)
  change Code.wp _ _ _ _ (w2.alloc (.cells (insA ⟨24, ca, cb2, cc2, ck⟩) 53))
  generalize w2.alloc (.cells (insA ⟨24, ca, cb2, cc2, ck⟩) 53) = w3 at i0 g3 ⊢
  generalize w2.heap.size = ix at i0 ⊢
  have I3 := hide i0
  have T3 := hide (T2.out.later g3)
  have E3 := hide (E2.out.later g3)
  have H3 := hide (H2.out.later g3)
  obtain ⟨j0, j1, j2, j3, j4⟩ := five i0
  clear d0 x0 x1 x2 x3 x4 g3 i0
  go_wp2_with (fail)
  refine (RI.out _).mono ?_
  rintro r w4 ⟨rfl, g4⟩
  rw [HRI.out]
  obtain ⟨I4, T4, E4, H4⟩ := later4 I3 T3 E3 H3 g4
  clear j0 j1 j2 j3 j4 I3 T3 E3 H3 T2 E2 H2 g4 RI
  have HA := hide (fun u => Nm.has_calls 24 77 u)
  rw [Nm.has_is] at HA
  have j0 := I4.out.cell (o := 0) (v := .int .i64 24) rfl
  have HGO := hide (step_go (N := N) (i := i) (show stepM (port N i) (s.side i).t (s.side i).code s = _ by rw [HXC.out, HAT.out]) (HRI.out) (fun h => hin) hheld)
  clear hheld
  rw [hna] at HA
  go_wp2_with (fail)
  refine (HA.out _).mono ?_
  rintro r w5 ⟨rfl, g5⟩
  obtain ⟨I5, T5, E5, H5⟩ := later4 I4 T4 E4 H4 g5
  have AD := hide (fun u => addr_calls HTH.out (i := ⟨24, ca, cb2, cc2, ck⟩) HCO.out u)
  have hau : U32 (addrM (s.side i).t ⟨24, ca, cb2, cc2, ck⟩) := addr_u32 HTH.out HCO.out
  clear j0 HA I4 T4 E4 H4 g5
  obtain ⟨ma, mc, hmv, -, -, -, -⟩ := own_at H5.out.mem
  simp only at hmv
  subst hmv
  have hT := T5.out
  have iT2 := IT2.out
  obtain ⟨j0, j1, j2, j3, j4⟩ := five I5.out
  go_wp2_with (first
    | (refine wpList_load_row rfl 46 _ rfl tx rfl 46 (thC (s.side i).t) (0, 0) _ hT Tryz.underlying46 rfl iT2 ?_))
  refine (AD.out _).mono ?_
  rintro r w6 ⟨rfl, g6⟩
  obtain ⟨I6, T6, E6, H6⟩ := later4 I5 T5 E5 H5 g6
  clear j0 j1 j2 j3 j4 hT iT2 AD I5 T5 E5 H5 g6
  have hwa := wrap_u32 hau
  have c3 := H6.out.box.cell (o := 3) (v := .slice ma s.mem.length mc) rfl
  obtain ⟨m, hm⟩ := Int.eq_ofNat_of_zero_le hau.1
  rw [hm] at hwa hin ⊢
  have HM := hide hm
  have hmm : m < s.mem.length := by have := HN.out; omega
  have hm1 : ¬ (s.mem.length : Int) ≤ m := by omega
  have q3 := E6.out.cell (o := 3) (v := .int .i64 0) rfl
  have f3 := E6.out.free 3
  have b7 := E6.out.set 3 (.int .i64 (m : Int))
  have kq := Kp.setCell w6 ex 3 (.int .i64 (m : Int))
  have t7 := T6.out.kept kq (fun z => (T6.out.apart E6.out (by decide)) (by simpa using z))
  have i7 := I6.out.kept kq (fun z => (I6.out.apart E6.out (by decide)) (by simpa using z))
  have h7 := H6.out.asideV E6.out hexb hexs kq
  have j0 := I6.out.cell (o := 0) (v := .int .i64 24) rfl
  clear hau hin hm kq
  go_upto_region 16 with (fail)
  generalize w6.setCell ⟨ex, 3, none⟩ (.int .i64 (m : Int)) = w7 at b7 t7 i7 h7 ⊢
  have I7 := hide i7
  have T7 := hide t7
  have E7 := hide (show Has w7 ex (evA ⟨0, i, (pn : Int), m, 0, 0, 0, false⟩) 79 from b7)
  have H7 := hide h7
  clear b7 t7 i7 h7 q3 f3 c3 j0 I6 T6 E6 H6 hwa
  obtain ⟨bb, bc, ba, bcc, rfl, ci, c2, c4, c7⟩ := buf7 H7.out hi
  have j0 := I7.out.cell (o := 0) (v := .int .i64 24) rfl
  have hb := HB0.out
  have l1 : ¬ (0 : Int) < ((s.side i).buf.length : Int) := by omega
  have l2 : decide ((0 : Int) < ((s.side i).buf.length : Int)) = false := by simp [hb]
  have l3 : decide (0 < (s.side i).buf.length) = false := by simp [hb]
  clear hb
  generalize hbng : (s.side i).buf.length = bn at ci l1 l2 l3
  go_upto_region 17 with (fail)
  go_quiet (fail)
  have g8 := (Gr.refl w7).drewN nq
  obtain ⟨I8, T8, E8, H8⟩ := later4 I7 T7 E7 H7 g8
  clear ci c2 c4 c7 j0 l1 l2 l3 g8 I7 T7 E7 H7 hbng
  generalize w7.drewN nq = w8 at I8 T8 E8 H8 ⊢
  obtain ⟨an, rfl, han⟩ := reg_nat (right_a HRI.out)
  have han' : (an : Int) < 8 := by omega
  have han0 : ¬ (an : Int) < 0 := by omega
  have hpw : pn < 100000 := by omega
  obtain ⟨j0, j1, j2, j3, j4⟩ := five I8.out
  have d0 := T8.out.cell (thC_pc (s.side i).t)
  rw [HPC.out] at d0
  have cr := T8.out.cell (thC_reg HTH.out an han)
  have rf := T8.out.free (1 + an)
  obtain ⟨n, hrn, hn⟩ := u32_nat (HTH.out.reg (an : Int))
  have hn8 : (s.sift m n).out.length ≤ 8 := by
    have := (Kq.siftS_len (Kq.stW m) (Kq.nxW m) n s.slp).2
    have h8 := Kn.few 8 (s.slp.map Ent.a) HF.out.slp.1 (fun z hz => by obtain ⟨y, hy, rfl⟩ := List.mem_map.1 hz; exact HF.out.slp.2 y hy)
    rw [List.length_map] at h8
    exact Nat.le_trans this h8
  have hs8 : s.slp.length ≤ 8 := by
    have h8 := Kn.few 8 (s.slp.map Ent.a) HF.out.slp.1 (fun z hz => by obtain ⟨y, hy, rfl⟩ := List.mem_map.1 hz; exact HF.out.slp.2 y hy)
    rwa [List.length_map] at h8
  have HO : Hid (∀ z ∈ (s.sift m n).out, 0 ≤ z ∧ z < s.sides.length) := fun z hz => by
    rcases sift_out _ _ s.slp ⟨n, [], []⟩ z hz with y | ⟨x, hx, rfl⟩
    · cases y
    · exact ⟨(HF.out.slp.2 x hx).1, HF.out.few x hx⟩
  have HS : Hid (s.step N i = (((s.sift m n).out.foldl Ms.rise (s.setQ (s.sift m n).left)).setT i (((s.side i).t.put an ((s.sift m n).out.length : Int)).at ((pn : Int) + 1))).note i ⟨9, i, (pn : Int), m, ((s.sift m n).out.length : Int), 0, 0, false⟩) := by
    show _ = _
    rw [HGO.out]
    show ((s.wake (addrM (s.side i).t ⟨24, an, cb2, cc2, ck⟩) ((s.side i).t.reg (an : Int))).setT i (((s.side i).t.put an (s.woken (addrM (s.side i).t ⟨24, an, cb2, cc2, ck⟩) ((s.side i).t.reg (an : Int)))).at ((s.side i).t.pc + 1))).note i ⟨9, 0, (s.side i).t.pc, addrM (s.side i).t ⟨24, an, cb2, cc2, ck⟩, s.woken (addrM (s.side i).t ⟨24, an, cb2, cc2, ck⟩) ((s.side i).t.reg (an : Int)), 0, 0, false⟩ = _
    rw [HPC.out, HM.out, hrn]
    have hw : s.woken m n = ((s.sift m n).out.length : Int) := by
      unfold Ms.woken
      rw [Int.toNat_natCast, IntKind.wrap_u32]
      omega
    rw [hw]
    rfl
  rw [hrn] at cr
  obtain ⟨sa, sc, hsv, hse, -, -⟩ := Kn.Eown.at (show Kn.Eown w8 k.w0.heap.size sv s.slp from H8.out.slp)
  subst hsv
  have RW : Hid (Calls Tryz.prog 56 #[.slice sa s.slp.length sc, .int .i64 (m : Int), .int .u32 (n : Int)] w8 (Kn.RWakeP w8 (s.sift m n))) := Kn.rwake_calls sa sc s.slp (by omega) (m : Int) n hn w8 hse
  generalize s.sift m n = s3 at hn8 HO HS RW
  have HN8 := hide hn8
  have c5 := H8.out.box.cell (o := 5) (v := .slice sa s.slp.length sc) rfl
  clear HGO HM hn8 hs8 hse
  go_upto_region 72 with (fail)
  go_wp2_with (fail)
  refine RW.out.mono ?_
  rintro r' wa ⟨vl, vo, ⟨rfl, ga⟩, oe, on⟩
  obtain ⟨la, lc, rfl, -⟩ := Kn.Eown.at oe
  obtain ⟨ad, cap, rfl, hna, -, hlow⟩ := on.at
  have hgl : k.g < w8.heap.size := H8.out.box.lt
  have HB := hide (H8.out.later ga)
  have f5 := HB.out.box.free 5
  have c5b := HB.out.box.cell (o := 5) (v := .slice sa s.slp.length sc) rfl
  have hq := HB.out.setQ s3.left (.slice la s3.left.length lc) (own_lower oe H8.out.sz)
  have kq := Kp.setCell wa k.g 5 (.slice la s3.left.length lc)
  have ta := (T8.out.later ga).kept kq (fun z => ((T8.out.later ga).apart HB.out.box (by decide)) (by simpa using z))
  have ea := (E8.out.later ga).kept kq (fun z => ((E8.out.later ga).apart HB.out.box (by decide)) (by simpa using z))
  have ia := (I8.out.later ga).kept kq (fun z => ((I8.out.later ga).apart HB.out.box (by decide)) (by simpa using z))
  have na := hna.kept kq (fun a ha => by
    have h1 := hlow a ha
    intro hm
    have : a.block = k.g := by simpa using hm
    omega)
  have HLOW := hide hlow
  have htl : tb < w8.heap.size := by
    obtain ⟨b', c', C', e, -, hC, -⟩ := H8.out.thAt (by omega)
    simp only [Value.slice.injEq, Option.some.injEq, Addr.mk.injEq] at e
    rw [e.1.1]
    exact hC.lt
  clear c5 hna hlow kq oe on
  go_upto_region 74 with (fail)
  clear f5 c5b HB ga
  have HR : Hid (WkR k ⟨.slice (some ⟨tb, 0, none⟩) s.sides.length tc, .slice (some ⟨bb, 0, none⟩) s.sides.length bc, .slice ma s.mem.length mc, .slice la s3.left.length lc, ev, bl⟩ (s.setQ s3.left) s3.out ad tx ex ix (thC (s.side i).t) (evA ⟨0, i, (pn : Int), m, 0, 0, 0, false⟩) (insA ⟨24, an, cb2, cc2, ck⟩) 0 (wa.setCell ⟨k.g, 5, none⟩ (.slice la s3.left.length lc))) := ⟨hq, ⟨ta, ea, ia⟩, na⟩
  generalize wa.setCell ⟨k.g, 5, none⟩ (.slice la s3.left.length lc) = wb at HR ⊢
  clear hq ta ea ia na cr rf d0 j0 j1 j2 j3 j4 T8 E8 H8 I8
  go_wp2_with (fail)
  go_loopw [16] (fun q wr => ∃ j : Nat, j ≤ s3.out.length ∧ q = .int .i64 j ∧ Hid (WkR k ⟨.slice (some ⟨tb, 0, none⟩) s.sides.length tc, .slice (some ⟨bb, 0, none⟩) s.sides.length bc, .slice ma s.mem.length mc, .slice la s3.left.length lc, ev, bl⟩ (s.setQ s3.left) s3.out ad tx ex ix (thC (s.side i).t) (evA ⟨0, i, (pn : Int), m, 0, 0, 0, false⟩) (insA ⟨24, an, cb2, cc2, ck⟩) j wr)) (fun q _ => s3.out.length - (intOf q).toNat)
  case atStart => exact ⟨0, by omega, rfl, HR.out⟩
  case round =>
    clear HR
    obtain ⟨j, hj, rfl, hR⟩ := hrel
    by_cases hlt : j < s3.out.length
    · have hn8 := HN8.out
      have hlt' : (j : Int) < s3.out.length := by omega
      have HT := hide (take_snoc s3.out j hlt (s.setQ s3.left))
      obtain ⟨z0, z1⟩ := HO.out (s3.out.getD j 0) (by rw [List.getD_eq_getElem?_getD, List.getElem?_eq_getElem hlt]; exact List.getElem_mem hlt)
      obtain ⟨hM, ⟨hT, hE, hI⟩, hnu⟩ := hR.out
      obtain ⟨b, off, rfl, hca⟩ := hnu.get hlt
      generalize s3.out.getD j 0 = z at hca HT z0 z1
      obtain ⟨q, rfl⟩ : ∃ q : Nat, z = q := ⟨z.toNat, by omega⟩
      have hqn : q < s.sides.length := by omega
      have hq0 : ¬ (q : Int) < 0 := by omega
      have hlen : ((s3.out.take j).foldl Ms.rise (s.setQ s3.left)).sides.length = s.sides.length := rises_len _ _
      have hMd := hM.later (Gr.refl wr).drew
      have hcd := cell_later (Gr.refl wr).drew hca
      obtain ⟨st0, st1⟩ := hMd.stCell (b := tb) (c := tc) (by rw [hlen]) (i := q) (by rw [hlen]; exact hqn)
      have q1 := hMd.box.cell (o := 1) (v := .slice (some ⟨tb, 0, none⟩) s.sides.length tc) rfl
      obtain ⟨tb', tc', C9, htv, -, hC9, -⟩ := hMd.thAt (by rw [hlen]; omega)
      simp only [Value.slice.injEq, Option.some.injEq, Addr.mk.injEq] at htv
      obtain rfl : tb' = tb := htv.1.1.symm
      have h2 := hMd.setSt (b := tb') (c := tc) (by rw [hlen]) q (by rw [hlen]; exact hqn) 0
      have kq := Kp.setCell wr.drew tb' (q * 10 + 9) (.int .i64 0)
      have t2 := hT.drew.kept kq (fun z => HTX.out (mem_ob.2 (by have e : tx = tb' := (by simpa using z); rw [e]; rfl)))
      have e2 := hE.drew.kept kq (fun z => (hE.drew.apart hC9 (by decide)) (by simpa using z))
      have i2 := hI.drew.kept kq (fun z => (hI.drew.apart hC9 (by decide)) (by simpa using z))
      have n2 := (hnu.later (Gr.refl wr).drew).kept kq (fun a ha => by
        have h1 := HLOW.out a ha
        intro hm
        have e : a.block = tb' := by simpa using hm
        omega)
      have HR2 : Hid (WkR k ⟨.slice (some ⟨tb', 0, none⟩) s.sides.length tc, .slice (some ⟨bb, 0, none⟩) s.sides.length bc, .slice ma s.mem.length mc, .slice la s3.left.length lc, ev, bl⟩ (s.setQ s3.left) s3.out (some ⟨b, off, none⟩) tx ex ix (thC (s.side i).t) (evA ⟨0, i, (pn : Int), m, 0, 0, 0, false⟩) (insA ⟨24, an, cb2, cc2, ck⟩) (j + 1) (wr.drew.setCell ⟨tb', q * 10 + 9, none⟩ (.int .i64 0))) := ⟨by rw [HT.out]; exact h2, ⟨t2, e2, i2⟩, n2⟩
      clear hM hT hE hI hnu hR h2 t2 e2 i2 n2 kq hMd hca z0 z1 htv
      go_upto_region 77 with (fail)
      refine begin_late 11 [10] (fun w' => w' = wr.drew) (by kernel_rfl) rfl ?_
      have hH : wr.drew = wr.drew := rfl
      refine AnyL.pp 0 428 (.pointer (some ⟨k.g, 0, none⟩)) rfl rfl (by kernel_rfl) (fun _ _ _ h => h) (fun _ => by go_simp) hH ?_
      simp only [pz, pz0, pzs]
      refine AnyL.pp 1 429 (.pointer (some ⟨k.g, 0, none⟩)) rfl rfl (by kernel_rfl) (fun _ _ _ h => h) (fun _ => by go_simp) hH ?_
      simp only [pz, pz0, pzs]
      refine AnyL.pp 2 430 (.pointer (some ⟨k.g, 1, none⟩)) rfl rfl (by kernel_rfl) (fun _ _ _ h => h) (fun _ => by go_simp) hH ?_
      simp only [pz, pz0, pzs]
      refine AnyL.tt 3 431 (.slice (some ⟨tb', 0, none⟩) s.sides.length tc) rfl rfl (by kernel_rfl) (fun _ _ _ h => h) (fun w' hw' => by subst hw'; go_simp) hH ?_
      simp only [pz, pz0, pzs]
      refine AnyL.pp 4 432 (.slice (some ⟨b, off, none⟩) s3.out.length cap) rfl rfl (by kernel_rfl) (fun _ _ _ h => h) (fun _ => by go_simp) hH ?_
      simp only [pz, pz0, pzs]
      refine AnyL.pp 5 433 (.int .i64 j) rfl rfl (by kernel_rfl) (fun _ _ _ h => h) (fun _ => by go_simp) hH ?_
      simp only [pz, pz0, pzs]
      refine AnyL.pp 6 434 (.pointer (some ⟨b, off + j, none⟩)) rfl rfl (by kernel_rfl) (fun _ _ _ h => h) (fun _ => by go_simp) hH ?_
      simp only [pz, pz0, pzs]
      refine AnyL.tt 7 435 (.int .i64 q) rfl rfl (by kernel_rfl) (fun _ _ _ h => h) (fun w' hw' => by subst hw'; go_simp) hH ?_
      simp only [pz, pz0, pzs]
      refine AnyL.pp 8 436 (.pointer (some ⟨tb', q * 10, none⟩)) rfl rfl (by kernel_rfl) (fun _ _ _ h => h) (fun _ => by go_simp) hH ?_
      simp only [pz, pz0, pzs]
      refine AnyL.pp 9 437 (.pointer (some ⟨tb', q * 10 + 9, none⟩)) rfl rfl (by kernel_rfl) (fun _ _ _ h => h) (fun _ => by go_simp) hH ?_
      simp only [pz, pz0, pzs]
      refine AnyL.one 10 (by kernel_rfl) rfl (by kernel_rfl) ?_
      refine wp_store_int rfl _ _ rfl tb' (q * 10 + 9) (by kernel_rfl) 0 (by kernel_rfl) _ st0 st1 ?_
      refine ⟨late (by kernel_rfl), ?_⟩
      refine AnyL.done (by kernel_rfl) ?_
      clear st0 st1 q1 hC9 hcd hH hq0 hlen
      generalize wr.drew.setCell ⟨tb', q * 10 + 9, none⟩ (.int .i64 0) = wq at HR2 ⊢
      go_wp2_with (fail)
      exact ⟨⟨j + 1, by omega, by go_num, HR2.out⟩, by simp [intOf]; omega⟩
    · obtain rfl : j = s3.out.length := by omega
      obtain ⟨hM, ⟨hT, hE, hI⟩, -⟩ := hR.out
      rw [List.take_length] at hM
      have HA := hide hM
      have TA := hide hT
      have EA := hide hE
      have IA := hide hI
      have hn8 := HN8.out
      have HUL : U32 (s3.out.length : Int) := ⟨by omega, by omega⟩
      have HOK9 := hide (ThOk.put HTH.out (an : Int) (s3.out.length : Int) HUL)
      clear hM hT hE hI hR HUL
      have q0 := EA.out.cell (o := 0) (v := .int .i64 0) rfl
      have f0 := EA.out.free (0)
      have q1 := EA.out.cell (o := 4) (v := .int .u32 0) rfl
      have f1 := EA.out.free (4)
      have b9 : Has ((wr.setCell ⟨ex, 0, none⟩ (.int .i64 9)).setCell ⟨ex, 4, none⟩ (.int .u32 (s3.out.length : Int))) ex (evA ⟨9, i, (pn : Int), m, (s3.out.length : Int), 0, 0, false⟩) 79 := by
        have z := ((EA.out.set (0) (.int .i64 9)).set (4) (.int .u32 (s3.out.length : Int)))
        exact z
      have kq : Kp [ex] wr ((wr.setCell ⟨ex, 0, none⟩ (.int .i64 9)).setCell ⟨ex, 4, none⟩ (.int .u32 (s3.out.length : Int))) := (Kp.setCell wr ex (0) (.int .i64 9)).trans (Kp.setCell _ ex (4) (.int .u32 (s3.out.length : Int))) (fun _ h => h) (fun _ h => .inl h)
      have o9 := TA.out.kept kq (fun z => (TA.out.apart EA.out (by decide)) (by simpa using z))
      have h9 := HA.out.asideV EA.out hexb hexs kq
      have i9 := IA.out.kept kq (fun z => (IA.out.apart EA.out (by decide)) (by simpa using z))
      clear kq
      go_upto_region 79 with (fail)
      generalize (wr.setCell ⟨ex, 0, none⟩ (.int .i64 9)).setCell ⟨ex, 4, none⟩ (.int .u32 (s3.out.length : Int)) = wd at b9 o9 h9 i9 ⊢
      have EB := hide b9
      have TB := hide o9
      have HB := hide h9
      have IB := hide i9
      clear b9 o9 h9 i9  TA EA HA IA q0 f0 q1 f1
      have j1 := IB.out.cell (o := 1) (v := .int .i64 (an : Int)) rfl
      have j4 := EB.out.cell (o := 4) (v := .int .u32 (s3.out.length : Int)) rfl
      have q0 := TB.out.cell (thC_reg HTH.out an han)
      have f0 := TB.out.free (1 + an)
      have b9 : Has (wd.setCell ⟨tx, 1 + an, none⟩ (.int .u32 (s3.out.length : Int))) tx (thC ((s.side i).t.put an (s3.out.length : Int))) 46 := by
        have z := (TB.out.set (1 + an) (.int .u32 (s3.out.length : Int)))
        rw [thC_put HTH.out an han] at z
        exact z
      have kq : Kp [tx] wd (wd.setCell ⟨tx, 1 + an, none⟩ (.int .u32 (s3.out.length : Int))) := Kp.setCell wd tx (1 + an) (.int .u32 (s3.out.length : Int))
      have o9 := EB.out.kept kq (fun z => (EB.out.apart TB.out (by decide)) (by simpa using z))
      have h9 := HB.out.asideT TB.out htxB HTX.out kq
      have i9 := IB.out.kept kq (fun z => (IB.out.apart TB.out (by decide)) (by simpa using z))
      clear kq
      go_upto_region 89 with (fail)
      generalize wd.setCell ⟨tx, 1 + an, none⟩ (.int .u32 (s3.out.length : Int)) = w9 at b9 o9 h9 i9 ⊢
      have T9 := hide b9
      have E9 := hide o9
      have H9 := hide h9
      have I9 := hide i9
      clear b9 o9 h9 i9 j1 j4 TB EB HB IB q0 f0
      clear I9
      have z0 := T9.out.cell (thC_pc ((s.side i).t.put an (s3.out.length : Int)))
      have zf := T9.out.free 0
      have tq := T9.out.set 0 (.int .i64 ((pn : Int) + 1))
      rw [thC_at] at tq
      have kq := Kp.setCell w9 tx 0 (.int .i64 ((pn : Int) + 1))
      have eq := E9.out.kept kq (fun z => (E9.out.apart T9.out (by decide)) (by simpa using z))
      have hq := H9.out.asideT T9.out htxB HTX.out kq
      clear kq
      go_upto_region 90 with (fail)
      generalize w9.setCell ⟨tx, 0, none⟩ (.int .i64 ((pn : Int) + 1)) = w10 at tq eq hq ⊢
      have HK := hide (ThOk.at' HOK9.out ((pn : Int) + 1))
      generalize hth9 : (((s.side i).t.put an (s3.out.length : Int))).at ((pn : Int) + 1) = t9 at tq HK HS
      have h11 := hq.later (Gr.refl w10).drew
      have t11 := tq.drew
      have e11 := eq.drew
      have q1 := h11.box.cell (o := 1) (v := .slice (some ⟨tb, 0, none⟩) s.sides.length tc) rfl
      have thr := thr12 h11 rfl (show (s3.out.foldl Ms.rise (s.setQ s3.left)).sides.length = s.sides.length from rises_len _ _) hi HK.out
      have iT2 : (Tryz.prog.info? 46).map (·.size) = some (thC t9).size := infoT_of HK.out
      have one := thC_one t9
      clear z0 zf tq eq hq hth9
      refine begin_late 8 [7] (fun w' => w' = w10.drew) (by kernel_rfl) rfl ?_
      have hH : w10.drew = w10.drew := rfl
      refine AnyL.pp 0 483 (.pointer (some ⟨k.g, 0, none⟩)) rfl rfl (by kernel_rfl) (fun _ _ _ h => h) (fun _ => by go_simp) hH ?_
      simp only [pz, pz0, pzs]
      refine AnyL.pp 1 484 (.pointer (some ⟨k.g, 0, none⟩)) rfl rfl (by kernel_rfl) (fun _ _ _ h => h) (fun _ => by go_simp) hH ?_
      simp only [pz, pz0, pzs]
      refine AnyL.pp 2 485 (.pointer (some ⟨k.g, 1, none⟩)) rfl rfl (by kernel_rfl) (fun _ _ _ h => h) (fun _ => by go_simp) hH ?_
      simp only [pz, pz0, pzs]
      refine AnyL.tt 3 486 (.slice (some ⟨tb, 0, none⟩) s.sides.length tc) rfl rfl (by kernel_rfl) (fun _ _ _ h => h) (fun w' hw' => by subst hw'; go_simp) hH ?_
      simp only [pz, pz0, pzs]
      refine AnyL.pp 4 487 (.int .i64 i) rfl rfl (by kernel_rfl) (fun _ _ _ h => h) (fun _ => by go_simp) hH ?_
      simp only [pz, pz0, pzs]
      refine AnyL.yy 5 488 (.agg (thC t9)) rfl rfl (by kernel_rfl) (fun _ _ _ h => h) (yieldsIf_load_mid (by kernel_rfl) 46 _ rfl tx 0 rfl (thL t9) _ (fun w' hw' => by subst hw'; exact fun j v hv => (by rw [Nat.zero_add]; exact t11.cell (by simpa [thC] using hv))) Tryz.underlying46 rfl (infoT10 HK.out)) hH ?_
      simp only [pz, pz0, pzs]
      refine AnyL.pp 6 489 (.pointer (some ⟨tb, i * 10, none⟩)) rfl rfl (by kernel_rfl) (fun _ _ _ h => h) (fun _ => by go_simp) hH ?_
      simp only [pz, pz0, pzs]
      refine AnyL.one 7 (by kernel_rfl) rfl (by kernel_rfl) ?_
      refine wp_store_mid 46 _ _ rfl tb (i * 10) (thC t9) (by kernel_rfl) (by kernel_rfl) thr iT2 one ?_
      refine ⟨late (by kernel_rfl), ?_⟩
      refine AnyL.done (by kernel_rfl) ?_
      obtain ⟨h12, e12⟩ := late12 h11 rfl (show (s3.out.foldl Ms.rise (s.setQ s3.left)).sides.length = s.sides.length from rises_len _ _) hi HK.out e11
      replace h12 : Ws k _ (((s3.out.foldl Ms.rise (s.setQ s3.left))).setT i t9) (w10.drew.setCells tb (i * 10) (thC t9).toList) := h12
      clear h11 t11 e11 q1 thr iT2 one hH
      generalize w10.drew.setCells tb (i * 10) (thC t9).toList = w12 at h12 e12 ⊢
      have z0 := e12.cell (o := 0) (v := .int .i64 9) rfl
      clear z0
      have z0 := e12.cell (o := 0) (v := .int .i64 9) rfl
      go_upto_region 92 with (fail)
      clear z0
      have h13 := h12.later (Gr.refl w12).drew
      have e13 := e12.drew
      obtain ⟨ad, cap, he, -, -, -, -⟩ := own_at h13.evs
      simp only at he
      have neg : k.g ∉ ob ev := fun z => own_aside h13.evs h13.box (by decide) z
      have HX := hide (fun w' (q : Kp (ob ev) w12.drew w') => e13.kept q hexs)
      have HE := hide (fun w' (q : Kp (ob ev) w12.drew w') => (h13.box.kept q neg).cell (o := 6) (v := ev) rfl)
      refine begin_late 11 [10] (fun w' => Kp (ob ev) w12.drew w') (by kernel_rfl) rfl ?_
      have hH : Kp (ob ev) w12.drew w12.drew := Kp.refl _ _
      refine AnyL.pp 0 493 (.pointer (some ⟨k.g, 0, none⟩)) rfl rfl (by kernel_rfl) (fun _ _ _ h => h) (fun _ => by go_simp) hH ?_
      simp only [pz, pz0, pzs]
      refine AnyL.pp 1 494 (.pointer (some ⟨k.g, 0, none⟩)) rfl rfl (by kernel_rfl) (fun _ _ _ h => h) (fun _ => by go_simp) hH ?_
      simp only [pz, pz0, pzs]
      refine AnyL.pp 2 495 (.pointer (some ⟨k.g, 0, none⟩)) rfl rfl (by kernel_rfl) (fun _ _ _ h => h) (fun _ => by go_simp) hH ?_
      simp only [pz, pz0, pzs]
      refine AnyL.pp 3 496 (.pointer (some ⟨k.g, 6, none⟩)) rfl rfl (by kernel_rfl) (fun _ _ _ h => h) (fun _ => by go_simp) hH ?_
      simp only [pz, pz0, pzs]
      refine AnyL.tt 4 497 (ev) rfl rfl (by kernel_rfl) (fun _ _ _ h => h) (fun w' hw' => by have c1 := HE.out w' hw'; go_simp) hH ?_
      simp only [pz, pz0, pzs]
      refine AnyL.yy 5 498 (.agg (evA ⟨9, i, (pn : Int), (m : Int), (s3.out.length : Int), 0, 0, false⟩)) rfl rfl (by kernel_rfl) (fun _ _ _ h => h) (take_ev (by kernel_rfl) _ rfl ex rfl ⟨9, i, (pn : Int), (m : Int), (s3.out.length : Int), 0, 0, false⟩ (fun w' hw' => HX.out w' hw')) hH ?_
      simp only [pz, pz0, pzs]
      refine AnyL.one 6 (by kernel_rfl) rfl (by kernel_rfl) ?_
      refine wp_made (some 499) rfl _ _ (build_ev _ rfl ⟨9, i, (pn : Int), (m : Int), (s3.out.length : Int), 0, 0, false⟩ (by kernel_rfl)) ?_
      refine ⟨fun _ => (((Gr.refl w12.drew).alloc (evA ⟨9, i, (pn : Int), (m : Int), (s3.out.length : Int), 0, 0, false⟩) 79).kp _), ?_⟩
      simp only [pz, pz0, pzs]
      obtain ⟨e'', w'', hr2, hk2, ⟨ea2, ec2, hev2⟩, hws⟩ := h13.gather (ty := 39) (by have q := HF.out.evs; show (s3.out.foldl Ms.rise (s.setQ s3.left)).evs.length ≤ 95000; rw [rises_evs]; show s.evs.length ≤ 95000; omega) i ⟨9, i, (pn : Int), (m : Int), (s3.out.length : Int), 0, 0, false⟩ rfl
      subst hev2
      refine AnyL.one 7 (by kernel_rfl) rfl (by kernel_rfl) ?_
      refine wp_app (some 500) rfl _ _ 39 rfl ev _ (by kernel_rfl) rfl _ w'' hr2 ?_
      refine ⟨fun _ => hk2, ?_⟩
      simp only [pz, pz0, pzs]
      replace hH := hk2
      refine AnyL.pp 8 501 (.pointer (some ⟨k.g, 0, none⟩)) rfl rfl (by kernel_rfl) (fun _ _ _ h => h) (fun _ => by go_simp) hH ?_
      simp only [pz, pz0, pzs]
      refine AnyL.pp 9 502 (.pointer (some ⟨k.g, 6, none⟩)) rfl rfl (by kernel_rfl) (fun _ _ _ h => h) (fun _ => by go_simp) hH ?_
      simp only [pz, pz0, pzs]
      have cg := HE.out w'' hk2
      rw [he] at cg
      have cf := (h13.box.kept hk2 neg).free 6
      refine AnyL.one 10 (by kernel_rfl) rfl (by kernel_rfl) ?_
      refine wp_store_evs rfl _ _ rfl k.g 6 (by kernel_rfl) ea2 (((s3.out.foldl Ms.rise (s.setQ s3.left)).setT i t9).evs.length + 1) ec2 (by kernel_rfl) _ _ _ cg cf ?_
      refine ⟨late (by kernel_rfl), ?_⟩
      refine AnyL.done (by kernel_rfl) ?_
      have HW := hide (hws _ rfl)
      clear hws hk2 hr2 hH HX HE cg cf h13 e13 h12 e12
      generalize w''.setCell ⟨k.g, 6, none⟩ (.slice ea2 (((s3.out.foldl Ms.rise (s.setQ s3.left)).setT i t9).evs.length + 1) ec2) = w15 at HW ⊢
      go_wp2_with (fail)
      go_end0
      exact ⟨rfl, _, by rw [HS.out]; exact HW.out⟩
end Go.Proofs.YtfhplbmgjgfihaaGreatDoor.Wl
