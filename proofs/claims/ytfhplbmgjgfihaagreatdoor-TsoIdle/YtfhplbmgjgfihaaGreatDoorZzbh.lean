/-
  What a step of a thread finds in the document's world, laid out once for all instructions. No condition but what each law names.
-/
import Derived.Test.YtfhplbmgjgfihaaGreatDoorZzbb
import Derived.Test.YtfhplbmgjgfihaaGreatDoorZzaz
import Derived.Test.YtfhplbmgjgfihaaGreatDoorZzaa
import Derived.BigQuiet
import Derived.Deep.QuietTactic
namespace Go.Proofs.YtfhplbmgjgfihaaGreatDoor.Wl
open Go.Proofs.YtfhplbmgjgfihaaGreatDoor.Mc Go.ChangeShapes Go.WideShapes Go.ChangeAt Go.RowKit
set_option linter.unusedVariables false
theorem pre1 {k : Wk} {tv bv mv sv ev : Value} {bl : List Value} {s : Ms} {w : World} (h : Ws k ⟨tv, bv, mv, sv, ev, bl⟩ s w) (f : Fit k.p s) {i : Nat} (hi : i < s.sides.length) (hst : (s.side i).t.st = 0) :
    ∃ tb tc, tv = .slice (some ⟨tb, 0, none⟩) s.sides.length tc ∧ k.w0.heap.size ≤ tb ∧ w.cell? ⟨k.g, 1, none⟩ = some (.slice (some ⟨tb, 0, none⟩) s.sides.length tc) ∧
      w.cell? ⟨tb, i * 10 + 9, none⟩ = some (.int .i64 0) ∧ w.frozen? ⟨tb, i * 10 + 9, none⟩ = false ∧ w.rangeAt tb (i * 10) (thL (s.side i).t) ∧
      (w.alloc (.cells (thC thZ) 46)).there w.heap.size 0 (thC (s.side i).t).size ∧
      Hid (Has ((w.alloc (.cells (thC thZ) 46)).setCells w.heap.size 0 (thC (s.side i).t).toList) w.heap.size (thC (s.side i).t) 46) ∧
      Hid (Gr w ((w.alloc (.cells (thC thZ) 46)).setCells w.heap.size 0 (thC (s.side i).t).toList)) ∧
      Hid (w.heap.size ∉ ob (.slice (some ⟨tb, 0, none⟩) s.sides.length tc)) ∧ Hid (∀ y, w.heap.size ≤ y → y ∉ ob ev) ∧ Hid (ThOk (s.side i).t) := by
  have c1 := h.box.cell (o := 1) (v := tv) rfl
  obtain ⟨tb, tc, C, htv, hBt, hCt, htr⟩ := h.thAt (by omega)
  simp only at htv
  subst htv
  obtain ⟨cs, cfz⟩ := h.stCell rfl hi
  have hth := f.th i hi
  rw [hst] at cs
  have RT : w.rangeAt tb (i * 10) (thL (s.side i).t) := fun j u hv => by
    rw [← thR_is hth] at hv
    have hj : j < 10 := by have := (List.getElem?_eq_some_iff.1 hv).1; rwa [thR_len] at this
    have q := htr.cell thR_len (by rw [ths_len]; exact hi) thZ j hj
    rw [Nat.zero_add, ths_at s hi] at q
    exact q.trans hv
  have t0 := Has.new w (thC thZ) 46
  have g0 := (Gr.refl w).alloc (thC thZ) 46
  have hzs : (thC thZ).size = 10 := rfl
  have hts : (thC (s.side i).t).size = 10 := thC_size hth
  have hz : Kq.setA (thC thZ) 0 (thC (s.side i).t).toList = thC (s.side i).t := by
    have := Kq.setA_seg (thC (s.side i).t).toList [] (thC thZ).toList [] (by rw [Array.length_toList, Array.length_toList, hts, hzs])
    simpa using this
  have t1 := Kq.setCells_has (thC (s.side i).t).toList 0 _ _ t0
  rw [hz] at t1
  exact ⟨tb, tc, rfl, hBt, c1, cs, cfz, RT, t0.there 0 _ (by rw [hts, hzs]; omega), hide t1,
    hide (Kp.gr g0 (Kq.kp_setCells (b := w.heap.size) (thC (s.side i).t).toList 0 (w.alloc (.cells (thC thZ) 46))) (by simp)),
    hide (fun z => Nat.lt_irrefl _ (own_lt h.th z)), hide (fun y hy z => by have := own_lt h.evs z; omega), hide hth⟩

theorem pre2 {k : Wk} {v : Wv} {s : Ms} {w w1 : World} (h : Ws k v s w) (f : Fit k.p s) (g : Gr w w1) {i : Nat} (hi : i < s.sides.length) {x : Cd} (hxc : k.p.codes.getD i cd0 = x)
    {tx : Nat} (T : Has w1 tx (thC (s.side i).t) 46) {pn : Nat} (hpc : (s.side i).t.pc = pn) :
    i < k.p.codes.length ∧ x.l.length ≤ 100000 ∧ Hid ((s.side i).code = x.l) ∧ Hid (CdAt x k.w0) ∧ w1.cell? ⟨tx, 0, none⟩ = some (.int .i64 pn) ∧
      ∃ cb co, w1.cell? ⟨k.g, 0, none⟩ = some (.slice (some ⟨cb, co, none⟩) k.p.codes.length k.p.cc) ∧ w1.cell? ⟨cb, co + i, none⟩ = some (.slice x.a x.l.length x.c) := by
  have h1 := h.later g
  have p1 := h1.at.row
  have hic : i < k.p.codes.length := by rw [f.num]; exact hi
  have c0 := h1.box.cell (o := 0) (v := .slice k.p.ca k.p.codes.length k.p.cc) rfl
  obtain ⟨cb, co, hca, -⟩ := p1.get (by rw [flatOf_length codeV_len]; omega)
  rw [hca] at c0 p1
  have cC := p1.cell codeV_len hic cd0 0 (by omega)
  have hm : k.p.codes.getD i cd0 ∈ k.p.codes := by rw [List.getD_eq_getElem?_getD, List.getElem?_eq_getElem hic]; exact List.getElem_mem hic
  have hxco := f.code i hi
  have hxat := h.pg.each _ hm
  have hxsh := f.short _ hm
  rw [hxc] at cC hxco hxat hxsh
  simp only [codeV, List.getElem?_cons_zero, Nat.mul_one, Nat.add_zero] at cC
  have htpc := T.cell (o := 0) (v := .int .i64 (s.side i).t.pc) rfl
  rw [hpc] at htpc
  exact ⟨hic, hxsh, hide hxco, hide hxat, htpc, cb, co, c0, cC⟩

theorem at3 {s : Ms} {N : Int} {i pn : Nat} {x : Cd} {op a b c n : Int} (hst : (s.side i).t.st = 0) (hpc : (s.side i).t.pc = pn) (hxc : (s.side i).code = x.l) (hpl : pn < x.l.length) (hcc : x.l.getD pn ins0 = ⟨op, a, b, c, n⟩) :
    Hid (stepM (port N i) (s.side i).t x.l s = atM (port N i) (s.side i).t ⟨op, a, b, c, n⟩ (x.l.length : Int) s) := by
  have H := step_at (N := N) hst (by rw [hpc, hxc]; omega)
  rw [hxc, hpc, Int.toNat_natCast, hcc] at H
  exact hide H

theorem pre3 {k : Wk} {v : Wv} {s : Ms} {w : World} (h : Ws k v s w) {x : Cd} (hx : CdAt x k.w0) {pn : Nat} (hpl : pn < x.l.length) {op a b c n : Int} (hcc : x.l.getD pn ins0 = ⟨op, a, b, c, n⟩) :
    InsOk ⟨op, a, b, c, n⟩ ∧ ∃ ib io, x.a = some ⟨ib, io, none⟩ ∧ w.cell? ⟨ib, io + pn * 5, none⟩ = some (.int .i64 op) ∧ w.cell? ⟨ib, io + pn * 5 + 1, none⟩ = some (.int .i64 a) ∧
      w.cell? ⟨ib, io + pn * 5 + 2, none⟩ = some (.int .i64 b) ∧ w.cell? ⟨ib, io + pn * 5 + 3, none⟩ = some (.int .i64 c) ∧ w.cell? ⟨ib, io + pn * 5 + 4, none⟩ = some (.int .u32 n) := by
  have xr := hx.row.later h.gr
  obtain ⟨ib, io, hia, -⟩ := xr.get (by rw [flatOf_length insL_len]; omega)
  rw [hia] at xr
  have x0 := xr.cell insL_len hpl ins0 0 (by omega)
  have x1 := xr.cell insL_len hpl ins0 1 (by omega)
  have x2 := xr.cell insL_len hpl ins0 2 (by omega)
  have x3 := xr.cell insL_len hpl ins0 3 (by omega)
  have x4 := xr.cell insL_len hpl ins0 4 (by omega)
  have hcok : InsOk (x.l.getD pn ins0) := hx.ins _ (by rw [List.getD_eq_getElem?_getD, List.getElem?_eq_getElem hpl]; exact List.getElem_mem hpl)
  rw [hcc] at x0 x1 x2 x3 x4 hcok
  simp only [insL, List.getElem?_cons_zero, List.getElem?_cons_succ, Nat.add_zero, ← Nat.add_assoc] at x0 x1 x2 x3 x4
  exact ⟨hcok, ib, io, hia, x0, x1, x2, x3, x4⟩

theorem five {w : World} {g : Nat} {op a b c n : Int} {t : TypeId} (h : Has w g (insA ⟨op, a, b, c, n⟩) t) :
    w.cell? ⟨g, 0, none⟩ = some (.int .i64 op) ∧ w.cell? ⟨g, 1, none⟩ = some (.int .i64 a) ∧ w.cell? ⟨g, 2, none⟩ = some (.int .i64 b) ∧ w.cell? ⟨g, 3, none⟩ = some (.int .i64 c) ∧ w.cell? ⟨g, 4, none⟩ = some (.int .u32 n) :=
  ⟨h.cell rfl, h.cell rfl, h.cell rfl, h.cell rfl, h.cell rfl⟩

theorem later4 {w w' : World} {a b c : Nat} {A B C : Array Value} {x y z : TypeId} {k : Wk} {v : Wv} {s : Ms} (I : Hid (Has w a A x)) (T : Hid (Has w b B y)) (E : Hid (Has w c C z)) (H : Hid (Ws k v s w)) (g : Gr w w') :
    Hid (Has w' a A x) ∧ Hid (Has w' b B y) ∧ Hid (Has w' c C z) ∧ Hid (Ws k v s w') :=
  ⟨hide (I.out.later g), hide (T.out.later g), hide (E.out.later g), hide (H.out.later g)⟩

theorem thr12 {k : Wk} {v : Wv} {s : Ms} {w : World} (h : Ws k v s w) {tb tc n : Nat} (hb : v.tv = .slice (some ⟨tb, 0, none⟩) n tc) (hn : s.sides.length = n) {i : Nat} (hi : i < n) {t : Th} (ht : ThOk t) : w.there tb (i * 10) (thC t).size := by
  subst hn
  have q := h.th
  rw [ths_len, hb] at q
  exact own_there q (i * 10) (thC t).size (by rw [thC_size ht]; omega)
theorem late12 {k : Wk} {v : Wv} {s : Ms} {w : World} (h : Ws k v s w) {tb tc n : Nat} (hb : v.tv = .slice (some ⟨tb, 0, none⟩) n tc) (hn : s.sides.length = n) {i : Nat} (hi : i < n) {t : Th} (ht : ThOk t) {ex : Nat} {E : Array Value} (e : Has w ex E 79) :
    Ws k v (s.setT i t) (w.setCells tb (i * 10) (thC t).toList) ∧ Has (w.setCells tb (i * 10) (thC t).toList) ex E 79 := by
  subst hn
  have h12 := h.setTh hb i hi t
  rw [thR_is ht] at h12
  obtain ⟨tb', tc', C9, htv9, -, hC9, -⟩ := h.thAt (by omega)
  rw [hb] at htv9
  cases htv9
  exact ⟨h12, e.kept (Kq.kp_setCells (b := tb) (thC t).toList (i * 10) w) (fun z => (e.apart hC9 (by decide)) (by simpa using z))⟩
theorem buf7 {k : Wk} {tv bv mv sv ev : Value} {bl : List Value} {s : Ms} {w : World} (h : Ws k ⟨tv, bv, mv, sv, ev, bl⟩ s w) {i : Nat} (hi : i < s.sides.length) :
    ∃ bb bc ba bcc, bv = .slice (some ⟨bb, 0, none⟩) s.sides.length bc ∧ w.cell? ⟨bb, i, none⟩ = some (.slice ba (s.side i).buf.length bcc) ∧ w.cell? ⟨k.g, 2, none⟩ = some (.slice (some ⟨bb, 0, none⟩) s.sides.length bc) ∧
      w.cell? ⟨k.g, 4, none⟩ = some (.int .i64 (s.room : Int)) ∧ w.cell? ⟨k.g, 7, none⟩ = some (.bool false) := by
  obtain ⟨bb, bc, Cb, hbv, -, -, hbr⟩ := h.bfAt (by omega)
  simp only at hbv
  subst hbv
  obtain ⟨ba, bcc, hbi, -, -⟩ := h.buf hi
  exact ⟨bb, bc, ba, bcc, rfl, row_nth hbr hbi, h.box.cell rfl, h.box.cell rfl, h.box.cell rfl⟩
end Go.Proofs.YtfhplbmgjgfihaaGreatDoor.Wl
namespace Go.Proofs.YtfhplbmgjgfihaaGreatDoor.Wl
open Go.Proofs.YtfhplbmgjgfihaaGreatDoor.Mc Go.ChangeShapes Go.WideShapes Go.ChangeAt Go.RowKit
set_option linter.unusedVariables false
set_option maxRecDepth 20000
set_option maxHeartbeats 16000000 in
theorem step_far (k : Wk) (v : Wv) (s : Ms) (w : World) (h : Ws k v s w) (f : Fit k.p s) (i : Nat) (hi : i < s.sides.length) (N : Int) (hN : N = s.mem.length) (hst : (s.side i).t.st = 0) (pn : Nat) (hpce : (s.side i).t.pc = pn)
    (x : Cd) (hxc : k.p.codes.getD i cd0 = x) (hpl : pn < x.l.length) (op ca cb2 cc2 ck : Int) (hcc : x.l.getD pn ins0 = ⟨op, ca, cb2, cc2, ck⟩) (hri : rightB op ca cb2 cc2 ck (x.l.length : Int) = true) (hna : askB op = true) (hout : ¬ addrM (s.side i).t ⟨op, ca, cb2, cc2, ck⟩ < N) :
    Calls Tryz.prog 30 #[.pointer (some ⟨k.g, 0, none⟩), .int .i64 i] w (WlP k (s.step N i)) := by
  obtain ⟨tv, bv, mv, sv, ev, bl⟩ := v
  have hi0 : ¬ (i : Int) < 0 := by omega
  have hi1 : (i : Int) < s.sides.length := by omega
  have hi2 : ¬ (s.sides.length : Int) ≤ i := by omega
  obtain ⟨tb, tc, rfl, hBt, c1, cs, cfz, RT, thr, T1, G1, HTX, HEX, HTH⟩ := pre1 h f hi hst
  have iT := infoT10 HTH.out
  have iT2 : (Tryz.prog.info? 46).map (·.size) = some (thC (s.side i).t).size := infoT_of HTH.out
  have IT2 := hide iT2
  have one := thC_one (s.side i).t
  have HH := hide h
  have HF := hide f
  have HN := hide hN
  have HST := hide hst
  have hsz := h.sz
  have HRI := hide hri
  clear h f hN hst hri
  go_enter Tryz.func30, Tryz.ntmps30
  go_upto_region 2 with (first
    | (refine wpList_load_mid rfl 46 _ rfl tb (i * 10) rfl (thL (s.side i).t) _ RT Tryz.underlying46 rfl iT ?_)
    | (refine wpList_store_mid rfl 46 _ _ rfl w.heap.size 0 (thC (s.side i).t) rfl rfl thr iT2 one ?_))
  change Code.wp _ _ _ _ ((w.alloc (.cells (thC thZ) 46)).setCells w.heap.size 0 (thC (s.side i).t).toList)
  clear thr RT iT iT2 one cs cfz c1
  generalize (w.alloc (.cells (thC thZ) 46)).setCells w.heap.size 0 (thC (s.side i).t).toList = w1 at T1 G1 ⊢
  obtain ⟨hic, hxsh, HXC, HXA, htpc, cb, co, c0, cC⟩ := pre2 HH.out HF.out G1.out hi hxc T1.out hpce
  have hic' : (i : Int) < k.p.codes.length := by omega
  have e0 := Has.new w1 (evA ⟨0, i, (pn : Int), 0, 0, 0, 0, false⟩) 79
  have g2 := (Gr.refl w1).alloc (evA ⟨0, i, (pn : Int), 0, 0, 0, 0, false⟩) 79
  have hexs := HEX.out w1.heap.size G1.out.size
  have hexb : k.w0.heap.size ≤ w1.heap.size := Nat.le_trans hsz G1.out.size
  have HPC := hide hpce
  clear hpce hxc
  go_upto_region 4 with (fail)
  change Code.wp _ _ _ _ (w1.alloc (.cells (evA ⟨0, i, (pn : Int), 0, 0, 0, 0, false⟩) 79))
  generalize w1.alloc (.cells (evA ⟨0, i, (pn : Int), 0, 0, 0, 0, false⟩) 79) = w2 at e0 g2 ⊢
  generalize w1.heap.size = ex at e0 hexs hexb ⊢
  generalize hw0s : w.heap.size = tx at T1 HTX ⊢
  have E2 := hide e0
  have T2 := hide (T1.out.later g2)
  have H2 := hide (HH.out.later (G1.out.trans g2))
  have d0 := T2.out.cell (o := 0) (v := .int .i64 (pn : Int)) (by rw [← HPC.out]; rfl)
  have htxB : k.w0.heap.size ≤ tx := by rw [← hw0s]; exact hsz
  clear c0 cC htpc e0 g2 T1 G1 hic hic' hw0s HEX
  have HAT := at3 (N := N) HST.out HPC.out HXC.out hpl hcc
  have hpl' : (pn : Int) < x.l.length := by omega
  have hpn0 : ¬ (pn : Int) < 0 := by omega
  have hpn1 : ¬ (x.l.length : Int) ≤ pn := by omega
  obtain ⟨hcok, ib, io, hia, x0, x1, x2, x3, x4⟩ := pre3 H2.out HXA.out hpl hcc
  have i0 := Has.new w2 (insA ⟨op, ca, cb2, cc2, ck⟩) 53
  have g3 := (Gr.refl w2).alloc (insA ⟨op, ca, cb2, cc2, ck⟩) 53
  have RI := hide (fun u => Nm.refright_calls op ca cb2 cc2 ck (x.l.length : Int) hcok.k0 hcok.k1 u)
  have HCO := hide hcok
  rw [hia]
  clear hcok hia hcc
  go_upto_region 7 with (fail)
  change Code.wp _ _ _ _ (w2.alloc (.cells (insA ⟨op, ca, cb2, cc2, ck⟩) 53))
  generalize w2.alloc (.cells (insA ⟨op, ca, cb2, cc2, ck⟩) 53) = w3 at i0 g3 ⊢
  generalize w2.heap.size = ix at i0 ⊢
  have I3 := hide i0
  have T3 := hide (T2.out.later g3)
  have E3 := hide (E2.out.later g3)
  have H3 := hide (H2.out.later g3)
  obtain ⟨j0, j1, j2, j3, j4⟩ := five i0
  clear d0 x0 x1 x2 x3 x4 g3 i0
  go_wp2_with (fail)
  refine (RI.out _).mono ?_
  rintro r w4 ⟨rfl, g4⟩
  rw [HRI.out]
  obtain ⟨I4, T4, E4, H4⟩ := later4 I3 T3 E3 H3 g4
  clear j0 j1 j2 j3 j4 I3 T3 E3 H3 T2 E2 H2 g4 RI
  have HA := hide (fun u => Nm.has_calls op 77 u)
  rw [Nm.has_is] at HA
  have j0 := I4.out.cell (o := 0) (v := .int .i64 op) rfl
  rw [hna] at HA
  go_wp2_with (fail)
  refine (HA.out _).mono ?_
  rintro r w5 ⟨rfl, g5⟩
  obtain ⟨I5, T5, E5, H5⟩ := later4 I4 T4 E4 H4 g5
  have AD := hide (fun u => addr_calls HTH.out (i := ⟨op, ca, cb2, cc2, ck⟩) HCO.out u)
  have hau : U32 (addrM (s.side i).t ⟨op, ca, cb2, cc2, ck⟩) := addr_u32 HTH.out HCO.out
  clear j0 HA I4 T4 E4 H4 g5
  obtain ⟨ma, mc, hmv, -, -, -, -⟩ := own_at H5.out.mem
  simp only at hmv
  subst hmv
  have hT := T5.out
  have iT2 := IT2.out
  obtain ⟨j0, j1, j2, j3, j4⟩ := five I5.out
  go_wp2_with (first
    | (refine wpList_load_row rfl 46 _ rfl tx rfl 46 (thC (s.side i).t) (0, 0) _ hT Tryz.underlying46 rfl iT2 ?_))
  refine (AD.out _).mono ?_
  rintro r w6 ⟨rfl, g6⟩
  obtain ⟨I6, T6, E6, H6⟩ := later4 I5 T5 E5 H5 g6
  clear j0 j1 j2 j3 j4 hT iT2 AD I5 T5 E5 H5 g6
  have hwa := wrap_u32 hau
  have c3 := H6.out.box.cell (o := 3) (v := .slice ma s.mem.length mc) rfl
  have HS := hide (step_ended (N := N) (s := s) (i := i) (st := 3) (kd := 13) (by
    rw [HXC.out, HAT.out]
    unfold atM inMemM
    rw [HRI.out, hna, show (port N i).size = N from rfl, decide_eq_false (by omega)]
    rfl))
  rw [HPC.out] at HS
  have hle : (s.mem.length : Int) ≤ addrM (s.side i).t ⟨op, ca, cb2, cc2, ck⟩ := by rw [← HN.out]; omega
  have EN := hide (end_calls k ⟨.slice (some ⟨tb, 0, none⟩) s.sides.length tc, bv, .slice ma s.mem.length mc, sv, ev, bl⟩ s w6 H6.out i hi (by have := HF.out.evs; omega) ⟨0, i, (pn : Int), 0, 0, 0, 0, false⟩ rfl)
  generalize addrM (s.side i).t ⟨op, ca, cb2, cc2, ck⟩ = A at hau hwa hle ⊢
  obtain ⟨hA0, hA1⟩ := hau
  have hE := E6.out
  have iE : (Tryz.prog.info? 79).map (·.size) = some (evA ⟨0, i, (pn : Int), 0, 0, 0, 0, false⟩).size := infoE8
  clear hout
  go_wp2_with (first
    | (refine wpList_load_row rfl 79 _ rfl ex rfl 79 (evA ⟨0, i, (pn : Int), 0, 0, 0, 0, false⟩) (0, 0) _ hE Tryz.underlying79 rfl iE ?_))
  refine (EN.out 3 13).mono ?_
  rintro r w7 ⟨rfl, v3, h3⟩
  have H7 := hide h3
  clear h3
  go_wp2_with (fail)
  exact bodyPost_ret (results_none rfl _ _ _) rfl ⟨rfl, _, by rw [HS.out]; exact H7.out⟩
set_option maxHeartbeats 16000000 in
theorem step_held18 (k : Wk) (v : Wv) (s : Ms) (w : World) (h : Ws k v s w) (f : Fit k.p s) (i : Nat) (hi : i < s.sides.length) (N : Int) (hN : N = s.mem.length) (hst : (s.side i).t.st = 0) (pn : Nat) (hpce : (s.side i).t.pc = pn)
    (x : Cd) (hxc : k.p.codes.getD i cd0 = x) (hpl : pn < x.l.length) (ca cb2 cc2 ck : Int) (hcc : x.l.getD pn ins0 = ⟨18, ca, cb2, cc2, ck⟩) (hri : rightB 18 ca cb2 cc2 ck (x.l.length : Int) = true) (hna : askB 18 = false) (hb : 0 < (s.side i).buf.length) (hheld : heldM (port N i) ⟨18, ca, cb2, cc2, ck⟩ s = true) :
    Calls Tryz.prog 30 #[.pointer (some ⟨k.g, 0, none⟩), .int .i64 i] w (WlP k (s.step N i)) := by
  obtain ⟨tv, bv, mv, sv, ev, bl⟩ := v
  have hi0 : ¬ (i : Int) < 0 := by omega
  have hi1 : (i : Int) < s.sides.length := by omega
  have hi2 : ¬ (s.sides.length : Int) ≤ i := by omega
  obtain ⟨tb, tc, rfl, hBt, c1, cs, cfz, RT, thr, T1, G1, HTX, HEX, HTH⟩ := pre1 h f hi hst
  have iT := infoT10 HTH.out
  have iT2 : (Tryz.prog.info? 46).map (·.size) = some (thC (s.side i).t).size := infoT_of HTH.out
  have IT2 := hide iT2
  have one := thC_one (s.side i).t
  have HH := hide h
  have HF := hide f
  have HN := hide hN
  have HST := hide hst
  have hsz := h.sz
  have HRI := hide hri
  clear h f hN hst hri
  go_enter Tryz.func30, Tryz.ntmps30
  go_upto_region 2 with (first
    | (refine wpList_load_mid rfl 46 _ rfl tb (i * 10) rfl (thL (s.side i).t) _ RT Tryz.underlying46 rfl iT ?_)
    | (refine wpList_store_mid rfl 46 _ _ rfl w.heap.size 0 (thC (s.side i).t) rfl rfl thr iT2 one ?_))
  change Code.wp _ _ _ _ ((w.alloc (.cells (thC thZ) 46)).setCells w.heap.size 0 (thC (s.side i).t).toList)
  clear thr RT iT iT2 one cs cfz c1
  generalize (w.alloc (.cells (thC thZ) 46)).setCells w.heap.size 0 (thC (s.side i).t).toList = w1 at T1 G1 ⊢
  obtain ⟨hic, hxsh, HXC, HXA, htpc, cb, co, c0, cC⟩ := pre2 HH.out HF.out G1.out hi hxc T1.out hpce
  have hic' : (i : Int) < k.p.codes.length := by omega
  have e0 := Has.new w1 (evA ⟨0, i, (pn : Int), 0, 0, 0, 0, false⟩) 79
  have g2 := (Gr.refl w1).alloc (evA ⟨0, i, (pn : Int), 0, 0, 0, 0, false⟩) 79
  have hexs := HEX.out w1.heap.size G1.out.size
  have hexb : k.w0.heap.size ≤ w1.heap.size := Nat.le_trans hsz G1.out.size
  have HPC := hide hpce
  clear hpce hxc
  go_upto_region 4 with (fail)
  change Code.wp _ _ _ _ (w1.alloc (.cells (evA ⟨0, i, (pn : Int), 0, 0, 0, 0, false⟩) 79))
  generalize w1.alloc (.cells (evA ⟨0, i, (pn : Int), 0, 0, 0, 0, false⟩) 79) = w2 at e0 g2 ⊢
  generalize w1.heap.size = ex at e0 hexs hexb ⊢
  generalize hw0s : w.heap.size = tx at T1 HTX ⊢
  have E2 := hide e0
  have T2 := hide (T1.out.later g2)
  have H2 := hide (HH.out.later (G1.out.trans g2))
  have d0 := T2.out.cell (o := 0) (v := .int .i64 (pn : Int)) (by rw [← HPC.out]; rfl)
  have htxB : k.w0.heap.size ≤ tx := by rw [← hw0s]; exact hsz
  clear c0 cC htpc e0 g2 T1 G1 hic hic' hw0s HEX
  have HAT := at3 (N := N) HST.out HPC.out HXC.out hpl hcc
  have hpl' : (pn : Int) < x.l.length := by omega
  have hpn0 : ¬ (pn : Int) < 0 := by omega
  have hpn1 : ¬ (x.l.length : Int) ≤ pn := by omega
  obtain ⟨hcok, ib, io, hia, x0, x1, x2, x3, x4⟩ := pre3 H2.out HXA.out hpl hcc
  have i0 := Has.new w2 (insA ⟨18, ca, cb2, cc2, ck⟩) 53
  have g3 := (Gr.refl w2).alloc (insA ⟨18, ca, cb2, cc2, ck⟩) 53
  have RI := hide (fun u => Nm.refright_calls 18 ca cb2 cc2 ck (x.l.length : Int) hcok.k0 hcok.k1 u)
  have HCO := hide hcok
  rw [hia]
  clear hcok hia hcc
  go_upto_region 7 with (fail)
  change Code.wp _ _ _ _ (w2.alloc (.cells (insA ⟨18, ca, cb2, cc2, ck⟩) 53))
  generalize w2.alloc (.cells (insA ⟨18, ca, cb2, cc2, ck⟩) 53) = w3 at i0 g3 ⊢
  generalize w2.heap.size = ix at i0 ⊢
  have I3 := hide i0
  have T3 := hide (T2.out.later g3)
  have E3 := hide (E2.out.later g3)
  have H3 := hide (H2.out.later g3)
  obtain ⟨j0, j1, j2, j3, j4⟩ := five i0
  clear d0 x0 x1 x2 x3 x4 g3 i0
  go_wp2_with (fail)
  refine (RI.out _).mono ?_
  rintro r w4 ⟨rfl, g4⟩
  rw [HRI.out]
  obtain ⟨I4, T4, E4, H4⟩ := later4 I3 T3 E3 H3 g4
  clear j0 j1 j2 j3 j4 I3 T3 E3 H3 T2 E2 H2 g4 RI
  have HA := hide (fun u => Nm.has_calls 18 77 u)
  rw [Nm.has_is] at HA
  have j0 := I4.out.cell (o := 0) (v := .int .i64 18) rfl
  have HS := hide (step_held (N := N) hi (by
    rw [HXC.out, HAT.out]
    unfold atM
    rw [HRI.out, if_neg (by rw [hna]; simp), if_pos hheld]
    rfl))
  clear HAT hheld
  rw [hna] at HA
  go_wp2_with (fail)
  refine (HA.out _).mono ?_
  rintro r w7 ⟨rfl, g7⟩
  obtain ⟨I7, T7, E7, H7⟩ := later4 I4 T4 E4 H4 g7
  clear j0 HA I4 T4 E4 H4 g7
  obtain ⟨bb, bc, ba, bcc, rfl, ci, c2, c4, c7⟩ := buf7 H7.out hi
  have j0 := I7.out.cell (o := 0) (v := .int .i64 18) rfl
  have FL := hide (fun u (g : Gr w7 u) => flush_calls k _ s u (H7.out.later g) i hi (by have := HF.out.evs; omega) (fun e he => (HF.out.ent i e he).1) (ok_side HF.out.ok i))
  have l1 : (0 : Int) < ((s.side i).buf.length : Int) := by omega
  have l2 : decide ((0 : Int) < ((s.side i).buf.length : Int)) = true := by simp; omega
  have l3 : decide (0 < (s.side i).buf.length) = true := by simp; omega
  generalize (s.side i).buf.length = bn at ci l1 l2 l3
  clear hb HTX HXA HCO
  go_upto_region 17 with (fail)
  go_quiet (fail)
  have FL2 := hide (FL.out (w7.drewN nq) ((Gr.refl w7).drewN nq))
  clear ci c2 c4 c7 j0 FL l1 l2 l3 T7 I7 E7 H7
  generalize w7.drewN nq = w8 at FL2 ⊢
  go_wp2_with (fail)
  refine FL2.out.mono ?_
  rintro r w9 ⟨rfl, v9, h9⟩
  have H9 := hide h9
  clear h9 FL2
  go_wp2_with (fail)
  exact bodyPost_ret (results_none rfl _ _ _) rfl ⟨rfl, _, by rw [HS.out]; exact H9.out⟩

set_option maxHeartbeats 16000000 in
theorem step_held17 (k : Wk) (v : Wv) (s : Ms) (w : World) (h : Ws k v s w) (f : Fit k.p s) (i : Nat) (hi : i < s.sides.length) (N : Int) (hN : N = s.mem.length) (hst : (s.side i).t.st = 0) (pn : Nat) (hpce : (s.side i).t.pc = pn)
    (x : Cd) (hxc : k.p.codes.getD i cd0 = x) (hpl : pn < x.l.length) (ca cb2 cc2 ck : Int) (hcc : x.l.getD pn ins0 = ⟨17, ca, cb2, cc2, ck⟩) (hri : rightB 17 ca cb2 cc2 ck (x.l.length : Int) = true) (hna : askB 17 = true) (hin : addrM (s.side i).t ⟨17, ca, cb2, cc2, ck⟩ < N) (hb : s.room ≤ (s.side i).buf.length) (hheld : heldM (port N i) ⟨17, ca, cb2, cc2, ck⟩ s = true) :
    Calls Tryz.prog 30 #[.pointer (some ⟨k.g, 0, none⟩), .int .i64 i] w (WlP k (s.step N i)) := by
  obtain ⟨tv, bv, mv, sv, ev, bl⟩ := v
  have hi0 : ¬ (i : Int) < 0 := by omega
  have hi1 : (i : Int) < s.sides.length := by omega
  have hi2 : ¬ (s.sides.length : Int) ≤ i := by omega
  obtain ⟨tb, tc, rfl, hBt, c1, cs, cfz, RT, thr, T1, G1, HTX, HEX, HTH⟩ := pre1 h f hi hst
  have iT := infoT10 HTH.out
  have iT2 : (Tryz.prog.info? 46).map (·.size) = some (thC (s.side i).t).size := infoT_of HTH.out
  have IT2 := hide iT2
  have one := thC_one (s.side i).t
  have HH := hide h
  have HF := hide f
  have HN := hide hN
  have HST := hide hst
  have hsz := h.sz
  have HRI := hide hri
  clear h f hN hst hri
  go_enter Tryz.func30, Tryz.ntmps30
  go_upto_region 2 with (first
    | (refine wpList_load_mid rfl 46 _ rfl tb (i * 10) rfl (thL (s.side i).t) _ RT Tryz.underlying46 rfl iT ?_)
    | (refine wpList_store_mid rfl 46 _ _ rfl w.heap.size 0 (thC (s.side i).t) rfl rfl thr iT2 one ?_))
  change Code.wp _ _ _ _ ((w.alloc (.cells (thC thZ) 46)).setCells w.heap.size 0 (thC (s.side i).t).toList)
  clear thr RT iT iT2 one cs cfz c1
  generalize (w.alloc (.cells (thC thZ) 46)).setCells w.heap.size 0 (thC (s.side i).t).toList = w1 at T1 G1 ⊢
  obtain ⟨hic, hxsh, HXC, HXA, htpc, cb, co, c0, cC⟩ := pre2 HH.out HF.out G1.out hi hxc T1.out hpce
  have hic' : (i : Int) < k.p.codes.length := by omega
  have e0 := Has.new w1 (evA ⟨0, i, (pn : Int), 0, 0, 0, 0, false⟩) 79
  have g2 := (Gr.refl w1).alloc (evA ⟨0, i, (pn : Int), 0, 0, 0, 0, false⟩) 79
  have hexs := HEX.out w1.heap.size G1.out.size
  have hexb : k.w0.heap.size ≤ w1.heap.size := Nat.le_trans hsz G1.out.size
  have HPC := hide hpce
  clear hpce hxc
  go_upto_region 4 with (fail)
  change Code.wp _ _ _ _ (w1.alloc (.cells (evA ⟨0, i, (pn : Int), 0, 0, 0, 0, false⟩) 79))
  generalize w1.alloc (.cells (evA ⟨0, i, (pn : Int), 0, 0, 0, 0, false⟩) 79) = w2 at e0 g2 ⊢
  generalize w1.heap.size = ex at e0 hexs hexb ⊢
  generalize hw0s : w.heap.size = tx at T1 HTX ⊢
  have E2 := hide e0
  have T2 := hide (T1.out.later g2)
  have H2 := hide (HH.out.later (G1.out.trans g2))
  have d0 := T2.out.cell (o := 0) (v := .int .i64 (pn : Int)) (by rw [← HPC.out]; rfl)
  have htxB : k.w0.heap.size ≤ tx := by rw [← hw0s]; exact hsz
  clear c0 cC htpc e0 g2 T1 G1 hic hic' hw0s HEX
  have HAT := at3 (N := N) HST.out HPC.out HXC.out hpl hcc
  have hpl' : (pn : Int) < x.l.length := by omega
  have hpn0 : ¬ (pn : Int) < 0 := by omega
  have hpn1 : ¬ (x.l.length : Int) ≤ pn := by omega
  obtain ⟨hcok, ib, io, hia, x0, x1, x2, x3, x4⟩ := pre3 H2.out HXA.out hpl hcc
  have i0 := Has.new w2 (insA ⟨17, ca, cb2, cc2, ck⟩) 53
  have g3 := (Gr.refl w2).alloc (insA ⟨17, ca, cb2, cc2, ck⟩) 53
  have RI := hide (fun u => Nm.refright_calls 17 ca cb2 cc2 ck (x.l.length : Int) hcok.k0 hcok.k1 u)
  have HCO := hide hcok
  rw [hia]
  clear hcok hia hcc
  go_upto_region 7 with (fail)
  change Code.wp _ _ _ _ (w2.alloc (.cells (insA ⟨17, ca, cb2, cc2, ck⟩) 53))
  generalize w2.alloc (.cells (insA ⟨17, ca, cb2, cc2, ck⟩) 53) = w3 at i0 g3 ⊢
  generalize w2.heap.size = ix at i0 ⊢
  have I3 := hide i0
  have T3 := hide (T2.out.later g3)
  have E3 := hide (E2.out.later g3)
  have H3 := hide (H2.out.later g3)
  obtain ⟨j0, j1, j2, j3, j4⟩ := five i0
  clear d0 x0 x1 x2 x3 x4 g3 i0
  go_wp2_with (fail)
  refine (RI.out _).mono ?_
  rintro r w4 ⟨rfl, g4⟩
  rw [HRI.out]
  obtain ⟨I4, T4, E4, H4⟩ := later4 I3 T3 E3 H3 g4
  clear j0 j1 j2 j3 j4 I3 T3 E3 H3 T2 E2 H2 g4 RI
  have HA := hide (fun u => Nm.has_calls 17 77 u)
  rw [Nm.has_is] at HA
  have j0 := I4.out.cell (o := 0) (v := .int .i64 17) rfl
  have HS := hide (step_held (N := N) hi (by
    rw [HXC.out, HAT.out]
    unfold atM
    rw [HRI.out, if_neg (by rw [hna]; unfold inMemM; rw [show (port N i).size = N from rfl, decide_eq_true hin]; decide), if_pos hheld]
    rfl))
  clear HAT hheld
  rw [hna] at HA
  go_wp2_with (fail)
  refine (HA.out _).mono ?_
  rintro r w5 ⟨rfl, g5⟩
  obtain ⟨I5, T5, E5, H5⟩ := later4 I4 T4 E4 H4 g5
  have AD := hide (fun u => addr_calls HTH.out (i := ⟨17, ca, cb2, cc2, ck⟩) HCO.out u)
  have hau : U32 (addrM (s.side i).t ⟨17, ca, cb2, cc2, ck⟩) := addr_u32 HTH.out HCO.out
  clear j0 HA I4 T4 E4 H4 g5
  obtain ⟨ma, mc, hmv, -, -, -, -⟩ := own_at H5.out.mem
  simp only at hmv
  subst hmv
  have hT := T5.out
  have iT2 := IT2.out
  obtain ⟨j0, j1, j2, j3, j4⟩ := five I5.out
  go_wp2_with (first
    | (refine wpList_load_row rfl 46 _ rfl tx rfl 46 (thC (s.side i).t) (0, 0) _ hT Tryz.underlying46 rfl iT2 ?_))
  refine (AD.out _).mono ?_
  rintro r w6 ⟨rfl, g6⟩
  obtain ⟨I6, T6, E6, H6⟩ := later4 I5 T5 E5 H5 g6
  clear j0 j1 j2 j3 j4 hT iT2 AD I5 T5 E5 H5 g6
  have hwa := wrap_u32 hau
  have c3 := H6.out.box.cell (o := 3) (v := .slice ma s.mem.length mc) rfl
  obtain ⟨m, hm⟩ := Int.eq_ofNat_of_zero_le hau.1
  rw [hm] at hwa hin ⊢
  have HM := hide hm
  have hmm : m < s.mem.length := by have := HN.out; omega
  have hm1 : ¬ (s.mem.length : Int) ≤ m := by omega
  have q3 := E6.out.cell (o := 3) (v := .int .i64 0) rfl
  have f3 := E6.out.free 3
  have b7 := E6.out.set 3 (.int .i64 (m : Int))
  have kq := Kp.setCell w6 ex 3 (.int .i64 (m : Int))
  have t7 := T6.out.kept kq (fun z => (T6.out.apart E6.out (by decide)) (by simpa using z))
  have i7 := I6.out.kept kq (fun z => (I6.out.apart E6.out (by decide)) (by simpa using z))
  have h7 := H6.out.asideV E6.out hexb hexs kq
  have j0 := I6.out.cell (o := 0) (v := .int .i64 17) rfl
  clear hau hin hm kq
  go_upto_region 16 with (fail)
  generalize w6.setCell ⟨ex, 3, none⟩ (.int .i64 (m : Int)) = w7 at b7 t7 i7 h7 ⊢
  have I7 := hide i7
  have T7 := hide t7
  have E7 := hide (show Has w7 ex (evA ⟨0, i, (pn : Int), m, 0, 0, 0, false⟩) 79 from b7)
  have H7 := hide h7
  clear b7 t7 i7 h7 q3 f3 c3 j0 I6 T6 E6 H6 hwa
  obtain ⟨bb, bc, ba, bcc, rfl, ci, c2, c4, c7⟩ := buf7 H7.out hi
  have j0 := I7.out.cell (o := 0) (v := .int .i64 17) rfl
  have FL := hide (fun u (g : Gr w7 u) => flush_calls k _ s u (H7.out.later g) i hi (by have := HF.out.evs; omega) (fun e he => (HF.out.ent i e he).1) (ok_side HF.out.ok i))
  have l1 : (s.room : Int) ≤ ((s.side i).buf.length : Int) := by omega
  have l2 : decide ((s.room : Int) ≤ ((s.side i).buf.length : Int)) = true := by simp; omega
  have l3 : decide (s.room ≤ (s.side i).buf.length) = true := by simp; omega
  generalize (s.side i).buf.length = bn at ci l1 l2 l3
  clear hb HTX HXA HCO
  go_upto_region 17 with (fail)
  go_quiet (fail)
  have FL2 := hide (FL.out (w7.drewN nq) ((Gr.refl w7).drewN nq))
  clear ci c2 c4 c7 j0 FL l1 l2 l3 T7 I7 E7 H7
  generalize w7.drewN nq = w8 at FL2 ⊢
  go_wp2_with (fail)
  refine FL2.out.mono ?_
  rintro r w9 ⟨rfl, v9, h9⟩
  have H9 := hide h9
  clear h9 FL2
  go_wp2_with (fail)
  exact bodyPost_ret (results_none rfl _ _ _) rfl ⟨rfl, _, by rw [HS.out]; exact H9.out⟩
end Go.Proofs.YtfhplbmgjgfihaaGreatDoor.Wl
