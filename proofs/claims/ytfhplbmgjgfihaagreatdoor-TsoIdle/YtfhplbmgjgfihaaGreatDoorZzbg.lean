/-
  What a pick does to the document's world: of nobody, of no kind, a flush. No condition but what each law names.
-/
import Derived.Test.YtfhplbmgjgfihaaGreatDoorZzbb
import Derived.BigQuiet
import Derived.Deep.QuietTactic
import Derived.Test.YtfhplbmgjgfihaaGreatDoorZzaz
namespace Go.Proofs.YtfhplbmgjgfihaaGreatDoor.Wl
open Go.Proofs.YtfhplbmgjgfihaaGreatDoor.Mc Go.ChangeShapes Go.WideShapes Go.ChangeAt Go.RowKit
set_option linter.unusedVariables false
set_option maxRecDepth 20000
set_option maxHeartbeats 2000000 in
theorem pick_low (k : Wk) (v : Wv) (s : Ms) (w : World) (h : Ws k v s w) (f : Fit k.p s) (hroom : ∀ i, (s.side i).buf.length ≤ s.room) (N : Int) (hN : N = s.mem.length) (kind who : Int) (hw : who < 0) :
    Calls Tryz.prog 17 #[.pointer (some ⟨k.g, 0, none⟩), .agg #[.int .i64 kind, .int .i64 who]] w (WlP k (s.pick N kind who)) := by
  obtain ⟨tv, bv, mv, sv, ev, bl⟩ := v
  have HS : Hid (s.pick N kind who = s) := by
    show _ = _
    unfold Ms.pick
    rw [if_neg (by omega)]

  obtain ⟨ta, tc, htv, -⟩ := own_at h.th
  rw [ths_len] at htv
  simp only at htv
  subst htv
  have HH := hide h
  have HF := hide f
  have HN := hide hN
  have HRM := hide hroom
  clear hN hroom
  have g1 := (Gr.refl w).alloc #[.int .i64 kind, .int .i64 who] 28
  have b1 := Has.new w #[.int .i64 kind, .int .i64 who] 28
  clear h f
  go_enter Tryz.func17, Tryz.ntmps17
  go_upto_region 1 with (fail)
  change Code.wp _ _ _ _ (w.alloc (.cells #[.int .i64 kind, .int .i64 who] 28))
  generalize w.alloc (.cells #[.int .i64 kind, .int .i64 who] 28) = w1 at g1 b1 ⊢
  generalize w.heap.size = xb at b1 ⊢
  have H1 := hide (HH.out.later g1)
  have d0 := b1.cell (o := 0) (v := .int .i64 kind) rfl
  have d1 := b1.cell (o := 1) (v := .int .i64 who) rfl
  have c1 := H1.out.box.cell (o := 1) (v := .slice ta s.sides.length tc) rfl
  have B1 := hide b1
  clear b1 g1
  go_quiet (fail)
  have H2 := hide (H1.out.later ((Gr.refl w1).drewN nq))
  have B2 := hide (B1.out.later ((Gr.refl w1).drewN nq))
  clear d0 d1 c1 H1 B1
  generalize w1.drewN nq = w2 at H2 B2 ⊢
  have d0 := B2.out.cell (o := 0) (v := .int .i64 kind) rfl
  have d1 := B2.out.cell (o := 1) (v := .int .i64 who) rfl
  go_wp2_with (fail)
  exact bodyPost_ret (results_none rfl _ _ _) rfl ⟨rfl, _, by rw [HS.out]; exact H2.out⟩

set_option maxHeartbeats 2000000 in
theorem pick_high (k : Wk) (v : Wv) (s : Ms) (w : World) (h : Ws k v s w) (f : Fit k.p s) (hroom : ∀ i, (s.side i).buf.length ≤ s.room) (N : Int) (hN : N = s.mem.length) (kind who : Int) (hw0 : ¬ who < 0) (hw : (s.sides.length : Int) ≤ who) :
    Calls Tryz.prog 17 #[.pointer (some ⟨k.g, 0, none⟩), .agg #[.int .i64 kind, .int .i64 who]] w (WlP k (s.pick N kind who)) := by
  obtain ⟨tv, bv, mv, sv, ev, bl⟩ := v
  have HS : Hid (s.pick N kind who = s) := by
    show _ = _
    unfold Ms.pick
    rw [if_neg (by omega)]

  obtain ⟨ta, tc, htv, -⟩ := own_at h.th
  rw [ths_len] at htv
  simp only at htv
  subst htv
  have HH := hide h
  have HF := hide f
  have HN := hide hN
  have HRM := hide hroom
  clear hN hroom
  have g1 := (Gr.refl w).alloc #[.int .i64 kind, .int .i64 who] 28
  have b1 := Has.new w #[.int .i64 kind, .int .i64 who] 28
  clear h f
  go_enter Tryz.func17, Tryz.ntmps17
  go_upto_region 1 with (fail)
  change Code.wp _ _ _ _ (w.alloc (.cells #[.int .i64 kind, .int .i64 who] 28))
  generalize w.alloc (.cells #[.int .i64 kind, .int .i64 who] 28) = w1 at g1 b1 ⊢
  generalize w.heap.size = xb at b1 ⊢
  have H1 := hide (HH.out.later g1)
  have d0 := b1.cell (o := 0) (v := .int .i64 kind) rfl
  have d1 := b1.cell (o := 1) (v := .int .i64 who) rfl
  have c1 := H1.out.box.cell (o := 1) (v := .slice ta s.sides.length tc) rfl
  have B1 := hide b1
  clear b1 g1
  go_quiet (fail)
  have H2 := hide (H1.out.later ((Gr.refl w1).drewN nq))
  have B2 := hide (B1.out.later ((Gr.refl w1).drewN nq))
  clear d0 d1 c1 H1 B1
  generalize w1.drewN nq = w2 at H2 B2 ⊢
  have d0 := B2.out.cell (o := 0) (v := .int .i64 kind) rfl
  have d1 := B2.out.cell (o := 1) (v := .int .i64 who) rfl
  go_wp2_with (fail)
  exact bodyPost_ret (results_none rfl _ _ _) rfl ⟨rfl, _, by rw [HS.out]; exact H2.out⟩

set_option maxHeartbeats 2000000 in
theorem pick_none (k : Wk) (v : Wv) (s : Ms) (w : World) (h : Ws k v s w) (f : Fit k.p s) (hroom : ∀ i, (s.side i).buf.length ≤ s.room) (N : Int) (hN : N = s.mem.length) (i : Nat) (hi : i < s.sides.length) (kind : Int) (h0 : kind ≠ 0) (h1 : kind ≠ 1) (h2 : kind ≠ 2) :
    Calls Tryz.prog 17 #[.pointer (some ⟨k.g, 0, none⟩), .agg #[.int .i64 kind, .int .i64 i]] w (WlP k (s.pick N kind i)) := by
  obtain ⟨tv, bv, mv, sv, ev, bl⟩ := v
  have HS : Hid (s.pick N kind i = s) := by
    show _ = _
    unfold Ms.pick
    rw [if_pos ⟨by omega, by omega⟩, Int.toNat_natCast]
    rw [if_neg h0, if_neg h1, if_neg h2]

  have hi0 : ¬ (i : Int) < 0 := by omega
  have hi1 : ¬ (s.sides.length : Int) ≤ i := by omega
  have hi2 : (i : Int) < s.sides.length := by omega
  have k0 : (kind == 0) = false := by simpa using h0
  have k1 : (kind == 1) = false := by simpa using h1
  have k2 : (kind == 2) = false := by simpa using h2
  clear h0 h1 h2
  obtain ⟨ta, tc, htv, -⟩ := own_at h.th
  rw [ths_len] at htv
  simp only at htv
  subst htv
  have HH := hide h
  have HF := hide f
  have HN := hide hN
  have HRM := hide hroom
  clear hN hroom
  have g1 := (Gr.refl w).alloc #[.int .i64 kind, .int .i64 i] 28
  have b1 := Has.new w #[.int .i64 kind, .int .i64 i] 28
  clear h f
  go_enter Tryz.func17, Tryz.ntmps17
  go_upto_region 1 with (fail)
  change Code.wp _ _ _ _ (w.alloc (.cells #[.int .i64 kind, .int .i64 i] 28))
  generalize w.alloc (.cells #[.int .i64 kind, .int .i64 i] 28) = w1 at g1 b1 ⊢
  generalize w.heap.size = xb at b1 ⊢
  have H1 := hide (HH.out.later g1)
  have d0 := b1.cell (o := 0) (v := .int .i64 kind) rfl
  have d1 := b1.cell (o := 1) (v := .int .i64 i) rfl
  have c1 := H1.out.box.cell (o := 1) (v := .slice ta s.sides.length tc) rfl
  have B1 := hide b1
  clear b1 g1
  go_quiet (fail)
  have H2 := hide (H1.out.later ((Gr.refl w1).drewN nq))
  have B2 := hide (B1.out.later ((Gr.refl w1).drewN nq))
  clear d0 d1 c1 H1 B1
  generalize w1.drewN nq = w2 at H2 B2 ⊢
  have d0 := B2.out.cell (o := 0) (v := .int .i64 kind) rfl
  have d1 := B2.out.cell (o := 1) (v := .int .i64 i) rfl
  go_wp2_with (fail)
  exact bodyPost_ret (results_none rfl _ _ _) rfl ⟨rfl, _, by rw [HS.out]; exact H2.out⟩

set_option maxHeartbeats 2000000 in
theorem pick_flush (k : Wk) (v : Wv) (s : Ms) (w : World) (h : Ws k v s w) (f : Fit k.p s) (hroom : ∀ i, (s.side i).buf.length ≤ s.room) (N : Int) (hN : N = s.mem.length) (i : Nat) (hi : i < s.sides.length) :
    Calls Tryz.prog 17 #[.pointer (some ⟨k.g, 0, none⟩), .agg #[.int .i64 1, .int .i64 i]] w (WlP k (s.pick N 1 i)) := by
  obtain ⟨tv, bv, mv, sv, ev, bl⟩ := v
  have HS : Hid (s.pick N 1 i = s.flush i) := by
    show _ = _
    unfold Ms.pick
    rw [if_pos ⟨by omega, by omega⟩, Int.toNat_natCast]
    rfl

  have hi0 : ¬ (i : Int) < 0 := by omega
  have hi1 : ¬ (s.sides.length : Int) ≤ i := by omega
  have hi2 : (i : Int) < s.sides.length := by omega
  obtain ⟨ta, tc, htv, -⟩ := own_at h.th
  rw [ths_len] at htv
  simp only at htv
  subst htv
  have HH := hide h
  have HF := hide f
  have HN := hide hN
  have HRM := hide hroom
  clear hN hroom
  have g1 := (Gr.refl w).alloc #[.int .i64 1, .int .i64 i] 28
  have b1 := Has.new w #[.int .i64 1, .int .i64 i] 28
  clear h f
  go_enter Tryz.func17, Tryz.ntmps17
  go_upto_region 1 with (fail)
  change Code.wp _ _ _ _ (w.alloc (.cells #[.int .i64 1, .int .i64 i] 28))
  generalize w.alloc (.cells #[.int .i64 1, .int .i64 i] 28) = w1 at g1 b1 ⊢
  generalize w.heap.size = xb at b1 ⊢
  have H1 := hide (HH.out.later g1)
  have d0 := b1.cell (o := 0) (v := .int .i64 1) rfl
  have d1 := b1.cell (o := 1) (v := .int .i64 i) rfl
  have c1 := H1.out.box.cell (o := 1) (v := .slice ta s.sides.length tc) rfl
  have B1 := hide b1
  clear b1 g1
  go_quiet (fail)
  have H2 := hide (H1.out.later ((Gr.refl w1).drewN nq))
  have B2 := hide (B1.out.later ((Gr.refl w1).drewN nq))
  clear d0 d1 c1 H1 B1
  generalize w1.drewN nq = w2 at H2 B2 ⊢
  have d0 := B2.out.cell (o := 0) (v := .int .i64 1) rfl
  have d1 := B2.out.cell (o := 1) (v := .int .i64 i) rfl
  have CC := hide (fun (_ : Unit) => flush_calls k _ s w2 H2.out i hi (by have := HF.out.evs; omega) (fun e he => (HF.out.ent i e he).1) (ok_side HF.out.ok i))
  go_wp2_with (fail)
  refine (CC.out ()).mono ?_
  rintro r w3 ⟨rfl, v3, h3⟩
  have H3 := hide h3
  clear h3
  go_wp2_with (fail)
  exact bodyPost_ret (results_none rfl _ _ _) rfl ⟨rfl, _, by rw [HS.out]; exact H3.out⟩
set_option maxHeartbeats 8000000 in
theorem step_stopped (k : Wk) (v : Wv) (s : Ms) (w : World) (h : Ws k v s w) (f : Fit k.p s) (i : Nat) (hi : i < s.sides.length) (N : Int) (hN : N = s.mem.length) (hst : (s.side i).t.st ≠ 0) :
    Calls Tryz.prog 30 #[.pointer (some ⟨k.g, 0, none⟩), .int .i64 i] w (WlP k (s.step N i)) := by
  obtain ⟨tv, bv, mv, sv, ev, bl⟩ := v
  have hi0 : ¬ (i : Int) < 0 := by omega
  have hi1 : (i : Int) < s.sides.length := by omega
  have hi2 : ¬ (s.sides.length : Int) ≤ i := by omega
  have c1 := h.box.cell (o := 1) (v := tv) rfl
  have hht := h.thAt (by omega)
  obtain ⟨tb, tc, C, htv, hBt, hCt, htr⟩ := hht
  simp only at htv
  subst htv
  obtain ⟨cs, cfz⟩ := h.stCell rfl hi
  have HH := hide h
  have HF := hide f
  have HN := hide hN
  clear hN
  have hth := f.th i hi
  have HS := hide (step_still (N := N) hst)
  have hst' : ((s.side i).t.st != 0) = true := by simpa using hst
  generalize (s.side i).t.st = st at cs hst hst'
  clear h f hth htr hCt
  go_enter Tryz.func30, Tryz.ntmps30
  go_wp2_with (fail)
  exact bodyPost_ret (results_none rfl _ _ _) rfl ⟨rfl, _, by rw [HS.out]; exact HH.out⟩
set_option maxHeartbeats 8000000 in
theorem step_outside (k : Wk) (v : Wv) (s : Ms) (w : World) (h : Ws k v s w) (f : Fit k.p s) (i : Nat) (hi : i < s.sides.length) (N : Int) (hN : N = s.mem.length) (hst : (s.side i).t.st = 0) (hpo : ¬ (0 ≤ (s.side i).t.pc ∧ (s.side i).t.pc < (s.side i).code.length)) :
    Calls Tryz.prog 30 #[.pointer (some ⟨k.g, 0, none⟩), .int .i64 i] w (WlP k (s.step N i)) := by
  obtain ⟨tv, bv, mv, sv, ev, bl⟩ := v
  have hi0 : ¬ (i : Int) < 0 := by omega
  have hi1 : (i : Int) < s.sides.length := by omega
  have hi2 : ¬ (s.sides.length : Int) ≤ i := by omega
  have c1 := h.box.cell (o := 1) (v := tv) rfl
  have hht := h.thAt (by omega)
  obtain ⟨tb, tc, C, htv, hBt, hCt, htr⟩ := hht
  simp only at htv
  subst htv
  obtain ⟨cs, cfz⟩ := h.stCell rfl hi
  have HH := hide h
  have HF := hide f
  have HN := hide hN
  clear hN
  have hth := f.th i hi
  rw [hst] at cs
  have RT : w.rangeAt tb (i * 10) (thL (s.side i).t) := fun j u hv => by
    rw [← thR_is hth] at hv
    have hj : j < 10 := by have := (List.getElem?_eq_some_iff.1 hv).1; rwa [thR_len] at this
    have q := htr.cell thR_len (by rw [ths_len]; exact hi) thZ j hj
    rw [Nat.zero_add, ths_at s hi] at q
    exact q.trans hv
  have iT := infoT10 hth
  have t0 := Has.new w (thC thZ) 46
  have g0 := (Gr.refl w).alloc (thC thZ) 46
  have hzs : (thC thZ).size = 10 := rfl
  have hts : (thC (s.side i).t).size = 10 := thC_size hth
  have thr : (w.alloc (.cells (thC thZ) 46)).there w.heap.size 0 (thC (s.side i).t).size := t0.there 0 _ (by rw [hts, hzs]; omega)
  have iT2 : (Tryz.prog.info? 46).map (·.size) = some (thC (s.side i).t).size := infoT_of hth
  have one := thC_one (s.side i).t
  have hz : Kq.setA (thC thZ) 0 (thC (s.side i).t).toList = thC (s.side i).t := by
    have := Kq.setA_seg (thC (s.side i).t).toList [] (thC thZ).toList [] (by rw [Array.length_toList, Array.length_toList, hts, hzs])
    simpa using this
  have t1 := Kq.setCells_has (thC (s.side i).t).toList 0 _ _ t0
  rw [hz] at t1
  have g1 := Kp.gr g0 (Kq.kp_setCells (b := w.heap.size) (thC (s.side i).t).toList 0 (w.alloc (.cells (thC thZ) 46))) (by simp)
  have htx : w.heap.size ∉ ob (Value.slice (some ⟨tb, 0, none⟩) s.sides.length tc) := fun z => Nat.lt_irrefl _ (own_lt h.th z)
  have hex : ∀ y, w.heap.size ≤ y → y ∉ ob ev := fun y hy z => by
    have := own_lt h.evs z
    omega
  have hsz := h.sz
  have HP := hide h.at
  have T1 := hide t1
  have G1 := hide g1
  have HTX := hide htx
  have HEX := hide hex
  have HTH := hide hth
  clear h f htr hz t1 g1 hts hzs htx hex g0 t0
  go_enter Tryz.func30, Tryz.ntmps30
  go_upto_region 2 with (first
    | (refine wpList_load_mid rfl 46 _ rfl tb (i * 10) rfl (thL (s.side i).t) _ RT Tryz.underlying46 rfl iT ?_)
    | (refine wpList_store_mid rfl 46 _ _ rfl w.heap.size 0 (thC (s.side i).t) rfl rfl thr iT2 one ?_))
  change Code.wp _ _ _ _ ((w.alloc (.cells (thC thZ) 46)).setCells w.heap.size 0 (thC (s.side i).t).toList)
  clear thr RT iT iT2 one cs cfz c1 hth
  generalize (w.alloc (.cells (thC thZ) 46)).setCells w.heap.size 0 (thC (s.side i).t).toList = w1 at T1 G1 ⊢
  have h1 := HH.out.later G1.out
  have p1 := (HP.out.later G1.out).row
  have hic : i < k.p.codes.length := by rw [HF.out.num]; exact hi
  have hic' : (i : Int) < k.p.codes.length := by omega
  have c0 := h1.box.cell (o := 0) (v := .slice k.p.ca k.p.codes.length k.p.cc) rfl
  obtain ⟨cb, co, hca, -⟩ := p1.get (by rw [flatOf_length codeV_len]; omega)
  rw [hca] at c0 p1
  have cC := p1.cell codeV_len hic cd0 0 (by omega)
  have HXC := hide (HF.out.code i hi)
  have hxat : CdAt (k.p.codes.getD i cd0) k.w0 := HH.out.pg.each _ (by rw [List.getD_eq_getElem?_getD, List.getElem?_eq_getElem hic]; exact List.getElem_mem hic)
  have hxsh := HF.out.short (k.p.codes.getD i cd0) (by rw [List.getD_eq_getElem?_getD, List.getElem?_eq_getElem hic]; exact List.getElem_mem hic)
  have HXA := hide hxat
  generalize k.p.codes.getD i cd0 = x at cC HXC HXA hxsh
  simp only [codeV, List.getElem?_cons_zero, Nat.mul_one, Nat.add_zero] at cC
  have HT0 := hide (rfl : (s.side i).t = (s.side i).t)
  have htpc := T1.out.cell (o := 0) (v := .int .i64 (s.side i).t.pc) rfl
  have e0 := Has.new w1 (evA ⟨0, i, (s.side i).t.pc, 0, 0, 0, 0, false⟩) 79
  have g2 := (Gr.refl w1).alloc (evA ⟨0, i, (s.side i).t.pc, 0, 0, 0, 0, false⟩) 79
  have hexs := HEX.out w1.heap.size G1.out.size
  have hexb : k.w0.heap.size ≤ w1.heap.size := Nat.le_trans hsz G1.out.size
  generalize hpce : (s.side i).t.pc = pc at htpc e0 g2
  have HPC := hide hpce
  clear h1 p1 hxat hca hpce hCt
  go_upto_region 4 with (fail)
  change Code.wp _ _ _ _ (w1.alloc (.cells (evA ⟨0, i, pc, 0, 0, 0, 0, false⟩) 79))
  generalize w1.alloc (.cells (evA ⟨0, i, pc, 0, 0, 0, 0, false⟩) 79) = w2 at e0 g2 ⊢
  generalize w1.heap.size = ex at e0 hexs hexb ⊢
  generalize hw0s : w.heap.size = tx at T1 HTX ⊢
  have E2 := hide e0
  have T2 := hide (T1.out.later g2)
  have H2 := hide (HH.out.later (G1.out.trans g2))
  have GG2 := hide (G1.out.trans g2)
  have d0 := T2.out.cell (o := 0) (v := .int .i64 pc) (by rw [← HPC.out]; rfl)
  have htxB : k.w0.heap.size ≤ tx := by rw [← hw0s]; exact hsz
  have iE : (Tryz.prog.info? 79).map (·.size) = some (evA ⟨0, i, pc, 0, 0, 0, 0, false⟩).size := infoE8
  have EN := hide (end_calls k ⟨.slice (some ⟨tb, 0, none⟩) s.sides.length tc, bv, mv, sv, ev, bl⟩ s w2 H2.out i hi (by have := HF.out.evs; omega) ⟨0, i, pc, 0, 0, 0, 0, false⟩ rfl)
  clear c0 cC htpc e0 g2 T1 G1 hic hic' hw0s
  have hpc : ¬ (0 ≤ pc ∧ pc < x.l.length) := by rw [HPC.out, HXC.out] at hpo; exact hpo
  clear hpo
  have HS := hide (step_ended (step_out (N := N) hst (by rw [HPC.out, HXC.out]; exact hpc)))
  rw [HPC.out] at HS
  have hE := E2.out
  have HT : Hid (pc < 0 ∨ (x.l.length : Int) ≤ pc) := by show _ ∨ _; omega
  clear hpc
  by_cases hp0 : pc < 0
  · go_wp2_with (first
      | (refine wpList_load_row rfl 79 _ rfl ex rfl 79 (evA ⟨0, i, pc, 0, 0, 0, 0, false⟩) (0, 0) _ hE Tryz.underlying79 rfl iE ?_))
    refine (EN.out 2 12).mono ?_
    rintro r w3 ⟨rfl, v3, h3⟩
    have H3 := hide h3
    clear h3
    go_wp2_with (fail)
    exact bodyPost_ret (results_none rfl _ _ _) rfl ⟨rfl, _, by rw [HS.out]; exact H3.out⟩
  · have hp1 : (x.l.length : Int) ≤ pc := by rcases HT.out with q | q <;> omega
    go_wp2_with (first
      | (refine wpList_load_row rfl 79 _ rfl ex rfl 79 (evA ⟨0, i, pc, 0, 0, 0, 0, false⟩) (0, 0) _ hE Tryz.underlying79 rfl iE ?_))
    refine (EN.out 2 12).mono ?_
    rintro r w3 ⟨rfl, v3, h3⟩
    have H3 := hide h3
    clear h3
    go_wp2_with (fail)
    exact bodyPost_ret (results_none rfl _ _ _) rfl ⟨rfl, _, by rw [HS.out]; exact H3.out⟩

set_option maxHeartbeats 16000000 in
theorem step_wrong (k : Wk) (v : Wv) (s : Ms) (w : World) (h : Ws k v s w) (f : Fit k.p s) (i : Nat) (hi : i < s.sides.length) (N : Int) (hN : N = s.mem.length) (hst : (s.side i).t.st = 0) (pn : Nat) (hpce : (s.side i).t.pc = pn)
    (x : Cd) (hxc : k.p.codes.getD i cd0 = x) (hpl : pn < x.l.length) (op ca cb2 cc2 ck : Int) (hcc : x.l.getD pn ins0 = ⟨op, ca, cb2, cc2, ck⟩) (hri : rightB op ca cb2 cc2 ck (x.l.length : Int) = false) :
    Calls Tryz.prog 30 #[.pointer (some ⟨k.g, 0, none⟩), .int .i64 i] w (WlP k (s.step N i)) := by
  obtain ⟨tv, bv, mv, sv, ev, bl⟩ := v
  have hi0 : ¬ (i : Int) < 0 := by omega
  have hi1 : (i : Int) < s.sides.length := by omega
  have hi2 : ¬ (s.sides.length : Int) ≤ i := by omega
  have c1 := h.box.cell (o := 1) (v := tv) rfl
  obtain ⟨tb, tc, C, htv, hBt, hCt, htr⟩ := h.thAt (by omega)
  simp only at htv
  subst htv
  obtain ⟨cs, cfz⟩ := h.stCell rfl hi
  have HH := hide h
  have HF := hide f
  have HN := hide hN
  have HST := hide hst
  clear hN
  have hth := f.th i hi
  rw [hst] at cs
  have RT : w.rangeAt tb (i * 10) (thL (s.side i).t) := fun j u hv => by
    rw [← thR_is hth] at hv
    have hj : j < 10 := by have := (List.getElem?_eq_some_iff.1 hv).1; rwa [thR_len] at this
    have q := htr.cell thR_len (by rw [ths_len]; exact hi) thZ j hj
    rw [Nat.zero_add, ths_at s hi] at q
    exact q.trans hv
  have iT := infoT10 hth
  have t0 := Has.new w (thC thZ) 46
  have g0 := (Gr.refl w).alloc (thC thZ) 46
  have hzs : (thC thZ).size = 10 := rfl
  have hts : (thC (s.side i).t).size = 10 := thC_size hth
  have thr : (w.alloc (.cells (thC thZ) 46)).there w.heap.size 0 (thC (s.side i).t).size := t0.there 0 _ (by rw [hts, hzs]; omega)
  have iT2 : (Tryz.prog.info? 46).map (·.size) = some (thC (s.side i).t).size := infoT_of hth
  have IT2 := hide iT2
  have one := thC_one (s.side i).t
  have hz : Kq.setA (thC thZ) 0 (thC (s.side i).t).toList = thC (s.side i).t := by
    have := Kq.setA_seg (thC (s.side i).t).toList [] (thC thZ).toList [] (by rw [Array.length_toList, Array.length_toList, hts, hzs])
    simpa using this
  have t1 := Kq.setCells_has (thC (s.side i).t).toList 0 _ _ t0
  rw [hz] at t1
  have g1 := Kp.gr g0 (Kq.kp_setCells (b := w.heap.size) (thC (s.side i).t).toList 0 (w.alloc (.cells (thC thZ) 46))) (by simp)
  have htx : w.heap.size ∉ ob (Value.slice (some ⟨tb, 0, none⟩) s.sides.length tc) := fun z => Nat.lt_irrefl _ (own_lt h.th z)
  have hex : ∀ y, w.heap.size ≤ y → y ∉ ob ev := fun y hy z => by
    have := own_lt h.evs z
    omega
  have hsz := h.sz
  have HP := hide h.at
  have T1 := hide t1
  have G1 := hide g1
  have HTX := hide htx
  have HEX := hide hex
  have HTH := hide hth
  have HRI := hide hri
  clear h f htr hz t1 g1 hts hzs htx hex g0 t0 hst hri
  go_enter Tryz.func30, Tryz.ntmps30
  go_upto_region 2 with (first
    | (refine wpList_load_mid rfl 46 _ rfl tb (i * 10) rfl (thL (s.side i).t) _ RT Tryz.underlying46 rfl iT ?_)
    | (refine wpList_store_mid rfl 46 _ _ rfl w.heap.size 0 (thC (s.side i).t) rfl rfl thr iT2 one ?_))
  change Code.wp _ _ _ _ ((w.alloc (.cells (thC thZ) 46)).setCells w.heap.size 0 (thC (s.side i).t).toList)
  clear thr RT iT iT2 one cs cfz c1 hth
  generalize (w.alloc (.cells (thC thZ) 46)).setCells w.heap.size 0 (thC (s.side i).t).toList = w1 at T1 G1 ⊢
  have h1 := HH.out.later G1.out
  have p1 := (HP.out.later G1.out).row
  have hic : i < k.p.codes.length := by rw [HF.out.num]; exact hi
  have hic' : (i : Int) < k.p.codes.length := by omega
  have c0 := h1.box.cell (o := 0) (v := .slice k.p.ca k.p.codes.length k.p.cc) rfl
  obtain ⟨cb, co, hca, -⟩ := p1.get (by rw [flatOf_length codeV_len]; omega)
  rw [hca] at c0 p1
  have cC := p1.cell codeV_len hic cd0 0 (by omega)
  have hxco := HF.out.code i hi
  have hxat : CdAt (k.p.codes.getD i cd0) k.w0 := HH.out.pg.each _ (by rw [List.getD_eq_getElem?_getD, List.getElem?_eq_getElem hic]; exact List.getElem_mem hic)
  have hxsh := HF.out.short (k.p.codes.getD i cd0) (by rw [List.getD_eq_getElem?_getD, List.getElem?_eq_getElem hic]; exact List.getElem_mem hic)
  rw [hxc] at cC hxco hxat hxsh
  have HXC := hide hxco
  have HXA := hide hxat
  simp only [codeV, List.getElem?_cons_zero, Nat.mul_one, Nat.add_zero] at cC
  have htpc := T1.out.cell (o := 0) (v := .int .i64 (s.side i).t.pc) rfl
  rw [hpce] at htpc
  have e0 := Has.new w1 (evA ⟨0, i, (pn : Int), 0, 0, 0, 0, false⟩) 79
  have g2 := (Gr.refl w1).alloc (evA ⟨0, i, (pn : Int), 0, 0, 0, 0, false⟩) 79
  have hexs := HEX.out w1.heap.size G1.out.size
  have hexb : k.w0.heap.size ≤ w1.heap.size := Nat.le_trans hsz G1.out.size
  have HPC := hide hpce
  clear h1 p1 hxat hca hpce hCt hxco hxc
  go_upto_region 4 with (fail)
  change Code.wp _ _ _ _ (w1.alloc (.cells (evA ⟨0, i, (pn : Int), 0, 0, 0, 0, false⟩) 79))
  generalize w1.alloc (.cells (evA ⟨0, i, (pn : Int), 0, 0, 0, 0, false⟩) 79) = w2 at e0 g2 ⊢
  generalize w1.heap.size = ex at e0 hexs hexb ⊢
  generalize hw0s : w.heap.size = tx at T1 HTX ⊢
  have E2 := hide e0
  have T2 := hide (T1.out.later g2)
  have H2 := hide (HH.out.later (G1.out.trans g2))
  have d0 := T2.out.cell (o := 0) (v := .int .i64 (pn : Int)) (by rw [← HPC.out]; rfl)
  have htxB : k.w0.heap.size ≤ tx := by rw [← hw0s]; exact hsz
  clear c0 cC htpc e0 g2 T1 G1 hic hic' hw0s HEX
  have HAT := hide (step_at (N := N) HST.out (by rw [HPC.out, HXC.out]; omega))
  rw [HXC.out, HPC.out, Int.toNat_natCast, hcc] at HAT
  have hpl' : (pn : Int) < x.l.length := by omega
  have hpn0 : ¬ (pn : Int) < 0 := by omega
  have hpn1 : ¬ (x.l.length : Int) ≤ pn := by omega
  have xr := HXA.out.row.later (H2.out.gr)
  obtain ⟨ib, io, hia, -⟩ := xr.get (by rw [flatOf_length insL_len]; omega)
  rw [hia] at xr
  have x0 := xr.cell insL_len hpl ins0 0 (by omega)
  have x1 := xr.cell insL_len hpl ins0 1 (by omega)
  have x2 := xr.cell insL_len hpl ins0 2 (by omega)
  have x3 := xr.cell insL_len hpl ins0 3 (by omega)
  have x4 := xr.cell insL_len hpl ins0 4 (by omega)
  have hcok : InsOk (x.l.getD pn ins0) := HXA.out.ins _ (by rw [List.getD_eq_getElem?_getD, List.getElem?_eq_getElem hpl]; exact List.getElem_mem hpl)
  rw [hcc] at x0 x1 x2 x3 x4 hcok
  simp only [insL, List.getElem?_cons_zero, List.getElem?_cons_succ, Nat.add_zero, ← Nat.add_assoc] at x0 x1 x2 x3 x4
  have i0 := Has.new w2 (insA ⟨op, ca, cb2, cc2, ck⟩) 53
  have g3 := (Gr.refl w2).alloc (insA ⟨op, ca, cb2, cc2, ck⟩) 53
  have RI := hide (fun u => Nm.refright_calls op ca cb2 cc2 ck (x.l.length : Int) hcok.k0 hcok.k1 u)
  have HCO := hide hcok
  rw [hia]
  clear xr hcok hia hcc
  go_upto_region 7 with (fail)
  change Code.wp _ _ _ _ (w2.alloc (.cells (insA ⟨op, ca, cb2, cc2, ck⟩) 53))
  generalize w2.alloc (.cells (insA ⟨op, ca, cb2, cc2, ck⟩) 53) = w3 at i0 g3 ⊢
  generalize w2.heap.size = ix at i0 ⊢
  have I3 := hide i0
  have T3 := hide (T2.out.later g3)
  have E3 := hide (E2.out.later g3)
  have H3 := hide (H2.out.later g3)
  have j0 := i0.cell (o := 0) (v := .int .i64 op) rfl
  have j1 := i0.cell (o := 1) (v := .int .i64 ca) rfl
  have j2 := i0.cell (o := 2) (v := .int .i64 cb2) rfl
  have j3 := i0.cell (o := 3) (v := .int .i64 cc2) rfl
  have j4 := i0.cell (o := 4) (v := .int .u32 ck) rfl
  clear d0 x0 x1 x2 x3 x4 g3 i0
  go_wp2_with (fail)
  refine (RI.out _).mono ?_
  rintro r w4 ⟨rfl, g4⟩
  rw [HRI.out]
  have I4 := hide (I3.out.later g4)
  have T4 := hide (T3.out.later g4)
  have E4 := hide (E3.out.later g4)
  have H4 := hide (H3.out.later g4)
  clear j0 j1 j2 j3 j4 I3 T3 E3 H3 T2 E2 H2 g4 RI
  have HA := hide (fun u => Nm.has_calls op 77 u)
  rw [Nm.has_is] at HA
  have j0 := I4.out.cell (o := 0) (v := .int .i64 op) rfl
  have HS := hide (step_ended (N := N) (s := s) (i := i) (st := 3) (kd := 13) (by rw [HXC.out, HAT.out]; unfold atM; rw [HRI.out]; rfl))
  rw [HPC.out] at HS
  have EN := hide (end_calls k ⟨.slice (some ⟨tb, 0, none⟩) s.sides.length tc, bv, mv, sv, ev, bl⟩ s w4 H4.out i hi (by have := HF.out.evs; omega) ⟨0, i, (pn : Int), 0, 0, 0, 0, false⟩ rfl)
  have hE := E4.out
  have iE : (Tryz.prog.info? 79).map (·.size) = some (evA ⟨0, i, (pn : Int), 0, 0, 0, 0, false⟩).size := infoE8
  clear HAT HA j0
  go_wp2_with (first
    | (refine wpList_load_row rfl 79 _ rfl ex rfl 79 (evA ⟨0, i, (pn : Int), 0, 0, 0, 0, false⟩) (0, 0) _ hE Tryz.underlying79 rfl iE ?_))
  refine (EN.out 3 13).mono ?_
  rintro r w5 ⟨rfl, v3, h3⟩
  have H5 := hide h3
  clear h3
  go_wp2_with (fail)
  exact bodyPost_ret (results_none rfl _ _ _) rfl ⟨rfl, _, by rw [HS.out]; exact H5.out⟩
end Go.Proofs.YtfhplbmgjgfihaaGreatDoor.Wl
