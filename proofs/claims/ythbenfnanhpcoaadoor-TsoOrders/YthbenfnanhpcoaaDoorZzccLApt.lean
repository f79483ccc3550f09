/-
  What TsoApart answers of any two codes, any picks and any room: true. No condition but what each law names.
-/
import Derived.Test.YthbenfnanhpcoaaDoorZzbuLSee
import Derived.Test.YthbenfnanhpcoaaDoorZzbz
import Derived.Test.YthbenfnanhpcoaaDoorZzcaHasm
import Derived.Test.YthbenfnanhpcoaaDoorZzcbEqt
import Derived.BigQuiet
import Derived.Deep.QuietTactic
namespace Go.Proofs.YthbenfnanhpcoaaDoor.Mc
open Go.ChangeShapes Go.WideShapes Go.ChangeAt Go.RowKit
set_option linter.unusedVariables false
set_option maxRecDepth 20000

theorem make_w9 (w : World) : (Instr.makeSlice 23 (.int .i64 9) (.int .i64 9)).run Tryd.prog w = .ok (.slice (some ⟨w.heap.size, 0, none⟩) 9 9) (w.alloc (.cells (flatOf wordL zeros9).toArray 41)) := by
  obtain ⟨i, h1, h2, h3, h4⟩ := info_parts infoWrd
  have := run_make (P := Tryd.prog) w 23 41 i (.int .u32 0) Tryd.underlying23 h1 h2 .i64 .i64 9 9 (by omega) (Int.le_refl _) (by rw [h4]; omega) (by omega)
  rw [h3] at this
  have e : madeCells (Value.cells (.int .u32 0)) (9 * 1) = (flatOf wordL zeros9).toArray := by kernel_rfl
  rw [← e]
  simpa using this
theorem infoT9 : (Tryd.prog.info? 52).map (·.size) = some 10 := by kernel_rfl
/-- the first thread of a row lies at its beginning -/
theorem th_range {w : World} {g : Nat} {l : List Th} (h : Has w g (flatOf thR l).toArray 52) (hl : 0 < l.length) (hok : ThOk (l.getD 0 thZ)) : w.rangeAt g 0 (thL (l.getD 0 thZ)) := fun j v hv => by
  rw [← thR_is hok] at hv
  have hj : j < 10 := by have := (List.getElem?_eq_some_iff.1 hv).1; rwa [thR_len] at this
  have q := h.rowAt.cell thR_len hl thZ j hj
  rw [Nat.zero_mul, Nat.zero_add] at q
  exact q.trans hv
theorem wp_eqth {op : Oper} {a : Act} {w : World} {K : Act → World → Prop} {Q : Exit → Act → World → Prop} (d : Option Tmp) (hd : op.dst = d) (x y : Operand) (ho : op.op = .binOp .eql 52 x y 52) (t : Th) (ht : ThOk t)
    (hx : a.eval x = .agg (thC t)) (hy : a.eval y = .agg (thC t)) (h : K (a.put d (.bool true)) w) : op.wp Tryd.prog a w K Q := by
  subst hd
  unfold Oper.wp execOp
  simp only [ho, hx, hy, Sem.run_bind, guard_th, eql_th w ht ht, Result.andThen_ok, thEq_refl]
  exact h
/-- an early end: a guard says so -/
def ApEnd (W : World) (r : Ending) (w' : World) : Prop := r = .returned (.bool true) ∧ Gr W w'

theorem apP_at {cb cc mz : Nat} {cs : List Cd} {rm : Int} {w : World} (hc : ∀ x ∈ cs, CdAt x w) (h3 : Has w cb (flatOf codeV cs).toArray 39) (h4 : Has w mz (flatOf wordL zeros9).toArray 41) : PgAt (apP cb cc cs mz rm) w :=
  ⟨h3.rowAt, hc, h4.rowAt, fun e => (by cases e), zeros9_u⟩
set_option maxHeartbeats 2000000 in
theorem apart_walk (x y : Cd) (l : List Ent) (pa : Option Addr) (pc : Nat) (rm : Nat) (hrm : rm < 256) (hxl : x.l.length ≤ maxLen) (hyl : y.l.length ≤ maxLen) (hl0 : l.length ≤ maxLen) (W : World) (L : Laid W) (hx : CdAt x W) (hy : CdAt y W) (hrow : RowAt W pa (flatOf slpL l)) :
    Calls Tryd.prog 5 #[.slice x.a x.l.length x.c, .slice y.a y.l.length y.c, .slice pa l.length pc, .int .u8 (rm : Int)] W (ApEnd W) := by
  have HL := hide L
  have HX := hide hx
  have HY := hide hy
  have HRW := hide hrow
  have A1 := hide (awake_calls W L)
  have HA := hide (fun w (g : Gr W w) => awake_calls w (HL.out.later g))
  clear hx hy hrow L hxl hyl hl0
  go_enter Tryd.func5, Tryd.ntmps5
  go_wp2_with (fail)
  refine A1.out.mono ?_
  rintro r w1 ⟨rfl, g1⟩
  have HG1 := hide g1
  have A2 := hide (HA.out w1 g1)
  clear g1 A1
  by_cases l1 : 400 < x.l.length
  · have l1' : (400 : Int) < x.l.length := by omega
    go_wp2_with (fail)
    refine A2.out.mono ?_
    rintro r w2 ⟨rfl, g2⟩
    have HG2 := hide (HG1.out.trans g2)
    clear g2
    go_wp2_with (fail)
    go_ret
    exact ⟨rfl, HG2.out⟩
  have l1' : ¬ (400 : Int) < x.l.length := by omega
  by_cases l2 : 400 < y.l.length
  · have l2' : (400 : Int) < y.l.length := by omega
    go_wp2_with (fail)
    refine A2.out.mono ?_
    rintro r w2 ⟨rfl, g2⟩
    have HG2 := hide (HG1.out.trans g2)
    clear g2
    go_wp2_with (fail)
    go_ret
    exact ⟨rfl, HG2.out⟩
  have l2' : ¬ (400 : Int) < y.l.length := by omega
  by_cases l3 : 600 < l.length
  · have l3' : (600 : Int) < l.length := by omega
    go_wp2_with (fail)
    refine A2.out.mono ?_
    rintro r w2 ⟨rfl, g2⟩
    have HG2 := hide (HG1.out.trans g2)
    clear g2
    go_wp2_with (fail)
    go_ret
    exact ⟨rfl, HG2.out⟩
  have l3' : ¬ (600 : Int) < l.length := by omega
  clear A2
  go_wp2_with (fail)
  go_loopw [9] (fun v wr => ∃ j : Nat, j ≤ y.l.length ∧ v = .int .i64 j ∧ Gr W wr ∧ ∀ c ∈ y.l.take j, askB c.op = false ∧ c.op ≠ 25) (fun v _ => y.l.length - (intOf v).toNat)
  case atStart => exact ⟨0, by omega, rfl, HG1.out, fun c hc => by simp at hc⟩
  case round =>
    clear HG1
    obtain ⟨j, hj, rfl, g, hq⟩ := hrel
    by_cases hlt : j < y.l.length
    · have hlt' : (j : Int) < y.l.length := by omega
      have q1 := HY.out.row.later g
      obtain ⟨b, off, had, -⟩ := q1.get (by rw [flatOf_length insL_len]; omega)
      rw [had] at q1
      have c0 := q1.cell insL_len hlt ins0 0 (by omega)
      have hT := take_snoc' hlt ins0
      have HC0 := hide (fun u (gu : Gr wr u) => cell_later gu c0)
      generalize y.l.getD j ins0 = z at c0 hT HC0
      have HNC := hide (Nm.has_calls z.op 77 wr)
      rw [Nm.has_is] at HNC
      simp only [insL, List.getElem?_cons_zero, Nat.add_zero] at c0 HC0
      generalize y.a = ya at had
      subst had
      have HG := hide g
      have HQ := hide hq
      clear q1 g hq
      go_wp2_with (fail)
      refine HNC.out.mono ?_
      rintro r u ⟨rfl, gu⟩
      have cu := HC0.out u gu
      have HG2 := hide (HG.out.trans gu)
      clear c0 gu HNC
      cases hab : askB z.op with
      | true =>
        clear hab
        go_wp2_with (fail)
        go_ret
        exact ⟨rfl, HG2.out⟩
      | false =>
        by_cases h25 : z.op = 25
        · have h25' : (z.op == 25) = true := by simpa using h25
          clear h25 hab
          go_wp2_with (fail)
          go_ret
          exact ⟨rfl, HG2.out⟩
        · have h25' : (z.op == 25) = false := by simpa using h25
          have HQ2 := hide (show ∀ c ∈ y.l.take (j + 1), askB c.op = false ∧ c.op ≠ 25 by
            rw [hT]
            intro c hc
            rcases List.mem_append.1 hc with hc | hc
            · exact HQ.out c hc
            · rw [show c = z by simpa using hc]; exact ⟨hab, h25⟩)
          clear h25 hab hT
          go_wp2_with (fail)
          exact ⟨⟨j + 1, by omega, by go_num, HG2.out, HQ2.out⟩, by simp [intOf]; omega⟩
    · have hj' : j = y.l.length := by omega
      subst hj'
      rw [List.take_length] at hq
      have HQ := hide hq
      have mk := make_w9
      have hrm0 : (0 : Int) ≤ (rm : Int) := by omega
      have hrm1 : (rm : Int) < 256 := by omega
      have m0 := (Has.new wr (flatOf wordL zeros9).toArray 41).alloc #[.slice x.a x.l.length x.c, .slice y.a y.l.length y.c] 39
      have m1 := Has.new (wr.alloc (.cells (flatOf wordL zeros9).toArray 41)) #[.slice x.a x.l.length x.c, .slice y.a y.l.length y.c] 39
      have m2 := (g.alloc (flatOf wordL zeros9).toArray 41).alloc #[.slice x.a x.l.length x.c, .slice y.a y.l.length y.c] 39
      rw [show (wr.alloc (.cells (flatOf wordL zeros9).toArray 41)).heap.size = wr.heap.size + 1 by simp] at m1
      clear hq hj hlt g
      go_wp2_with (fail)
      change Calls _ _ _ ((wr.alloc (.cells (flatOf wordL zeros9).toArray 41)).alloc (.cells #[.slice x.a x.l.length x.c, .slice y.a y.l.length y.c] 39)) _
      have hR1 : 1 ≤ 1 + (rm : Int) % 16 := by omega
      generalize (wr.alloc (.cells (flatOf wordL zeros9).toArray 41)).alloc (.cells #[.slice x.a x.l.length x.c, .slice y.a y.l.length y.c] 39) = w2 at m0 m1 m2 ⊢
      generalize wr.heap.size = mz at m0 m1 ⊢
      have HR : Hid (1 + (rm : Int) % 16 = 1 + (rm : Int) % 16) := by show _ = _; rfl
      have PA : PgAt (apP (mz + 1) 2 [x, y] mz (1 + (rm : Int) % 16)) w2 := apP_at (fun z hz => by
        simp only [List.mem_cons, List.not_mem_nil, or_false] at hz
        rcases hz with rfl | rfl
        · exact HX.out.later m2
        · exact HY.out.later m2) m1 m0
      have NA := hide (new_calls _ w2 (HL.out.later m2) PA)
      have HM0 := hide m0
      have HG2 := hide m2
      clear m0 m1 m2 PA mk hrm0 hrm1 hR1
      refine NA.out.mono ?_
      rintro r w3 NP
      rcases NP with ⟨hc0, k1, e1, ⟨rfl, hM1, hN1⟩, hF1, g3⟩ | ⟨hne, rfl, g3⟩
      · have hm3 := HM0.out.later g3
        have hG3 := HG2.out.trans g3
        have b0 := hm3.alloc #[.slice x.a x.l.length x.c] 39
        have b1 := Has.new w3 #[.slice x.a x.l.length x.c] 39
        have b2 := hG3.alloc #[.slice x.a x.l.length x.c] 39
        have a1 := hM1.later ((Gr.refl w3).alloc #[.slice x.a x.l.length x.c] 39)
        have hbd := hM1.bnd
        have HC0 := hide hc0
        have HF1 := hide (fun z hz => Nat.le_trans HG2.out.size (hF1 z hz))
        have HN1 := hide hN1
        clear hm3 hG3 hM1 hF1 g3 NA hN1 hc0
        go_wp2_with (fail)
        change Calls _ _ _ (w3.alloc (.cells #[.slice x.a x.l.length x.c] 39)) _
        generalize hw4s : w3.alloc (.cells #[.slice x.a x.l.length x.c] 39) = w4 at b0 b1 b2 a1 ⊢
        have hs34 : w3.heap.size ≤ w4.heap.size := by rw [← hw4s]; simp
        clear hw4s
        generalize w3.heap.size = cb at b1 hbd hs34 ⊢
        have PB : PgAt (apP cb 1 [x] mz (1 + (rm : Int) % 16)) w4 := apP_at (fun z hz => by
          rw [show z = x by simpa using hz]
          exact HX.out.later b2) b1 b0
        have NB := hide (new_calls _ w4 (HL.out.later b2) PB)
        clear PB b0 b1
        refine NB.out.mono ?_
        rintro r w5 NP
        rcases NP with ⟨hd0, k2, e2, ⟨rfl, hM2, hN2⟩, hF2, g5⟩ | ⟨hne, -⟩
        · have a2 := a1.later g5
          have hapt := ap_start (cb := mz + 1) (cc := 2) (cb' := cb) (cc' := 1) (mz := mz) (x := x) (rm := 1 + (rm : Int) % 16) HQ.out
          have hs1 := newM_short HC0.out
          have hs2 := newM_short hd0
          have n1 : (k1.N : Int) = 9 := by rw [HN1.out]; rfl
          have n2 : (k2.N : Int) = 9 := by rw [hN2]; rfl
          have hG5 := b2.trans g5
          have hb2 := hM2.bnd
          have hev1 : (newM (apP (mz + 1) 2 [x, y] mz (1 + (rm : Int) % 16))).evs.length ≤ 0 := Nat.le_refl 0
          have hev2 : (newM (apP cb 1 [x] mz (1 + (rm : Int) % 16))).evs.length ≤ 0 := Nat.le_refl 0
          generalize newM (apP (mz + 1) 2 [x, y] mz (1 + (rm : Int) % 16)) = sa at a2 hapt hs1 hev1
          generalize newM (apP cb 1 [x] mz (1 + (rm : Int) % 16)) = sb at hM2 hapt hs2 hev2
          have hdis : ∀ z ∈ k1.foot e1, z ∉ k2.foot e2 := fun z h1 h2 => by
            have := hbd z h1
            have := hF2 z h2
            omega
          have hW1 := HF1.out
          have hW2 : ∀ z ∈ k2.foot e2, W.heap.size ≤ z := fun z hz => Nat.le_trans b2.size (hF2 z hz)
          have hout : ∀ q, pa = some q → 0 < l.length → q.block ∉ k1.foot e1 := fun q hq h0 z => by
            obtain ⟨b, off, ha, -⟩ := HRW.out.get (by rw [flatOf_length slpL_len]; omega)
            rw [hq] at ha
            cases ha
            have h1 := HRW.out
            rw [hq] at h1
            have h2 := h1.lt (by rw [flatOf_length slpL_len]; omega)
            have h3 := hW1 _ z
            simp at h3
            omega
          have HRUN := hide (run_does k1 (fun _ => True) (fun _ _ _ _ _ _ _ => trivial) l pa pc (by omega) sa trivial (by omega) hs1 w5 (k1.foot e1) ⟨e1, a2, rfl⟩ (HRW.out.later hG5) hout)
          rw [n1] at HRUN
          clear a1 a2 NB HC0 HF1 HN1 hN2 hd0 hF2 b2 HR hbd hs34 g5 hev1 hout HM0 HG2
          go_wp2_with (fail)
          refine HRUN.out.mono ?_
          rintro r w6 ⟨⟨rfl, p1⟩, -, -⟩
          obtain ⟨Fa, hIa, kp1, nn1, -, -⟩ := p1
          have hposW := HL.out.lt
          have b6 := hM2.kept kp1 (fun z hz => ⟨hdis z hz, by have := hW1 z hz; omega⟩)
          have g6 := Kp.gr hG5 kp1 hW1
          have hFa : ∀ z ∈ Fa, z ∉ k2.foot e2 := fun z h1 h2 => by
            rcases (nn1 z h1).1 with h3 | h3
            · exact hdis z h3 h2
            · have := hb2 z h2
              omega
          have p0 : Pst (MI k2) (k2.foot e2) w6 [] (runB sb 9 (l.take 0)) w6 := Pst.start (mi_inv k2) ⟨e2, b6, rfl⟩
          have e0 : (runB sb 9 (l.take 0)).evs.length ≤ 130 * 0 := hev2
          have s0 : Short (runB sb 9 (l.take 0)) := hs2
          have HAP := hide (ap_run 9 l hapt)
          have HW2 := hide hW2
          have HFA := hide hFa
          have HIA := hide hIa
          have HG6 := hide g6
          have HN2 := hide n2
          have HSN := hide (fun j h => runB_snoc sb 9 l j h)
          generalize k2.foot e2 = F2 at p0 HW2 HFA
          generalize sa.run 9 l = saz at HAP HIA
          clear hM2 hapt hs1 hs2 hG5 hb2 hdis hW1 hW2 HRUN nn1 b6 g6 hFa hIa n1 n2 hev2 kp1
          go_wp2_with (fail)
          go_loopw [15] (fun v wr => ∃ j : Nat, j ≤ l.length ∧ v = .int .i64 j ∧ Pst (MI k2) F2 w6 [] (runB sb 9 (l.take j)) wr ∧ (runB sb 9 (l.take j)).evs.length ≤ 130 * j ∧ Short (runB sb 9 (l.take j))) (fun v _ => l.length - (intOf v).toNat)
          case atStart => exact ⟨0, by omega, rfl, p0, e0, s0⟩
          case round =>
            clear p0 e0 s0
            obtain ⟨j, hj, rfl, p, he, hs⟩ := hrel
            by_cases hlt : j < l.length
            · have hlt' : (j : Int) < l.length := by omega
              have gW : Gr W wr := by
                obtain ⟨F', -, kp, -⟩ := p
                exact Kp.gr HG6.out kp HW2.out
              have rw1 := HRW.out.later gW
              obtain ⟨b, off, had, -⟩ := rw1.get (by rw [flatOf_length slpL_len]; omega)
              subst had
              have c0 := rw1.cell slpL_len hlt ent0 0 (by omega)
              have c1 := rw1.cell slpL_len hlt ent0 1 (by omega)
              have HS := hide (HSN.out j hlt)
              generalize l.getD j ent0 = z at c0 c1 HS
              simp only [slpL, List.getElem?_cons_zero, List.getElem?_cons_succ, Nat.add_zero, ← Nat.add_assoc] at c0 c1
              generalize runB sb 9 (l.take j) = sj at p he hs HS
              obtain ⟨ej, h1⟩ := Pst.mw p
              by_cases hz : z.v = 0
              · have hz' : (z.v == 0) = true := by simpa using hz
                have HD := hide (fun wx => pick_does k2 sj z.a z.v (fuel_few h1.ok (by omega)) hs wx)
                have he1 := evs_pick (n := k2.N) h1.ok z.a z.v
                have hs1 := short_pick hs k2.N z.a z.v
                rw [HN2.out] at HD he1 hs1
                have HS2 := hide (show runB sb 9 (l.take (j + 1)) = sj.pick 9 z.a z.v by rw [HS.out, if_pos hz])
                have PP := hide p
                clear p h1 hs hz rw1 gW HS
                go_wp2_with (fail)
                refine ((HD.out _).go PP.out).mono ?_
                rintro r q ⟨⟨rfl, -⟩, pq⟩
                have PQ := hide pq
                clear pq HD PP c0 c1
                go_wp2_with (fail)
                exact ⟨⟨j + 1, by omega, by go_num, by rw [HS2.out]; exact PQ.out, by rw [HS2.out]; omega, by rw [HS2.out]; exact hs1⟩, by simp [intOf]; omega⟩
              · have hz' : (z.v == 0) = false := by simpa using hz
                have HS2 := hide (show runB sb 9 (l.take (j + 1)) = sj by rw [HS.out, if_neg hz])
                have PP := hide p
                clear p h1 hz rw1 gW HS
                go_wp2_with (fail)
                exact ⟨⟨j + 1, by omega, by go_num, by rw [HS2.out]; exact PP.out, by rw [HS2.out]; omega, by rw [HS2.out]; exact hs⟩, by simp [intOf]; omega⟩
            · have hj' : j = l.length := by omega
              subst hj'
              rw [List.take_length] at p he hs
              have gW : Gr W wr := by
                obtain ⟨F', -, kp, -⟩ := p
                exact Kp.gr HG6.out kp HW2.out
              obtain ⟨Fz, ⟨eb, hMb, -⟩, kpz, -⟩ := p
              obtain ⟨ea, hMa0, hFae⟩ := HIA.out
              have hMa := hMa0.kept kpz (fun z hz => ⟨fun h => HFA.out z (by rw [hFae]; exact h) hz, by have := HW2.out z hz; omega⟩)
              have hapt := HAP.out
              generalize runB sb 9 l = sbz at hMb hapt
              have HMA := hide hMa
              have HMB := hide hMb
              have HT1 := hide (threads_calls hMa)
              have HGW := hide gW
              clear hMa hMb hMa0 kpz gW he hs hFae HAP HIA hj hlt HSN
              go_wp2_with (fail)
              refine HT1.out.mono ?_
              rintro r w7 ⟨⟨rfl, hq1⟩, g7⟩
              have HT2 := hide (threads_calls (HMB.out.later g7))
              have hla : saz.ths.length = 2 := by rw [ths_len]; exact hapt.la
              have hlb : sbz.ths.length = 1 := by rw [ths_len]; exact hapt.lb
              clear HT1
              go_wp2_with (fail)
              refine HT2.out.mono ?_
              rintro r w8 ⟨⟨rfl, hq2⟩, g8⟩
              have hq1' := hq1.later g8
              have g78 := g7.trans g8
              have HM1 := hide (mem_calls (HMA.out.later g78))
              clear HT2 hq1
              generalize wr.heap.size = tb1 at hq1' ⊢
              generalize w7.heap.size = tb2 at hq2 ⊢
              go_wp2_with (fail)
              refine HM1.out.mono ?_
              rintro r w9 ⟨va, rfl, oa, g9⟩
              have HM2 := hide (mem_calls (HMB.out.later (g78.trans g9)))
              obtain ⟨aa, ac, rfl, ra, -, -, -⟩ := own_at oa
              clear HM1 oa
              go_wp2_with (fail)
              refine HM2.out.mono ?_
              rintro r w10 ⟨vb, rfl, ob2, g10⟩
              obtain ⟨ba, bc, rfl, rb, -, -, -⟩ := own_at ob2
              have G10 := (g78.trans g9).trans g10
              have hml : saz.mem.length = 9 := by rw [hapt.mem, HMB.out.num]; exact Int.ofNat.inj HN2.out
              have hml2 : sbz.mem.length = 9 := by rw [HMB.out.num]; exact Int.ofNat.inj HN2.out
              have RA := hide (ra.later g10)
              have RB := hide rb
              have HQ1 := hide (hq1'.later (g9.trans g10))
              have HQ2 := hide (hq2.later (g9.trans g10))
              have HG10 := hide G10
              have hme := hide hapt.mem
              clear HM2 ob2 ra rb hq1' hq2 g7 g8 g78 g9 g10 G10
              rw [hml, hml2]
              go_wp2_with (fail)
              go_loopw [20] (fun v wz => ∃ j : Nat, j ≤ 9 ∧ v = .int .i64 j ∧ Gr w10 wz) (fun v _ => 9 - (intOf v).toNat)
              case atStart => exact ⟨0, by omega, rfl, Gr.refl _⟩
              case round =>
                obtain ⟨j, hj, rfl, g⟩ := hrel
                by_cases hlt : j < 9
                · have hlt' : (j : Int) < 9 := by omega
                  have qa := RA.out.later g
                  have qb := RB.out.later g
                  obtain ⟨b1, o1, h1, -⟩ := qa.get (by rw [flatOf_length wordL_len]; omega)
                  obtain ⟨b2, o2, h2, -⟩ := qb.get (by rw [flatOf_length wordL_len]; omega)
                  subst h1 h2
                  have c1 := qa.cell wordL_len (i := j) (by omega) 0 0 (by omega)
                  have c2 := qb.cell wordL_len (i := j) (by omega) 0 0 (by omega)
                  rw [hme.out] at c1
                  generalize sbz.mem.getD j 0 = z at c1 c2
                  simp only [wordL, List.getElem?_cons_zero, Nat.add_zero, Nat.mul_one] at c1 c2
                  have HGZ := hide g
                  clear qa qb g
                  go_upto_region 24 with (fail)
                  go_quiet (fail)
                  have HG2 := hide (HGZ.out.drewN nq)
                  clear c1 c2 HGZ
                  generalize wr.drewN nq = wy at HG2 ⊢
                  go_wp2_with (fail)
                  exact ⟨⟨j + 1, by omega, by go_num, HG2.out⟩, by simp [intOf]; omega⟩
                · go_upto_region 26 with (fail)
                  have gd := g.drew
                  have GT := hide (HG10.out.trans gd)
                  have HGWT := hide (HGW.out.trans GT.out)
                  have q1 := HQ1.out.later gd
                  have q2 := HQ2.out.later gd
                  have h0a : 0 < saz.sides.length := by rw [hapt.la]; omega
                  have h0b : 0 < sbz.sides.length := by rw [hapt.lb]; omega
                  have ht0 : saz.ths.getD 0 thZ = (sbz.side 0).t := by rw [ths_at saz h0a, hapt.s0]
                  have ht1 : sbz.ths.getD 0 thZ = (sbz.side 0).t := ths_at sbz h0b
                  obtain ⟨y0, hy0⟩ : ∃ y0, k2.ss[0]? = some y0 := ⟨_, List.getElem?_eq_getElem (by rw [HMB.out.len]; exact h0b)⟩
                  have hth : ThOk (sbz.side 0).t := (HMB.out.side 0 y0 hy0).th
                  have RT1 := hide (fun w' (hw' : Gr wr.drew w') => th_range (q1.later hw') (by rw [hla]; omega) (by rw [ht0]; exact hth))
                  have RT2 := hide (fun w' (hw' : Gr wr.drew w') => th_range (q2.later hw') (by rw [hlb]; omega) (by rw [ht1]; exact hth))
                  rw [ht0] at RT1
                  rw [ht1] at RT2
                  have iT := infoT10 hth
                  have HB1 := hide (fun w' (hw' : Gr wr.drew w') => buffer_calls (HMA.out.later (GT.out.trans hw')) 0 h0a)
                  have HB2 := hide (fun w' (hw' : Gr wr.drew w') => buffer_calls (HMB.out.later (GT.out.trans hw')) 0 h0b)
                  rw [hapt.s0] at HB1
                  generalize (sbz.side 0).t = t0 at hth RT1 RT2 iT
                  generalize (sbz.side 0).buf = f0 at HB1 HB2
                  have HT0 := hide hth
                  clear q1 q2 gd g ht0 ht1
                  refine begin_late 17 [] (fun w' => Gr wr.drew w') (by kernel_rfl) rfl ?_
                  have hH : Gr wr.drew wr.drew := Gr.refl _
                  refine AnyL.takeP 0 (some 135) (.slice (some ⟨tb1, 0, none⟩) 2 2) rfl rfl (by kernel_rfl) (by kernel_rfl) (by kernel_rfl) (by kernel_rfl) (fun _ _ _ h => h) (by kernel_rfl) (fun w' => by go_simp) (fun _ => hH) ?_
                  simp only [Act.put, List.setIfInBounds_toArray, List.set_cons_zero, List.set_cons_succ]
                  refine AnyL.takeP 1 (some 136) (.pointer (some ⟨tb1, 0, none⟩)) rfl rfl (by kernel_rfl) (by kernel_rfl) (by kernel_rfl) (by kernel_rfl) (fun _ _ _ h => h) (by kernel_rfl) (fun w' => by go_simp) (fun _ => hH) ?_
                  simp only [Act.put, List.setIfInBounds_toArray, List.set_cons_zero, List.set_cons_succ]
                  refine AnyL.take 2 (some 137) (.agg (thC t0)) rfl rfl (by kernel_rfl) (by kernel_rfl) (by kernel_rfl) (by kernel_rfl) (fun _ _ _ h => h) (yieldsIf_load_mid (by kernel_rfl) 52 _ rfl tb1 0 rfl (thL t0) _ (fun w' hw' => RT1.out w' hw') Tryd.underlying52 rfl iT) hH ?_
                  simp only [Act.put, List.setIfInBounds_toArray, List.set_cons_zero, List.set_cons_succ]
                  refine AnyL.takeP 3 (some 138) (.slice (some ⟨tb2, 0, none⟩) 1 1) rfl rfl (by kernel_rfl) (by kernel_rfl) (by kernel_rfl) (by kernel_rfl) (fun _ _ _ h => h) (by kernel_rfl) (fun w' => by go_simp) (fun _ => hH) ?_
                  simp only [Act.put, List.setIfInBounds_toArray, List.set_cons_zero, List.set_cons_succ]
                  refine AnyL.takeP 4 (some 139) (.pointer (some ⟨tb2, 0, none⟩)) rfl rfl (by kernel_rfl) (by kernel_rfl) (by kernel_rfl) (by kernel_rfl) (fun _ _ _ h => h) (by kernel_rfl) (fun w' => by go_simp) (fun _ => hH) ?_
                  simp only [Act.put, List.setIfInBounds_toArray, List.set_cons_zero, List.set_cons_succ]
                  refine AnyL.take 5 (some 140) (.agg (thC t0)) rfl rfl (by kernel_rfl) (by kernel_rfl) (by kernel_rfl) (by kernel_rfl) (fun _ _ _ h => h) (yieldsIf_load_mid (by kernel_rfl) 52 _ rfl tb2 0 rfl (thL t0) _ (fun w' hw' => RT2.out w' hw') Tryd.underlying52 rfl iT) hH ?_
                  simp only [Act.put, List.setIfInBounds_toArray, List.set_cons_zero, List.set_cons_succ]
                  refine AnyL.one 6 (by kernel_rfl) rfl (by kernel_rfl) ?_
                  refine wp_eqth (some 141) rfl _ _ rfl t0 HT0.out (by kernel_rfl) (by kernel_rfl) ?_
                  refine ⟨fun _ => hH, ?_⟩
                  simp only [Act.put, List.setIfInBounds_toArray, List.set_cons_zero, List.set_cons_succ]
                  refine AnyL.takeP 7 (some 142) (.bool true) rfl rfl (by kernel_rfl) (by kernel_rfl) (by kernel_rfl) (by kernel_rfl) (fun _ _ _ h => h) (by kernel_rfl) (fun w' => by go_simp) (fun _ => hH) ?_
                  simp only [Act.put, List.setIfInBounds_toArray, List.set_cons_zero, List.set_cons_succ]
                  refine AnyL.takeP 8 (some 143) (.pointer (some ⟨k1.mb, 0, none⟩)) rfl rfl (by kernel_rfl) (by kernel_rfl) (by kernel_rfl) (by kernel_rfl) (fun _ _ _ h => h) (by kernel_rfl) (fun w' => by go_simp) (fun _ => hH) ?_
                  simp only [Act.put, List.setIfInBounds_toArray, List.set_cons_zero, List.set_cons_succ]
                  refine AnyL.takeP 11 (some 146) (.pointer (some ⟨k2.mb, 0, none⟩)) rfl rfl (by kernel_rfl) (by kernel_rfl) (by kernel_rfl) (by kernel_rfl) (fun _ _ _ h => h) (by kernel_rfl) (fun w' => by go_simp) (fun _ => hH) ?_
                  simp only [Act.put, List.setIfInBounds_toArray, List.set_cons_zero, List.set_cons_succ]
                  refine AnyL.one 9 (by kernel_rfl) rfl (by kernel_rfl) ?_
                  refine wp_call (some 144) rfl _ _ (by kernel_rfl) (HB1.out _ hH) ?_
                  rintro r w11 ⟨a11, c11, ⟨rfl, -⟩, g11⟩
                  refine ⟨_, rfl, fun _ => g11, ?_⟩
                  simp only [Act.put, List.setIfInBounds_toArray, List.set_cons_zero, List.set_cons_succ]
                  replace hH := g11
                  refine AnyL.takeP 10 (some 145) (.int .i64 f0.length) rfl rfl (by kernel_rfl) (by kernel_rfl) (by kernel_rfl) (by kernel_rfl) (fun _ _ _ h => h) (by kernel_rfl) (fun w' => by go_simp) (fun _ => hH) ?_
                  simp only [Act.put, List.setIfInBounds_toArray, List.set_cons_zero, List.set_cons_succ]
                  refine AnyL.one 12 (by kernel_rfl) rfl (by kernel_rfl) ?_
                  refine wp_call (some 147) rfl _ _ (by kernel_rfl) (HB2.out _ hH) ?_
                  rintro r w12 ⟨a12, c12, ⟨rfl, -⟩, g12⟩
                  refine ⟨_, rfl, fun _ => g11.trans g12, ?_⟩
                  simp only [Act.put, List.setIfInBounds_toArray, List.set_cons_zero, List.set_cons_succ]
                  replace hH := g11.trans g12
                  refine AnyL.takeP 13 (some 148) (.int .i64 f0.length) rfl rfl (by kernel_rfl) (by kernel_rfl) (by kernel_rfl) (by kernel_rfl) (fun _ _ _ h => h) (by kernel_rfl) (fun w' => by go_simp) (fun _ => hH) ?_
                  simp only [Act.put, List.setIfInBounds_toArray, List.set_cons_zero, List.set_cons_succ]
                  refine AnyL.takeP 14 (some 149) (.bool true) rfl rfl (by kernel_rfl) (by kernel_rfl) (by kernel_rfl) (by kernel_rfl) (fun _ _ _ h => h) (by kernel_rfl) (fun w' => by go_simp) (fun _ => hH) ?_
                  simp only [Act.put, List.setIfInBounds_toArray, List.set_cons_zero, List.set_cons_succ]
                  refine AnyL.takeP 15 (some 150) (.bool true) rfl rfl (by kernel_rfl) (by kernel_rfl) (by kernel_rfl) (by kernel_rfl) (fun _ _ _ h => h) (by kernel_rfl) (fun w' => by go_simp) (fun _ => hH) ?_
                  simp only [Act.put, List.setIfInBounds_toArray, List.set_cons_zero, List.set_cons_succ]
                  refine AnyL.takeP 16 (some 8) (.bool true) rfl rfl (by kernel_rfl) (by kernel_rfl) (by kernel_rfl) (by kernel_rfl) (fun _ _ _ h => h) (by kernel_rfl) (fun w' => by go_simp) (fun _ => hH) ?_
                  simp only [Act.put, List.setIfInBounds_toArray, List.set_cons_zero, List.set_cons_succ]
                  refine AnyL.done (by kernel_rfl) ?_
                  have HGF := hide (HGWT.out.trans hH)
                  clear hH g11 g12 HB1 HB2 RT1 RT2 HT0 HQ1 HQ2 HMA HMB
                  go_wp2_with (fail)
                  go_ret
                  exact ⟨rfl, HGF.out⟩
        · exact absurd (ap_one HC0.out) hne
      · have HG3 := hide (HG2.out.trans g3)
        have b0 := (HM0.out.later g3).alloc #[.slice x.a x.l.length x.c] 39
        have b1 := Has.new w3 #[.slice x.a x.l.length x.c] 39
        have b2 := HG3.out.alloc #[.slice x.a x.l.length x.c] 39
        have hne' : ((chkM (apP (mz + 1) 2 [x, y] mz (1 + (rm : Int) % 16))).2.2 == 0) = false := by simpa using hne
        generalize (chkM (apP (mz + 1) 2 [x, y] mz (1 + (rm : Int) % 16))).2.2 = ec at hne'
        have hne2 : (ec != 0) = true := by simp [bne, hne']
        clear hne NA g3
        go_wp2_with (fail)
        change Calls _ _ _ (w3.alloc (.cells #[.slice x.a x.l.length x.c] 39)) _
        generalize w3.alloc (.cells #[.slice x.a x.l.length x.c] 39) = w4 at b0 b1 b2 ⊢
        generalize w3.heap.size = cb at b1 ⊢
        have PB : PgAt (apP cb 1 [x] mz (1 + (rm : Int) % 16)) w4 := apP_at (fun z hz => by
          rw [show z = x by simpa using hz]
          exact HX.out.later b2) b1 b0
        have NB := hide (new_calls _ w4 (HL.out.later b2) PB)
        have HB2 := hide b2
        clear PB b0 b1 b2
        refine NB.out.mono ?_
        rintro r w5 NP
        rcases NP with ⟨-, k2, e2, ⟨rfl, -, -⟩, -, g5⟩ | ⟨hn2, rfl, g5⟩
        · have HG5 := hide (HB2.out.trans g5)
          clear g5 NB
          go_wp2_with (fail)
          go_ret
          exact ⟨rfl, HG5.out⟩
        · have HG5 := hide (HB2.out.trans g5)
          generalize (chkM (apP cb 1 [x] mz (1 + (rm : Int) % 16))).2.2 = ed
          clear g5 NB hn2
          go_wp2_with (fail)
          go_ret
          exact ⟨rfl, HG5.out⟩
end Go.Proofs.YthbenfnanhpcoaaDoor.Mc
