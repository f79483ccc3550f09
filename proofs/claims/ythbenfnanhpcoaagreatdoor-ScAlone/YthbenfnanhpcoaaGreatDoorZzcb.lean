/-
  What ScAlone answers of any code, any room and any flushes: true. No condition but what each law names.
-/
import Derived.Test.YthbenfnanhpcoaaGreatDoorZzbtSAwk
import Derived.Test.YthbenfnanhpcoaaGreatDoorZzbw
import Derived.Test.YthbenfnanhpcoaaGreatDoorZzbxLEag
import Derived.Test.YthbenfnanhpcoaaGreatDoorZzca
import Derived.Test.YthbenfnanhpcoaaGreatDoorZzbr
import Derived.BigQuiet
import Derived.Deep.QuietTactic
import Derived.Test.YthbenfnanhpcoaaGreatDoorZzbyOpn9
namespace Go.Proofs.YthbenfnanhpcoaaGreatDoor.Mc
open Go.ChangeShapes Go.WideShapes Go.ChangeAt Go.RowKit
set_option linter.unusedVariables false
set_option maxRecDepth 20000

theorem make_w6 (w : World) : (Instr.makeSlice 25 (.int .i64 6) (.int .i64 6)).run Tryz.prog w = .ok (.slice (some ⟨w.heap.size, 0, none⟩) 6 6) (w.alloc (.cells (flatOf wordL zeros6).toArray 39)) := by
  obtain ⟨i, h1, h2, h3, h4⟩ := info_parts infoWrd
  have := run_make (P := Tryz.prog) w 25 39 i (.int .u32 0) Tryz.underlying25 h1 h2 .i64 .i64 6 6 (by omega) (Int.le_refl _) (by rw [h4]; omega) (by omega)
  rw [h3] at this
  have e : madeCells (Value.cells (.int .u32 0)) (6 * 1) = (flatOf wordL zeros6).toArray := by kernel_rfl
  rw [← e]
  simpa using this
theorem ev_last {w : World} {a : Option Addr} {l : List Ev} {x : Ev} (h : RowAt w a (flatOf evL (l ++ [x]))) : ∃ b off, a = some ⟨b, off, none⟩ ∧ w.cell? ⟨b, off + l.length * 8, none⟩ = some (.int .i64 x.kind) := by
  obtain ⟨b, off, ha, -⟩ := h.get (by rw [flatOf_length evL_len, List.length_append]; simp)
  subst ha
  have c := h.cell evL_len (i := l.length) (by rw [List.length_append]; simp) x 0 (by omega)
  rw [List.getD_eq_getElem?_getD, List.getElem?_append_right (Nat.le_refl _), Nat.sub_self] at c
  exact ⟨b, off, rfl, c⟩
theorem th_pc {w : World} {g : Nat} {l : List Th} (h : Has w g (flatOf thR l).toArray 42) (hl : 0 < l.length) : w.cell? ⟨g, 0, none⟩ = some (.int .i64 (l.getD 0 thZ).pc) := by
  have c := h.rowAt.cell thR_len hl thZ 0 (by omega)
  exact c

set_option maxHeartbeats 4000000 in
theorem alone_walk (x : Cd) (l : List Int) (hb : ∀ i ∈ l, 0 ≤ i ∧ i < 256) (pa : Option Addr) (pc : Nat) (rm : Nat) (hrm : rm < 256) (hxl : x.l.length ≤ maxLen) (hl0 : l.length ≤ maxLen) (W : World) (L : Laid W) (hx : CdAt x W) (hrow : RowAt W pa (flatOf byteL l)) :
    Calls Tryz.prog 6 #[.slice x.a x.l.length x.c, .int .u8 (rm : Int), .slice pa l.length pc] W (AloEnd W) := by
  have HL := hide L
  have HPOS := hide L.lt
  have HX := hide hx
  have HRW := hide hrow
  have HBB := hide hb
  have A1 := hide (Sc.awake_calls W L)
  have HA := hide (fun w (g : Gr W w) => Sc.awake_calls w (HL.out.later g))
  clear hx hrow L hxl hl0 hb
  go_enter Tryz.func6, Tryz.ntmps6
  go_wp2_with (fail)
  refine A1.out.mono ?_
  rintro r w1 ⟨rfl, g1⟩
  have HG1 := hide g1
  have A2 := hide (HA.out w1 g1)
  clear g1 A1
  by_cases l1 : 400 < x.l.length
  · have l1' : (400 : Int) < x.l.length := by omega
    go_wp2_with (fail)
    refine A2.out.mono ?_
    rintro r w2 ⟨rfl, g2⟩
    have HG2 := hide (HG1.out.trans g2)
    clear g2
    go_wp2_with (fail)
    go_ret
    exact ⟨rfl, HG2.out⟩
  have l1' : ¬ (400 : Int) < x.l.length := by omega
  by_cases l3 : 600 < l.length
  · have l3' : (600 : Int) < l.length := by omega
    go_wp2_with (fail)
    refine A2.out.mono ?_
    rintro r w2 ⟨rfl, g2⟩
    have HG2 := hide (HG1.out.trans g2)
    clear g2
    go_wp2_with (fail)
    go_ret
    exact ⟨rfl, HG2.out⟩
  have l3' : ¬ (600 : Int) < l.length := by omega
  clear A2
  have mk := make_w6
  have hrm0 : (0 : Int) ≤ (rm : Int) := by omega
  have hrm1 : (rm : Int) < 256 := by omega
  have m0 := ((Has.new w1 #[.slice x.a x.l.length x.c] 65).alloc (flatOf wordL zeros6).toArray 39)
  have m1 := Has.new (w1.alloc (.cells #[.slice x.a x.l.length x.c] 65)) (flatOf wordL zeros6).toArray 39
  have g2 := (HG1.out.alloc #[.slice x.a x.l.length x.c] 65).alloc (flatOf wordL zeros6).toArray 39
  rw [show (w1.alloc (.cells #[.slice x.a x.l.length x.c] 65)).heap.size = w1.heap.size + 1 by simp] at m1
  have hz2 : ((w1.alloc (.cells #[.slice x.a x.l.length x.c] 65)).alloc (.cells (flatOf wordL zeros6).toArray 39)).heap.size = w1.heap.size + 1 + 1 := by simp
  go_upto_region 4 with (fail)
  change Code.wp _ _ _ _ (((w1.alloc (.cells #[.slice x.a x.l.length x.c] 65)).alloc (.cells (flatOf wordL zeros6).toArray 39)).alloc (.cells (pgA (alP w1.heap.size (w1.heap.size + 1) x (1 + (rm : Int) % 16))) 27))
  generalize (w1.alloc (.cells #[.slice x.a x.l.length x.c] 65)).alloc (.cells (flatOf wordL zeros6).toArray 39) = w2 at m0 m1 g2 hz2 ⊢
  generalize w1.heap.size = cb at m0 m1 hz2 ⊢
  have PA : PgAt (alP cb (cb + 1) x (1 + (rm : Int) % 16)) w2 := alP_at (HX.out.later g2) m0 m1
  have hb3 := Has.new w2 (pgA (alP cb (cb + 1) x (1 + (rm : Int) % 16))) 27
  rw [hz2] at hb3
  have g3 := g2.alloc (pgA (alP cb (cb + 1) x (1 + (rm : Int) % 16))) 27
  have PA3 := PA.later ((Gr.refl w2).alloc (pgA (alP cb (cb + 1) x (1 + (rm : Int) % 16))) 27)
  generalize w2.alloc (.cells (pgA (alP cb (cb + 1) x (1 + (rm : Int) % 16))) 27) = w3 at hb3 g3 PA3 ⊢
  have HB3 := hide hb3
  have HPA := hide PA3
  have HG3 := hide g3
  have d0 := hb3.cell (o := 0) (v := .slice (some ⟨cb, 0, none⟩) 1 1) rfl
  have d1 := hb3.cell (o := 1) (v := .slice (some ⟨cb + 1, 0, none⟩) 6 6) rfl
  have d2 := hb3.cell (o := 2) (v := .int .i64 (1 + (rm : Int) % 16)) rfl
  have A4 := hide (Sc.new_calls _ w3 (HL.out.later g3) PA3)
  clear hz2 m0 m1 g2 PA hb3 g3 PA3 mk
  go_wp2_with (fail)
  refine A4.out.mono ?_
  rintro r w4 NP
  rcases NP with ⟨hc0, k1, e1, ⟨rfl, hM1, hN1⟩, hF1, g5⟩ | ⟨hne, rfl, g5⟩
  · have g6 := HG3.out.trans g5
    have hb4 := HB3.out.later g5
    have d0' := hb4.cell (o := 0) (v := .slice (some ⟨cb, 0, none⟩) 1 1) rfl
    have d1' := hb4.cell (o := 1) (v := .slice (some ⟨cb + 1, 0, none⟩) 6 6) rfl
    have d2' := hb4.cell (o := 2) (v := .int .i64 (1 + (rm : Int) % 16)) rfl
    have A5 := hide (new_calls _ w4 (HL.out.later g6) (HPA.out.later g5))
    have HC0 := hide hc0
    have HF1 := hide (show ∀ z ∈ k1.foot e1, W.heap.size ≤ z from fun y hy => Nat.le_trans HG3.out.size (hF1 y hy))
    have HN1 := hide hN1
    have HM1 := hide hM1
    have HG6 := hide g6
    clear hc0 hF1 hN1 hM1 g6 hb4 g5 d0 d1 d2 A4
    go_wp2_with (fail)
    refine A5.out.mono ?_
    rintro r w5 NP
    rcases NP with ⟨-, k2, e2, ⟨rfl, hM2, hN2⟩, hF2, g7⟩ | ⟨hne, -⟩
    rotate_left
    · exact absurd HC0.out hne
    have hT := two_start HM1.out hM2 HG6.out g7 HF1.out hF2 HPOS.out
    have hE := al_start HC0.out (newM_short HC0.out)
    have hK : Hid ((k1.N : Int) = k2.N) := by show _ = _; rw [HN1.out, hN2]
    clear d0' d1' d2' A5 hM2 hN2 hF2 g7 HM1 HG6 HF1 HN1 HB3 HPA HG3 HA HG1 hrm0 hrm1 HX
    generalize newM (alP cb (cb + 1) x (1 + (rm : Int) % 16)) = s0 at hT hE
    generalize 1 + (rm : Int) % 16 = rmz
    go_wp2_with (fail)
    go_loopw [12] (fun v wr => ∃ (j : Nat) (s q : Ms), j ≤ l.length ∧ v = .int .i64 j ∧ Two W k1 k2 s q wr ∧ Alm j (3 * j) s q) (fun v _ => l.length - (intOf v).toNat)
    case atStart => exact ⟨0, _, _, by omega, rfl, hT, hE⟩
    case round =>
      clear hT hE
      obtain ⟨j, s, q, hj, rfl, hT, hE⟩ := hrel
      by_cases hlt : j < l.length
      · have hlt' : (j : Int) < l.length := by omega
        have rw1 := HRW.out.later hT.gr
        obtain ⟨b, off, had, -⟩ := rw1.get (by rw [flatOf_length byteL_len]; omega)
        subst had
        have HCF := hide (fun u (g : Gr W u) => (HRW.out.later g).cell byteL_len hlt 0 0 (by omega))
        have hbx := HBB.out (l.getD j 0) (by rw [List.getD_eq_getElem?_getD, List.getElem?_eq_getElem hlt]; exact List.getElem_mem hlt)
        generalize l.getD j 0 = f at HCF hbx
        obtain ⟨n, rfl⟩ := nat_of hbx.1
        have hwn := wrap_few n (by omega)
        simp only [byteL, List.getElem?_cons_zero, Nat.add_zero, Nat.mul_one] at HCF
        obtain ⟨ea, hMa⟩ := hT.fst
        obtain ⟨eb, hMb⟩ := hT.snd
        have hea := hE.ea
        have heb := hE.eb
        have hone := hE.one
        have hlq : q.ths.length = 1 := by rw [ths_len]; exact hone.2
        have D1 := hide (fun u => Sc.pick_does k1 s 0 0 (fuel_few hMa.ok (by omega)) hE.sa u)
        have D2 := hide (fun u => pick_does k2 q 0 0 (fuel_few hMb.ok (by omega)) hE.sb u)
        rw [hK.out] at D1
        obtain ⟨y0, hy0⟩ : ∃ y0, k2.ss[0]? = some y0 := ⟨_, List.getElem?_eq_getElem (by rw [hMb.len, hone.2]; omega)⟩
        have HTU := hide (hE.turn (n := k2.N) (by rw [hMb.num]) (hMb.side 0 y0 hy0).ins)
        have E1 := hide (events_calls hMb (by omega))
        have HT := hide hT
        have hqN : q.evs.length ≤ 3000 := by omega
        have hp0 : (q.ths.getD 0 thZ) = (q.side 0).t := ths_at q (by rw [hone.2]; omega)
        clear hT hE hMa rw1 hea heb hbx hy0
        have HMB := hide hMb
        clear hMb
        go_wp2_with (fail)
        refine E1.out.mono ?_
        rintro r u1 ⟨va, rfl, oa, g1⟩
        obtain ⟨aa, ac, rfl, -, -, -, -⟩ := own_at oa
        have HT1 := hide (HT.out.later g1)
        have T1 := hide (threads_calls (HMB.out.later g1))
        clear E1 oa g1 HT
        go_wp2_with (fail)
        refine T1.out.mono ?_
        rintro r u2 ⟨⟨rfl, hq1⟩, g2⟩
        rw [hlq]
        have c0 := th_pc hq1 (by omega)
        rw [hp0] at c0
        have HT2 := hide (HT1.out.later g2)
        generalize u1.heap.size = tb at c0 ⊢
        clear T1 hq1 g2 HT1 hp0 HMB
        go_wp2_with (fail)
        refine (HT2.out.does2 (D2.out _)).mono ?_
        rintro r u3 ⟨rfl, hT3⟩
        clear D2 c0 HT2
        generalize hq1 : q.pick k2.N 0 0 = q1 at hT3 HTU
        have hl1 : (q1.evs.length ≤ 3001 ∧ q1.sides.length = 1) ∧ q1.okB = true := by
          obtain ⟨eb, hMb⟩ := hT3.snd
          refine ⟨?_, hMb.ok⟩
          rcases HTU.out with ⟨x, ex, -, -, ax⟩ | ⟨ex, ax⟩ | ⟨x, ex, -, ax⟩
          · exact ⟨by rw [ex, List.length_append]; simp; omega, ax.al.la⟩
          · exact ⟨by rw [ex]; omega, ax.al.la⟩
          · exact ⟨by rw [ex, List.length_append]; simp; omega, ax.al.la⟩
        obtain ⟨eb, hMb⟩ := hT3.snd
        have E2 := hide (events_calls hMb (by omega))
        have HMB := hide hMb
        have HT3 := hide hT3
        have hlq1 : q1.ths.length = 1 := by rw [ths_len]; exact hl1.1.2
        have hp1 : (q1.ths.getD 0 thZ) = (q1.side 0).t := ths_at q1 (by rw [hl1.1.2]; omega)
        have HL1 := hide hl1
        clear hT3 hMb hq1 hl1
        go_wp2_with (fail)
        refine E2.out.mono ?_
        rintro r u4 ⟨va, rfl, oa, g4⟩
        obtain ⟨va, vc, rfl, ro, -, -, -⟩ := own_at oa
        have HT4 := hide (HT3.out.later g4)
        have HMB4 := hide (HMB.out.later g4)
        clear E2 oa g4 HT3 HMB
        rcases HTU.out with ⟨x, ex, kx, tx, ax⟩ | ⟨ex, ax⟩ | ⟨x, ex, kx, ax⟩
        focus
          rw [ex] at ro
          obtain ⟨b3, o3, rfl, ck⟩ := ev_last ro
          have T2 := hide (threads_calls HMB4.out)
          have hl2 : q1.evs.length = q.evs.length + 1 := by rw [ex, List.length_append]; rfl
          rw [hl2]
          rw [kx] at ck
          have HAX := hide ax
          have HTX := hide tx
          clear ro ex hl2 kx ax tx HTU D1
          generalize q.evs.length = N at hqN ck ⊢
          have n0 : ((N : Int) + 1 == (N : Int)) = false := by simp; omega
          have n1 : (((N + 1 : Nat) : Int) == (N : Int)) = false := by simp; omega
          have n2 := wrap_id (N : Int) (by omega) (by omega)
          have n3 : IntKind.i64.wrap ((N : Int) + 1 - 1) = (N : Int) := by rw [Int.add_sub_cancel]; exact n2
          go_wp2_with (fail)
          refine T2.out.mono ?_
          rintro r u5 ⟨⟨rfl, hq5⟩, g5⟩
          rw [hlq1]
          have c5 := th_pc hq5 (by omega)
          rw [hp1, HTX.out] at c5
          have HT5 := hide (HT4.out.later g5)
          generalize u4.heap.size = tb5 at c5 ⊢
          clear T2 hq5 g5 ck n0 n1 n2 n3 HTX HMB4 HT4 hp1 hlq1 HL1
          go_wp2_with (fail)
          have HFZ := hide HT5.out
          have HAZ := hide HAX.out
          clear c5 HT5 HAX
          generalize s = s2 at HFZ HAZ
        rotate_left
        focus
          have hl2 : q1.evs.length = q.evs.length := by rw [ex]
          rw [hl2]
          have HAX := hide ax
          clear ro ex hl2 ax HTU hp1 HMB4 HL1 hlq1
          generalize q.evs.length = N at hqN ⊢
          go_wp2_with (fail)
          refine (HT4.out.does1 (D1.out _)).mono ?_
          rintro r u5 ⟨rfl, hT5⟩
          have HT5 := hide hT5
          clear hT5 HT4 D1
          go_wp2_with (fail)
          have HFZ := hide HT5.out
          have HAZ := hide HAX.out
          clear HT5 HAX
          generalize s.pickS k2.N 0 0 = s2 at HFZ HAZ
        rotate_left
        focus
          rw [ex] at ro
          obtain ⟨b3, o3, rfl, ck⟩ := ev_last ro
          have hl2 : q1.evs.length = q.evs.length + 1 := by rw [ex, List.length_append]; rfl
          rw [hl2]
          have kx2 : (x.kind == 3) = false := by simpa using kx
          have kx3 : (x.kind != 3) = true := by simpa using kx
          have HAX := hide ax
          clear ro ex hl2 kx ax HTU hp1 HMB4 HL1 hlq1
          generalize q.evs.length = N at hqN ck ⊢
          generalize x.kind = xk at ck kx2 kx3
          have n0 : ((N : Int) + 1 == (N : Int)) = false := by simp; omega
          have n1 : (((N + 1 : Nat) : Int) == (N : Int)) = false := by simp; omega
          have n2 := wrap_id (N : Int) (by omega) (by omega)
          have n3 : IntKind.i64.wrap ((N : Int) + 1 - 1) = (N : Int) := by rw [Int.add_sub_cancel]; exact n2
          go_wp2_with (fail)
          refine (HT4.out.does1 (D1.out _)).mono ?_
          rintro r u5 ⟨rfl, hT5⟩
          have HT5 := hide hT5
          clear hT5 HT4 D1 ck n0 n1 n2 n3 kx2 kx3
          go_wp2_with (fail)
          have HFZ := hide HT5.out
          have HAZ := hide HAX.out
          clear HT5 HAX
          generalize s.pickS k2.N 0 0 = s2 at HFZ HAZ
        all_goals (
          go_loopg [16] (n % 3) (fun d v wx => ∃ (m : Nat) (q' : Ms), m + d = n % 3 ∧ v = .int .i64 m ∧ Two W k1 k2 s2 q' wx ∧ Alm (j + 1) (3 * j + 1 + m) s2 q')
          case atStart => exact ⟨0, _, by omega, rfl, HFZ.out, HAZ.out⟩
          case round =>
            clear HFZ HAZ
            obtain ⟨m, q', hm, rfl, hT, hE⟩ := hrel
            have cf := HCF.out wr hT.gr
            by_cases hmn : m < n % 3
            · have hmn' : (m : Int) < (n : Int) % 3 := by omega
              obtain ⟨eb, hMb⟩ := hT.snd
              have heb := hE.eb
              have D3 := hide (fun u => pick_does k2 q' 1 0 (fuel_few hMb.ok (by omega)) hE.sb u)
              have HT := hide hT
              have HE := hide (hE.flush k2.N)
              clear hT hE hMb heb
              go_wp2_with (fail)
              refine (HT.out.does2 (D3.out _)).mono ?_
              rintro r u6 ⟨rfl, hT6⟩
              have HT6 := hide hT6
              clear cf hT6 HT D3
              go_wp2_with (fail)
              go_roundg (n % 3 - (m + 1))
              case measure => omega
              case rel => exact ⟨m + 1, _, by omega, by go_num, HT6.out, HE.out⟩
            · have hmn' : ¬ (m : Int) < (n : Int) % 3 := by omega
              have HT := hide hT
              have HE := hide (hE.most (b' := 3 * (j + 1)) (by omega))
              clear hT hE
              go_wp2_with (fail)
              exact ⟨⟨j + 1, _, _, by omega, by go_num, HT.out, HE.out⟩, by simp [intOf]; omega⟩)
      · have hj' : j = l.length := by omega
        subst hj'
        obtain ⟨ea, hMa⟩ := hT.fst
        obtain ⟨eb, hMb⟩ := hT.snd
        have hone := hE.one
        have hlq : q.ths.length = 1 := by rw [ths_len]; exact hone.2
        have hp0 : (q.ths.getD 0 thZ) = (q.side 0).t := ths_at q (by rw [hone.2]; omega)
        obtain ⟨y0, hy0⟩ : ∃ y0, k2.ss[0]? = some y0 := ⟨_, List.getElem?_eq_getElem (by rw [hMb.len, hone.2]; omega)⟩
        have hth : ThOk (q.side 0).t := (hMb.side 0 y0 hy0).th
        have T1 := Sc.thread_calls hMa 0 (by rw [hone.1]; omega)
        rw [← hE.al.t] at T1
        have HT1 : Hid (Calls Tryz.prog 27 #[.pointer (some ⟨k1.mb, 0, none⟩), .int .i64 (0 : Nat)] wr fun r w' => r = .returned (.agg (thC (q.side 0).t)) ∧ Gr wr w') := T1
        have HAL := hide (hE.all (by omega) hMb.ok)
        have HMB := hide (fun u (g : Gr wr u) => hMb.later g)
        have HT := hide hT
        clear hT hE hMa hMb hy0 T1
        go_wp2_with (fail)
        refine HT1.out.mono ?_
        rintro r u1 ⟨rfl, g1⟩
        have T2 := hide (threads_calls (HMB.out u1 g1))
        have HG1 := hide g1
        clear HT1 g1
        go_wp2_with (fail)
        refine T2.out.mono ?_
        rintro r u2 ⟨⟨rfl, hq2⟩, g2⟩
        rw [hlq]
        have RT := th_rangeI hq2 (i := 0) (by omega) (by rw [hp0]; exact hth)
        rw [hp0, Nat.zero_mul] at RT
        have HG2 := hide (HG1.out.trans g2)
        generalize u1.heap.size = tb at RT ⊢
        have iT := infoT10 hth
        generalize (q.side 0).t = t0 at hth RT iT ⊢
        clear T2 hq2 g2 HG1 hp0 hlq
        go_wp2_with (first
          | (refine wpList_load_mid rfl 42 _ rfl tb 0 rfl (thL t0) _ RT Tryz.underlying42 rfl iT ?_)
          | (refine step_neth _ _ rfl rfl t0 hth (by kernel_rfl) (by kernel_rfl) ?_))
        have HT2 := hide (HT.out.later HG2.out)
        clear HT RT iT hth
        go_loopg [17] 20 (fun n v wx => ∃ (m : Nat) (q' : Ms), m + n = 20 ∧ v = .int .i64 m ∧ Two W k1 k2 s q' wx ∧ All m s q')
        case atStart => exact ⟨0, _, by omega, rfl, HT2.out, HAL.out⟩
        case round =>
          clear HT2 HAL HMB HG2
          obtain ⟨m, q', hm, rfl, hT, hE⟩ := hrel
          by_cases hmn : m < 20
          · have hmn' : (m : Int) < 20 := by omega
            obtain ⟨eb, hMb⟩ := hT.snd
            have heb := hE.eb
            have D3 := hide (fun u => pick_does k2 q' 1 0 (fuel_few hMb.ok (by omega)) hE.sb u)
            have HT := hide hT
            have HE := hide (hE.flush hmn k2.N)
            clear hT hE hMb heb
            go_wp2_with (fail)
            refine (HT.out.does2 (D3.out _)).mono ?_
            rintro r u6 ⟨rfl, hT6⟩
            have HT6 := hide hT6
            clear hT6 HT D3
            go_wp2_with (fail)
            go_roundg (20 - (m + 1))
            case measure => omega
            case rel => exact ⟨m + 1, _, by omega, by go_num, HT6.out, HE.out⟩
          · have hmn' : ¬ (m : Int) < 20 := by omega
            obtain rfl : m = 20 := by omega
            have HME := hide hE.mem
            obtain ⟨ea, hMa⟩ := hT.fst
            obtain ⟨eb, hMb⟩ := hT.snd
            have hmm : s.mem.length ≤ 100000 := by rw [hMa.num]; exact hMa.most
            have M1 := hide (Sc.mem_calls hMa)
            have HMB := hide (fun u (g : Gr wr u) => hMb.later g)
            have HT := hide hT
            clear hT hE hMa hMb
            go_wp2_with (fail)
            refine M1.out.mono ?_
            rintro r w8 ⟨va, rfl, oa, g8⟩
            have M2 := hide (mem_calls (HMB.out _ g8))
            rw [← HME.out] at M2
            obtain ⟨aa, ac, rfl, ra, -, -, -⟩ := own_at oa
            have RA := hide ra
            have HG8 := hide g8
            clear M1 oa ra g8
            go_wp2_with (fail)
            refine M2.out.mono ?_
            rintro r w9 ⟨vb, rfl, ob2, g9⟩
            obtain ⟨ba, bc, rfl, rb, -, -, -⟩ := own_at ob2
            have RA2 := hide (RA.out.later g9)
            have RB := hide rb
            have HG9 := hide (HG8.out.trans g9)
            generalize s.mem = ml at RA2 RB hmm ⊢
            clear M2 ob2 rb g9 RA HME
            go_wp2_with (fail)
            go_loopg [20] ml.length (fun n v wx => ∃ i : Nat, i + n = ml.length ∧ v = .int .i64 i ∧ Gr w9 wx)
            case atStart => exact ⟨0, by omega, rfl, Gr.refl _⟩
            case round =>
              obtain ⟨i2, hi2, rfl, g⟩ := hrel
              by_cases hil : i2 < ml.length
              · have hil' : (i2 : Int) < ml.length := by omega
                have hd1 : decide ((ml.length : Int) ≤ (i2 : Int)) = false := by simp; omega
                have hd2 : decide (ml.length ≤ i2) = false := by simp; omega
                have qa := RA2.out.later g
                have qb := RB.out.later g
                obtain ⟨b1, o1, h1, -⟩ := qa.get (by rw [flatOf_length wordL_len]; omega)
                obtain ⟨b2, o2, h2, -⟩ := qb.get (by rw [flatOf_length wordL_len]; omega)
                subst h1 h2
                have c1 := qa.cell wordL_len hil 0 0 (by omega)
                have c2 := qb.cell wordL_len hil 0 0 (by omega)
                generalize ml.getD i2 0 = z at c1 c2
                simp only [wordL, List.getElem?_cons_zero, Nat.add_zero, Nat.mul_one] at c1 c2
                have HGZ := hide g
                clear qa qb g
                go_upto_region 31 with (fail)
                go_quiet (fail)
                have HGY := hide (HGZ.out.drewN nq)
                clear c1 c2 HGZ hd1 hd2
                generalize wr.drewN nq = wy at HGY ⊢
                go_wp2_with (fail)
                go_roundg (ml.length - (i2 + 1))
                case measure => omega
                case rel => exact ⟨i2 + 1, by omega, by go_num, HGY.out⟩
              · have hni2 : ¬ (i2 : Int) < ml.length := by omega
                have HGB := hide (HT.out.gr.trans (HG9.out.trans g))
                clear g hi2 RA2 RB HG9
                go_wp2_with (fail)
                go_ret
                exact ⟨rfl, HGB.out⟩
  · have hb4 := HB3.out.later g5
    have d0' := hb4.cell (o := 0) (v := .slice (some ⟨cb, 0, none⟩) 1 1) rfl
    have d1' := hb4.cell (o := 1) (v := .slice (some ⟨cb + 1, 0, none⟩) 6 6) rfl
    have d2' := hb4.cell (o := 2) (v := .int .i64 (1 + (rm : Int) % 16)) rfl
    have g6 := HG3.out.trans g5
    have A5 := hide (new_calls _ w4 (HL.out.later g6) (HPA.out.later g5))
    have hne' : ((chkM (alP cb (cb + 1) x (1 + (rm : Int) % 16))).2.2 == 0) = false := by simpa using hne
    have HNE := hide hne
    have HG6 := hide g6
    clear d0 d1 d2 A4 g5 hb4 g6 hne
    go_wp2_with (fail)
    refine A5.out.mono ?_
    rintro r w5 NP
    rcases NP with ⟨h0, -⟩ | ⟨-, rfl, g7⟩
    · exact absurd h0 HNE.out
    have HG7 := hide (HG6.out.trans g7)
    generalize (chkM (alP cb (cb + 1) x (1 + (rm : Int) % 16))).2.2 = ec at hne'
    have hne2 : (ec != 0) = true := by simp [bne, hne']
    clear d0' d1' d2' A5 g7 HNE
    go_wp2_with (fail)
    go_ret
    exact ⟨rfl, HG7.out⟩
end Go.Proofs.YthbenfnanhpcoaaGreatDoor.Mc

namespace Go.Proofs.YthbenfnanhpcoaaGreatDoor.Mc
open Go.ChangeShapes Go.WideShapes Go.ChangeAt Go.RowKit
set_option linter.unusedVariables false
set_option maxRecDepth 20000

section
variable {H : Type} {enc : TypeId × Value → H} {w : World} {held : Bool}
theorem cells_byt : Tryz.prog.cellsOf 5 = 1 := by kernel_rfl
theorem open_byt1 {n : Nat} {cs : List Value} {x : DataW H × List MemPlace} (h : DataW.trod enc Tryz.prog w 0 (fun _ => true) held n 5 cs = some x) : ∃ i : Int, cs = byteL i ∧ (0 ≤ i ∧ i < 256) := by
  obtain ⟨n1, e1, _, w1⟩ := DataW.trod_int Tryz.underlying5 h
  have := bounds_u8 w1
  exact ⟨n1, e1, this.1, by omega⟩
theorem open_bytesR {n : Nat} {v : Value} {x : DataW H × List MemPlace} (h : DataW.trod enc Tryz.prog w 0 (fun _ => true) held n 22 [v] = some x) :
    ∃ a cap l, v = .slice a (l : List Int).length cap ∧ RowAt w a (flatOf byteL l) ∧ (∀ i ∈ l, 0 ≤ i ∧ i < 256) ∧ l.length ≤ maxLen := by
  obtain ⟨a, cap, l, h1, h2, h3, -, h4⟩ := open_recs byteL 1 byteL_len (by omega) 0 (fun i => 0 ≤ i ∧ i < 256) Tryz.underlying22 cells_byt open_byt1 h
  exact ⟨a, cap, l, h1, h2, h3, h4⟩
end
end Go.Proofs.YthbenfnanhpcoaaGreatDoor.Mc
