/-
  What TsoTotal answers of any bytes as a program and any bytes as a script: true. No condition but what each law names.
-/
import Derived.Test.YthbenfnanhpcoaaGreatDoorZtbqAwk9
import Derived.Test.YthbenfnanhpcoaaGreatDoorZtbkNewB
import Derived.Test.YthbenfnanhpcoaaGreatDoorZtbn
import Derived.Test.YthbenfnanhpcoaaGreatDoorZtbr
import Derived.Test.YthbenfnanhpcoaaGreatDoorZtbs
import Derived.Test.YthbenfnanhpcoaaGreatDoorZtby
import Derived.BigQuiet
import Derived.Deep.QuietTactic
namespace Go.Proofs.YthbenfnanhpcoaaGreatDoor.Mc
open Go.ChangeShapes Go.WideShapes Go.ChangeAt Go.RowKit
set_option linter.unusedVariables false
set_option maxRecDepth 20000

theorem cd_bytes {w : World} {a : Option Addr} {L : List Int} (h : RowAt w a (flatOf byteL L)) : Cd.BytesAt w a L := by
  rcases h with h | ⟨b, off, ha, h⟩
  · left
    have := congrArg List.length h
    rw [flatOf_length byteL_len] at this
    exact List.eq_nil_of_length_eq_zero (by simpa using this)
  · refine .inr ⟨b, off, ha, fun j x hx => ?_⟩
    have hj : j < L.length := (List.getElem?_eq_some_iff.1 hx).1
    have := RowAt.cell byteL_len (.inr ⟨b, off, rfl, h⟩ : RowAt w (some ⟨b, off, none⟩) (flatOf byteL L)) hj 0 0 (by omega)
    simp only [Nat.mul_one, Nat.add_zero, byteL, List.getElem?_cons_zero, List.getD_eq_getElem?_getD, hx, Option.getD_some] at this
    exact this
theorem th_st {w : World} {g : Nat} {l : List Th} (h : Has w g (flatOf thR l).toArray 42) {i : Nat} (hl : i < l.length) : w.cell? ⟨g, i * 10 + 9, none⟩ = some (.int .i64 (l.getD i thZ).st) := by
  have c := h.rowAt.cell thR_len hl thZ 9 (by omega)
  rw [Nat.zero_add] at c
  rw [c]
  simp [thR]

set_option maxHeartbeats 4000000 in
theorem total_walk (a : Option Addr) (L : List Int) (cap : Nat) (hb : Cd.isBytes L) (hl : L.length ≤ cap) (hm : cap ≤ maxLen) (pa : Option Addr) (l : List Int) (pc : Nat) (hlb : ∀ i ∈ l, 0 ≤ i ∧ i < 256) (hl0 : l.length ≤ maxLen) (W : World) (LD : Laid W) (hBA : Cd.BytesAt W a L) (hrow : RowAt W pa (flatOf byteL l)) :
    Calls Tryz.prog 3 #[.slice a L.length cap, .slice pa l.length pc] W (AloEnd W) := by
  have HL := hide LD
  have HRW := hide hrow
  have HLB := hide hlb
  have HBA := hide hBA
  have hlm : L.length ≤ maxLen := Nat.le_trans hl hm
  have HRD := hide (fun w (g : Gr W w) (h : L.length ≤ 3200) => Cd.read_calls a L cap w (HL.out.later g) hb (hBA.later g) hl hm (by omega))
  have A1 := hide (awake_calls W LD)
  have HA := hide (fun w (g : Gr W w) => awake_calls w (HL.out.later g))
  clear hrow LD hlb hBA hl hm hb
  go_enter Tryz.func3, Tryz.ntmps3
  go_wp2_with (fail)
  refine A1.out.mono ?_
  rintro r w1 ⟨rfl, g1⟩
  have HG1 := hide g1
  have A2 := hide (HA.out w1 g1)
  clear g1 A1
  by_cases l1 : 3200 < L.length
  · have l1' : (3200 : Int) < L.length := by omega
    go_wp2_with (fail)
    refine A2.out.mono ?_
    rintro r w2 ⟨rfl, g2⟩
    have HG2 := hide (HG1.out.trans g2)
    clear g2
    go_wp2_with (fail)
    go_ret
    exact ⟨rfl, HG2.out⟩
  have l1' : ¬ (3200 : Int) < L.length := by omega
  by_cases l3 : 600 < l.length
  · have l3' : (600 : Int) < l.length := by omega
    go_wp2_with (fail)
    refine A2.out.mono ?_
    rintro r w2 ⟨rfl, g2⟩
    have HG2 := hide (HG1.out.trans g2)
    clear g2
    go_wp2_with (fail)
    go_ret
    exact ⟨rfl, HG2.out⟩
  have l3' : ¬ (600 : Int) < l.length := by omega
  have R1 := hide (HRD.out w1 HG1.out (by omega))
  clear A2 HRD HA
  go_wp2_with (fail)
  refine R1.out.mono ?_
  rintro r w2 ⟨v, pl, er, rfl, hcase, g2⟩
  have HG2 := hide (HG1.out.trans g2)
  clear R1 g2 HG1
  rcases hcase with ⟨hne, rfl⟩ | ⟨rfl, pp, hv, hP, hc0⟩
  · have hne1 : (er == 0) = false := by simpa using hne
    have hne2 : (er != 0) = true := by simp [bne, hne1]
    have HG3 := hide (HG2.out.alloc #[.slice none 0 0, .slice none 0 0, .int .i64 0] 27)
    clear hne
    go_wp2_with (fail)
    go_ret
    exact ⟨rfl, HG3.out⟩
  · have hb3 := Has.new w2 (pgA pp) 27
    have g3 := HG2.out.alloc (pgA pp) 27
    have HP := hide (hP.later ((Gr.refl w2).alloc (pgA pp) 27))
    have HC0 := hide hc0
    clear hP hc0
    rw [show (Value.agg (pgA pp)) = .agg #[.slice pp.ca pp.codes.length pp.cc, .slice pp.ma pp.mem.length pp.mc, .int .i64 pp.room] from rfl] at hv
    subst hv
    go_upto_region 4 with (fail)
    change Code.wp _ _ _ _ (w2.alloc (.cells (pgA pp) 27))
    generalize w2.alloc (.cells (pgA pp) 27) = w3 at hb3 g3 HP ⊢
    generalize w2.heap.size = bx at hb3 ⊢
    have HB3 := hide hb3
    have HG3 := hide g3
    have d0 := hb3.cell (o := 0) (v := .slice pp.ca pp.codes.length pp.cc) rfl
    have d1 := hb3.cell (o := 1) (v := .slice pp.ma pp.mem.length pp.mc) rfl
    have d2 := hb3.cell (o := 2) (v := .int .i64 pp.room) rfl
    have A4 := hide (new_calls pp w3 (HL.out.later g3) HP.out)
    clear hb3 g3
    go_wp2_with (fail)
    refine A4.out.mono ?_
    rintro r w4 NP
    rcases NP with ⟨-, k, e, ⟨rfl, hM, hN⟩, hF, g5⟩ | ⟨hne, -⟩
    rotate_left
    · exact absurd HC0.out hne
    have HG5 := hide (HG3.out.trans g5)
    have HB5 := hide (HB3.out.later g5)
    have hW : Hid (∀ y ∈ k.foot e, W.heap.size ≤ y) := fun y hy => Nat.le_trans HG3.out.size (hF y hy)
    have hnb : Hid (bx ∉ k.foot e) := fun z => by
      have h1 := hF bx z
      have h2 := HB3.out.lt
      omega
    have HM := hide hM
    have HPR := hide (pickRead_calls pa pc l HLB.out (by omega) w4 (HRW.out.later HG5.out))
    clear d0 d1 d2 A4 g5 hM hF HG3 HB3
    go_wp2_with (fail)
    refine HPR.out.mono ?_
    rintro r w5 ⟨G, ls, hls, ⟨rfl, hG⟩, g6, hrow⟩
    have HM5 := hide (HM.out.later g6)
    have HG6 := hide (HG5.out.trans g6)
    have HB6 := hide (HB5.out.later g6)
    have hsh := newM_short HC0.out
    have hnG : Hid (G ∉ k.foot e) := fun z => by
      have h1 := HM.out.bnd G z
      omega
    have hno : ∀ y : Addr, some (⟨G, 0, none⟩ : Addr) = some y → 0 < ls.length → y.block ∉ k.foot e := fun y hy _ => by
      cases hy
      exact hnG.out
    have HRUN := hide (run_does k (Tot pp.codes.length pp.mem.length pp.room.toNat) (fun s e w kind who _ h => tot_pick h k.N kind who) ls (some ⟨G, 0, none⟩) l.length (by omega) (newM pp) (tot_start pp) (Nat.zero_le _) hsh w5 (k.foot e) ⟨e, HM5.out, rfl⟩ hrow.rowAt hno)
    clear HPR hls hG g6 hrow hsh hno HM HB5 HG5
    generalize k.foot e = F at hW hnb hnG HRUN
    go_wp2_with (fail)
    refine HRUN.out.mono ?_
    rintro r w6 ⟨⟨rfl, p1⟩, htot, hev⟩
    obtain ⟨e6, h6⟩ := Pst.mw p1
    have g7 : Gr W w6 := by
      obtain ⟨F', -, kp, -⟩ := p1
      exact Kp.gr HG6.out kp hW.out
    have hb7 : Has w6 bx (pgA pp) 27 := by
      obtain ⟨F', -, kp, -⟩ := p1
      exact HB6.out.kept kp hnb.out
    generalize (newM pp).run k.N ls = sz at h6 htot hev
    have T1 := hide (threads_calls h6)
    have HM6 := hide h6
    have HG7 := hide g7
    have HB7 := hide hb7
    have HT := hide htot
    have hroom : 1 ≤ pp.room ∧ pp.room ≤ 16 := (chk_len HC0.out).2.1
    clear HRUN p1 h6 g7 hb7 htot HM5 HG6 HB6 hnb hnG hW hev
    go_wp2_with (fail)
    refine T1.out.mono ?_
    rintro r w7 ⟨⟨rfl, hq⟩, g8⟩
    have htn : sz.ths.length = pp.codes.length := by rw [ths_len]; exact HT.out.n
    have htl : sz.ths.length ≤ 8 := by rw [ths_len]; exact (ok_room HM6.out.ok).2
    have HTN := hide htn
    have HQ := hide hq
    have HG8 := hide (HG7.out.trans g8)
    have HM8 := hide (HM6.out.later g8)
    have HB8 := hide (HB7.out.later g8)
    have HTS := hide (fun i (h : i < sz.ths.length) => ths_at sz (j := i) (by rw [← ths_len]; exact h))
    generalize w6.heap.size = tb at HQ ⊢
    clear T1 hq g8 htn HM6 HB7 HG7
    go_wp2_with (fail)
    go_loopg [11] sz.ths.length (fun n v wx => ∃ i : Nat, i + n = sz.ths.length ∧ v = .int .i64 i ∧ Gr w7 wx)
    case atStart => exact ⟨0, by omega, rfl, Gr.refl _⟩
    case round =>
      obtain ⟨i, hi, rfl, g⟩ := hrel
      by_cases hil : i < sz.ths.length
      · have hil' : (i : Int) < sz.ths.length := by omega
        have gd := g.drew
        have hst := HT.out.st i
        have hbf := HT.out.buf i
        have hts := HTS.out i hil
        have CS := hide (fun w' (hw' : Gr wr.drew w') => th_st ((HQ.out.later gd).later hw') hil)
        rw [hts] at CS
        have CR := hide (fun w' (hw' : Gr wr.drew w') => ((HB8.out.later gd).later hw').cell (o := 2) (v := .int .i64 pp.room) rfl)
        have HBU := hide (buffer_calls (HM8.out.later gd) i (by rw [← ths_len]; exact hil))
        have HGD := hide gd
        generalize (sz.side i).t = t0 at hst CS
        obtain ⟨pc0, rg0, st0⟩ := t0
        obtain ⟨hs1, hs2⟩ : (0 : Int) ≤ st0 ∧ st0 ≤ 3 := hst
        have hr2 : ((sz.side i).buf.length : Int) ≤ pp.room := by omega
        generalize (sz.side i).buf = bf at hbf hr2 HBU
        have q1 : decide (st0 < 0) = false := by simp; omega
        have q2 : decide (3 < st0) = false := by simp; omega
        have q3 : decide (pp.room < (bf.length : Int)) = false := by simp; omega
        clear g gd hts hbf
        go_upto_region 14 with (fail)
        refine begin_late 23 [] (fun w' => Gr wr.drew w') (by kernel_rfl) rfl ?_
        have hH : Gr wr.drew wr.drew := Gr.refl _
        refine AnyL.takeP 0 (some 60) (.slice (some ⟨tb, 0, none⟩) sz.ths.length sz.ths.length) rfl rfl (by kernel_rfl) (by kernel_rfl) (by kernel_rfl) (by kernel_rfl) (fun _ _ _ h => h) (by kernel_rfl) (fun w' => by go_simp) (fun _ => hH) ?_
        simp only [Act.put, List.setIfInBounds_toArray, List.set_cons_zero, List.set_cons_succ]
        refine AnyL.takeP 1 (some 61) (.int .i64 i) rfl rfl (by kernel_rfl) (by kernel_rfl) (by kernel_rfl) (by kernel_rfl) (fun _ _ _ h => h) (by kernel_rfl) (fun w' => by go_simp) (fun _ => hH) ?_
        simp only [Act.put, List.setIfInBounds_toArray, List.set_cons_zero, List.set_cons_succ]
        refine AnyL.takeP 2 (some 62) (.pointer (some ⟨tb, i * 10, none⟩)) rfl rfl (by kernel_rfl) (by kernel_rfl) (by kernel_rfl) (by kernel_rfl) (fun _ _ _ h => h) (by kernel_rfl) (fun w' => by go_simp) (fun _ => hH) ?_
        simp only [Act.put, List.setIfInBounds_toArray, List.set_cons_zero, List.set_cons_succ]
        refine AnyL.takeP 3 (some 63) (.pointer (some ⟨tb, i * 10 + 9, none⟩)) rfl rfl (by kernel_rfl) (by kernel_rfl) (by kernel_rfl) (by kernel_rfl) (fun _ _ _ h => h) (by kernel_rfl) (fun w' => by go_simp) (fun _ => hH) ?_
        simp only [Act.put, List.setIfInBounds_toArray, List.set_cons_zero, List.set_cons_succ]
        refine AnyL.take 4 (some 64) (.int .i64 st0) rfl rfl (by kernel_rfl) (by kernel_rfl) (by kernel_rfl) (by kernel_rfl) (fun _ _ _ h => h) (yields_held _ (by kernel_rfl) (fun w' hw' => by have c1 := CS.out w' hw'; go_simp)) hH ?_
        simp only [Act.put, List.setIfInBounds_toArray, List.set_cons_zero, List.set_cons_succ]
        refine AnyL.takeP 5 (some 65) (.bool false) rfl rfl (by kernel_rfl) (by kernel_rfl) (by kernel_rfl) (by kernel_rfl) (fun _ _ _ h => h) (by kernel_rfl) (fun w' => by go_simp) (fun _ => hH) ?_
        simp only [Act.put, List.setIfInBounds_toArray, List.set_cons_zero, List.set_cons_succ]
        refine AnyL.takeP 6 (some 66) (.bool false) rfl rfl (by kernel_rfl) (by kernel_rfl) (by kernel_rfl) (by kernel_rfl) (fun _ _ _ h => h) (by kernel_rfl) (fun w' => by go_simp) (fun _ => hH) ?_
        simp only [Act.put, List.setIfInBounds_toArray, List.set_cons_zero, List.set_cons_succ]
        refine AnyL.takeP 7 (some 67) (.slice (some ⟨tb, 0, none⟩) sz.ths.length sz.ths.length) rfl rfl (by kernel_rfl) (by kernel_rfl) (by kernel_rfl) (by kernel_rfl) (fun _ _ _ h => h) (by kernel_rfl) (fun w' => by go_simp) (fun _ => hH) ?_
        simp only [Act.put, List.setIfInBounds_toArray, List.set_cons_zero, List.set_cons_succ]
        refine AnyL.takeP 8 (some 68) (.int .i64 i) rfl rfl (by kernel_rfl) (by kernel_rfl) (by kernel_rfl) (by kernel_rfl) (fun _ _ _ h => h) (by kernel_rfl) (fun w' => by go_simp) (fun _ => hH) ?_
        simp only [Act.put, List.setIfInBounds_toArray, List.set_cons_zero, List.set_cons_succ]
        refine AnyL.takeP 9 (some 69) (.pointer (some ⟨tb, i * 10, none⟩)) rfl rfl (by kernel_rfl) (by kernel_rfl) (by kernel_rfl) (by kernel_rfl) (fun _ _ _ h => h) (by kernel_rfl) (fun w' => by go_simp) (fun _ => hH) ?_
        simp only [Act.put, List.setIfInBounds_toArray, List.set_cons_zero, List.set_cons_succ]
        refine AnyL.takeP 10 (some 70) (.pointer (some ⟨tb, i * 10 + 9, none⟩)) rfl rfl (by kernel_rfl) (by kernel_rfl) (by kernel_rfl) (by kernel_rfl) (fun _ _ _ h => h) (by kernel_rfl) (fun w' => by go_simp) (fun _ => hH) ?_
        simp only [Act.put, List.setIfInBounds_toArray, List.set_cons_zero, List.set_cons_succ]
        refine AnyL.take 11 (some 71) (.int .i64 st0) rfl rfl (by kernel_rfl) (by kernel_rfl) (by kernel_rfl) (by kernel_rfl) (fun _ _ _ h => h) (yields_held _ (by kernel_rfl) (fun w' hw' => by have c1 := CS.out w' hw'; go_simp)) hH ?_
        simp only [Act.put, List.setIfInBounds_toArray, List.set_cons_zero, List.set_cons_succ]
        refine AnyL.takeP 12 (some 72) (.bool false) rfl rfl (by kernel_rfl) (by kernel_rfl) (by kernel_rfl) (by kernel_rfl) (fun _ _ _ h => h) (by kernel_rfl) (fun w' => by go_simp) (fun _ => hH) ?_
        simp only [Act.put, List.setIfInBounds_toArray, List.set_cons_zero, List.set_cons_succ]
        refine AnyL.takeP 13 (some 73) (.bool false) rfl rfl (by kernel_rfl) (by kernel_rfl) (by kernel_rfl) (by kernel_rfl) (fun _ _ _ h => h) (by kernel_rfl) (fun w' => by go_simp) (fun _ => hH) ?_
        simp only [Act.put, List.setIfInBounds_toArray, List.set_cons_zero, List.set_cons_succ]
        refine AnyL.takeP 14 (some 74) (.bool false) rfl rfl (by kernel_rfl) (by kernel_rfl) (by kernel_rfl) (by kernel_rfl) (fun _ _ _ h => h) (by kernel_rfl) (fun w' => by go_simp) (fun _ => hH) ?_
        simp only [Act.put, List.setIfInBounds_toArray, List.set_cons_zero, List.set_cons_succ]
        refine AnyL.takeP 15 (some 75) (.pointer (some ⟨k.mb, 0, none⟩)) rfl rfl (by kernel_rfl) (by kernel_rfl) (by kernel_rfl) (by kernel_rfl) (fun _ _ _ h => h) (by kernel_rfl) (fun w' => by go_simp) (fun _ => hH) ?_
        simp only [Act.put, List.setIfInBounds_toArray, List.set_cons_zero, List.set_cons_succ]
        refine AnyL.takeP 16 (some 76) (.int .i64 i) rfl rfl (by kernel_rfl) (by kernel_rfl) (by kernel_rfl) (by kernel_rfl) (fun _ _ _ h => h) (by kernel_rfl) (fun w' => by go_simp) (fun _ => hH) ?_
        simp only [Act.put, List.setIfInBounds_toArray, List.set_cons_zero, List.set_cons_succ]
        refine AnyL.takeP 19 (some 79) (.pointer (some ⟨bx, 2, none⟩)) rfl rfl (by kernel_rfl) (by kernel_rfl) (by kernel_rfl) (by kernel_rfl) (fun _ _ _ h => h) (by kernel_rfl) (fun w' => by go_simp) (fun _ => hH) ?_
        simp only [Act.put, List.setIfInBounds_toArray, List.set_cons_zero, List.set_cons_succ]
        refine AnyL.take 20 (some 80) (.int .i64 pp.room) rfl rfl (by kernel_rfl) (by kernel_rfl) (by kernel_rfl) (by kernel_rfl) (fun _ _ _ h => h) (yields_held _ (by kernel_rfl) (fun w' hw' => by have c1 := CR.out w' hw'; go_simp)) hH ?_
        simp only [Act.put, List.setIfInBounds_toArray, List.set_cons_zero, List.set_cons_succ]
        refine AnyL.one 17 (by kernel_rfl) rfl (by kernel_rfl) ?_
        refine wp_call (some 77) rfl _ _ (by kernel_rfl) HBU.out ?_
        rintro r w11 ⟨a11, c11, ⟨rfl, -⟩, g11⟩
        refine ⟨_, rfl, fun _ => g11, ?_⟩
        simp only [Act.put, List.setIfInBounds_toArray, List.set_cons_zero, List.set_cons_succ]
        replace hH := g11
        refine AnyL.takeP 18 (some 78) (.int .i64 bf.length) rfl rfl (by kernel_rfl) (by kernel_rfl) (by kernel_rfl) (by kernel_rfl) (fun _ _ _ h => h) (by kernel_rfl) (fun w' => by go_simp) (fun _ => hH) ?_
        simp only [Act.put, List.setIfInBounds_toArray, List.set_cons_zero, List.set_cons_succ]
        refine AnyL.takeP 21 (some 81) (.bool false) rfl rfl (by kernel_rfl) (by kernel_rfl) (by kernel_rfl) (by kernel_rfl) (fun _ _ _ h => h) (by kernel_rfl) (fun w' => by go_simp) (fun _ => hH) ?_
        simp only [Act.put, List.setIfInBounds_toArray, List.set_cons_zero, List.set_cons_succ]
        refine AnyL.takeP 22 (some 82) (.bool false) rfl rfl (by kernel_rfl) (by kernel_rfl) (by kernel_rfl) (by kernel_rfl) (fun _ _ _ h => h) (by kernel_rfl) (fun w' => by go_simp) (fun _ => hH) ?_
        simp only [Act.put, List.setIfInBounds_toArray, List.set_cons_zero, List.set_cons_succ]
        refine AnyL.done (by kernel_rfl) ?_
        have HGF := hide (HGD.out.trans hH)
        clear CS CR HBU hH g11 HGD q1 q2 q3
        go_wp2_with (fail)
        go_roundg (sz.ths.length - (i + 1))
        case measure => omega
        case rel => exact ⟨i + 1, by omega, by go_num, HGF.out⟩
      · have hni : ¬ (i : Int) < sz.ths.length := by omega
        have gd := g.drew
        have HMM := hide (mem_calls (HM8.out.later gd))
        rw [HT.out.w] at HMM
        have CC := hide (fun w' (hw' : Gr wr.drew w') => ((HB8.out.later gd).later hw').cell (o := 0) (v := .slice pp.ca pp.codes.length pp.cc) rfl)
        have CM := hide (fun w' (hw' : Gr wr.drew w') => ((HB8.out.later gd).later hw').cell (o := 1) (v := .slice pp.ma pp.mem.length pp.mc) rfl)
        have HGD := hide (HG8.out.trans gd)
        clear hi g gd HTS HQ HM8 HB8
        go_upto_region 16 with (fail)
        rw [HTN.out]
        refine begin_late 16 [] (fun w' => Gr wr.drew w') (by kernel_rfl) rfl ?_
        have hH : Gr wr.drew wr.drew := Gr.refl _
        refine AnyL.takeP 0 (some 83) (.slice (some ⟨tb, 0, none⟩) pp.codes.length pp.codes.length) rfl rfl (by kernel_rfl) (by kernel_rfl) (by kernel_rfl) (by kernel_rfl) (fun _ _ _ h => h) (by kernel_rfl) (fun w' => by go_simp) (fun _ => hH) ?_
        simp only [Act.put, List.setIfInBounds_toArray, List.set_cons_zero, List.set_cons_succ]
        refine AnyL.takeP 1 (some 84) (.int .i64 pp.codes.length) rfl rfl (by kernel_rfl) (by kernel_rfl) (by kernel_rfl) (by kernel_rfl) (fun _ _ _ h => h) (by kernel_rfl) (fun w' => by go_simp) (fun _ => hH) ?_
        simp only [Act.put, List.setIfInBounds_toArray, List.set_cons_zero, List.set_cons_succ]
        refine AnyL.takeP 2 (some 85) (.pointer (some ⟨bx, 0, none⟩)) rfl rfl (by kernel_rfl) (by kernel_rfl) (by kernel_rfl) (by kernel_rfl) (fun _ _ _ h => h) (by kernel_rfl) (fun w' => by go_simp) (fun _ => hH) ?_
        simp only [Act.put, List.setIfInBounds_toArray, List.set_cons_zero, List.set_cons_succ]
        refine AnyL.take 3 (some 86) (.slice pp.ca pp.codes.length pp.cc) rfl rfl (by kernel_rfl) (by kernel_rfl) (by kernel_rfl) (by kernel_rfl) (fun _ _ _ h => h) (yields_held _ (by kernel_rfl) (fun w' hw' => by have c1 := CC.out w' hw'; go_simp)) hH ?_
        simp only [Act.put, List.setIfInBounds_toArray, List.set_cons_zero, List.set_cons_succ]
        refine AnyL.takeP 4 (some 87) (.int .i64 pp.codes.length) rfl rfl (by kernel_rfl) (by kernel_rfl) (by kernel_rfl) (by kernel_rfl) (fun _ _ _ h => h) (by kernel_rfl) (fun w' => by go_simp) (fun _ => hH) ?_
        simp only [Act.put, List.setIfInBounds_toArray, List.set_cons_zero, List.set_cons_succ]
        refine AnyL.takeP 5 (some 88) (.bool true) rfl rfl (by kernel_rfl) (by kernel_rfl) (by kernel_rfl) (by kernel_rfl) (fun _ _ _ h => h) (by kernel_rfl) (fun w' => by go_simp) (fun _ => hH) ?_
        simp only [Act.put, List.setIfInBounds_toArray, List.set_cons_zero, List.set_cons_succ]
        refine AnyL.takeP 6 (some 89) (.bool true) rfl rfl (by kernel_rfl) (by kernel_rfl) (by kernel_rfl) (by kernel_rfl) (fun _ _ _ h => h) (by kernel_rfl) (fun w' => by go_simp) (fun _ => hH) ?_
        simp only [Act.put, List.setIfInBounds_toArray, List.set_cons_zero, List.set_cons_succ]
        refine AnyL.takeP 7 (some 90) (.pointer (some ⟨k.mb, 0, none⟩)) rfl rfl (by kernel_rfl) (by kernel_rfl) (by kernel_rfl) (by kernel_rfl) (fun _ _ _ h => h) (by kernel_rfl) (fun w' => by go_simp) (fun _ => hH) ?_
        simp only [Act.put, List.setIfInBounds_toArray, List.set_cons_zero, List.set_cons_succ]
        refine AnyL.takeP 10 (some 93) (.pointer (some ⟨bx, 1, none⟩)) rfl rfl (by kernel_rfl) (by kernel_rfl) (by kernel_rfl) (by kernel_rfl) (fun _ _ _ h => h) (by kernel_rfl) (fun w' => by go_simp) (fun _ => hH) ?_
        simp only [Act.put, List.setIfInBounds_toArray, List.set_cons_zero, List.set_cons_succ]
        refine AnyL.take 11 (some 94) (.slice pp.ma pp.mem.length pp.mc) rfl rfl (by kernel_rfl) (by kernel_rfl) (by kernel_rfl) (by kernel_rfl) (fun _ _ _ h => h) (yields_held _ (by kernel_rfl) (fun w' hw' => by have c1 := CM.out w' hw'; go_simp)) hH ?_
        simp only [Act.put, List.setIfInBounds_toArray, List.set_cons_zero, List.set_cons_succ]
        refine AnyL.takeP 12 (some 95) (.int .i64 pp.mem.length) rfl rfl (by kernel_rfl) (by kernel_rfl) (by kernel_rfl) (by kernel_rfl) (fun _ _ _ h => h) (by kernel_rfl) (fun w' => by go_simp) (fun _ => hH) ?_
        simp only [Act.put, List.setIfInBounds_toArray, List.set_cons_zero, List.set_cons_succ]
        refine AnyL.one 8 (by kernel_rfl) rfl (by kernel_rfl) ?_
        refine wp_call (some 91) rfl _ _ (by kernel_rfl) HMM.out ?_
        rintro r w12 ⟨v, rfl, ho, g12⟩
        obtain ⟨va, vc, rfl, -, -, -, -⟩ := own_at ho
        refine ⟨_, rfl, fun _ => g12, ?_⟩
        simp only [Act.put, List.setIfInBounds_toArray, List.set_cons_zero, List.set_cons_succ]
        replace hH := g12
        refine AnyL.takeP 9 (some 92) (.int .i64 pp.mem.length) rfl rfl (by kernel_rfl) (by kernel_rfl) (by kernel_rfl) (by kernel_rfl) (fun _ _ _ h => h) (by kernel_rfl) (fun w' => by go_simp) (fun _ => hH) ?_
        simp only [Act.put, List.setIfInBounds_toArray, List.set_cons_zero, List.set_cons_succ]
        refine AnyL.takeP 13 (some 96) (.bool true) rfl rfl (by kernel_rfl) (by kernel_rfl) (by kernel_rfl) (by kernel_rfl) (fun _ _ _ h => h) (by kernel_rfl) (fun w' => by go_simp) (fun _ => hH) ?_
        simp only [Act.put, List.setIfInBounds_toArray, List.set_cons_zero, List.set_cons_succ]
        refine AnyL.takeP 14 (some 97) (.bool true) rfl rfl (by kernel_rfl) (by kernel_rfl) (by kernel_rfl) (by kernel_rfl) (fun _ _ _ h => h) (by kernel_rfl) (fun w' => by go_simp) (fun _ => hH) ?_
        simp only [Act.put, List.setIfInBounds_toArray, List.set_cons_zero, List.set_cons_succ]
        refine AnyL.takeP 15 (some 4) (.bool true) rfl rfl (by kernel_rfl) (by kernel_rfl) (by kernel_rfl) (by kernel_rfl) (fun _ _ _ h => h) (by kernel_rfl) (fun w' => by go_simp) (fun _ => hH) ?_
        simp only [Act.put, List.setIfInBounds_toArray, List.set_cons_zero, List.set_cons_succ]
        refine AnyL.done (by kernel_rfl) ?_
        have HGF := hide (HGD.out.trans hH)
        clear CC CM HMM hH g12 HGD ho
        go_wp2_with (fail)
        go_ret
        exact ⟨rfl, HGF.out⟩
end Go.Proofs.YthbenfnanhpcoaaGreatDoor.Mc
