/-
  The walk of CoreSame up to both yards. No condition but that the input lies in the world, and the tables.
-/
import Derived.Test.YtbmlliohepidaaaDoorWrld
import Derived.Test.YtbmlliohepidaaaDoorTwi

import Derived.Deep.CutBlock
namespace Go.Proofs.YtbmlliohepidaaaDoor
open Go.ChangeShapes Go.WideShapes Go.ChangeAt Go.RowKit
set_option linter.unusedVariables false

/-- what a round of the loop over the code reads -/
def SamI (d : InD) (w : World) (b : Nat) (u : World) : Prop := Gr w u ∧ Has u b (inC d) 31

set_option maxRecDepth 20000 in
set_option maxHeartbeats 2000000 in
theorem same_walk (d : InD) (ah : Nat) (more : List Ins) (ma : Option Addr) (mcap : Nat) (w : World) (hw : Laid w) (hat : InAt d w) (hah : ah < 256) (hcn : d.ca = none → d.cc = 0 ∧ d.code = []) (hmore : RowAt w ma (flatOf insL more)) (hmi : ∀ i ∈ more, InsOk i) (hmn : ma = none → mcap = 0 ∧ more = []) :
    Calls Tryd.prog 5 #[.agg (inC d), .int .u8 ah, .slice ma more.length mcap] w fun e w' => e = .returned (.bool true) ∧ Gr w w' := by
  have hz := hat.ok
  have gg := (Gr.refl w).alloc (inC d) 31
  have hi := Has.new w (inC d) 31
  have HAT := hide hat
  have HW := hide hw
  have HCN := hide hcn
  have HMR := hide hmore
  have HMI := hide hmi
  have HMN := hide hmn
  have h0 := inC_th hz 0 _ rfl
  have h10 := inC_10 hz
  clear hat hw hcn hmore hmi hmn
  go_enter Tryd.func5, Tryd.ntmps5
  go_wp2_with (fail)
  generalize w.alloc (.cells (inC d) 31) = u0 at gg hi ⊢
  refine (awake_calls u0 (HW.out.later gg)).mono ?_
  rintro e u1 ⟨rfl, g1⟩
  have hi1 := hi.later g1
  have GG := hide (gg.trans g1)
  clear gg g1 hi
  go_wp2_with (first
    | (refine load_inp rfl _ rfl w.heap.size rfl d hz hi1 ?_)
    | (refine load_inp_g _ rfl (by kernel_rfl) w.heap.size rfl d hz hi1 ?_))
  refine (long_calls d u1 (HAT.out.later GG.out)).mono ?_
  rintro e u2 ⟨rfl, g2⟩
  have hi2 := hi1.later g2
  replace GG := hide (GG.out.trans g2)
  clear g2 hi1
  have ci0 := hi2.cell h0
  have ci1 := hi2.cell h10
  -- what is not looked at
  by_cases hout : longB d = true ∨ 300 < more.length ∨ d.t.pc < 0 ∨ (d.code.length : Int) ≤ d.t.pc
  · have parts : longB d = true ∨ (longB d = false ∧ decide (300 < (more.length : Int)) = true) ∨ (longB d = false ∧ decide (300 < (more.length : Int)) = false ∧ decide (d.t.pc < 0) = true) ∨ (longB d = false ∧ decide (300 < (more.length : Int)) = false ∧ decide (d.t.pc < 0) = false ∧ decide ((d.code.length : Int) ≤ d.t.pc) = true) := by
      cases hq9 : longB d
      · have hout2 : 300 < more.length ∨ d.t.pc < 0 ∨ (d.code.length : Int) ≤ d.t.pc := by simpa [hq9] using hout
        by_cases a1 : 300 < (more.length : Int)
        · exact .inr (.inl ⟨rfl, by simpa using a1⟩)
        by_cases a2 : d.t.pc < 0
        · exact .inr (.inr (.inl ⟨rfl, by simpa using a1, by simpa using a2⟩))
        · exact .inr (.inr (.inr ⟨rfl, by simpa using a1, by simpa using a2, by simp; omega⟩))
      · exact .inl rfl
    clear hout
    rcases parts with k1 | ⟨k1, k2⟩ | ⟨k1, k2, k3⟩ | ⟨k1, k2, k3, k4⟩
    all_goals (
      rw [k1]
      clear k1
      go_wp2_with (fail)
      refine (awake_calls u2 (HW.out.later GG.out)).mono ?_
      rintro e u3 ⟨rfl, g3⟩
      go_wp2_with (fail)
      go_ret
      exact ⟨rfl, GG.out.trans g3⟩)
  have hl0 : longB d = false := by
    cases hq : longB d
    · rfl
    · exact absurd (.inl hq) hout
  have hle : d.mem.length ≤ 300 ∧ d.buf.length ≤ 300 ∧ d.asl.length ≤ 7 ∧ d.code.length ≤ 300 := by
    have hl1 := hl0
    unfold longB at hl1
    simp only [Bool.or_eq_false_iff, decide_eq_false_iff_not] at hl1
    omega
  have k2 : decide (300 < (more.length : Int)) = false := by
    rw [decide_eq_false_iff_not]
    intro q
    exact hout (.inr (.inl (by omega)))
  have k3 : decide (d.t.pc < 0) = false := by
    rw [decide_eq_false_iff_not]
    exact fun q => hout (.inr (.inr (.inl q)))
  have k4 : decide ((d.code.length : Int) ≤ d.t.pc) = false := by
    rw [decide_eq_false_iff_not]
    exact fun q => hout (.inr (.inr (.inr q)))
  have HPC : Hid (0 ≤ d.t.pc ∧ d.t.pc < d.code.length) := by
    rw [decide_eq_false_iff_not] at k3 k4
    show 0 ≤ d.t.pc ∧ d.t.pc < d.code.length
    omega
  have HML : Hid (more.length ≤ 300) := by
    rw [decide_eq_false_iff_not] at k2
    show more.length ≤ 300
    omega
  rw [hl0]
  have HLE := hide hle
  have hcl : (d.code.length : Int) ≤ 300 := by omega
  clear hout hl0 hle
  go_wp2_with (fail)
  have SI : Hid (SamI d w w.heap.size u2) := ⟨GG.out, hi2⟩
  clear ci0 ci1 hi2 k2 k3 k4 GG
  go_loopw [7] (fun i wr => ∃ k : Nat, k ≤ d.code.length ∧ i = .int .i64 k ∧ Hid (∀ j, j < k → ¬ (13 ≤ (d.code.getD j ins0).op ∧ (d.code.getD j ins0).op ≤ 15)) ∧ Hid (SamI d w w.heap.size wr)) (fun i _ => d.code.length - (intOf i).toNat)
  case atStart => exact ⟨0, by omega, rfl, fun j hj => by omega, SI⟩
  case round =>
    clear SI
    obtain ⟨k, hk, rfl, HJ, SI⟩ := hrel
    have ci1 := SI.out.2.cell h10
    by_cases hlt : k < d.code.length
    · have hlt' : (k : Int) < (d.code.length : Int) := by omega
      obtain ⟨cb9, co9, hca, -⟩ := (HAT.out.code.later SI.out.1).get (by rw [flatOf_length insL_len]; omega)
      have CR := HAT.out.code.later SI.out.1
      rw [hca] at CR ci1
      have i0 := CR.cell insL_len hlt ins0 0 (by omega)
      rw [Nat.add_zero] at i0
      replace i0 : wr.cell? ⟨cb9, co9 + k * 5, none⟩ = some (.int .i64 (d.code.getD k ins0).op) := i0
      have HJK : Hid (¬ (13 ≤ (d.code.getD k ins0).op ∧ (d.code.getD k ins0).op ≤ 15) → ∀ j, j < k + 1 → ¬ (13 ≤ (d.code.getD j ins0).op ∧ (d.code.getD j ins0).op ≤ 15)) := fun q j hj => by
        by_cases e : j = k
        · rw [e]; exact q
        · exact HJ.out j (by omega)
      clear CR
      generalize (d.code.getD k ins0).op = o at i0 HJK
      by_cases h13 : 13 ≤ o
      · have b13 : decide (13 ≤ o) = true := by simpa using h13
        by_cases h15 : o ≤ 15
        · have b15 : decide (o ≤ 15) = true := by simpa using h15
          go_wp2_with (fail)
          go_ret
          exact ⟨rfl, SI.out.1⟩
        · have b15 : decide (o ≤ 15) = false := by simpa using h15
          have HJ2 : Hid (∀ j, j < k + 1 → ¬ (13 ≤ (d.code.getD j ins0).op ∧ (d.code.getD j ins0).op ≤ 15)) := HJK.out (fun q => h15 q.2)
          clear h13 h15 HJK HJ
          go_wp2_with (fail)
          go_roundw
          case rel => exact ⟨k + 1, by omega, by go_num, HJ2, SI⟩
          case measure => simp [intOf]; omega
      · have b13 : decide (13 ≤ o) = false := by simpa using h13
        have HJ2 : Hid (∀ j, j < k + 1 → ¬ (13 ≤ (d.code.getD j ins0).op ∧ (d.code.getD j ins0).op ≤ 15)) := HJK.out (fun q => h13 q.1)
        clear h13 HJK HJ
        go_wp2_with (fail)
        go_roundw
        case rel => exact ⟨k + 1, by omega, by go_num, HJ2, SI⟩
        case measure => simp [intOf]; omega
    · have hkn : k = d.code.length := by omega
      have hlt' : decide ((k : Int) < (d.code.length : Int)) = false := by simp; omega
      have HJ2 : Hid (∀ i ∈ d.code, jumpB i.op = false) := by
        intro i hi9
        obtain ⟨j, hj, rfl⟩ := List.getElem_of_mem hi9
        have := HJ.out j (by omega)
        rw [List.getD_eq_getElem?_getD, List.getElem?_eq_getElem hj] at this
        cases hq : jumpB (d.code[j]).op
        · rfl
        · exfalso
          obtain ⟨n, hn, hn2⟩ := isB_nat (by unfold jumpB at hq; exact (Bool.and_eq_true_iff.1 hq).1)
          have := jump28 ⟨n, hn2⟩ (by rw [hn] at hq; exact hq)
          simp only at this
          simp only [Option.getD_some] at *
          omega
      clear HJ
      go_upto_region 8 with (fail)
      have HIN := hide (fun (u : World) (g : Gr wr u) => SI.out.2.later g)
      have GG := hide SI.out.1
      clear SI ci1 hlt hlt' hkn hk
      go_cut [8, 9] from 63 (fun v8 v9 wx => ∃ (p q : Yg) (y z : Nat), v8 = .pointer (some ⟨y, 0, none⟩) ∧ v9 = .pointer (some ⟨z, 0, none⟩) ∧ Hid (Tw d w w.heap.size p q y z wx))
      case first =>
        refine begin_late 10 [] (fun w' => Gr wr w') (by kernel_rfl) rfl ?_
        have hH : Gr wr wr.drew := (Gr.refl wr).drew
        refine AnyL.take 0 (some 63) (.agg (inC d)) rfl rfl (by kernel_rfl) (by kernel_rfl) (by kernel_rfl) (by kernel_rfl) (fun _ _ _ h => h) (take_inp (by kernel_rfl) _ rfl w.heap.size rfl d (fun u h => HIN.out u h) hz) hH ?_
        simp only [Act.put, List.setIfInBounds_toArray, List.set_cons_zero, List.set_cons_succ]
        refine AnyL.take 4 (some 67) (.agg (inC d)) rfl rfl (by kernel_rfl) (by kernel_rfl) (by kernel_rfl) (by kernel_rfl) (fun _ _ _ h => h) (take_inp (by kernel_rfl) _ rfl w.heap.size rfl d (fun u h => HIN.out u h) hz) hH ?_
        simp only [Act.put, List.setIfInBounds_toArray, List.set_cons_zero, List.set_cons_succ]
        have LS := hide (GG.out.size)
        refine AnyL.one 1 (by kernel_rfl) rfl (by kernel_rfl) ?_
        have HC := world_calls d wr.drew (HAT.out.later (GG.out.trans hH)) HLE.out.1 HLE.out.2.1 HLE.out.2.2.1
        refine wp_call (some 64) rfl _ _ (by kernel_rfl) HC ?_
        rintro e u1 HW1
        obtain ⟨p, rfl, wf⟩ := Wf.of HW1
        refine ⟨_, rfl, fun _ => hH.trans wf.gr, ?_⟩
        simp only [Act.put, List.setIfInBounds_toArray, List.set_cons_zero, List.set_cons_succ]
        have WF := hide wf
        have PB := hide wf.bnd
        have g1 := hH.trans wf.gr
        have z1 : wr.heap.size ≤ u1.heap.size := g1.size
        clear wf HW1 HC
        have hH0 := hH
        replace hH := g1
        refine AnyL.takeP 2 (some 65) (.agg (p.A d)) rfl rfl (by kernel_rfl) (by kernel_rfl) (by kernel_rfl) (by kernel_rfl) (fun _ _ _ h => h) (by kernel_rfl) (fun w' => by go_simp) (fun _ => hH) ?_
        simp only [Act.put, List.setIfInBounds_toArray, List.set_cons_zero, List.set_cons_succ]
        refine AnyL.two 3 5 (by kernel_rfl) rfl rfl (by kernel_rfl) ?_ ?_
        · refine wp_made (some 66) rfl _ _ (box_yard p d _ rfl (by kernel_rfl)) ?_
          have ga2 := (Gr.refl u1).alloc (p.A d) 43
          refine ⟨fun _ => hH.trans ga2, ?_⟩
          simp only [Act.put, List.setIfInBounds_toArray, List.set_cons_zero, List.set_cons_succ]
          have yp := hide (Wf.box WF.out (HAT.out.later (GG.out.trans hH0)) HLE.out.1 (HW.out.later (GG.out.trans hH0)))
          have e2 : (u1.alloc (.cells (p.A d) 43)).heap.size = u1.heap.size + 1 := by rw [size1]
          replace hH := hH.trans ga2
          generalize u1.alloc (.cells (p.A d) 43) = u2 at yp e2 hH ga2 ⊢
          refine AnyL.one 5 (by kernel_rfl) rfl (by kernel_rfl) ?_
          have HC := world_calls d u2 (HAT.out.later (GG.out.trans hH)) HLE.out.1 HLE.out.2.1 HLE.out.2.2.1
          refine wp_call (some 68) rfl _ _ (by kernel_rfl) HC ?_
          rintro e u3 HW1
          obtain ⟨q, rfl, wq⟩ := Wf.of HW1
          have g3 := hH.trans wq.gr
          refine ⟨_, rfl, fun _ => g3, ?_⟩
          simp only [Act.put, List.setIfInBounds_toArray, List.set_cons_zero, List.set_cons_succ]
          have hHb := hH
          replace hH := g3
          clear HW1 HC
          refine AnyL.takeP 6 (some 69) (.agg (q.A d)) rfl rfl (by kernel_rfl) (by kernel_rfl) (by kernel_rfl) (by kernel_rfl) (fun _ _ _ h => h) (by kernel_rfl) (fun w' => by go_simp) (fun _ => hH) ?_
          simp only [Act.put, List.setIfInBounds_toArray, List.set_cons_zero, List.set_cons_succ]
          have wqb := hide wq.bnd
          refine AnyL.takeP 8 (some 8) (.pointer (some ⟨u1.heap.size, 0, none⟩)) rfl rfl (by kernel_rfl) (by kernel_rfl) (by kernel_rfl) (by kernel_rfl) (fun _ _ _ h => h) (by kernel_rfl) (fun w' => by go_simp) (fun _ => hH) ?_
          simp only [Act.put, List.setIfInBounds_toArray, List.set_cons_zero, List.set_cons_succ]
          refine AnyL.one 7 (by kernel_rfl) rfl (by kernel_rfl) ?_
          refine wp_made (some 70) rfl _ _ (box_yard q d _ rfl (by kernel_rfl)) ?_
          have ga4 := (Gr.refl u3).alloc (q.A d) 43
          refine ⟨fun _ => hH.trans ga4, ?_⟩
          simp only [Act.put, List.setIfInBounds_toArray, List.set_cons_zero, List.set_cons_succ]
          have yq := hide (Wf.box wq (HAT.out.later (GG.out.trans hHb)) HLE.out.1 (HW.out.later (GG.out.trans hHb)))
          have e4 : (u3.alloc (.cells (q.A d) 43)).heap.size = u3.heap.size + 1 := by rw [size1]
          replace hH := hH.trans ga4
          generalize u3.alloc (.cells (q.A d) 43) = u4 at yq e4 hH ga4 ⊢
          refine AnyL.takeP 9 (some 9) (.pointer (some ⟨u3.heap.size, 0, none⟩)) rfl rfl (by kernel_rfl) (by kernel_rfl) (by kernel_rfl) (by kernel_rfl) (fun _ _ _ h => h) (by kernel_rfl) (fun w' => by go_simp) (fun _ => hH) ?_
          simp only [Act.put, List.setIfInBounds_toArray, List.set_cons_zero, List.set_cons_succ]
          have TW : Hid (Tw d w w.heap.size p q u1.heap.size u3.heap.size u4) := by
            have z2 := wq.gr.size
            have b1 := PB.out
            have b2 := wqb.out
            have ls := LS.out
            refine ⟨GG.out.trans hH, HIN.out _ hH, Y0.later yp.out (wq.gr.trans ga4), Y0.later yq.out (Gr.refl _), fun x hx => ?_, fun x hx => ?_, apart_of (m := u2.heap.size) (n := u3.heap.size) (fun x hx => ?_) (fun x hx => b2 x hx) (.inl (by omega)) (by omega) z2 (by omega) (fun x hx e => ?_)⟩
            · rcases List.mem_cons.1 hx with rfl | hx
              · omega
              · have := (b1 x hx).1; exact Nat.le_trans ls this
            · rcases List.mem_cons.1 hx with rfl | hx
              · omega
              · have := (b2 x hx).1; omega
            · have := (b1 x hx).2; omega
            · have := b2 x hx; omega
          refine AnyL.done (by kernel_rfl) ?_
          go_wp2_with (fail)
          go_meet
          case rel => exact ⟨_, _, _, _, rfl, rfl, TW⟩
        · have HC := world_calls d u1 (HAT.out.later (GG.out.trans hH)) HLE.out.1 HLE.out.2.1 HLE.out.2.2.1
          refine wp_call (some 68) rfl _ _ (by kernel_rfl) HC ?_
          rintro e u2 HW1
          obtain ⟨q, rfl, wq⟩ := Wf.of HW1
          have g2 := hH.trans wq.gr
          refine ⟨_, rfl, fun _ => g2, ?_⟩
          simp only [Act.put, List.setIfInBounds_toArray, List.set_cons_zero, List.set_cons_succ]
          have hHb := hH
          replace hH := g2
          clear HW1 HC
          refine AnyL.takeP 6 (some 69) (.agg (q.A d)) rfl rfl (by kernel_rfl) (by kernel_rfl) (by kernel_rfl) (by kernel_rfl) (fun _ _ _ h => h) (by kernel_rfl) (fun w' => by go_simp) (fun _ => hH) ?_
          simp only [Act.put, List.setIfInBounds_toArray, List.set_cons_zero, List.set_cons_succ]
          have wqb := hide wq.bnd
          refine AnyL.two 3 7 (by kernel_rfl) rfl rfl (by kernel_rfl) ?_ ?_
          · refine wp_made (some 66) rfl _ _ (box_yard p d _ rfl (by kernel_rfl)) ?_
            have ga3 := (Gr.refl u2).alloc (p.A d) 43
            refine ⟨fun _ => hH.trans ga3, ?_⟩
            simp only [Act.put, List.setIfInBounds_toArray, List.set_cons_zero, List.set_cons_succ]
            have yp := hide (Wf.box (WF.out.later wq.gr) (HAT.out.later (GG.out.trans hH0)) HLE.out.1 (HW.out.later (GG.out.trans hH0)))
            have e3 : (u2.alloc (.cells (p.A d) 43)).heap.size = u2.heap.size + 1 := by rw [size1]
            replace hH := hH.trans ga3
            generalize u2.alloc (.cells (p.A d) 43) = u3 at yp e3 hH ga3 ⊢
            refine AnyL.takeP 8 (some 8) (.pointer (some ⟨u2.heap.size, 0, none⟩)) rfl rfl (by kernel_rfl) (by kernel_rfl) (by kernel_rfl) (by kernel_rfl) (fun _ _ _ h => h) (by kernel_rfl) (fun w' => by go_simp) (fun _ => hH) ?_
            simp only [Act.put, List.setIfInBounds_toArray, List.set_cons_zero, List.set_cons_succ]
            refine AnyL.one 7 (by kernel_rfl) rfl (by kernel_rfl) ?_
            refine wp_made (some 70) rfl _ _ (box_yard q d _ rfl (by kernel_rfl)) ?_
            have ga4 := (Gr.refl u3).alloc (q.A d) 43
            refine ⟨fun _ => hH.trans ga4, ?_⟩
            simp only [Act.put, List.setIfInBounds_toArray, List.set_cons_zero, List.set_cons_succ]
            have yq := hide (Wf.box (wq.later ga3) (HAT.out.later (GG.out.trans hHb)) HLE.out.1 (HW.out.later (GG.out.trans hHb)))
            have e4 : (u3.alloc (.cells (q.A d) 43)).heap.size = u3.heap.size + 1 := by rw [size1]
            replace hH := hH.trans ga4
            generalize u3.alloc (.cells (q.A d) 43) = u4 at yq e4 hH ga4 ⊢
            refine AnyL.takeP 9 (some 9) (.pointer (some ⟨u3.heap.size, 0, none⟩)) rfl rfl (by kernel_rfl) (by kernel_rfl) (by kernel_rfl) (by kernel_rfl) (fun _ _ _ h => h) (by kernel_rfl) (fun w' => by go_simp) (fun _ => hH) ?_
            simp only [Act.put, List.setIfInBounds_toArray, List.set_cons_zero, List.set_cons_succ]
            have TW : Hid (Tw d w w.heap.size p q u2.heap.size u3.heap.size u4) := by
              have z2 := wq.gr.size
              have b1 := PB.out
              have b2 := wqb.out
              have ls := LS.out
              refine ⟨GG.out.trans hH, HIN.out _ hH, Y0.later yp.out ga4, Y0.later yq.out (Gr.refl _), fun x hx => ?_, fun x hx => ?_, apart_of (m := u1.heap.size) (n := u2.heap.size) (fun x hx => ?_) (fun x hx => b2 x hx) (.inr (by omega)) (by omega) z2 (by omega) (fun x hx e => ?_)⟩
              · rcases List.mem_cons.1 hx with rfl | hx
                · omega
                · have := (b1 x hx).1; exact Nat.le_trans ls this
              · rcases List.mem_cons.1 hx with rfl | hx
                · omega
                · have := (b2 x hx).1; omega
              · have := (b1 x hx).2; omega
              · have := b2 x hx; omega
            refine AnyL.done (by kernel_rfl) ?_
            go_wp2_with (fail)
            go_meet
            case rel => exact ⟨_, _, _, _, rfl, rfl, TW⟩
          · refine wp_made (some 70) rfl _ _ (box_yard q d _ rfl (by kernel_rfl)) ?_
            have ga3 := (Gr.refl u2).alloc (q.A d) 43
            refine ⟨fun _ => hH.trans ga3, ?_⟩
            simp only [Act.put, List.setIfInBounds_toArray, List.set_cons_zero, List.set_cons_succ]
            have yq := hide (Wf.box wq (HAT.out.later (GG.out.trans hHb)) HLE.out.1 (HW.out.later (GG.out.trans hHb)))
            have e3 : (u2.alloc (.cells (q.A d) 43)).heap.size = u2.heap.size + 1 := by rw [size1]
            replace hH := hH.trans ga3
            generalize u2.alloc (.cells (q.A d) 43) = u3 at yq e3 hH ga3 ⊢
            refine AnyL.one 3 (by kernel_rfl) rfl (by kernel_rfl) ?_
            refine wp_made (some 66) rfl _ _ (box_yard p d _ rfl (by kernel_rfl)) ?_
            have ga4 := (Gr.refl u3).alloc (p.A d) 43
            refine ⟨fun _ => hH.trans ga4, ?_⟩
            simp only [Act.put, List.setIfInBounds_toArray, List.set_cons_zero, List.set_cons_succ]
            have yp := hide (Wf.box ((WF.out.later wq.gr).later ga3) (HAT.out.later (GG.out.trans hH0)) HLE.out.1 (HW.out.later (GG.out.trans hH0)))
            have e4 : (u3.alloc (.cells (p.A d) 43)).heap.size = u3.heap.size + 1 := by rw [size1]
            replace hH := hH.trans ga4
            generalize u3.alloc (.cells (p.A d) 43) = u4 at yp e4 hH ga4 ⊢
            refine AnyL.takeP 8 (some 8) (.pointer (some ⟨u3.heap.size, 0, none⟩)) rfl rfl (by kernel_rfl) (by kernel_rfl) (by kernel_rfl) (by kernel_rfl) (fun _ _ _ h => h) (by kernel_rfl) (fun w' => by go_simp) (fun _ => hH) ?_
            simp only [Act.put, List.setIfInBounds_toArray, List.set_cons_zero, List.set_cons_succ]
            refine AnyL.takeP 9 (some 9) (.pointer (some ⟨u2.heap.size, 0, none⟩)) rfl rfl (by kernel_rfl) (by kernel_rfl) (by kernel_rfl) (by kernel_rfl) (fun _ _ _ h => h) (by kernel_rfl) (fun w' => by go_simp) (fun _ => hH) ?_
            simp only [Act.put, List.setIfInBounds_toArray, List.set_cons_zero, List.set_cons_succ]
            have TW : Hid (Tw d w w.heap.size p q u3.heap.size u2.heap.size u4) := by
              have z2 := wq.gr.size
              have b1 := PB.out
              have b2 := wqb.out
              have ls := LS.out
              refine ⟨GG.out.trans hH, HIN.out _ hH, Y0.later yp.out (Gr.refl _), Y0.later yq.out ga4, fun x hx => ?_, fun x hx => ?_, apart_of (m := u1.heap.size) (n := u2.heap.size) (fun x hx => ?_) (fun x hx => b2 x hx) (.inr (by omega)) (by omega) z2 (by omega) (fun x hx e => ?_)⟩
              · rcases List.mem_cons.1 hx with rfl | hx
                · omega
                · have := (b1 x hx).1; exact Nat.le_trans ls this
              · rcases List.mem_cons.1 hx with rfl | hx
                · omega
                · have := (b2 x hx).1; omega
              · have := (b1 x hx).2; omega
              · have := b2 x hx; omega
            refine AnyL.done (by kernel_rfl) ?_
            go_wp2_with (fail)
            go_meet
            case rel => exact ⟨_, _, _, _, rfl, rfl, TW⟩
      case rest =>
        obtain ⟨p, q, y, z, rfl, rfl, TW⟩ := hcut
        clear HIN GG
        go_upto_region 9 with (fail)
        have c20 : (thL d.t).length = 10 := by simp [thL, hz.len]
        have HI := hide (fun (u : World) (g : Gr wc u) => TW.out.hi.later g)
        go_cut [10] from 71 (fun v wx => ∃ (g : Nat) (k1 : Yc) (v1 v2 v3 : Value) (B : Array Value), v = .pointer (some ⟨g, 0, none⟩) ∧ k1.y = y ∧ Hid (Tx d w w.heap.size g k1 (stepM (yardM (d.mem.length : Int)) d.t d.code (ys0 d)).2 v1 v2 v3 B (stepM (yardM (d.mem.length : Int)) d.t d.code (ys0 d)).1 q z wx) ∧ ThOk (stepM (yardM (d.mem.length : Int)) d.t d.code (ys0 d)).1)
        case first =>
          refine begin_late 9 [6, 8] (fun w' => Gr wc w') (by kernel_rfl) rfl ?_
          have hH : Gr wc wc.drew := (Gr.refl wc).drew
          refine AnyL.takeP 0 (some 71) (.pointer (some ⟨w.heap.size, 0, none⟩)) rfl rfl (by kernel_rfl) (by kernel_rfl) (by kernel_rfl) (by kernel_rfl) (fun _ _ _ h => h) (by kernel_rfl) (fun w' => by go_simp) (fun _ => hH) ?_
          simp only [Act.put, List.setIfInBounds_toArray, List.set_cons_zero, List.set_cons_succ]
          refine AnyL.take 1 (some 72) (.agg (thC d.t)) rfl rfl (by kernel_rfl) (by kernel_rfl) (by kernel_rfl) (by kernel_rfl) (fun _ _ _ h => h) (yieldsIf_load_mid (by kernel_rfl) 25 _ rfl w.heap.size 0 rfl (thL d.t) _ (fun u h j v hv => by rw [Nat.zero_add]; exact (HI.out u h).cell (inC_th hz j v hv)) Tryd.underlying25 rfl (by rw [c20]; exact infoT10)) hH ?_
          simp only [Act.put, List.setIfInBounds_toArray, List.set_cons_zero, List.set_cons_succ]
          refine AnyL.takeP 2 (some 73) (.pointer (some ⟨w.heap.size, 10, none⟩)) rfl rfl (by kernel_rfl) (by kernel_rfl) (by kernel_rfl) (by kernel_rfl) (fun _ _ _ h => h) (by kernel_rfl) (fun w' => by go_simp) (fun _ => hH) ?_
          simp only [Act.put, List.setIfInBounds_toArray, List.set_cons_zero, List.set_cons_succ]
          refine AnyL.take 3 (some 74) (.slice d.ca d.code.length d.cc) rfl rfl (by kernel_rfl) (by kernel_rfl) (by kernel_rfl) (by kernel_rfl) (fun _ _ _ h => h) (yields_held _ (by kernel_rfl) (fun w' hw' => by have c1 := (HI.out _ hw').cell h10; go_simp)) hH ?_
          simp only [Act.put, List.setIfInBounds_toArray, List.set_cons_zero, List.set_cons_succ]
          refine AnyL.takeP 4 (some 75) (.pointer (some ⟨y, 0, none⟩)) rfl rfl (by kernel_rfl) (by kernel_rfl) (by kernel_rfl) (by kernel_rfl) (fun _ _ _ h => h) (by kernel_rfl) (fun w' => by go_simp) (fun _ => hH) ?_
          simp only [Act.put, List.setIfInBounds_toArray, List.set_cons_zero, List.set_cons_succ]
          have SW := hide TW.out.gr.size
          have SD : Hid (wc.heap.size ≤ wc.drew.heap.size) := Below.size hH
          refine AnyL.two 5 7 (by kernel_rfl) rfl rfl (by kernel_rfl) ?_ ?_
          · have HC := port_calls (k := p.k d y) (Y0.later TW.out.y1 hH)
            refine wp_call (some 76) rfl _ _ (by kernel_rfl) HC ?_
            rintro e x5 ⟨⟨rfl, g5⟩, YD5⟩
            refine ⟨_, rfl, fun _ => hH.trans g5, ?_⟩
            simp only [Act.put, List.setIfInBounds_toArray, List.set_cons_zero, List.set_cons_succ]
            have G5 := hH.trans g5
            refine AnyL.two 6 7 (by kernel_rfl) rfl rfl (by kernel_rfl) ?_ ?_
            · have HC := step_yard YD5 HAT.out.ok d.code HAT.out.ins (by have := HLE.out; omega) d.ca d.cc (ys0_fuel HLE.out.2.2.1) (HAT.out.code.later (TW.out.gr.trans G5))
              refine wp_call (some 77) rfl _ _ (by kernel_rfl) HC ?_
              rintro e x6 ⟨rfl, ⟨p1, p2, p3, p4, YE, SUB⟩, K6⟩
              refine ⟨_, rfl, late (by kernel_rfl), ?_⟩
              simp only [Act.put, List.setIfInBounds_toArray, List.set_cons_zero, List.set_cons_succ]
              obtain ⟨GK, Q6, AP6⟩ := step_two YD5 (Y0.later TW.out.y2 G5) (fun x hx => Nat.lt_of_lt_of_le (Y1.bnd TW.out.y2 x hx) SD.out) (Below.size g5) TW.out.ap TW.out.low (Nat.le_trans SW.out SD.out) K6 (TW.out.gr.trans G5) SUB
              have HI6 := (HI.out _ G5).kept K6 (YD5.besides (HI.out _ G5) (by decide))
              have TO := step_th YD5 HAT.out.ok d.code HAT.out.ins
              refine AnyL.one 7 (by kernel_rfl) rfl (by kernel_rfl) ?_
              refine wp_made (some 10) rfl _ _ (alloc_th rfl) ?_
              refine ⟨late (by kernel_rfl), ?_⟩
              simp only [Act.put, List.setIfInBounds_toArray, List.set_cons_zero, List.set_cons_succ]
              have hT := Has.new x6 th0A 25
              have gA := (Gr.refl x6).alloc th0A 25
              refine AnyL.one 8 (by kernel_rfl) rfl (by kernel_rfl) ?_
              refine wp_store_thr rfl _ _ rfl (x6.heap.size) (by kernel_rfl) (stepM (yardM (d.mem.length : Int)) d.t d.code (ys0 d)).1 TO (by kernel_rfl) th0A hT rfl ?_
              refine ⟨late (by kernel_rfl), ?_⟩
              refine AnyL.done (by kernel_rfl) ?_
              have AI := hide (leaf_tx (GK.trans gA) (HI6.later gA) hT GK.size (YE.later gA) (Y0.later Q6 gA) TW.out.lo2 AP6 (stepM (yardM (d.mem.length : Int)) d.t d.code (ys0 d)).1)
              go_wp2_with (fail)
              go_meet
              case rel => exact ⟨_, _, _, _, _, _, rfl, rfl, AI, TO⟩
            · refine wp_made (some 10) rfl _ _ (alloc_th rfl) ?_
              refine ⟨fun _ => G5.trans ((Gr.refl x5).alloc th0A 25), ?_⟩
              simp only [Act.put, List.setIfInBounds_toArray, List.set_cons_zero, List.set_cons_succ]
              have hT0 := Has.new x5 th0A 25
              have gA := (Gr.refl x5).alloc th0A 25
              have YD6 := YD5.later gA
              have G6 := G5.trans gA
              have SX := Below.size gA
              generalize x5.alloc (.cells th0A 25) = x7 at hT0 gA YD6 G6 SX ⊢
              refine AnyL.one 6 (by kernel_rfl) rfl (by kernel_rfl) ?_
              have HC := step_yard YD6 HAT.out.ok d.code HAT.out.ins (by have := HLE.out; omega) d.ca d.cc (ys0_fuel HLE.out.2.2.1) (HAT.out.code.later (TW.out.gr.trans G6))
              refine wp_call (some 77) rfl _ _ (by kernel_rfl) HC ?_
              rintro e x6 ⟨rfl, ⟨p1, p2, p3, p4, YE, SUB⟩, K6⟩
              refine ⟨_, rfl, late (by kernel_rfl), ?_⟩
              simp only [Act.put, List.setIfInBounds_toArray, List.set_cons_zero, List.set_cons_succ]
              obtain ⟨GK, Q6, AP6⟩ := step_two YD6 (Y0.later TW.out.y2 G6) (fun x hx => Nat.lt_of_lt_of_le (Y1.bnd TW.out.y2 x hx) SD.out) (Nat.le_trans (Below.size g5) SX) TW.out.ap TW.out.low (Nat.le_trans SW.out SD.out) K6 (TW.out.gr.trans G6) SUB
              have HI6 := (HI.out _ G6).kept K6 (YD6.besides (HI.out _ G6) (by decide))
              have TO := step_th YD6 HAT.out.ok d.code HAT.out.ins
              have hT := hT0.kept K6 (YD6.besides hT0 (by decide))
              refine AnyL.one 8 (by kernel_rfl) rfl (by kernel_rfl) ?_
              refine wp_store_thr rfl _ _ rfl (x5.heap.size) (by kernel_rfl) (stepM (yardM (d.mem.length : Int)) d.t d.code (ys0 d)).1 TO (by kernel_rfl) th0A hT rfl ?_
              refine ⟨late (by kernel_rfl), ?_⟩
              refine AnyL.done (by kernel_rfl) ?_
              have AI := hide (leaf_tx GK HI6 hT (Nat.le_trans SW.out (Nat.le_trans SD.out (Below.size g5))) YE Q6 TW.out.lo2 AP6 (stepM (yardM (d.mem.length : Int)) d.t d.code (ys0 d)).1)
              go_wp2_with (fail)
              go_meet
              case rel => exact ⟨_, _, _, _, _, _, rfl, rfl, AI, TO⟩
          · refine wp_made (some 10) rfl _ _ (alloc_th rfl) ?_
            refine ⟨fun _ => hH.trans ((Gr.refl wc.drew).alloc th0A 25), ?_⟩
            simp only [Act.put, List.setIfInBounds_toArray, List.set_cons_zero, List.set_cons_succ]
            have hT0 := Has.new wc.drew th0A 25
            have gA := hH.alloc th0A 25
            have gS := Below.size ((Gr.refl wc.drew).alloc th0A 25)
            generalize wc.drew.alloc (.cells th0A 25) = x4 at hT0 gA gS ⊢
            refine AnyL.one 5 (by kernel_rfl) rfl (by kernel_rfl) ?_
            have HC := port_calls (k := p.k d y) (Y0.later TW.out.y1 gA)
            refine wp_call (some 76) rfl _ _ (by kernel_rfl) HC ?_
            rintro e x5 ⟨⟨rfl, g5⟩, YD5⟩
            refine ⟨_, rfl, fun _ => gA.trans g5, ?_⟩
            simp only [Act.put, List.setIfInBounds_toArray, List.set_cons_zero, List.set_cons_succ]
            have G5 := gA.trans g5
            have hT1 := hT0.later g5
            refine AnyL.one 6 (by kernel_rfl) rfl (by kernel_rfl) ?_
            have HC := step_yard YD5 HAT.out.ok d.code HAT.out.ins (by have := HLE.out; omega) d.ca d.cc (ys0_fuel HLE.out.2.2.1) (HAT.out.code.later (TW.out.gr.trans G5))
            refine wp_call (some 77) rfl _ _ (by kernel_rfl) HC ?_
            rintro e x6 ⟨rfl, ⟨p1, p2, p3, p4, YE, SUB⟩, K6⟩
            refine ⟨_, rfl, late (by kernel_rfl), ?_⟩
            simp only [Act.put, List.setIfInBounds_toArray, List.set_cons_zero, List.set_cons_succ]
            obtain ⟨GK, Q6, AP6⟩ := step_two YD5 (Y0.later TW.out.y2 G5) (fun x hx => Nat.lt_of_lt_of_le (Y1.bnd TW.out.y2 x hx) (Nat.le_trans SD.out gS)) (Below.size g5) TW.out.ap TW.out.low (Nat.le_trans SW.out (Nat.le_trans SD.out gS)) K6 (TW.out.gr.trans G5) SUB
            have HI6 := (HI.out _ G5).kept K6 (YD5.besides (HI.out _ G5) (by decide))
            have TO := step_th YD5 HAT.out.ok d.code HAT.out.ins
            have hT := hT1.kept K6 (YD5.besides hT1 (by decide))
            refine AnyL.one 8 (by kernel_rfl) rfl (by kernel_rfl) ?_
            refine wp_store_thr rfl _ _ rfl (wc.drew.heap.size) (by kernel_rfl) (stepM (yardM (d.mem.length : Int)) d.t d.code (ys0 d)).1 TO (by kernel_rfl) th0A hT rfl ?_
            refine ⟨late (by kernel_rfl), ?_⟩
            refine AnyL.done (by kernel_rfl) ?_
            have AI := hide (leaf_tx GK HI6 hT (Nat.le_trans SW.out SD.out) YE Q6 TW.out.lo2 AP6 (stepM (yardM (d.mem.length : Int)) d.t d.code (ys0 d)).1)
            go_wp2_with (fail)
            go_meet
            case rel => exact ⟨_, _, _, _, _, _, rfl, rfl, AI, TO⟩
        case rest =>
          obtain ⟨g, k1, v1, v2, v3, B1, rfl, hky, TX, TO⟩ := hcut
          clear TW HI
          have SM := hide (step_same (d.mem.length : Int) d.t d.code more (ys0 d) ah HPC.out HJ2.out)
          have SP := hide (step_pc (yardM (d.mem.length : Int)) d.t d.code (ys0 d) HPC.out HJ2.out)
          have HLN := hide (step_lens (d.mem.length : Int) d.t d.code (ys0 d))
          generalize stepM (yardM (d.mem.length : Int)) d.t d.code (ys0 d) = q1 at TX TO SM SP HLN
          generalize hQ2 : stepM (yardM (d.mem.length : Int)) (d.t.on ah) (moreC ah d.code more) (ys0 d) = q2 at SM
          have HQ2 := hide hQ2
          clear hQ2
          have hJ0 := Has.new wc th0A 25
          have hJ := hJ0.row (thC d.t)
          have cj := hJ.cell (thC_pc d.t)
          have fj := hJ.free 0
          have rng0 : wc.rangeAt w.heap.size 0 (thL d.t) := fun j v hv => by rw [Nat.zero_add]; exact TX.out.hi.cell (inC_th hz j v hv)
          have hwr : IntKind.i64.wrap (d.t.pc + (ah : Int)) = d.t.pc + ah := by rw [IntKind.wrap_i64]; have := HPC.out; have := HLE.out; omega
          have hwa : IntKind.i64.wrap (ah : Int) = ah := by rw [IntKind.wrap_i64]; omega
          have hahI : (ah : Int) < 256 := by omega
          go_upto_region 12 with (first
            | (refine wpList_load_mid rfl 25 _ rfl w.heap.size 0 rfl (thL d.t) _ rng0 Tryd.underlying25 rfl (by rw [c20]; exact infoT10) ?_)
            | (refine store_th rfl _ _ rfl wc.heap.size rfl d.t rfl th0 hJ0 hz th0_ok ?_))
          have gB : Gr wc (((wc.alloc (.cells th0A 25)).setRow wc.heap.size (thC d.t)).setCell ⟨wc.heap.size, 0, none⟩ (.int .i64 (d.t.pc + (ah : Int)))) := (((Gr.refl wc).alloc th0A 25).setRow (Nat.le_refl _) _).setCell (Nat.le_refl _) _
          have hjB : Has (((wc.alloc (.cells th0A 25)).setRow wc.heap.size (thC d.t)).setCell ⟨wc.heap.size, 0, none⟩ (.int .i64 (d.t.pc + (ah : Int)))) wc.heap.size (thC (d.t.on ah)) 25 := (hJ.set 0 _).of (thC_at d.t _)
          have hgj : g < wc.heap.size := TX.out.ht.lt
          have hwj : w.heap.size ≤ wc.heap.size := TX.out.gr.size
          have TX2 := hide (TX.out.later gB)
          have ZB := hide (Y1.bnd TX2.out.y2)
          generalize ((wc.alloc (.cells th0A 25)).setRow wc.heap.size (thC d.t)).setCell ⟨wc.heap.size, 0, none⟩ (.int .i64 (d.t.pc + (ah : Int))) = uA at hjB TX2 ZB ⊢
          generalize wc.heap.size = j at hjB hgj hwj ⊢
          clear hJ0 hJ cj fj rng0 hwr gB TX
          have TT := hide (hz.at (d.t.pc + (ah : Int)))
          refine begin_late 7 [] (fun w' => Gr uA w') (by kernel_rfl) rfl ?_
          have hH : Gr uA uA.drew := (Gr.refl uA).drew
          refine AnyL.takeP 0 (some 86) (.int .u8 ah) rfl rfl (by kernel_rfl) (by kernel_rfl) (by kernel_rfl) (by kernel_rfl) (fun _ _ _ h => h) (by kernel_rfl) (fun w' => by go_simp) (fun _ => hH) ?_
          simp only [Act.put, List.setIfInBounds_toArray, List.set_cons_zero, List.set_cons_succ]
          refine AnyL.takeP 1 (some 87) (.int .i64 ah) rfl rfl (by kernel_rfl) (by kernel_rfl) (by kernel_rfl) (by kernel_rfl) (fun _ _ _ h => h) (by kernel_rfl) (fun w' => by go_simp; try exact hwa) (fun _ => hH) ?_
          simp only [Act.put, List.setIfInBounds_toArray, List.set_cons_zero, List.set_cons_succ]
          refine AnyL.takeP 3 (some 89) (.pointer (some ⟨w.heap.size, 10, none⟩)) rfl rfl (by kernel_rfl) (by kernel_rfl) (by kernel_rfl) (by kernel_rfl) (fun _ _ _ h => h) (by kernel_rfl) (fun w' => by go_simp) (fun _ => hH) ?_
          simp only [Act.put, List.setIfInBounds_toArray, List.set_cons_zero, List.set_cons_succ]
          refine AnyL.take 4 (some 90) (.slice d.ca d.code.length d.cc) rfl rfl (by kernel_rfl) (by kernel_rfl) (by kernel_rfl) (by kernel_rfl) (fun _ _ _ h => h) (yields_held _ (by kernel_rfl) (fun w' hw' => by have c1 := (TX2.out.hi.later hw').cell h10; go_simp)) hH ?_
          simp only [Act.put, List.setIfInBounds_toArray, List.set_cons_zero, List.set_cons_succ]
          refine AnyL.one 2 (by kernel_rfl) rfl (by kernel_rfl) ?_
          refine wp_made (some 88) rfl _ _ (exec_mk _ _ rfl ah (by omega) (by kernel_rfl) (by kernel_rfl)) ?_
          have g1 := hH.alloc (flatOf insL (List.replicate ah ins0)).toArray 54
          refine ⟨fun _ => g1, ?_⟩
          simp only [Act.put, List.setIfInBounds_toArray, List.set_cons_zero, List.set_cons_succ]
          have ow1 := own_ins uA.drew ah (by omega)
          have sz1 : uA.heap.size ≤ uA.drew.heap.size := Below.size hH
          have sz2 : uA.drew.heap.size ≤ (uA.drew.alloc (.cells (flatOf insL (List.replicate ah ins0)).toArray 54)).heap.size := Below.size ((Gr.refl uA.drew).alloc (flatOf insL (List.replicate ah ins0)).toArray 54)
          generalize uA.drew.heap.size = m at ow1 sz1 sz2 ⊢
          generalize uA.drew.alloc (.cells (flatOf insL (List.replicate ah ins0)).toArray 54) = u1 at ow1 g1 sz2 ⊢
          have hlen1 : (List.replicate ah ins0).length + d.code.length ≤ 100000 := by have := HLE.out; rw [List.length_replicate]; omega
          have ow1' : InssO u1 m (.slice (some ⟨m, 0, none⟩) ah ah) (List.replicate ah ins0) := ow1
          obtain ⟨v12, u2, hr2, ow2, gr2, -⟩ := app_recs (ty := 26) insL_len insL_one (T := 26) Tryd.underlying26 infoIns (by decide) (by decide) (by decide) ow1' d.ca d.cc d.code (HAT.out.code.later (TX2.out.gr.trans g1)) (fun h => HCN.out h) hlen1 sz2
          have g2 : Gr uA u2 := grown_gr g1 ow1' gr2 sz1
          refine AnyL.one 5 (by kernel_rfl) rfl (by kernel_rfl) ?_
          refine wp_app (some 91) rfl _ _ 26 rfl (.slice (some ⟨m, 0, none⟩) ah ah) _ (by kernel_rfl) rfl v12 u2 hr2 ?_
          refine ⟨fun _ => g2, ?_⟩
          simp only [Act.put, List.setIfInBounds_toArray, List.set_cons_zero, List.set_cons_succ]
          replace hH := g2
          refine AnyL.takeP 6 (some 12) (v12) rfl rfl (by kernel_rfl) (by kernel_rfl) (by kernel_rfl) (by kernel_rfl) (fun _ _ _ h => h) (by kernel_rfl) (fun w' => by go_simp) (fun _ => hH) ?_
          simp only [Act.put, List.setIfInBounds_toArray, List.set_cons_zero, List.set_cons_succ]
          refine AnyL.done (by kernel_rfl) ?_
          have sz3 : m ≤ u2.heap.size := Nat.le_trans sz2 gr2.size
          clear ow1 ow1' hr2 gr2 g1 sz2
          go_wp2_with (fail)
          -- the second step
          refine begin_late 8 [6, 7] (fun w' => Gr uA w') (by kernel_rfl) rfl ?_
          replace hH : Gr uA u2.drew := g2.drew
          refine AnyL.take 0 (some 92) (.agg (thC (d.t.on ah))) rfl rfl (by kernel_rfl) (by kernel_rfl) (by kernel_rfl) (by kernel_rfl) (fun _ _ _ h => h) (take_th (by kernel_rfl) _ rfl j rfl (d.t.on ah) (fun w' hw' => hjB.later hw') TT.out) hH ?_
          simp only [Act.put, List.setIfInBounds_toArray, List.set_cons_zero, List.set_cons_succ]
          refine AnyL.takeP 1 (some 93) (v12) rfl rfl (by kernel_rfl) (by kernel_rfl) (by kernel_rfl) (by kernel_rfl) (fun _ _ _ h => h) (by kernel_rfl) (fun w' => by go_simp) (fun _ => hH) ?_
          simp only [Act.put, List.setIfInBounds_toArray, List.set_cons_zero, List.set_cons_succ]
          refine AnyL.takeP 2 (some 94) (.slice ma more.length mcap) rfl rfl (by kernel_rfl) (by kernel_rfl) (by kernel_rfl) (by kernel_rfl) (fun _ _ _ h => h) (by kernel_rfl) (fun w' => by go_simp) (fun _ => hH) ?_
          simp only [Act.put, List.setIfInBounds_toArray, List.set_cons_zero, List.set_cons_succ]
          refine AnyL.takeP 4 (some 96) (.pointer (some ⟨z, 0, none⟩)) rfl rfl (by kernel_rfl) (by kernel_rfl) (by kernel_rfl) (by kernel_rfl) (fun _ _ _ h => h) (by kernel_rfl) (fun w' => by go_simp) (fun _ => hH) ?_
          simp only [Act.put, List.setIfInBounds_toArray, List.set_cons_zero, List.set_cons_succ]
          have ow2d : InssO u2.drew m v12 (List.replicate ah ins0 ++ d.code) := own_later ow2 (Gr.refl u2).drew
          have szd : m ≤ u2.drew.heap.size := sz3
          have hlen2 : (List.replicate ah ins0 ++ d.code).length + more.length ≤ 100000 := by have := HLE.out; have := HML.out; rw [List.length_append, List.length_replicate]; omega
          obtain ⟨v13, u3, hr3, ow3, gr3, -⟩ := app_recs (ty := 26) insL_len insL_one (T := 26) Tryd.underlying26 infoIns (by decide) (by decide) (by decide) ow2d ma mcap more (HMR.out.later (TX2.out.gr.trans hH)) (fun h => HMN.out h) hlen2 szd
          have g3 : Gr uA u3 := grown_gr hH ow2d gr3 sz1
          refine AnyL.one 3 (by kernel_rfl) rfl (by kernel_rfl) ?_
          refine wp_app (some 95) rfl _ _ 26 rfl v12 _ (by kernel_rfl) rfl v13 u3 hr3 ?_
          refine ⟨fun _ => g3, ?_⟩
          simp only [Act.put, List.setIfInBounds_toArray, List.set_cons_zero, List.set_cons_succ]
          clear hr3 gr3 ow2d ow2 szd sz3
          refine AnyL.one 5 (by kernel_rfl) rfl (by kernel_rfl) ?_
          have HC := port_calls (k := q.k d z) (Y0.later TX2.out.y2 g3)
          refine wp_call (some 97) rfl _ _ (by kernel_rfl) HC ?_
          rintro e x5 ⟨⟨rfl, g5⟩, YD5⟩
          have G5 := g3.trans g5
          refine ⟨_, rfl, fun _ => G5, ?_⟩
          simp only [Act.put, List.setIfInBounds_toArray, List.set_cons_zero, List.set_cons_succ]
          have ow4 : InssO x5 m v13 (moreC ah d.code more) := own_later ow3 g5
          obtain ⟨a13, c13, rfl, r13, -, -, -⟩ := own_at ow4
          have hlen3 : (moreC ah d.code more).length < 4611686018427387904 := by
            have : (moreC ah d.code more).length = (List.replicate ah ins0 ++ d.code).length + more.length := by simp [moreC]; omega
            omega
          have MO := more_ok (ah := ah) HAT.out.ins HMI.out
          have HC := step_yard YD5 TT.out (moreC ah d.code more) MO hlen3 a13 c13 (ys0_fuel HLE.out.2.2.1) r13
          have TO2 := step_th YD5 TT.out (moreC ah d.code more) MO
          refine AnyL.one 6 (by kernel_rfl) rfl (by kernel_rfl) ?_
          refine wp_call (some 98) rfl _ _ (by kernel_rfl) HC ?_
          rintro e x6 ⟨rfl, ⟨r1, r2, r3, D2, YE, -⟩, K6⟩
          refine ⟨_, rfl, late (by kernel_rfl), ?_⟩
          simp only [Act.put, List.setIfInBounds_toArray, List.set_cons_zero, List.set_cons_succ]
          have eq2 : stepM (yardM (((q.k d z).boxes u3.heap.size).N : Int)) (d.t.at (d.t.pc + (ah : Int))) (moreC ah d.code more) (ys0 d) = q2 := HQ2.out
          rw [eq2] at YE TO2 ⊢
          obtain ⟨e1, ysm⟩ := SM.out
          have nu : uA.heap.size ≤ u3.heap.size := g3.size
          have FA := foot_apart (d := d) (n := u3.heap.size) (TX2.out.yd) TX2.out.ap nu
          have Y1k := (TX2.out.yd.later G5).kept K6 (fun x hx => ⟨FA x hx, fun e => YD5.pos (by rw [← e]; exact hx)⟩)
          have HT6 := (TX2.out.ht.later G5).kept K6 (YD5.besides (TX2.out.ht.later G5) (by decide))
          have HJ6 := (hjB.later G5).kept K6 (YD5.besides (hjB.later G5) (by decide))
          have G6 : Gr w x6 := K6.gr (TX2.out.gr.trans G5) fun x hx => by
            rcases foot_of hx with e | e
            · exact TX2.out.lo2 x e
            · have := TX2.out.gr.size; omega
          have nj0 : ∀ {k s v1 v2 v3 B}, Yd k s v1 v2 v3 B x6 → ∀ x ∈ [j], x ∉ foot k v1 v2 v3 ∧ x ≠ 0 := fun {k s v1 v2 v3 B} Y x hx => by
            rw [List.mem_singleton] at hx
            subst hx
            refine ⟨Y.besides HJ6 (by decide), fun e => ?_⟩
            rw [e] at HJ6
            have c1 := HJ6.cell (o := 1) (by have := thC_reg TT.out 0 (by omega); exact this)
            have c2 := (Y.laid.kd 0 (by omega)).2.1
            rw [show 0 * 5 + 1 = 1 from rfl, c1] at c2
            cases c2
          refine AnyL.one 7 (by kernel_rfl) rfl (by kernel_rfl) ?_
          refine wp_store_thr rfl _ _ rfl j (by kernel_rfl) q2.1 TO2 (by kernel_rfl) (thC (d.t.on ah)) HJ6 (thC_size TT.out) ?_
          refine ⟨late (by kernel_rfl), ?_⟩
          refine AnyL.done (by kernel_rfl) ?_
          have kr := Kp.setRow x6 j (thC q2.1)
          have TYb : Ty d w g j k1 ((q.k d z).boxes u3.heap.size) q1.2 q2.2 v1 v2 v3 B1 r1 r2 r3 D2 q1.1 q2.1 (x6.setRow j (thC q2.1)) :=
            ⟨G6.setRow hwj _, HT6.rowAside (by omega) _, HJ6.row _, Y1k.kept kr (nj0 Y1k), YE.kept kr (nj0 YE)⟩
          have kz : ((q.k d z).boxes u3.heap.size).y = z := rfl
          clear Y1k HT6 HJ6 nj0 kr YD5 K6 FA G6 ow3 ow4 r13 HC g5 G5 g2 g3 hH MO hlen3 hlen2 hlen1 sz1 hjB TX2 YE
          generalize x6.setRow j (thC q2.1) = x7 at TYb ⊢
          generalize (q.k d z).boxes u3.heap.size = k2 at TYb kz ⊢
          rw [e1] at TYb TO2
          have TYH := hide TYb
          have cj := TYb.hj.cell (thC_pc (q1.1.on ah))
          replace cj : x7.cell? ⟨j, 0, none⟩ = some (.int .i64 (q1.1.pc + (ah : Int))) := cj
          have fj := TYb.hj.free 0
          have spb : -4611686018427387904 ≤ q1.1.pc ∧ q1.1.pc ≤ 4611686018427387904 := by
            have := SP.out
            have := HPC.out
            have := HLE.out
            omega
          have hws : IntKind.i64.wrap (q1.1.pc + (ah : Int) - (ah : Int)) = q1.1.pc := by rw [IntKind.wrap_i64]; omega
          have hws2 : IntKind.i64.wrap q1.1.pc = q1.1.pc := by rw [IntKind.wrap_i64]; omega
          clear TYb spb
          go_upto_region 15 with (fail)
          have gC : Gr w (x7.setCell ⟨j, 0, none⟩ (.int .i64 q1.1.pc)) := TYH.out.gr.setCell hwj _
          have hjC : Has (x7.setCell ⟨j, 0, none⟩ (.int .i64 q1.1.pc)) j (thC q1.1) 25 := (TYH.out.hj.set 0 _).of (thC_at (q1.1.on ah) q1.1.pc)
          have hgC : Has (x7.setCell ⟨j, 0, none⟩ (.int .i64 q1.1.pc)) g (thC q1.1) 25 := TYH.out.ht.aside (by omega) _ _
          have kq := Kp.setCell x7 j 0 (.int .i64 q1.1.pc)
          have nj1 : ∀ {k s v1 v2 v3 B}, Yd k s v1 v2 v3 B x7 → ∀ x ∈ [j], x ∉ foot k v1 v2 v3 ∧ x ≠ 0 := fun {k s v1 v2 v3 B} Y x hx => by
            rw [List.mem_singleton] at hx
            subst hx
            refine ⟨Y.besides TYH.out.hj (by decide), fun e => ?_⟩
            have hq := TYH.out.hj
            rw [e] at hq
            have c1 := hq.cell (o := 1) (by have := thC_reg TO2 0 (by omega); exact this)
            have c2 := (Y.laid.kd 0 (by omega)).2.1
            rw [show 0 * 5 + 1 = 1 from rfl, c1] at c2
            cases c2
          have yC1 := TYH.out.yd.kept kq (nj1 TYH.out.yd)
          have yC2 := TYH.out.yz.kept kq (nj1 TYH.out.yz)
          clear nj1 kq
          generalize x7.setCell ⟨j, 0, none⟩ (.int .i64 q1.1.pc) = uC at gC hjC hgC yC1 yC2 ⊢
          obtain ⟨sx, S1⟩ := SwY.of yC1
          obtain ⟨sy, S2⟩ := SwY.of yC2
          rw [ysm.mem, ysm.buf, ysm.slp, ysm.asks, ysm.evs, kz] at S2
          rw [hky] at S1
          have lens : q1.2.mem.length ≤ 1000 ∧ q1.2.buf.length ≤ 1000 ∧ q1.2.slp.length ≤ 1000 := by
            have hm1 := yC1.num
            have hm2 := yC1.most
            have h1 : q1.2.buf.length ≤ (pickF d.mem.length (roomN d.room) d.buf).length + 1 := HLN.out.1
            have h2 : q1.2.slp.length ≤ (slpF d.asl).length + 1 := HLN.out.2
            have h3 : (pickF d.mem.length (roomN d.room) d.buf).length ≤ roomN d.room := pick_len _ [] (by simp)
            have h4 : roomN d.room ≤ 16 := by unfold roomN; omega
            rw [slpF_len] at h2
            have := HLE.out
            omega
          clear TYH yC1 yC2 cj fj hws hws2
          generalize q1.2.mem = sm at S1 S2 lens
          generalize q1.2.buf = sb at S1 S2 lens
          generalize q1.2.slp = sl at S1 S2 lens
          generalize q1.2.asks = sa at S1 S2
          generalize q1.2.evs.length = se at S1 S2
          obtain ⟨xa, xc, hxe⟩ := S1.ve
          obtain ⟨ya, yc, hye⟩ := S2.ve
          have S1H := hide S1
          have S2H := hide S2
          have hx6 : (sx.L sm.length sl.length sa).toArray[6]? = some (.slice xa se xc) := by rw [← hxe]; rfl
          have hy6 : (sy.L sm.length sl.length sa).toArray[6]? = some (.slice ya se yc) := by rw [← hye]; rfl
          clear S1 S2
          refine begin_late 41 [] (fun w' => Gr uC w') (by kernel_rfl) rfl ?_
          have hH : Gr uC uC.drew := (Gr.refl uC).drew
          refine AnyL.take 0 (some 105) (.agg (thC q1.1)) rfl rfl (by kernel_rfl) (by kernel_rfl) (by kernel_rfl) (by kernel_rfl) (fun _ _ _ h => h) (take_th (by kernel_rfl) _ rfl g rfl q1.1 (fun w' hw' => hgC.later hw') TO) hH ?_
          simp only [Act.put, List.setIfInBounds_toArray, List.set_cons_zero, List.set_cons_succ]
          refine AnyL.take 1 (some 106) (.agg (thC q1.1)) rfl rfl (by kernel_rfl) (by kernel_rfl) (by kernel_rfl) (by kernel_rfl) (fun _ _ _ h => h) (take_th (by kernel_rfl) _ rfl j rfl q1.1 (fun w' hw' => hjC.later hw') TO) hH ?_
          simp only [Act.put, List.setIfInBounds_toArray, List.set_cons_zero, List.set_cons_succ]
          refine AnyL.takeP 2 (some 107) (.bool true) rfl rfl (by kernel_rfl) (by kernel_rfl) (by kernel_rfl) (by kernel_rfl) (fun _ _ _ h => h) (by kernel_rfl) (fun w' => exec_eqth _ _ rfl q1.1 TO (by kernel_rfl) (by kernel_rfl)) (fun _ => hH) ?_
          simp only [Act.put, List.setIfInBounds_toArray, List.set_cons_zero, List.set_cons_succ]
          refine AnyL.takeP 3 (some 108) (.bool true) rfl rfl (by kernel_rfl) (by kernel_rfl) (by kernel_rfl) (by kernel_rfl) (fun _ _ _ h => h) (by kernel_rfl) (fun w' => by go_simp) (fun _ => hH) ?_
          simp only [Act.put, List.setIfInBounds_toArray, List.set_cons_zero, List.set_cons_succ]
          refine AnyL.takeP 4 (some 109) (.pointer (some ⟨y, 0, none⟩)) rfl rfl (by kernel_rfl) (by kernel_rfl) (by kernel_rfl) (by kernel_rfl) (fun _ _ _ h => h) (by kernel_rfl) (fun w' => by go_simp) (fun _ => hH) ?_
          simp only [Act.put, List.setIfInBounds_toArray, List.set_cons_zero, List.set_cons_succ]
          refine AnyL.takeP 5 (some 110) (.pointer (some ⟨y, 0, none⟩)) rfl rfl (by kernel_rfl) (by kernel_rfl) (by kernel_rfl) (by kernel_rfl) (fun _ _ _ h => h) (by kernel_rfl) (fun w' => by go_simp) (fun _ => hH) ?_
          simp only [Act.put, List.setIfInBounds_toArray, List.set_cons_zero, List.set_cons_succ]
          refine AnyL.takeP 6 (some 111) (.pointer (some ⟨y, 0, none⟩)) rfl rfl (by kernel_rfl) (by kernel_rfl) (by kernel_rfl) (by kernel_rfl) (fun _ _ _ h => h) (by kernel_rfl) (fun w' => by go_simp) (fun _ => hH) ?_
          simp only [Act.put, List.setIfInBounds_toArray, List.set_cons_zero, List.set_cons_succ]
          refine AnyL.take 7 (some 112) (.agg (sx.C sm.length sl.length)) rfl rfl (by kernel_rfl) (by kernel_rfl) (by kernel_rfl) (by kernel_rfl) (fun _ _ _ h => h) (yieldsIf_load_mid (by kernel_rfl) 40 _ rfl y 0 rfl (sx.C sm.length sl.length).toList _ (fun u h => (S1H.out.later h).range) Tryd.underlying40 rfl (by kernel_rfl)) hH ?_
          simp only [Act.put, List.setIfInBounds_toArray, List.set_cons_zero, List.set_cons_succ]
          refine AnyL.takeP 8 (some 113) (.pointer (some ⟨z, 0, none⟩)) rfl rfl (by kernel_rfl) (by kernel_rfl) (by kernel_rfl) (by kernel_rfl) (fun _ _ _ h => h) (by kernel_rfl) (fun w' => by go_simp) (fun _ => hH) ?_
          simp only [Act.put, List.setIfInBounds_toArray, List.set_cons_zero, List.set_cons_succ]
          refine AnyL.takeP 9 (some 114) (.pointer (some ⟨z, 0, none⟩)) rfl rfl (by kernel_rfl) (by kernel_rfl) (by kernel_rfl) (by kernel_rfl) (fun _ _ _ h => h) (by kernel_rfl) (fun w' => by go_simp) (fun _ => hH) ?_
          simp only [Act.put, List.setIfInBounds_toArray, List.set_cons_zero, List.set_cons_succ]
          refine AnyL.takeP 10 (some 115) (.pointer (some ⟨z, 0, none⟩)) rfl rfl (by kernel_rfl) (by kernel_rfl) (by kernel_rfl) (by kernel_rfl) (fun _ _ _ h => h) (by kernel_rfl) (fun w' => by go_simp) (fun _ => hH) ?_
          simp only [Act.put, List.setIfInBounds_toArray, List.set_cons_zero, List.set_cons_succ]
          refine AnyL.take 11 (some 116) (.agg (sy.C sm.length sl.length)) rfl rfl (by kernel_rfl) (by kernel_rfl) (by kernel_rfl) (by kernel_rfl) (fun _ _ _ h => h) (yieldsIf_load_mid (by kernel_rfl) 40 _ rfl z 0 rfl (sy.C sm.length sl.length).toList _ (fun u h => (S2H.out.later h).range) Tryd.underlying40 rfl (by kernel_rfl)) hH ?_
          simp only [Act.put, List.setIfInBounds_toArray, List.set_cons_zero, List.set_cons_succ]
          refine AnyL.one 12 (by kernel_rfl) rfl (by kernel_rfl) ?_
          have HC2 := sameWorld_calls sx sy sm sb sl uC.drew (S1H.out.ok.later hH) (S2H.out.ok.later hH) lens.1 lens.2.1 lens.2.2
          refine wp_call (some 117) rfl _ _ (by kernel_rfl) HC2 ?_
          rintro e x8 ⟨rfl, g8⟩
          refine ⟨_, rfl, fun _ => hH.trans g8, ?_⟩
          simp only [Act.put, List.setIfInBounds_toArray, List.set_cons_zero, List.set_cons_succ]
          have G8 := hH.trans g8
          replace hH := G8
          refine AnyL.takeP 13 (some 118) (.bool true) rfl rfl (by kernel_rfl) (by kernel_rfl) (by kernel_rfl) (by kernel_rfl) (fun _ _ _ h => h) (by kernel_rfl) (fun w' => by go_simp) (fun _ => hH) ?_
          simp only [Act.put, List.setIfInBounds_toArray, List.set_cons_zero, List.set_cons_succ]
          refine AnyL.takeP 14 (some 119) (.bool true) rfl rfl (by kernel_rfl) (by kernel_rfl) (by kernel_rfl) (by kernel_rfl) (fun _ _ _ h => h) (by kernel_rfl) (fun w' => by go_simp) (fun _ => hH) ?_
          simp only [Act.put, List.setIfInBounds_toArray, List.set_cons_zero, List.set_cons_succ]
          refine AnyL.takeP 15 (some 120) (.pointer (some ⟨y, 0, none⟩)) rfl rfl (by kernel_rfl) (by kernel_rfl) (by kernel_rfl) (by kernel_rfl) (fun _ _ _ h => h) (by kernel_rfl) (fun w' => by go_simp) (fun _ => hH) ?_
          simp only [Act.put, List.setIfInBounds_toArray, List.set_cons_zero, List.set_cons_succ]
          refine AnyL.takeP 16 (some 121) (.pointer (some ⟨y, 0, none⟩)) rfl rfl (by kernel_rfl) (by kernel_rfl) (by kernel_rfl) (by kernel_rfl) (fun _ _ _ h => h) (by kernel_rfl) (fun w' => by go_simp) (fun _ => hH) ?_
          simp only [Act.put, List.setIfInBounds_toArray, List.set_cons_zero, List.set_cons_succ]
          refine AnyL.takeP 17 (some 122) (.pointer (some ⟨y, 0, none⟩)) rfl rfl (by kernel_rfl) (by kernel_rfl) (by kernel_rfl) (by kernel_rfl) (fun _ _ _ h => h) (by kernel_rfl) (fun w' => by go_simp) (fun _ => hH) ?_
          simp only [Act.put, List.setIfInBounds_toArray, List.set_cons_zero, List.set_cons_succ]
          refine AnyL.takeP 18 (some 123) (.pointer (some ⟨y, 6, none⟩)) rfl rfl (by kernel_rfl) (by kernel_rfl) (by kernel_rfl) (by kernel_rfl) (fun _ _ _ h => h) (by kernel_rfl) (fun w' => by go_simp) (fun _ => hH) ?_
          simp only [Act.put, List.setIfInBounds_toArray, List.set_cons_zero, List.set_cons_succ]
          refine AnyL.take 19 (some 124) (.slice xa se xc) rfl rfl (by kernel_rfl) (by kernel_rfl) (by kernel_rfl) (by kernel_rfl) (fun _ _ _ h => h) (yields_held _ (by kernel_rfl) (fun w' hw' => by have c1 := (S1H.out.hy.later hw').cell hx6; go_simp)) hH ?_
          simp only [Act.put, List.setIfInBounds_toArray, List.set_cons_zero, List.set_cons_succ]
          refine AnyL.takeP 20 (some 125) (.int .i64 se) rfl rfl (by kernel_rfl) (by kernel_rfl) (by kernel_rfl) (by kernel_rfl) (fun _ _ _ h => h) (by kernel_rfl) (fun w' => by go_simp) (fun _ => hH) ?_
          simp only [Act.put, List.setIfInBounds_toArray, List.set_cons_zero, List.set_cons_succ]
          refine AnyL.takeP 21 (some 126) (.pointer (some ⟨z, 0, none⟩)) rfl rfl (by kernel_rfl) (by kernel_rfl) (by kernel_rfl) (by kernel_rfl) (fun _ _ _ h => h) (by kernel_rfl) (fun w' => by go_simp) (fun _ => hH) ?_
          simp only [Act.put, List.setIfInBounds_toArray, List.set_cons_zero, List.set_cons_succ]
          refine AnyL.takeP 22 (some 127) (.pointer (some ⟨z, 0, none⟩)) rfl rfl (by kernel_rfl) (by kernel_rfl) (by kernel_rfl) (by kernel_rfl) (fun _ _ _ h => h) (by kernel_rfl) (fun w' => by go_simp) (fun _ => hH) ?_
          simp only [Act.put, List.setIfInBounds_toArray, List.set_cons_zero, List.set_cons_succ]
          refine AnyL.takeP 23 (some 128) (.pointer (some ⟨z, 0, none⟩)) rfl rfl (by kernel_rfl) (by kernel_rfl) (by kernel_rfl) (by kernel_rfl) (fun _ _ _ h => h) (by kernel_rfl) (fun w' => by go_simp) (fun _ => hH) ?_
          simp only [Act.put, List.setIfInBounds_toArray, List.set_cons_zero, List.set_cons_succ]
          refine AnyL.takeP 24 (some 129) (.pointer (some ⟨z, 6, none⟩)) rfl rfl (by kernel_rfl) (by kernel_rfl) (by kernel_rfl) (by kernel_rfl) (fun _ _ _ h => h) (by kernel_rfl) (fun w' => by go_simp) (fun _ => hH) ?_
          simp only [Act.put, List.setIfInBounds_toArray, List.set_cons_zero, List.set_cons_succ]
          refine AnyL.take 25 (some 130) (.slice ya se yc) rfl rfl (by kernel_rfl) (by kernel_rfl) (by kernel_rfl) (by kernel_rfl) (fun _ _ _ h => h) (yields_held _ (by kernel_rfl) (fun w' hw' => by have c1 := (S2H.out.hy.later hw').cell hy6; go_simp)) hH ?_
          simp only [Act.put, List.setIfInBounds_toArray, List.set_cons_zero, List.set_cons_succ]
          refine AnyL.takeP 26 (some 131) (.int .i64 se) rfl rfl (by kernel_rfl) (by kernel_rfl) (by kernel_rfl) (by kernel_rfl) (fun _ _ _ h => h) (by kernel_rfl) (fun w' => by go_simp) (fun _ => hH) ?_
          simp only [Act.put, List.setIfInBounds_toArray, List.set_cons_zero, List.set_cons_succ]
          refine AnyL.takeP 27 (some 132) (.bool true) rfl rfl (by kernel_rfl) (by kernel_rfl) (by kernel_rfl) (by kernel_rfl) (fun _ _ _ h => h) (by kernel_rfl) (fun w' => by go_simp) (fun _ => hH) ?_
          simp only [Act.put, List.setIfInBounds_toArray, List.set_cons_zero, List.set_cons_succ]
          refine AnyL.takeP 28 (some 133) (.bool true) rfl rfl (by kernel_rfl) (by kernel_rfl) (by kernel_rfl) (by kernel_rfl) (fun _ _ _ h => h) (by kernel_rfl) (fun w' => by go_simp) (fun _ => hH) ?_
          simp only [Act.put, List.setIfInBounds_toArray, List.set_cons_zero, List.set_cons_succ]
          refine AnyL.takeP 29 (some 134) (.bool true) rfl rfl (by kernel_rfl) (by kernel_rfl) (by kernel_rfl) (by kernel_rfl) (fun _ _ _ h => h) (by kernel_rfl) (fun w' => by go_simp) (fun _ => hH) ?_
          simp only [Act.put, List.setIfInBounds_toArray, List.set_cons_zero, List.set_cons_succ]
          refine AnyL.takeP 30 (some 135) (.pointer (some ⟨y, 0, none⟩)) rfl rfl (by kernel_rfl) (by kernel_rfl) (by kernel_rfl) (by kernel_rfl) (fun _ _ _ h => h) (by kernel_rfl) (fun w' => by go_simp) (fun _ => hH) ?_
          simp only [Act.put, List.setIfInBounds_toArray, List.set_cons_zero, List.set_cons_succ]
          refine AnyL.takeP 31 (some 136) (.pointer (some ⟨y, 0, none⟩)) rfl rfl (by kernel_rfl) (by kernel_rfl) (by kernel_rfl) (by kernel_rfl) (fun _ _ _ h => h) (by kernel_rfl) (fun w' => by go_simp) (fun _ => hH) ?_
          simp only [Act.put, List.setIfInBounds_toArray, List.set_cons_zero, List.set_cons_succ]
          refine AnyL.takeP 32 (some 137) (.pointer (some ⟨y, 8, none⟩)) rfl rfl (by kernel_rfl) (by kernel_rfl) (by kernel_rfl) (by kernel_rfl) (fun _ _ _ h => h) (by kernel_rfl) (fun w' => by go_simp) (fun _ => hH) ?_
          simp only [Act.put, List.setIfInBounds_toArray, List.set_cons_zero, List.set_cons_succ]
          refine AnyL.take 33 (some 138) (.string ⟨sa.toArray⟩) rfl rfl (by kernel_rfl) (by kernel_rfl) (by kernel_rfl) (by kernel_rfl) (fun _ _ _ h => h) (yields_held _ (by kernel_rfl) (fun w' hw' => by have c1 := (S1H.out.hy.later hw').cell (o := 8) (v := .string ⟨sa.toArray⟩) rfl; go_simp)) hH ?_
          simp only [Act.put, List.setIfInBounds_toArray, List.set_cons_zero, List.set_cons_succ]
          refine AnyL.takeP 34 (some 139) (.pointer (some ⟨z, 0, none⟩)) rfl rfl (by kernel_rfl) (by kernel_rfl) (by kernel_rfl) (by kernel_rfl) (fun _ _ _ h => h) (by kernel_rfl) (fun w' => by go_simp) (fun _ => hH) ?_
          simp only [Act.put, List.setIfInBounds_toArray, List.set_cons_zero, List.set_cons_succ]
          refine AnyL.takeP 35 (some 140) (.pointer (some ⟨z, 0, none⟩)) rfl rfl (by kernel_rfl) (by kernel_rfl) (by kernel_rfl) (by kernel_rfl) (fun _ _ _ h => h) (by kernel_rfl) (fun w' => by go_simp) (fun _ => hH) ?_
          simp only [Act.put, List.setIfInBounds_toArray, List.set_cons_zero, List.set_cons_succ]
          refine AnyL.takeP 36 (some 141) (.pointer (some ⟨z, 8, none⟩)) rfl rfl (by kernel_rfl) (by kernel_rfl) (by kernel_rfl) (by kernel_rfl) (fun _ _ _ h => h) (by kernel_rfl) (fun w' => by go_simp) (fun _ => hH) ?_
          simp only [Act.put, List.setIfInBounds_toArray, List.set_cons_zero, List.set_cons_succ]
          refine AnyL.take 37 (some 142) (.string ⟨sa.toArray⟩) rfl rfl (by kernel_rfl) (by kernel_rfl) (by kernel_rfl) (by kernel_rfl) (fun _ _ _ h => h) (yields_held _ (by kernel_rfl) (fun w' hw' => by have c1 := (S2H.out.hy.later hw').cell (o := 8) (v := .string ⟨sa.toArray⟩) rfl; go_simp)) hH ?_
          simp only [Act.put, List.setIfInBounds_toArray, List.set_cons_zero, List.set_cons_succ]
          refine AnyL.takeP 38 (some 143) (.bool true) rfl rfl (by kernel_rfl) (by kernel_rfl) (by kernel_rfl) (by kernel_rfl) (fun _ _ _ h => h) (by kernel_rfl) (fun w' => by go_simp) (fun _ => hH) ?_
          simp only [Act.put, List.setIfInBounds_toArray, List.set_cons_zero, List.set_cons_succ]
          refine AnyL.takeP 39 (some 144) (.bool true) rfl rfl (by kernel_rfl) (by kernel_rfl) (by kernel_rfl) (by kernel_rfl) (fun _ _ _ h => h) (by kernel_rfl) (fun w' => by go_simp) (fun _ => hH) ?_
          simp only [Act.put, List.setIfInBounds_toArray, List.set_cons_zero, List.set_cons_succ]
          refine AnyL.takeP 40 (some 6) (.bool true) rfl rfl (by kernel_rfl) (by kernel_rfl) (by kernel_rfl) (by kernel_rfl) (fun _ _ _ h => h) (by kernel_rfl) (fun w' => by go_simp) (fun _ => hH) ?_
          simp only [Act.put, List.setIfInBounds_toArray, List.set_cons_zero, List.set_cons_succ]
          refine AnyL.done (by kernel_rfl) ?_
          go_wp2_with (fail)
          go_ret
          exact ⟨rfl, gC.trans hH⟩
end Go.Proofs.YtbmlliohepidaaaDoor
