/-
  What the document's Orders answers of events of which each is in its order: 1. No condition but what each law names.
-/
import Derived.Test.YthbenfnanhpcoaaDoorZzbs
import Derived.Deep.CutBlock
import Derived.BigQuiet
import Derived.Deep.QuietTactic
import Derived.Test.YthbenfnanhpcoaaDoorZzbuLSee
namespace Go.Proofs.YthbenfnanhpcoaaDoor.Mc
open Go.ChangeShapes Go.WideShapes Go.ChangeAt Go.RowKit
set_option linter.unusedVariables false
set_option maxRecDepth 20000

theorem ord_fst : ∀ (l pre : List Ev) (b : Bool), (l.foldl ord1 (pre, b)).1 = pre ++ l
  | [], pre, b => by simp
  | x :: l, pre, b => by
    have := ord_fst l (pre ++ [x]) (b && ordB pre x)
    show (l.foldl ord1 (pre ++ [x], b && ordB pre x)).1 = _
    rw [this]
    simp
theorem ord_snd : ∀ (l : List Ev) (p : List Ev × Bool), (l.foldl ord1 p).2 = true → p.2 = true
  | [], p, h => h
  | x :: l, p, h => by
    have := ord_snd l (ord1 p x) h
    have h2 : (p.2 && ordB p.1 x) = true := this
    simp only [Bool.and_eq_true] at h2
    exact h2.1
theorem ord_pre {l : List Ev} (h : (ordL l).2 = true) {j : Nat} (hj : j < l.length) : ordB (l.take j) (l.getD j ev0) = true := by
  have e : l = l.take (j + 1) ++ l.drop (j + 1) := (List.take_append_drop _ _).symm
  have h1 : ordL l = (l.drop (j + 1)).foldl ord1 (ordL (l.take (j + 1))) := by
    unfold ordL
    rw [← List.foldl_append, ← e]
  rw [h1] at h
  have h2 := ord_snd _ _ h
  rw [take_snoc' hj ev0, ordL_snoc] at h2
  have h3 : ((ordL (l.take j)).2 && ordB (ordL (l.take j)).1 (l.getD j ev0)) = true := h2
  have h4 : (ordL (l.take j)).1 = l.take j := by
    unfold ordL
    rw [ord_fst]
    rfl
  rw [h4] at h3
  simp only [Bool.and_eq_true] at h3
  exact h3.2
theorem ord_flush {pre : List Ev} {x : Ev} (h : ordB pre x = true) (hk : x.kind = 3) : ∃ y r, waitE x.who pre = y :: r ∧ y.addr = x.addr ∧ y.value = x.value := by
  unfold ordB at h
  rw [if_pos hk] at h
  cases hw : waitE x.who pre with
  | nil => rw [hw] at h; cases h
  | cons y r =>
    rw [hw] at h
    simp only [Bool.and_eq_true, beq_iff_eq] at h
    exact ⟨y, r, rfl, h.1, h.2⟩
theorem ord_lock {pre : List Ev} {x : Ev} (h : ordB pre x = true) (hk : x.kind = 4 ∨ x.kind = 5 ∨ x.kind = 8 ∨ x.kind = 9 ∨ x.kind = 10) : waitE x.who pre = [] := by
  unfold ordB at h
  rw [if_neg (by omega), if_pos hk] at h
  simpa using h

set_option maxHeartbeats 2000000 in
theorem orders_calls (a : Option Addr) (c : Nat) (l : List Ev) (hn : l.length ≤ 100000) (hnc : l.length ≤ c) (hok : (ordL l).2 = true) (w : World) (h : RowAt w a (flatOf evL l)) :
    Calls Tryd.prog 14 #[.slice a l.length c] w fun r w' => r = .returned (.int .i64 1) ∧ Gr w w' := by
  have HH := hide h
  have HK := hide hok
  have g0 := Gr.refl w
  clear h hok
  go_enter Tryd.func14, Tryd.ntmps14
  go_wp2_with (fail)
  go_loopw [3] (fun v wr => ∃ j : Nat, j ≤ l.length ∧ v = .int .i64 j ∧ Gr w wr) (fun v _ => l.length - (intOf v).toNat)
  case atStart => exact ⟨0, by omega, rfl, g0⟩
  case round =>
    clear g0
    obtain ⟨j, hj, rfl, g⟩ := hrel
    by_cases hlt : j < l.length
    · have hlt' : (j : Int) < l.length := by omega
      have hob := ord_pre HK.out hlt
      have rw1 := HH.out.later g
      obtain ⟨b, off, had, -⟩ := rw1.get (by rw [flatOf_length evL_len]; omega)
      subst had
      have c0 := rw1.cell evL_len hlt ev0 0 (by omega)
      have c1 := rw1.cell evL_len hlt ev0 1 (by omega)
      have c2 := rw1.cell evL_len hlt ev0 2 (by omega)
      have c3 := rw1.cell evL_len hlt ev0 3 (by omega)
      have c4 := rw1.cell evL_len hlt ev0 4 (by omega)
      have c5 := rw1.cell evL_len hlt ev0 5 (by omega)
      have c6 := rw1.cell evL_len hlt ev0 6 (by omega)
      have c7 := rw1.cell evL_len hlt ev0 7 (by omega)
      generalize l.getD j ev0 = x at c0 c1 c2 c3 c4 c5 c6 c7 hob
      simp only [evL, List.getElem?_cons_zero, List.getElem?_cons_succ, Nat.add_zero, ← Nat.add_assoc] at c0 c1 c2 c3 c4 c5 c6 c7
      clear rw1
      go_upto_region 5 with (fail)
      change Code.wp _ _ _ _ (wr.alloc (.cells (evA x) 78))
      have d := Has.new wr (evA x) 78
      have g1 := g.alloc (evA x) 78
      generalize wr.alloc (.cells (evA x) 78) = w2 at d g1 ⊢
      generalize wr.heap.size = xb at d ⊢
      clear c0 c1 c2 c3 c4 c5 c6 c7 g
      have HD := hide d.drew
      have HG1 := hide g1.drew
      have hrp := (HH.out.later g1.drew).take (j * 8)
      rw [← flatOf_take evL_len] at hrp
      have htl : (l.take j).length = j := by rw [List.length_take]; omega
      have HWT := waiting_calls (some ⟨b, off, none⟩) c (l.take j) (by omega) x.who w2.drew hrp
      rw [htl] at HWT
      have HW := hide HWT
      clear d g1 hrp HWT
      refine begin_late 7 [] (fun w' => Gr w2.drew w') (by kernel_rfl) rfl ?_
      have hH : Gr w2.drew w2.drew := Gr.refl _
      refine AnyL.takeP 0 (some 16) (.slice (some ⟨b, off, none⟩) l.length c) rfl rfl (by kernel_rfl) (by kernel_rfl) (by kernel_rfl) (by kernel_rfl) (fun _ _ _ h => h) (by kernel_rfl) (fun w' => by go_simp) (fun _ => hH) ?_
      simp only [Act.put, List.setIfInBounds_toArray, List.set_cons_zero, List.set_cons_succ]
      refine AnyL.takeP 1 (some 17) (.int .i64 (j : Int)) rfl rfl (by kernel_rfl) (by kernel_rfl) (by kernel_rfl) (by kernel_rfl) (fun _ _ _ h => h) (by kernel_rfl) (fun w' => by go_simp) (fun _ => hH) ?_
      simp only [Act.put, List.setIfInBounds_toArray, List.set_cons_zero, List.set_cons_succ]
      refine AnyL.takeP 2 (some 18) (.slice (some ⟨b, off, none⟩) j c) rfl rfl (by kernel_rfl) (by kernel_rfl) (by kernel_rfl) (by kernel_rfl) (fun _ _ _ h => h) (by kernel_rfl) (fun w' => by go_simp; (intro hcj; exact absurd hcj (by omega))) (fun _ => hH) ?_
      simp only [Act.put, List.setIfInBounds_toArray, List.set_cons_zero, List.set_cons_succ]
      refine AnyL.takeP 3 (some 19) (.pointer (some ⟨xb, 1, none⟩)) rfl rfl (by kernel_rfl) (by kernel_rfl) (by kernel_rfl) (by kernel_rfl) (fun _ _ _ h => h) (by kernel_rfl) (fun w' => by go_simp) (fun _ => hH) ?_
      simp only [Act.put, List.setIfInBounds_toArray, List.set_cons_zero, List.set_cons_succ]
      refine AnyL.take 4 (some 20) (.int .i64 x.who) rfl rfl (by kernel_rfl) (by kernel_rfl) (by kernel_rfl) (by kernel_rfl) (fun _ _ _ h => h) (yields_held _ (by kernel_rfl) (fun w' hw' => by have c1 := (HD.out.later hw').cell (o := 1) (v := .int .i64 x.who) rfl; go_simp)) hH ?_
      simp only [Act.put, List.setIfInBounds_toArray, List.set_cons_zero, List.set_cons_succ]
      refine AnyL.one 5 (by kernel_rfl) rfl (by kernel_rfl) ?_
      refine wp_call (some 21) rfl _ _ (by kernel_rfl) HW.out ?_
      rintro r u ⟨v, ⟨rfl, hs⟩, gu⟩
      refine ⟨_, rfl, fun _ => gu, ?_⟩
      simp only [Act.put, List.setIfInBounds_toArray, List.set_cons_zero, List.set_cons_succ]
      obtain ⟨va, vc, rfl, hvr⟩ := hs.row
      replace hH := gu
      refine AnyL.takeP 6 (some 5) (.slice va (waitE x.who (l.take j)).length vc) rfl rfl (by kernel_rfl) (by kernel_rfl) (by kernel_rfl) (by kernel_rfl) (fun _ _ _ h => h) (by kernel_rfl) (fun w' => by go_simp) (fun _ => hH) ?_
      simp only [Act.put, List.setIfInBounds_toArray, List.set_cons_zero, List.set_cons_succ]
      refine AnyL.done (by kernel_rfl) ?_
      have d' := HD.out.later gu
      have HG := hide (HG1.out.trans gu)
      have d0 := d'.cell (o := 0) (v := .int .i64 x.kind) rfl
      have d3 := d'.cell (o := 3) (v := .int .i64 x.addr) rfl
      have d4 := d'.cell (o := 4) (v := .int .u32 x.value) rfl
      clear hH gu HW HD HG1 hs d'
      by_cases k3 : x.kind = 3
      · obtain ⟨y, rr, hw, hya, hyv⟩ := ord_flush hob k3
        rw [hw] at hvr ⊢
        obtain ⟨b2, o2, hva, -⟩ := hvr.get (by rw [flatOf_length evL_len]; simp)
        subst hva
        have e3 := hvr.cell evL_len (i := 0) (by simp) ev0 3 (by omega)
        have e4 := hvr.cell evL_len (i := 0) (by simp) ev0 4 (by omega)
        have e3' : u.cell? ⟨b2, o2 + 3, none⟩ = some (.int .i64 x.addr) := by rw [← hya]; simpa [evL] using e3
        have e4' : u.cell? ⟨b2, o2 + 4, none⟩ = some (.int .u32 x.value) := by rw [← hyv]; simpa [evL] using e4
        have hn0 : 0 < (y :: rr).length := by simp
        generalize (y :: rr).length = nn at hn0 ⊢
        have k3' : (x.kind == 3) = true := by simpa using k3
        have hnn : ((nn : Int) == 0) = false := by simp; omega
        have hnn2 : (nn == 0) = false := by simp; omega
        have hnn3 : (0 : Int) < (nn : Int) := by omega
        clear k3 hob hw hvr e3 e4 hya hyv
        go_upto_region 8 with (fail)
        go_quiet (fail)
        have HG2 := hide (HG.out.drewN nq)
        clear d0 d3 d4 e3' e4' HG
        generalize u.drewN nq = u2 at HG2 ⊢
        go_wp2_with (fail)
        exact ⟨⟨j + 1, by omega, by go_num, HG2.out⟩, by simp [intOf]; omega⟩
      · have k3' : (x.kind == 3) = false := by simpa using k3
        by_cases kl : x.kind = 4 ∨ x.kind = 5 ∨ x.kind = 8 ∨ x.kind = 9 ∨ x.kind = 10
        · have hw := ord_lock hob kl
          rw [hw]
          have hz : ((([] : List Ev).length : Nat) : Int) = 0 := rfl
          generalize ([] : List Ev).length = zz at hz ⊢
          obtain rfl : zz = 0 := by omega
          clear hz hob hw hvr k3
          rcases kl with k | k | k | k | k
          all_goals
            rw [k] at d0
            clear k3' k d3 d4
            go_wp2_with (fail)
            exact ⟨⟨j + 1, by omega, by go_num, HG.out⟩, by simp [intOf]; omega⟩
        · have k4' : (x.kind == 4) = false := by simp; omega
          have k5' : (x.kind == 5) = false := by simp; omega
          have k8' : (x.kind == 8) = false := by simp; omega
          have k9' : (x.kind == 9) = false := by simp; omega
          have k10' : (x.kind == 10) = false := by simp; omega
          clear k3 kl hob hvr d3 d4
          go_wp2_with (fail)
          exact ⟨⟨j + 1, by omega, by go_num, HG.out⟩, by simp [intOf]; omega⟩
    · have hj' : j = l.length := by omega
      subst hj'
      have HG := hide g
      clear g
      go_wp2_with (fail)
      go_ret
      exact ⟨rfl, HG.out⟩
end Go.Proofs.YthbenfnanhpcoaaDoor.Mc

namespace Go.Proofs.YthbenfnanhpcoaaDoor.Mc
open Go.ChangeShapes Go.WideShapes Go.ChangeAt Go.RowKit
set_option linter.unusedVariables false
set_option maxRecDepth 20000

set_option maxHeartbeats 2000000 in
theorem orders_walk (p : Pgm) (hp : p.codes.length ≤ maxLen) (l : List Ent) (pa : Option Addr) (pc : Nat) (hl0 : l.length ≤ maxLen) (W : World) (L : Laid W) (hP : PgAt p W) (hrow : RowAt W pa (flatOf slpL l)) :
    Calls Tryd.prog 4 #[.agg (pgA p), .slice pa l.length pc] W fun r w' => r = .returned (.bool true) ∧ Gr W w' := by
  have g0 := (Gr.refl W).alloc (pgA p) 25
  have hb := Has.new W (pgA p) 25
  have HP := hide hP
  have HL := hide L
  have HRW := hide hrow
  have HA := hide (fun w (g : Gr W w) => awake_calls w (HL.out.later g))
  have HS := hide (fun w (g : Gr W w) => small_calls p hp w (HP.out.later g))
  have HN := hide (fun w (g : Gr W w) => new_calls p w (HL.out.later g) (HP.out.later g))
  clear hP hrow L hp
  go_enter Tryd.func4, Tryd.ntmps4
  go_upto_region 1 with (fail)
  change Code.wp _ _ _ _ (W.alloc (.cells (pgA p) 25))
  generalize W.alloc (.cells (pgA p) 25) = w1 at g0 hb ⊢
  generalize hbx : W.heap.size = bx at hb ⊢
  have HX := hide hbx
  clear hbx
  have A1 := hide (HA.out w1 g0)
  go_wp2_with (fail)
  refine A1.out.mono ?_
  rintro r w2 ⟨rfl, g1⟩
  have g2 := g0.trans g1
  have hb2 := hb.later g1
  have d0 := hb2.cell (o := 0) (v := .slice p.ca p.codes.length p.cc) rfl
  have d1 := hb2.cell (o := 1) (v := .slice p.ma p.mem.length p.mc) rfl
  have d2 := hb2.cell (o := 2) (v := .int .i64 p.room) rfl
  clear g0 hb g1 A1
  have A2 := hide (HS.out w2 g2)
  go_wp2_with (fail)
  refine A2.out.mono ?_
  rintro r w3 ⟨⟨b, rfl⟩, g3⟩
  have g4 := g2.trans g3
  have hb4 := hb2.later g3
  clear d0 d1 d2 g2 hb2 g3 A2
  have A3 := hide (HA.out w3 g4)
  cases b with
  | false =>
    have HG := hide g4
    clear g4 hb4
    go_wp2_with (fail)
    refine A3.out.mono ?_
    rintro r w4 ⟨rfl, g5⟩
    have HG2 := hide (HG.out.trans g5)
    clear g5
    go_wp2_with (fail)
    go_ret
    exact ⟨rfl, HG2.out⟩
  | true =>
    by_cases hl : 600 < l.length
    · have hl' : (600 : Int) < l.length := by omega
      have HG := hide g4
      clear g4 hb4
      go_wp2_with (fail)
      refine A3.out.mono ?_
      rintro r w4 ⟨rfl, g5⟩
      have HG2 := hide (HG.out.trans g5)
      clear g5
      go_wp2_with (fail)
      go_ret
      exact ⟨rfl, HG2.out⟩
    · have hl' : ¬ (600 : Int) < l.length := by omega
      have d0 := hb4.cell (o := 0) (v := .slice p.ca p.codes.length p.cc) rfl
      have d1 := hb4.cell (o := 1) (v := .slice p.ma p.mem.length p.mc) rfl
      have d2 := hb4.cell (o := 2) (v := .int .i64 p.room) rfl
      have A4 := hide (HN.out w3 g4)
      clear A3
      go_wp2_with (fail)
      refine A4.out.mono ?_
      rintro r w4 NP
      rcases NP with ⟨hc0, k, e, ⟨rfl, hM, hN⟩, hF, g5⟩ | ⟨hne, rfl, g5⟩
      · have g6 := g4.trans g5
        have hb6 := hb4.later g5
        clear d0 d1 d2 A4
        have hgd := newM_good p
        have hsh := newM_short hc0
        have hml := (chk_len hc0).2.2
        have p0 : MI k (k.foot e) (newM p) w4 := ⟨e, hM, rfl⟩
        have hW : ∀ y ∈ k.foot e, W.heap.size ≤ y := fun y hy => Nat.le_trans g4.size (hF y hy)
        have hnbx : bx ∉ k.foot e := fun z => by
          have h1 := hF bx z
          have h2 := hb4.lt
          omega
        have hout : ∀ y, pa = some y → 0 < l.length → y.block ∉ k.foot e := fun y hy h0 z => by
          obtain ⟨b, off, ha, -⟩ := HRW.out.get (by rw [flatOf_length slpL_len]; omega)
          rw [hy] at ha
          cases ha
          have h1 := HRW.out
          rw [hy] at h1
          have h2 := h1.lt (by rw [flatOf_length slpL_len]; omega)
          have h3 := hW _ z
          simp at h3
          omega
        have HRUN := hide (run_does k (Good p.mem) (fun s e w kind who hw hg => good_pick hw hg kind who) l pa pc (by omega) (newM p) hgd (Nat.zero_le _) hsh w4 (k.foot e) p0 (HRW.out.later g6) hout)
        generalize k.foot e = F at hW hnbx HRUN
        clear hM hN hF p0 hout g4 hb4 g5 hgd hsh
        go_wp2_with (fail)
        refine HRUN.out.mono ?_
        rintro r w5 ⟨⟨rfl, p1⟩, hgd, hev⟩
        obtain ⟨e5, h5⟩ := Pst.mw p1
        have g7 : Gr W w5 := by
          obtain ⟨F', -, kp, -⟩ := p1
          exact Kp.gr g6 kp hW
        have hb7 : Has w5 bx (pgA p) 25 := by
          obtain ⟨F', -, kp, -⟩ := p1
          exact hb6.kept kp hnbx
        have hok : (ordL ((newM p).run k.N l).evs).2 = true := by rw [hgd.ord]
        generalize (newM p).run k.N l = sz at h5 hok hev
        have HE := hide (events_calls h5 (by omega))
        have hev' : sz.evs.length ≤ 100000 := by omega
        have G7 := hide g7
        clear HRUN p1 hgd hb6 hb7 g6 g7 hnbx hW h5
        go_wp2_with (fail)
        refine HE.out.mono ?_
        rintro r w6 ⟨v, rfl, ho, g8⟩
        obtain ⟨va, vc, rfl, hvr, -, hvc, -⟩ := own_at ho
        have HO := hide (orders_calls va vc sz.evs hev' hvc hok w6 hvr)
        have G8 := hide (G7.out.trans g8)
        clear HE ho hvr g8 G7
        go_wp2_with (fail)
        refine HO.out.mono ?_
        rintro r w7 ⟨rfl, g9⟩
        have HG := hide (G8.out.trans g9)
        clear HO g9 G8
        go_wp2_with (fail)
        go_ret
        exact ⟨rfl, HG.out⟩
      · have HG := hide (g4.trans g5)
        have hne' : ((chkM p).2.2 == 0) = false := by simpa using hne
        generalize (chkM p).2.2 = ec at hne'
        clear d0 d1 d2 A4 hne g5 g4 hb4
        go_wp2_with (fail)
        go_ret
        exact ⟨rfl, HG.out⟩
end Go.Proofs.YthbenfnanhpcoaaDoor.Mc
