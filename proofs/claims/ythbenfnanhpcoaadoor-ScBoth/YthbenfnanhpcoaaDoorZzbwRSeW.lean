/-
  What the document's Sees answers of events of which each tells what it has to: 1. No condition but what each law names.
-/
import Derived.Test.YthbenfnanhpcoaaDoorZzbu
import Derived.Deep.CutBlock
import Derived.BigQuiet
import Derived.Deep.QuietTactic
namespace Go.Proofs.YthbenfnanhpcoaaDoor.Mc
open Go.ChangeShapes Go.WideShapes Go.ChangeAt Go.RowKit
set_option linter.unusedVariables false
set_option maxRecDepth 20000

set_option maxHeartbeats 2000000 in
theorem sees_calls (a : Option Addr) (c : Nat) (l : List Ev) (hn : l.length ≤ 100000) (hnc : l.length ≤ c) (fa : Option Addr) (fc : Nat) (first : List Int) (hfn : fa = none → fc = 0 ∧ first = []) (hfl : first.length ≤ 2000) (hok : SeesOk first l) (w : World) (h : RowAt w a (flatOf evL l)) (hf : RowAt w fa (flatOf wordL first)) :
    Calls Tryd.prog 12 #[.slice a l.length c, .slice fa first.length fc] w fun r w' => r = .returned (.int .i64 1) ∧ Gr w w' := by
  obtain ⟨mv, w1, hr, ho, hg⟩ := clone_run Tryd.underlying23 infoWrd rfl (by omega) (by omega) wordL_len wordL_one w 23 fa fc first hf hfn (by omega)
  obtain ⟨ma, mc, rfl, -, -, -, hmb⟩ := own_at ho
  have HR := hide hr
  have HH := hide h
  have HK := hide hok
  have ho0 := ho
  clear hr h hf hok
  go_enter Tryd.func12, Tryd.ntmps12
  go_wp2_with (first
    | (refine step_app rfl (some 12) rfl _ _ 23 rfl _ _ rfl rfl _ _ HR.out ?_))
  go_loopw [6] (fun v wr => ∃ (j : Nat) (m : List Int), j ≤ l.length ∧ v = .int .i64 j ∧ seeL first (l.take j) = some (l.take j, m) ∧ m.length = first.length ∧ wr.ownsRow w.heap.size 41 1 (.slice ma first.length mc) first.length (flatOf wordL m) ∧ Gr w wr) (fun v _ => l.length - (intOf v).toNat)
  case atStart => exact ⟨0, first, by omega, rfl, rfl, rfl, ho0, hg⟩
  case round =>
    clear ho ho0 hg
    obtain ⟨j, m, hj, rfl, hs, hml, hmo, g⟩ := hrel
    by_cases hlt : j < l.length
    · have hlt' : (j : Int) < l.length := by omega
      obtain ⟨m0, m', hp0, hsm, hpn⟩ := see_pre HK.out hlt
      rw [hs] at hp0
      cases hp0
      have rw1 := HH.out.later g
      obtain ⟨b, off, had, -⟩ := rw1.get (by rw [flatOf_length evL_len]; omega)
      subst had
      have c0 := rw1.cell evL_len hlt ev0 0 (by omega)
      have c1 := rw1.cell evL_len hlt ev0 1 (by omega)
      have c2 := rw1.cell evL_len hlt ev0 2 (by omega)
      have c3 := rw1.cell evL_len hlt ev0 3 (by omega)
      have c4 := rw1.cell evL_len hlt ev0 4 (by omega)
      have c5 := rw1.cell evL_len hlt ev0 5 (by omega)
      have c6 := rw1.cell evL_len hlt ev0 6 (by omega)
      have c7 := rw1.cell evL_len hlt ev0 7 (by omega)
      generalize l.getD j ev0 = x at c0 c1 c2 c3 c4 c5 c6 c7 hsm
      simp only [evL, List.getElem?_cons_zero, List.getElem?_cons_succ, Nat.add_zero, ← Nat.add_assoc] at c0 c1 c2 c3 c4 c5 c6 c7
      clear rw1 hs
      have HPN := hide hpn
      have hml' := seeM_len hsm
      clear hpn
      go_upto_region 6 with (fail)
      change Code.wp _ _ _ _ (wr.alloc (.cells (evA x) 78))
      have d := Has.new wr (evA x) 78
      have g1 := g.alloc (evA x) 78
      have mo1 := own_later hmo ((Gr.refl wr).alloc (evA x) 78)
      generalize wr.alloc (.cells (evA x) 78) = w2 at d g1 mo1 ⊢
      generalize wr.heap.size = xb at d ⊢
      clear c0 c1 c2 c3 c4 c5 c6 c7 hmo g
      have d0 := d.cell (o := 0) (v := .int .i64 x.kind) rfl
      -- where memory's words lie
      have cellM : Hid (∀ (A : Nat), A < m.length → ∃ bm, ma = some ⟨bm, 0, none⟩ ∧ w2.cell? ⟨bm, A, none⟩ = some (.int .u32 (m.getD A 0)) ∧ w2.frozen? ⟨bm, A, none⟩ = false) := by
        intro A hA
        obtain ⟨a', c', he, hr, -, -, hb⟩ := own_at mo1
        cases he
        obtain ⟨bm, o, ha, -⟩ := hr.get (by rw [flatOf_length wordL_len]; omega)
        subst ha
        obtain ⟨-, hz, -⟩ := hb _ rfl
        cases hz
        have q := hr.cell wordL_len hA 0 0 (by omega)
        obtain ⟨D, hD⟩ := own_has mo1 (k := bm) (by rw [mem_ob]; rfl)
        refine ⟨bm, rfl, ?_, hD.free A⟩
        rw [Nat.mul_one, Nat.add_zero, Nat.zero_add] at q
        exact q
      by_cases k3 : x.kind = 3
      · obtain ⟨hi, rfl⟩ := see_flush hsm k3
        obtain ⟨A, hA, hAl⟩ := inR_is hi
        obtain ⟨bm, hma, cm, fm⟩ := cellM.out A hAl
        subst hma
        have k3' : (x.kind == 3) = true := by simpa using k3
        have hA0 : (0 : Int) ≤ (A : Int) := by omega
        have hA1 : (A : Int) < first.length := by omega
        have d3 := d.cell (o := 3) (v := .int .i64 x.addr) rfl
        rw [hA] at d3
        have d4 := d.cell (o := 4) (v := .int .u32 x.value) rfl
        have hset := own_set mo1 A (.int .u32 x.value) (by omega)
        rw [← words_set] at hset
        have hge : w.heap.size ≤ bm := (hmb _ rfl).1
        have gs := g1.setCell (a := ⟨bm, A, none⟩) hge (.int .u32 x.value)
        have HS := hide hset
        have HG := hide gs
        have HA : Hid (m.set x.addr.toNat x.value = m.set A x.value) := by show _ = _; rw [hA]; rfl
        clear k3 hset gs mo1 cellM hsm hi d g1 hA
        go_wp2_with (fail)
        refine ⟨⟨j + 1, m.set A x.value, by omega, by go_num, by rw [← HA.out]; exact HPN.out, by rw [List.length_set]; exact hml, HS.out, HG.out⟩, by simp [intOf]; omega⟩
      · by_cases k4 : x.kind = 4
        · obtain ⟨⟨hi, hov⟩, rfl⟩ := see_swap hsm k4
          obtain ⟨A, hA, hAl⟩ := inR_is hi
          obtain ⟨bm, hma, cm, fm⟩ := cellM.out A hAl
          subst hma
          have k3' : (x.kind == 3) = false := by simpa using k3
          have k4' : (x.kind == 4) = true := by simpa using k4
          have hA0 : ¬ (A : Int) < 0 := by omega
          have hA1 : (A : Int) < first.length := by omega
          have d3 := d.cell (o := 3) (v := .int .i64 x.addr) rfl
          rw [hA] at d3
          have d5 := d.cell (o := 5) (v := .int .u32 x.old) rfl
          have ho1 : m.getD A 0 = x.old := by rw [hA] at hov; exact hov
          rw [ho1] at cm
          have hge : w.heap.size ≤ bm := (hmb _ rfl).1
          have HA : Hid (m.set x.addr.toNat x.value = m.set A x.value) := by show _ = _; rw [hA]; rfl
          have HD := hide d
          have HM := hide mo1
          have HG1 := hide g1
          have HAE := hide hA
          clear k3 k4 mo1 cellM hsm hi d g1 hA ho1 hov fm
          have hd0 : decide ((A : Int) < 0) = false := by simp
          have hd1 : decide ((first.length : Int) ≤ (A : Int)) = false := by simp; omega
          have hd2 : decide (first.length ≤ A) = false := by simp; omega
          go_upto_region 11 with (fail)
          go_quiet (fail)
          have d' := HD.out.drewN nq
          have M' := own_later HM.out ((Gr.refl w2).drewN nq)
          have G' := HG1.out.drewN nq
          have cm' : (w2.drewN nq).cell? ⟨bm, A, none⟩ = some (.int .u32 x.old) := cm
          clear cm d0 d3 d5
          generalize w2.drewN nq = w3 at d' M' G' cm' ⊢
          have hA' := HAE.out
          have d3 := d'.cell (o := 3) (v := .int .i64 x.addr) rfl
          have d4 := d'.cell (o := 4) (v := .int .u32 x.value) rfl
          rw [hA'] at d3
          obtain ⟨D, hD⟩ := own_has M' (k := bm) (by rw [mem_ob]; rfl)
          have fm := hD.free A
          have hset := own_set M' A (.int .u32 x.value) (by omega)
          rw [← words_set] at hset
          have gs := G'.setCell (a := ⟨bm, A, none⟩) hge (.int .u32 x.value)
          have HS := hide hset
          have HG := hide gs
          clear hset gs M' G' hD d' hA' hd0 hd1 hd2
          go_wp2_with (fail)
          exact ⟨⟨j + 1, m.set A x.value, by omega, by go_num, by rw [← HA.out]; exact HPN.out, by rw [List.length_set]; exact hml, HS.out, HG.out⟩, by simp [intOf]; omega⟩
        · by_cases k8 : x.kind = 8
          · obtain ⟨⟨hi, hov⟩, rfl⟩ := see_wait hsm k8
            obtain ⟨A, hA, hAl⟩ := inR_is hi
            obtain ⟨bm, hma, cm, fm⟩ := cellM.out A hAl
            subst hma
            have k3' : (x.kind == 3) = false := by simpa using k3
            have k4' : (x.kind == 4) = false := by simpa using k4
            have k8' : (x.kind == 8) = true := by simpa using k8
            have hA0 : ¬ (A : Int) < 0 := by omega
            have hA1 : (A : Int) < first.length := by omega
            have d3 := d.cell (o := 3) (v := .int .i64 x.addr) rfl
            rw [hA] at d3
            have d4 := d.cell (o := 4) (v := .int .u32 x.value) rfl
            have ho1 : m'.getD A 0 = x.value := by rw [hA] at hov; exact hov
            rw [ho1] at cm
            have HM := hide mo1
            have HG1 := hide g1
            clear k3 k4 k8 mo1 cellM hsm hi d g1 hA ho1 hov fm
            have hd0 : decide ((A : Int) < 0) = false := by simp
            have hd1 : decide ((first.length : Int) ≤ (A : Int)) = false := by simp; omega
            have hd2 : decide (first.length ≤ A) = false := by simp; omega
            go_upto_region 15 with (fail)
            go_quiet (fail)
            have M' := own_later HM.out ((Gr.refl w2).drewN nq)
            have G' := HG1.out.drewN nq
            have HS := hide M'
            have HG := hide G'
            clear cm d0 d3 d4 hd0 hd1 hd2 M' G'
            generalize w2.drewN nq = w3 at HS HG ⊢
            go_wp2_with (fail)
            exact ⟨⟨j + 1, m', by omega, by go_num, HPN.out, hml, HS.out, HG.out⟩, by simp [intOf]; omega⟩
          · by_cases k1 : x.kind = 1
            · obtain ⟨rfl, hld⟩ := see_load hsm k1
              have k3' : (x.kind == 3) = false := by simpa using k3
              have k4' : (x.kind == 4) = false := by simpa using k4
              have k8' : (x.kind == 8) = false := by simpa using k8
              have k1' : (x.kind == 1) = true := by simpa using k1
              have HD := hide d
              have HM := hide mo1
              have HG1 := hide g1
              have hrp := (HH.out.later g1).take (j * 8)
              rw [← flatOf_take evL_len] at hrp
              have htl : (l.take j).length = j := by rw [List.length_take]; omega
              have HOW := own_calls (some ⟨b, off, none⟩) c (l.take j) (by omega) x.who x.addr w2.drew (hrp.later (Gr.refl w2).drew)
              rw [htl] at HOW
              have HO := hide HOW
              clear k3 k4 k8 k1 mo1 hsm d g1 hrp HOW
              go_upto_region 18 with (fail)
              refine begin_late 13 [] (fun w' => Gr w2.drew w') (by kernel_rfl) rfl ?_
              have hH : Gr w2.drew w2.drew := Gr.refl _
              have HDD := hide HD.out.drew
              refine AnyL.takeP 0 (some 96) (.slice (some ⟨b, off, none⟩) l.length c) rfl rfl (by kernel_rfl) (by kernel_rfl) (by kernel_rfl) (by kernel_rfl) (fun _ _ _ h => h) (by kernel_rfl) (fun w' => by go_simp) (fun _ => hH) ?_
              simp only [Act.put, List.setIfInBounds_toArray, List.set_cons_zero, List.set_cons_succ]
              refine AnyL.takeP 1 (some 97) (.int .i64 (j : Int)) rfl rfl (by kernel_rfl) (by kernel_rfl) (by kernel_rfl) (by kernel_rfl) (fun _ _ _ h => h) (by kernel_rfl) (fun w' => by go_simp) (fun _ => hH) ?_
              simp only [Act.put, List.setIfInBounds_toArray, List.set_cons_zero, List.set_cons_succ]
              refine AnyL.takeP 2 (some 98) (.slice (some ⟨b, off, none⟩) j c) rfl rfl (by kernel_rfl) (by kernel_rfl) (by kernel_rfl) (by kernel_rfl) (fun _ _ _ h => h) (by kernel_rfl) (fun w' => by go_simp; (intro hcj; exact absurd hcj (by omega))) (fun _ => hH) ?_
              simp only [Act.put, List.setIfInBounds_toArray, List.set_cons_zero, List.set_cons_succ]
              refine AnyL.takeP 3 (some 99) (.pointer (some ⟨xb, 1, none⟩)) rfl rfl (by kernel_rfl) (by kernel_rfl) (by kernel_rfl) (by kernel_rfl) (fun _ _ _ h => h) (by kernel_rfl) (fun w' => by go_simp) (fun _ => hH) ?_
              simp only [Act.put, List.setIfInBounds_toArray, List.set_cons_zero, List.set_cons_succ]
              refine AnyL.take 4 (some 100) (.int .i64 x.who) rfl rfl (by kernel_rfl) (by kernel_rfl) (by kernel_rfl) (by kernel_rfl) (fun _ _ _ h => h) (yields_held _ (by kernel_rfl) (fun w' hw' => by have c1 := (HDD.out.later hw').cell (o := 1) (v := .int .i64 x.who) rfl; go_simp)) hH ?_
              simp only [Act.put, List.setIfInBounds_toArray, List.set_cons_zero, List.set_cons_succ]
              refine AnyL.takeP 5 (some 101) (.pointer (some ⟨xb, 3, none⟩)) rfl rfl (by kernel_rfl) (by kernel_rfl) (by kernel_rfl) (by kernel_rfl) (fun _ _ _ h => h) (by kernel_rfl) (fun w' => by go_simp) (fun _ => hH) ?_
              simp only [Act.put, List.setIfInBounds_toArray, List.set_cons_zero, List.set_cons_succ]
              refine AnyL.take 6 (some 102) (.int .i64 x.addr) rfl rfl (by kernel_rfl) (by kernel_rfl) (by kernel_rfl) (by kernel_rfl) (fun _ _ _ h => h) (yields_held _ (by kernel_rfl) (fun w' hw' => by have c1 := (HDD.out.later hw').cell (o := 3) (v := .int .i64 x.addr) rfl; go_simp)) hH ?_
              simp only [Act.put, List.setIfInBounds_toArray, List.set_cons_zero, List.set_cons_succ]
              refine AnyL.one 7 (by kernel_rfl) rfl (by kernel_rfl) ?_
              refine wp_call (some 103) rfl _ _ (by kernel_rfl) HO.out ?_
              rintro r u ⟨hr0, gu⟩
              have g2 := (Gr.refl w2).drew.trans gu
              have d' := HD.out.later g2
              have HM' := hide (own_later HM.out g2)
              have HG := hide (HG1.out.trans g2)
              have d3 := d'.cell (o := 3) (v := .int .i64 x.addr) rfl
              have d4 := d'.cell (o := 4) (v := .int .u32 x.value) rfl
              rcases hld with hf | ⟨hf, hi, hov⟩
              · rw [hf] at hr0
                subst hr0
                refine ⟨.tuple #[.int .u32 x.value, .int .i64 1], rfl, fun _ => gu, ?_⟩
                simp only [Act.put, List.setIfInBounds_toArray, List.set_cons_zero, List.set_cons_succ]
                replace hH := gu
                refine AnyL.takeP 8 (some 95) (.tuple #[.int .u32 x.value, .int .i64 1]) rfl rfl (by kernel_rfl) (by kernel_rfl) (by kernel_rfl) (by kernel_rfl) (fun _ _ _ h => h) (by kernel_rfl) (fun w' => by go_simp) (fun _ => hH) ?_
                simp only [Act.put, List.setIfInBounds_toArray, List.set_cons_zero, List.set_cons_succ]
                refine AnyL.takeP 9 (some 104) (.int .u32 x.value) rfl rfl (by kernel_rfl) (by kernel_rfl) (by kernel_rfl) (by kernel_rfl) (fun _ _ _ h => h) (by kernel_rfl) (fun w' => by go_simp) (fun _ => hH) ?_
                simp only [Act.put, List.setIfInBounds_toArray, List.set_cons_zero, List.set_cons_succ]
                refine AnyL.takeP 10 (some 105) (.int .i64 1) rfl rfl (by kernel_rfl) (by kernel_rfl) (by kernel_rfl) (by kernel_rfl) (fun _ _ _ h => h) (by kernel_rfl) (fun w' => by go_simp) (fun _ => hH) ?_
                simp only [Act.put, List.setIfInBounds_toArray, List.set_cons_zero, List.set_cons_succ]
                refine AnyL.takeP 11 (some 8) (.int .u32 x.value) rfl rfl (by kernel_rfl) (by kernel_rfl) (by kernel_rfl) (by kernel_rfl) (fun _ _ _ h => h) (by kernel_rfl) (fun w' => by go_simp) (fun _ => hH) ?_
                simp only [Act.put, List.setIfInBounds_toArray, List.set_cons_zero, List.set_cons_succ]
                refine AnyL.takeP 12 (some 9) (.int .i64 1) rfl rfl (by kernel_rfl) (by kernel_rfl) (by kernel_rfl) (by kernel_rfl) (fun _ _ _ h => h) (by kernel_rfl) (fun w' => by go_simp) (fun _ => hH) ?_
                simp only [Act.put, List.setIfInBounds_toArray, List.set_cons_zero, List.set_cons_succ]
                refine AnyL.done (by kernel_rfl) ?_
                clear gu g2 d' hH cellM hf d0 HDD HD HM HG1
                go_wp2_with (fail)
                exact ⟨⟨j + 1, m', by omega, by go_num, HPN.out, hml, HM'.out, HG.out⟩, by simp [intOf]; omega⟩
              · rw [hf] at hr0
                subst hr0
                obtain ⟨A, hA, hAl⟩ := inR_is hi
                obtain ⟨bm, hma, cm0, fm0⟩ := cellM.out A hAl
                subst hma
                have cm := cell_later g2 cm0
                have ho1 : m'.getD A 0 = x.value := by rw [hA] at hov; exact hov
                rw [ho1] at cm
                rw [hA] at d3
                have hA0 : ¬ (A : Int) < 0 := by omega
                have hA1 : (A : Int) < first.length := by omega
                have hA2 : ¬ (first.length : Int) ≤ (A : Int) := by omega
                refine ⟨.tuple #[.int .u32 0, .int .i64 0], rfl, fun _ => gu, ?_⟩
                simp only [Act.put, List.setIfInBounds_toArray, List.set_cons_zero, List.set_cons_succ]
                replace hH := gu
                refine AnyL.takeP 8 (some 95) (.tuple #[.int .u32 0, .int .i64 0]) rfl rfl (by kernel_rfl) (by kernel_rfl) (by kernel_rfl) (by kernel_rfl) (fun _ _ _ h => h) (by kernel_rfl) (fun w' => by go_simp) (fun _ => hH) ?_
                simp only [Act.put, List.setIfInBounds_toArray, List.set_cons_zero, List.set_cons_succ]
                refine AnyL.takeP 9 (some 104) (.int .u32 0) rfl rfl (by kernel_rfl) (by kernel_rfl) (by kernel_rfl) (by kernel_rfl) (fun _ _ _ h => h) (by kernel_rfl) (fun w' => by go_simp) (fun _ => hH) ?_
                simp only [Act.put, List.setIfInBounds_toArray, List.set_cons_zero, List.set_cons_succ]
                refine AnyL.takeP 10 (some 105) (.int .i64 0) rfl rfl (by kernel_rfl) (by kernel_rfl) (by kernel_rfl) (by kernel_rfl) (fun _ _ _ h => h) (by kernel_rfl) (fun w' => by go_simp) (fun _ => hH) ?_
                simp only [Act.put, List.setIfInBounds_toArray, List.set_cons_zero, List.set_cons_succ]
                refine AnyL.takeP 11 (some 8) (.int .u32 0) rfl rfl (by kernel_rfl) (by kernel_rfl) (by kernel_rfl) (by kernel_rfl) (fun _ _ _ h => h) (by kernel_rfl) (fun w' => by go_simp) (fun _ => hH) ?_
                simp only [Act.put, List.setIfInBounds_toArray, List.set_cons_zero, List.set_cons_succ]
                refine AnyL.takeP 12 (some 9) (.int .i64 0) rfl rfl (by kernel_rfl) (by kernel_rfl) (by kernel_rfl) (by kernel_rfl) (fun _ _ _ h => h) (by kernel_rfl) (fun w' => by go_simp) (fun _ => hH) ?_
                simp only [Act.put, List.setIfInBounds_toArray, List.set_cons_zero, List.set_cons_succ]
                refine AnyL.done (by kernel_rfl) ?_
                clear gu g2 d' hH cellM hf d0 HDD HD HM HG1 hA hov hi cm0 fm0 ho1
                go_wp2_with (fail)
                exact ⟨⟨j + 1, m', by omega, by go_num, HPN.out, hml, HM'.out, HG.out⟩, by simp [intOf]; omega⟩
            · obtain rfl := see_other hsm k3 k4 k8 k1
              have k3' : (x.kind == 3) = false := by simpa using k3
              have k4' : (x.kind == 4) = false := by simpa using k4
              have k8' : (x.kind == 8) = false := by simpa using k8
              have k1' : (x.kind == 1) = false := by simpa using k1
              have HS := hide mo1
              have HG := hide g1
              clear k3 k4 k8 k1 mo1 cellM hsm d g1
              go_wp2_with (fail)
              exact ⟨⟨j + 1, m', by omega, by go_num, HPN.out, hml, HS.out, HG.out⟩, by simp [intOf]; omega⟩
    · have hj' : j = l.length := by omega
      subst hj'
      have HG := hide g
      clear hmo g hs
      go_wp2_with (fail)
      go_ret
      exact ⟨rfl, HG.out⟩
end Go.Proofs.YthbenfnanhpcoaaDoor.Mc
