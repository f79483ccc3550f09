/-
  For any bytes that begin with dl1 and are seven at least: the reference's Read answers what the bytes tell, or the place and what is wrong first. Conditions: at most 2^40 bytes.
-/
import Derived.Test.YthooopcoemdphaaDoorRInv
import Derived.Test.YthooopcoemdphaaDoorRAt
import Derived.Test.YthooopcoemdphaaDoorSame
import Derived.Deep.RegionHeld3
namespace Go.Proofs.YthooopcoemdphaaDoor
open Go.ChangeShapes Go.WideShapes Go.ChangeAt Go.RowKit Go.Deep
set_option linter.unusedVariables false

theorem Empt.facts {w : World} {N : Nat} (h : Empt w N) : (w.cell? ⟨N, 0, none⟩ = some (.slice none 0 0) ∧ w.cell? ⟨N, 1, none⟩ = some (.slice none 0 0) ∧ w.cell? ⟨N, 2, none⟩ = some (.int .i64 0)) ∧
    (w.cell? ⟨N + 1, 0, none⟩ = some (.slice none 0 0) ∧ w.cell? ⟨N + 1, 1, none⟩ = some (.slice none 0 0) ∧ w.cell? ⟨N + 1, 2, none⟩ = some (.int .i64 0)) ∧
    (w.frozen? ⟨N, 0, none⟩ = false ∧ w.frozen? ⟨N, 1, none⟩ = false ∧ w.frozen? ⟨N, 2, none⟩ = false) :=
  ⟨⟨row_cell h.1 0, row_cell h.1 1, row_cell h.1 2⟩, ⟨row_cell h.2 0, row_cell h.2 1, row_cell h.2 2⟩, row_frozen h.1 0, row_frozen h.1 1, row_frozen h.1 2⟩
theorem readP_set {L : List Int} {w wr : World} {x y : Int} (ER : readB L = (pg0, x, y)) (hG : Gr w wr) :
    ReadP L w (.returned (.tuple #[.agg #[.slice none 0 0, .slice none 0 0, .int .i64 0], .int .i64 x, .int .i64 y])) (((wr.setCell ⟨w.heap.size, 0, none⟩ (.slice none 0 0)).setCell ⟨w.heap.size, 1, none⟩ (.slice none 0 0)).setCell ⟨w.heap.size, 2, none⟩ (.int .i64 0)) := by
  have hN : w.heap.size ≤ w.heap.size := Nat.le_refl _
  exact ⟨_, by rw [ER], by rw [ER]; exact progAt_nil _, ((hG.setCell hN _).setCell hN _).setCell hN _⟩
theorem minv_start (L : List Int) (w : World) (room : Int) : MInv L w room 0 (((w.alloc (.cells prog0V 27)).alloc (.cells prog0V 27)).alloc (.cells #[.slice none 0 0, .slice none 0 0, .int .i64 room] 27)) := by
  have s0 : (w.alloc (.cells prog0V 27)).heap.size = w.heap.size + 1 := by simp
  have s1 : ((w.alloc (.cells prog0V 27)).alloc (.cells prog0V 27)).heap.size = w.heap.size + 2 := by simp
  have r0 := heap_alloc_new w (.cells prog0V 27)
  have r1 := heap_alloc_new (w.alloc (.cells prog0V 27)) (.cells prog0V 27)
  have r2 := heap_alloc_new ((w.alloc (.cells prog0V 27)).alloc (.cells prog0V 27)) (.cells #[.slice none 0 0, .slice none 0 0, .int .i64 room] 27)
  rw [s0] at r1
  rw [s1] at r2
  refine ⟨_, ⟨_, _, _, rfl⟩, r2, World.ownsRow_nil _ _ _ _, ⟨?_, ?_⟩, (((Gr.refl w).alloc _ _).alloc _ _).alloc _ _⟩
  · exact (heap_alloc_old _ _ (by omega)).trans ((heap_alloc_old _ _ (by omega)).trans r0)
  · exact (heap_alloc_old _ _ (by omega)).trans r1
theorem ins_okAt {L : List Int} (hb : isBytes L) (i n : Nat) : ∀ x ∈ codeAt L i n, x.ok := by
  intro x hx
  unfold codeAt at hx
  obtain ⟨j, _, rfl⟩ := List.mem_map.1 hx
  exact leAt_bounds hb _ 4
theorem wrap_id (n : Int) (h0 : 0 ≤ n) (h1 : n < 4611686018427387904) : IntKind.i64.wrap n = n := by
  rw [IntKind.wrap_i64]
  omega
theorem tell_none_words {L : List Int} (h : L.length < 7 + 4 * words L) : tell L = none := by
  unfold tell
  by_cases h7 : L.length < 7
  · rw [if_pos h7]
  · rw [if_neg h7, if_pos h]
theorem tell_none_codes {L : List Int} {t : Nat} (h7 : 7 + 4 * words L ≤ L.length) (ht : t < thr L) {cs : List (List Ins)} {q : Nat} (h : codesTo L (7 + 4 * words L) t = some (cs, q)) (hq : L.length < q + 2 ∨ L.length < q + 2 + 8 * cntAt L q) : tell L = none := by
  unfold tell
  rw [if_neg (by omega), if_neg (by omega)]
  refine codesTo_none L _ (t + 1) _ (by omega) ?_
  simp only [codesTo, h]
  rw [if_pos hq]
theorem tell_some {L : List Int} (h7 : 7 + 4 * words L ≤ L.length) {cs : List (List Ins)} {q : Nat} (h : codesTo L (7 + 4 * words L) (thr L) = some (cs, q)) : tell L = some (cs, q) := by
  unfold tell
  rw [if_neg (by omega), if_neg (by omega)]
  exact h

set_option maxRecDepth 20000 in
set_option maxHeartbeats 4000000 in
theorem rread_main (b off : Nat) (L : List Int) (cap : Nat) (w : World) (hb : isBytes L) (hc : ∀ {j}, j < L.length → w.cell? ⟨b, off + j, none⟩ = some (.int .u8 (L.getD j 0))) (hB : BytesAt w (some ⟨b, off, none⟩) L) (h7 : 7 ≤ L.length) (hh : isHead L) (h40 : L.length ≤ 1099511627776) :
    Calls Tryd.prog 9 #[.slice (some ⟨b, off, none⟩) L.length cap] w (ReadP L w) := by
  obtain ⟨i1, hi1, hz10, hz11, hz12⟩ := info_parts info45
  obtain ⟨i2, hi2, hz20, hz21, hz22⟩ := info_parts info55
  obtain ⟨i3, hi3, hz30, hz31, hz32⟩ := info_parts info47
  have g1 := ((Gr.refl w).alloc prog0V 27).alloc prog0V 27
  have c0 := cell_later g1 (hc (j := 0) (by omega))
  have c1 := cell_later g1 (hc (j := 1) (by omega))
  have c2 := cell_later g1 (hc (j := 2) (by omega))
  have c4 := cell_later g1 (hc (j := 4) (by omega))
  rw [hh.1, Nat.add_zero] at c0
  rw [hh.2.1] at c1
  rw [hh.2.2] at c2
  have HH := hide hh
  have HC : Hid (∀ w', Gr w w' → ∀ j, j < L.length → w'.cell? ⟨b, off + j, none⟩ = some (.int .u8 (L.getD j 0))) := fun w' g j hj => cell_later g (hc hj)
  have HBy := hide hB
  have hr := getD_byte hb 4
  have MI := hide (minv_start L w (L.getD 4 0))
  have hwd : Hid (leAt L 5 2 = ((words L : Nat) : Int)) := by
    show leAt L 5 2 = _
    have := leAt_bounds hb 5 2; unfold words; omega
  have hwl : words L < 65536 := by have := leAt_bounds hb 5 2; unfold words; have := this.2; simp at this; omega
  have hth : Hid (L.getD 3 0 = ((thr L : Nat) : Int)) := by
    show _ = _
    have := getD_byte hb 3
    unfold thr
    omega
  have htl : thr L ≤ 255 := by have := getD_byte hb 3; unfold thr; omega
  generalize hrm : L.getD 4 0 = room at c4 hr MI
  have HRm := hide hrm
  obtain ⟨hr0, hr1⟩ := hr
  have HB' := hide hb
  clear hc hB hh g1 hrm
  go_enter Tryd.func9, Tryd.ntmps9
  go_wp2_with (fail)
  generalize ((w.alloc (.cells prog0V 27)).alloc (.cells prog0V 27)).alloc (.cells #[.slice none 0 0, .slice none 0 0, .int .i64 room] 27) = w2 at MI ⊢
  obtain ⟨vM0, _, _, _, E2, G2⟩ := id MI.out
  obtain ⟨⟨m0, m1, m2⟩, ⟨n0, n1, n2⟩, y0, y1, y2⟩ := E2.facts
  refine (rat_calls (some ⟨b, off, none⟩) L cap 5 2 w2 HB'.out (HBy.out.later G2) (by omega) (by omega) h40).mono ?_
  rw [hwd.out]
  rintro e w3 ⟨rfl, rfl⟩
  have G3 := hide G2
  clear G2 E2 c0 c1 c2 c4
  by_cases hW : L.length < 7 + 4 * words L
  · have ER := hide (readB_short (by omega) HH.out (tell_none_words hW))
    go_wp2_with (fail)
    refine bodyPost_ret (v := .tuple #[.agg #[.slice none 0 0, .slice none 0 0, .int .i64 0], .int .i64 L.length, .int .i64 2]) (by simp [results, Tryd.results9, go_sem, m0, m1, m2]) rfl ?_
    exact readP_set ER.out G3.out
  · go_wp2_with (fail)
    go_loopw [9] (fun i wr => ∃ k : Nat, k ≤ words L ∧ i = .int .i64 k ∧ Hid (MInv L w room k wr)) (fun i _ => words L - (intOf i).toNat)
    case atStart => exact ⟨0, by omega, rfl, MI⟩
    case round =>
      clear m0 m1 m2 n0 n1 n2 y0 y1 y2
      obtain ⟨k, hk, rfl, hMI⟩ := hrel
      obtain ⟨vM, ⟨am, nm, cm, rfl⟩, row, own, emp, gr⟩ := id hMI.out
      by_cases hlt : k < words L
      · have q1 := row_cell row 1
        obtain ⟨hx0, hx1⟩ := leAt_bounds HB'.out (7 + 4 * k) 4
        have EX := hide (memAt_succ L 7 k)
        have e74 : ((7 + 4 * k : Nat) : Int) = 7 + 4 * (k : Int) := by omega
        have AC := rat_calls (some ⟨b, off, none⟩) L cap (7 + 4 * k) 4 wr.drew HB'.out (HBy.out.later (gr.trans (Gr.refl wr).drew)) (by omega) (by omega) h40
        have ewr : ((7 + 4 * k : Nat) : Int) = IntKind.i64.wrap (7 + IntKind.i64.wrap (4 * (k : Int))) := by rw [wrap_id (4 * (k : Int)) (by omega) (by omega), wrap_id (7 + 4 * (k : Int)) (by omega) (by omega)]; exact e74
        rw [ewr] at AC
        generalize leAt L (7 + 4 * k) 4 = x at hx0 hx1 EX AC
        have AC' : Hid (Calls Tryd.prog 19 #[.slice (some ⟨b, off, none⟩) L.length cap, .int .i64 (IntKind.i64.wrap (7 + IntKind.i64.wrap (4 * (k : Int)))), .int .i64 4] wr.drew fun e w' => ∃ v, e = .returned v ∧ (v = .int .i64 x ∧ w' = wr.drew)) := AC.mono fun e w' ⟨h1, h2⟩ => ⟨_, h1, rfl, h2⟩
        have hx1' : x < 4294967296 := by simpa using hx1
        have hwx : IntKind.u32.wrap x = x := by rw [IntKind.wrap_u32]; omega
        have O6 : Hid ((wr.alloc (.cells #[.int .u32 x] 45)).drew.ownsRow w.heap.size 45 1 (.slice am nm cm) k ((memAt L 7 k).map (Value.int .u32))) := own_gr own (((Gr.refl wr).alloc _ _).drew)
        have N6 : Hid (∀ (j : Nat) (u : Value), [Value.int .u32 x][j]? = some u → (wr.alloc (.cells #[.int .u32 x] 45)).drew.cell? ((⟨wr.heap.size, 0, none⟩ : Addr).add j) = some u) := lit_cells wr [.int .u32 x] 45
        have S6 : w.heap.size ≤ (wr.alloc (.cells #[.int .u32 x] 45)).drew.heap.size := by have := gr.size; simp; omega
        have U6 : ∀ u ∈ [Value.int .u32 x], u.oneCell' = true := by intro u hu; simp at hu; subst hu; rfl
        have q1' := cell_later (((Gr.refl wr).alloc #[.int .u32 x] 45).drew) q1
        have ROW := hide row
        have EMP := hide emp
        have GR := hide gr
        have UU := hide U6
        clear row emp gr own AC e74 ewr hx1 U6
        go_wp2_with (fail)
        go_region_law (first
          | (refine step_append_own rfl (.tmp 71) (.tmp 78) 25 rfl w.heap.size 45 i1 (.int .u32 0) 1 4 Tryd.underlying25 hi1 hz10 hz11 hz12 rfl (by decide) _ k _ rfl O6.out ⟨wr.heap.size, 0, none⟩ 1 1 [.int .u32 x] rfl rfl N6.out UU.out (by unfold maxLen; omega) (by omega) S6 ?_
             intro v' w7 hown7 hgrow7
             have k7 : Hid (Kept 45 w.heap.size wr w7) := (Kept.of_gr (((Gr.refl wr).alloc _ _).drew)).trans (Kept.grown O6.out hgrow7)
             have row7 := k7.out.row (show 27 ≠ 45 by decide) ROW.out
             have q7 := row_cell row7 1
             have z7 := row_frozen row7 1
             obtain ⟨a7, n7, c7, rfl⟩ := own_shape hown7
             have own7 : Hid (w7.ownsRow w.heap.size 45 1 (.slice a7 n7 c7) (k + 1) ((memAt L 7 (k + 1)).map (Value.int .u32))) := by
               show w7.ownsRow _ _ _ _ _ _
               rw [EX.out, List.map_append]
               exact hown7
             clear hown7 hgrow7 row7)
          | (refine step_call rfl 19 #[.slice (some ⟨b, off, none⟩) L.length cap, .int .i64 (IntKind.i64.wrap (7 + IntKind.i64.wrap (4 * (k : Int)))), .int .i64 4] (by kernel_rfl) _ AC'.out ?_; intro v w6 hc6; obtain ⟨rfl, rfl⟩ := hc6))
        all_goals
          have MI9 : Hid (MInv L w room (k + 1) (w7.setCell ⟨w.heap.size + 2, 1, none⟩ (.slice a7 n7 c7))) := minv_step ROW.out EMP.out GR.out k7.out own7.out
          go_wp2
          go_roundw
          case rel => exact ⟨k + 1, by omega, by go_num, MI9⟩
          case measure => simp [intOf]; omega
      · obtain rfl : k = words L := by omega
        have CI := hide (cinv_start hMI.out)
        clear row own emp gr hMI MI
        go_wp2_with (fail)
        go_loopw [8, 10] (fun e i wr => ∃ (t q : Nat) (cs : List (List Ins)), t ≤ thr L ∧ i = .int .i64 t ∧ e = .int .i64 q ∧ q ≤ L.length ∧ Hid (codesTo L (7 + 4 * words L) t = some (cs, q)) ∧ Hid (CInv L w room t cs wr)) (fun _ i _ => thr L - (intOf i).toNat)
        case atStart => exact ⟨0, 7 + 4 * words L, [], by omega, rfl, congrArg (Value.int .i64) (by omega), by omega, rfl, CI⟩
        case round =>
          clear CI
          obtain ⟨t, q, cs, ht, rfl, rfl, hq, hcs, hCI⟩ := hrel
          obtain ⟨vC, vM, vs, ⟨ac, nc, cc, rfl⟩, ⟨am', nm', cm', rfl⟩, row, ownC, hvs, hR, ownM, emp, gr⟩ := id hCI.out
          obtain ⟨⟨m0, m1, m2⟩, ⟨n0, n1, n2⟩, y0, y1, y2⟩ := emp.facts
          have c3 := HC.out wr gr 3 (by omega)
          rw [hth.out] at c3
          have GR := hide gr
          have ROW := hide row
          have EMP := hide emp
          have OC := hide ownC
          have OM := hide ownM
          have HRw := hide hR
          clear row ownC ownM emp gr hR
          by_cases hlt : t < thr L
          · have hlt' : (t : Int) < (thr L : Int) := by omega
            by_cases s1 : L.length < q + 2
            · have ER := hide (readB_short (by omega) HH.out (tell_none_codes (by omega) hlt hcs.out (.inl s1)))
              go_wp2_with (fail)
              refine bodyPost_ret (v := .tuple #[.agg #[.slice none 0 0, .slice none 0 0, .int .i64 0], .int .i64 L.length, .int .i64 2]) (by simp [results, Tryd.results9, go_sem, m0, m1, m2]) rfl ?_
              exact readP_set ER.out GR.out
            · have hcn : Hid (leAt L q 2 = ((cntAt L q : Nat) : Int)) := by
                show leAt L q 2 = _
                have := leAt_bounds HB'.out q 2
                unfold cntAt
                omega
              have hnl : cntAt L q < 65536 := by have := leAt_bounds HB'.out q 2; unfold cntAt; have := this.2; simp at this; omega
              have TN := hide (fun h => tell_none_codes (by omega) hlt hcs.out (.inr h))
              have CS : Hid (¬ (L.length < q + 2 + 8 * cntAt L q) → codesTo L (7 + 4 * words L) (t + 1) = some (cs ++ [codeAt L (q + 2) (cntAt L q)], q + 2 + 8 * cntAt L q)) := by
                intro h
                simp only [codesTo, hcs.out]
                rw [if_neg (by omega)]
              go_wp2_with (fail)
              refine (rat_calls (some ⟨b, off, none⟩) L cap q 2 wr HB'.out (HBy.out.later GR.out) (by omega) (by omega) h40).mono ?_
              rw [hcn.out]
              rintro e w5 ⟨rfl, rfl⟩
              clear hcn
              generalize cntAt L q = n at hnl TN CS ⊢
              by_cases s2 : L.length < q + 2 + 8 * n
              · have ER := hide (readB_short (by omega) HH.out (TN.out s2))
                go_wp2_with (fail)
                refine bodyPost_ret (v := .tuple #[.agg #[.slice none 0 0, .slice none 0 0, .int .i64 0], .int .i64 L.length, .int .i64 2]) (by simp [results, Tryd.results9, go_sem, m0, m1, m2]) rfl ?_
                exact readP_set ER.out GR.out
              · clear m0 m1 m2 n0 n1 n2 y0 y1 y2 c3
                go_wp2_with (fail)
                go_loopw [12, 13] (fun l i wq => ∃ j : Nat, j ≤ n ∧ i = .int .i64 j ∧ Hid (Gr w5 wq) ∧ Hid (wq.ownsRow w5.heap.size 47 5 l j ((codeAt L (q + 2) j).flatMap Ins.vals))) (fun _ i _ => n - (intOf i).toNat)
                case atStart => exact ⟨0, by omega, rfl, Gr.refl _, World.ownsRow_nil _ _ _ _⟩
                case round =>
                  obtain ⟨j, hj, rfl, hG, hO⟩ := hrel
                  obtain ⟨al, nl, cl, rfl⟩ := own_shape hO.out
                  by_cases hltj : j < n
                  · obtain ⟨kk, hkk⟩ : ∃ kk : Nat, q + 2 + 8 * j = kk := ⟨_, rfl⟩
                    have hidx : (q : Int) + 2 + 8 * (j : Int) = (kk : Int) := by omega
                    have hkl : kk + 8 ≤ L.length := by omega
                    have g5 := GR.out.trans hG.out
                    have z0 := HC.out wr g5 kk (by omega)
                    have z1 := HC.out wr g5 (kk + 1) (by omega)
                    have z2 := HC.out wr g5 (kk + 2) (by omega)
                    have z3 := HC.out wr g5 (kk + 3) (by omega)
                    have v0 := getD_byte HB'.out kk
                    have v1 := getD_byte HB'.out (kk + 1)
                    have v2 := getD_byte HB'.out (kk + 2)
                    have v3 := getD_byte HB'.out (kk + 3)
                    have v4 := leAt_bounds HB'.out (kk + 4) 4
                    have EX : Hid ((codeAt L (q + 2) (j + 1)).flatMap Ins.vals = (codeAt L (q + 2) j).flatMap Ins.vals ++ [.int .i64 (L.getD kk 0), .int .i64 (L.getD (kk + 1) 0), .int .i64 (L.getD (kk + 2) 0), .int .i64 (L.getD (kk + 3) 0), .int .u32 (leAt L (kk + 4) 4)]) := by
                      show _ = _
                      rw [codeAt_succ, List.flatMap_append, hkk]
                      rfl
                    have AT := rat_calls (some ⟨b, off, none⟩) L cap (kk + 4) 4 wr.drew HB'.out (HBy.out.later (g5.trans (Gr.refl wr).drew)) (by omega) (by omega) h40
                    generalize L.getD kk 0 = x0 at z0 v0 EX
                    generalize L.getD (kk + 1) 0 = x1 at z1 v1 EX
                    generalize L.getD (kk + 2) 0 = x2 at z2 v2 EX
                    generalize L.getD (kk + 3) 0 = x3 at z3 v3 EX
                    generalize leAt L (kk + 4) 4 = x4 at v4 EX AT
                    have v4' : x4 < 4294967296 := by simpa using v4.2
                    have v40 := v4.1
                    obtain ⟨v00, v01⟩ := v0
                    obtain ⟨v10, v11⟩ := v1
                    obtain ⟨v20, v21⟩ := v2
                    obtain ⟨v30, v31⟩ := v3
                    have hwx : IntKind.u32.wrap x4 = x4 := by rw [IntKind.wrap_u32]; omega
                    have hw0 : IntKind.i64.wrap x0 = x0 := wrap_id _ v00 (by omega)
                    have hw1 : IntKind.i64.wrap x1 = x1 := wrap_id _ v10 (by omega)
                    have hw2 : IntKind.i64.wrap x2 = x2 := wrap_id _ v20 (by omega)
                    have hw3 : IntKind.i64.wrap x3 = x3 := wrap_id _ v30 (by omega)
                    have hb0 : (0 : Int) ≤ (kk : Int) := by omega
                    have hb1 : (kk : Int) < (L.length : Int) := by omega
                    have hb2 : (0 : Int) ≤ (kk : Int) + 1 := by omega
                    have hb3 : (kk : Int) + 1 < (L.length : Int) := by omega
                    have hb4 : (0 : Int) ≤ (kk : Int) + 2 := by omega
                    have hb5 : (kk : Int) + 2 < (L.length : Int) := by omega
                    have hb6 : (0 : Int) ≤ (kk : Int) + 3 := by omega
                    have hb7 : (kk : Int) + 3 < (L.length : Int) := by omega
                    have hs1 : IntKind.i64.wrap ((kk : Int) + 1) = (kk : Int) + 1 := wrap_id _ (by omega) (by omega)
                    have hs2 : IntKind.i64.wrap ((kk : Int) + 2) = (kk : Int) + 2 := wrap_id _ (by omega) (by omega)
                    have hs3 : IntKind.i64.wrap ((kk : Int) + 3) = (kk : Int) + 3 := wrap_id _ (by omega) (by omega)
                    have KS : Hid (∀ w', Below w5.heap.size wr w' → w'.cell? ⟨b, off + kk, none⟩ = some (.int .u8 x0) ∧ w'.cell? ⟨b, off + (kk + 1), none⟩ = some (.int .u8 x1) ∧ w'.cell? ⟨b, off + ((kk : Int) + 2).toNat, none⟩ = some (.int .u8 x2) ∧ w'.cell? ⟨b, off + ((kk : Int) + 3).toNat, none⟩ = some (.int .u8 x3)) := by
                      intro w' hbel
                      have hbl : b < w5.heap.size := by
                        have := HC.out w5 GR.out kk (by omega)
                        exact World.block_lt_of_cell? _ _ this
                      exact ⟨(Below.cell hbel (p := ⟨b, off + kk, none⟩) hbl).trans z0, (Below.cell hbel (p := ⟨b, off + (kk + 1), none⟩) hbl).trans z1, (Below.cell hbel (p := ⟨b, off + ((kk : Int) + 2).toNat, none⟩) hbl).trans (by rw [show ((kk : Int) + 2).toNat = kk + 2 by omega]; exact z2), (Below.cell hbel (p := ⟨b, off + ((kk : Int) + 3).toNat, none⟩) hbl).trans (by rw [show ((kk : Int) + 3).toNat = kk + 3 by omega]; exact z3)⟩
                    have O6 : Hid ((wr.alloc (.cells #[.int .i64 x0, .int .i64 x1, .int .i64 x2, .int .i64 x3, .int .u32 x4] 47)).drew.ownsRow w5.heap.size 47 5 (.slice al nl cl) j ((codeAt L (q + 2) j).flatMap Ins.vals)) := own_gr hO.out (((Gr.refl wr).alloc _ _).drew)
                    have N6 : Hid (∀ (i : Nat) (u : Value), [Value.int .i64 x0, .int .i64 x1, .int .i64 x2, .int .i64 x3, .int .u32 x4][i]? = some u → (wr.alloc (.cells #[.int .i64 x0, .int .i64 x1, .int .i64 x2, .int .i64 x3, .int .u32 x4] 47)).drew.cell? ((⟨wr.heap.size, 0, none⟩ : Addr).add i) = some u) := lit_cells wr [.int .i64 x0, .int .i64 x1, .int .i64 x2, .int .i64 x3, .int .u32 x4] 47
                    have U6 : Hid (∀ u ∈ [Value.int .i64 x0, .int .i64 x1, .int .i64 x2, .int .i64 x3, .int .u32 x4], u.oneCell' = true) := by
                      intro u hu
                      simp at hu
                      rcases hu with rfl | rfl | rfl | rfl | rfl <;> rfl
                    have hs5 := hG.out.size
                    have S6 : w5.heap.size ≤ (wr.alloc (.cells #[.int .i64 x0, .int .i64 x1, .int .i64 x2, .int .i64 x3, .int .u32 x4] 47)).drew.heap.size := by simp; omega
                    have AT' : Hid (∀ v : Int, v = (kk : Int) + 4 → Calls Tryd.prog 19 #[.slice (some ⟨b, off, none⟩) L.length cap, .int .i64 v, .int .i64 4] wr.drew fun e w' => e = .returned (.int .i64 x4) ∧ w' = wr.drew) := by
                      intro v hv
                      rw [hv, show (kk : Int) + 4 = ((kk + 4 : Nat) : Int) by omega]
                      exact AT
                    have W4 : Hid (IntKind.i64.wrap ((kk : Int) + 4) = (kk : Int) + 4) := wrap_id _ (by omega) (by omega)
                    clear AT v4 hkk g5
                    go_wp2_with (fail)
                    go_region_held3 (fun w' => w'.cell? ⟨b, off + kk, none⟩ = some (.int .u8 x0) ∧ w'.cell? ⟨b, off + (kk + 1), none⟩ = some (.int .u8 x1) ∧ w'.cell? ⟨b, off + ((kk : Int) + 2).toNat, none⟩ = some (.int .u8 x2) ∧ w'.cell? ⟨b, off + ((kk : Int) + 3).toNat, none⟩ = some (.int .u8 x3))
                      (first | exact KS.out _ ((Below.refl _ wr).drew) | exact KS.out _ ((Below.alloc (Below.refl _ wr) hs5 _).drew) | exact KS.out _ bel7.out | go_keep)
                      ((first
                        | (go_at_call 19; refine (AT'.out _ (by first | rfl | exact W4.out)).mono ?_; rintro e w6 ⟨rfl, rfl⟩)
                        | (refine step_append_own (by rfl) (.tmp 121) (.tmp 151) 55 (by rfl) w5.heap.size 47 i3 zeroI 5 40 Tryd.underlying55 hi3 hz30 hz31 hz32 rfl (by decide) (.slice al nl cl) j _ (by rfl) O6.out ⟨wr.heap.size, 0, none⟩ 1 1 [.int .i64 x0, .int .i64 x1, .int .i64 x2, .int .i64 x3, .int .u32 x4] (by rfl) rfl N6.out U6.out (by unfold maxLen; omega) (by omega) S6 ?_
                           intro v' w7 hown7 hgrow7
                           have bel7 : Hid (Below w5.heap.size wr w7) := ((Below.alloc (Below.refl _ wr) hs5 _).drew).grown hgrow7 S6 (fun g hg => (O6.out.lt g hg).1)
                           have own7 : Hid (w7.ownsRow w5.heap.size 47 5 v' (j + 1) ((codeAt L (q + 2) (j + 1)).flatMap Ins.vals)) := by
                             show w7.ownsRow _ _ _ _ _ _
                             rw [EX.out]
                             exact hown7
                           clear hown7 hgrow7)))
                    all_goals
                      have G7 := hide (hG.out.after bel7.out)
                      go_wp2
                      go_roundw
                      case rel => exact ⟨j + 1, by omega, by go_num, G7, own7⟩
                      case measure => simp [intOf]; omega
                  · obtain rfl : j = n := by omega
                    have row5 := (hG.out.block _ (heap_lt ROW.out)).trans ROW.out
                    have q0 := row_cell row5 0
                    have q0' := cell_later ((Gr.refl wr).alloc #[.slice al nl cl] 55) q0
                    have O6 : Hid ((wr.alloc (.cells #[.slice al nl cl] 55)).ownsRow w.heap.size 55 1 (.slice ac nc cc) t vs) := own_gr OC.out (hG.out.trans ((Gr.refl wr).alloc _ _))
                    have N6 := hide (lit_cells wr [.slice al nl cl] 55)
                    have ROW5 := hide row5
                    have S6 : w.heap.size ≤ (wr.alloc (.cells #[.slice al nl cl] 55)).heap.size := by have := GR.out.size; have := hG.out.size; simp; omega
                    clear row5
                    go_wp2_with (at_builtin; refine wpList_append_own _ rfl (.tmp 154) (.tmp 156) 24 rfl w.heap.size 55 i2 (.slice none 0 0) 1 24 Tryd.underlying24 hi2 hz20 hz21 hz22 rfl (by decide) _ t vs rfl O6.out ⟨wr.heap.size, 0, none⟩ 1 1 [.slice al nl cl] rfl rfl N6.out (one_slice _ _ _) (by unfold maxLen; omega) (by omega) S6 ?_)
                    intro v' w7 hown7 hgrow7 _
                    have k7 : Hid (Kept 55 w.heap.size wr w7) := (Kept.of_gr ((Gr.refl wr).alloc _ _)).trans (Kept.grown O6.out hgrow7)
                    have row7 := k7.out.row (show 27 ≠ 55 by decide) ROW5.out
                    have q7 := row_cell row7 0
                    have z7 := row_frozen row7 0
                    obtain ⟨a7, n7, c7, rfl⟩ := own_shape hown7
                    have hcl : (codeAt L (q + 2) j).length = j := codeAt_len _ _ _
                    have CI9 : Hid (CInv L w room (t + 1) (cs ++ [codeAt L (q + 2) j]) (w7.setCell ⟨w.heap.size + 2, 0, none⟩ (.slice a7 n7 c7))) := cinv_step ⟨_, _, _, rfl⟩ ROW.out hvs HRw.out OM.out EMP.out GR.out hG.out (by rw [hcl]; exact hO.out) (fun i hi => ins_okAt HB'.out (q + 2) j i hi) (by rw [hcl]; omega) k7.out hown7
                    have CS9 := hide (CS.out s2)
                    clear hown7 hgrow7 row7
                    go_wp2_with (fail)
                    exact ⟨⟨t + 1, q + 2 + 8 * j, _, by omega, by go_num, congrArg (Value.int .i64) (by omega), by omega, CS9, CI9⟩, by simp [intOf]; omega⟩
          · obtain rfl : t = thr L := by omega
            have TS := hide (tell_some (by omega) hcs.out)
            by_cases hlong : q < L.length
            · have ER := hide (readB_long (by omega) HH.out TS.out hlong)
              go_wp2_with (fail)
              refine bodyPost_ret (v := .tuple #[.agg #[.slice none 0 0, .slice none 0 0, .int .i64 0], .int .i64 q, .int .i64 4]) (by simp [results, Tryd.results9, go_sem, m0, m1, m2]) rfl ?_
              exact readP_set ER.out GR.out
            · have PA := cinv_prog HB'.out (by omega) OC.out hvs HRw.out OM.out
              rw [HRm.out] at PA
              have PA' := hide PA
              have p0 := row_cell ROW.out 0
              have p1 := row_cell ROW.out 1
              have p2 := row_cell ROW.out 2
              clear PA
              go_wp2_with (fail)
              refine (rcheck_pg _ (pgOf L cs) wr PA'.out).mono ?_
              rintro e w6 ⟨x6, y6, rfl, hg6⟩
              clear m0 m1 m2 n0 n1 n2 y0 y1 y2 p0 p1 p2
              have row6 := (hg6.block _ (heap_lt ROW.out)).trans ROW.out
              have E6 := EMP.out.gr hg6
              obtain ⟨⟨m0, m1, m2⟩, ⟨n0, n1, n2⟩, y0, y1, y2⟩ := E6.facts
              have p0 := row_cell row6 0
              have p1 := row_cell row6 1
              have p2 := row_cell row6 2
              have G6 := hide (GR.out.trans hg6)
              have HG6 := hide hg6
              have HE6 := hide E6
              clear row6 hg6 E6
              cases hq0 : ((pgOf L cs).err == 0)
              · have ER := hide (readB_err (by omega) HH.out TS.out hlong (by simpa using hq0))
                go_wp2_with (fail)
                refine bodyPost_ret (v := .tuple #[.agg #[.slice none 0 0, .slice none 0 0, .int .i64 0], .int .i64 0, .int .i64 (pgOf L cs).err]) (by simp [results, Tryd.results9, go_sem, m0, m1, m2]) rfl ?_
                exact readP_set ER.out G6.out
              · have ER := hide (readB_ok (by omega) HH.out TS.out hlong (by simpa using hq0))
                go_wp2_with (fail)
                refine bodyPost_ret (v := .tuple #[.agg #[.slice ac nc cc, .slice am' nm' cm', .int .i64 room], .int .i64 0, .int .i64 0]) (by simp [results, Tryd.results9, go_sem, m0, m1, m2]) rfl ?_
                have hN : w.heap.size ≤ w.heap.size := Nat.le_refl _
                refine ⟨_, by rw [ER.out], ?_, ((G6.out.setCell hN _).setCell hN _).setCell hN _⟩
                rw [ER.out]
                have k9 := kept_res HE6.out.1 (Nat.zero_le _) (.slice ac nc cc) (.slice am' nm' cm') (.int .i64 room)
                have P9 := cinv_prog (w := w) HB'.out (show thr L ≤ 255 by omega) (k9.own (by decide) (own_gr OC.out HG6.out)) hvs ((HRw.out.gr HG6.out).kept k9 (by decide)) (k9.own (by decide) (own_gr OM.out HG6.out))
                rw [HRm.out] at P9
                exact P9
end Go.Proofs.YthooopcoemdphaaDoor
