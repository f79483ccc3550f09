/-
  For any reader that the call's caller made, over any bytes: what its method program answers and leaves. No condition but that at most 2^40 bytes are left.
-/
import Derived.Test.YthbenfnanhpcoaaGreatDoorZtbw
namespace Go.Proofs.YthbenfnanhpcoaaGreatDoor.Cd
open Go.ChangeShapes Go.WideShapes Go.ChangeAt Go.RowKit Go.Deep
set_option linter.unusedVariables false
set_option maxRecDepth 20000

theorem numL_short {n : Nat} {L : List Int} {s : Bool} (h : numS n L s = false) : s = false ∧ n ≤ L.length ∧ numL n L s = L.drop n := ⟨(numS_false h).1, (numS_false h).2.1, (numS_false h).2.2.1⟩

/-- the state ahead of the loop over the threads -/
theorem pinv_start {r : Nat} {L0 M : List Int} {s : Bool} {w w1 w4 : World} {pb : Nat} {vM : Value} (hrB : r < w.heap.size) (hpb : w.heap.size ≤ pb) (hb : isBytes L0) (hM0 : s = true ∨ (M = L0.drop 3 ∧ 3 ≤ L0.length)) (hlen : M.length ≤ 1099511627776)
    (hW : Wr r w w1) (hrow : w1.heap[pb]? = some (.cells #[.slice none 0 0, .slice none 0 0, .int .i64 (numV 1 (numL 1 M s) (numS 1 M s))] 27))
    (hP : WordsP r (numL 1 (numL 1 M s) (numS 1 M s)) (numS 1 (numL 1 M s) (numS 1 M s)) w1 (.returned vM) w4) :
    PInv r L0 s w pb (numV 1 M s).toNat (numV 1 (numL 1 M s) (numS 1 M s)) 0 (w4.setCell ⟨pb, 1, none⟩ vM) := by
  obtain ⟨v, L', s', hv, hshape, R4, W4, hb4, hl4, hF⟩ := hP
  obtain rfl : v = vM := by cases hv; rfl
  have hsz := hW.size
  have row4 := W4.row (show pb ≠ r by omega) hrow
  have k5 : Kept 27 w.heap.size w4 (w4.setCell ⟨pb, 1, none⟩ v) := Kept.setCell (o := 1) w.heap.size row4 hpb v
  have bel5 : Below w.heap.size w4 (w4.setCell ⟨pb, 1, none⟩ v) := k5.below (by have := W4.size; omega)
  have row5 := row_set row4 1 v (by simp)
  have hl1 := numL_le 1 M s
  have hl2 := numL_le 1 (numL 1 M s) (numS 1 M s)
  refine ⟨.slice none 0 0, v, [], L', s', hshape, by simpa using row5, World.ownsRow_nil _ _ _ _, rfl, R4.below hrB bel5, (hW.trans W4).below bel5, hb4, by omega, ?_⟩
  have short : s = true ∨ L0.length < 7 ∨ L0.length < 7 + 4 * words L0 → s = true ∨ tell L0 = none := by
    rintro (h | h | h)
    · exact .inl h
    · right; unfold tell; rw [if_pos h]
    · right
      unfold tell
      by_cases h7 : L0.length < 7
      · rw [if_pos h7]
      · rw [if_neg h7, if_pos h]
  cases hs2 : numS 1 (numL 1 M s) (numS 1 M s)
  · obtain ⟨hs1, l2, e2⟩ := numL_short hs2
    obtain ⟨rfl, l1, e1⟩ := numL_short hs1
    obtain ⟨rfl, h3⟩ : M = L0.drop 3 ∧ 3 ≤ L0.length := by simpa using hM0
    have f1 : numL 1 (L0.drop 3) false = L0.drop 4 := by rw [e1, List.drop_drop]
    have f2 : numL 1 (numL 1 (L0.drop 3) false) (numS 1 (L0.drop 3) false) = L0.drop 5 := by rw [e2, f1, List.drop_drop]
    rw [f2, hs2] at hF
    rw [f1, List.length_drop] at l2
    have hwd : cntAt (L0.drop 5) 0 = words L0 := cntAt_drop L0 5 0
    rw [hwd, List.length_drop, memAt_drop, List.drop_drop] at hF
    rcases hF with ⟨h, hF⟩ | ⟨h, _, hF1, hF2, hF3, hF4⟩
    · refine .inl ⟨h, short ?_⟩
      rcases hF with hF | hF | hF
      · cases hF
      · right; left; omega
      · right; right; omega
    · refine .inr ⟨h, rfl, [], 7 + 4 * words L0, by omega, rfl, ?_, ⟨rfl, fun t v c h => by simp at h⟩, k5.own (by decide) (own_mono hF4 hsz), ?_, ?_⟩
      · rw [hF3]; congr 1; omega
      · have := (numS_false hs2).2.2.2
        rw [this, f1, leAt_drop, leAt_one]
      · have := (numS_false hs1).2.2.2
        rw [this, leAt_drop, leAt_one]
        rfl
  · rw [hs2] at hF
    rcases hF with ⟨h, _⟩ | ⟨_, h, _⟩
    · refine .inl ⟨h, short ?_⟩
      cases s with
      | true => exact .inl rfl
      | false =>
        obtain ⟨rfl, h3⟩ : M = L0.drop 3 ∧ 3 ≤ L0.length := by simpa using hM0
        right; left
        cases hs1 : numS 1 (L0.drop 3) false
        · obtain ⟨_, l1, e1⟩ := numL_short hs1
          rw [hs1, e1, List.drop_drop] at hs2
          simp [numS] at hs2
          omega
        · simp [numS] at hs1
          omega
    · cases h

theorem lit_cells (w : World) (l : List Value) (e : TypeId) : ∀ (j : Nat) (u : Value), l[j]? = some u → (w.alloc (.cells l.toArray e)).cell? ((⟨w.heap.size, 0, none⟩ : Addr).add j) = some u := by
  intro j u hj
  have hrow : (w.alloc (.cells l.toArray e)).heap[w.heap.size]? = some (.cells l.toArray e) := heap_alloc_new w _
  rw [Addr.add_mid, row_cell hrow]
  simpa using hj
theorem one_slice (a : Option Addr) (n c : Nat) : ∀ u ∈ [Value.slice a n c], u.oneCell' = true := by
  intro u hu
  simp at hu
  subst hu
  rfl

set_option maxHeartbeats 1000000 in
theorem prog_calls (r : Nat) (L0 M : List Int) (s : Bool) (w : World) (hr : Rd w r M s) (hb0 : isBytes L0) (hb : isBytes M) (hM0 : s = true ∨ (M = L0.drop 3 ∧ 3 ≤ L0.length)) (hl : M.length ≤ 1099511627776) :
    Calls Tryz.prog 30 #[.pointer (some ⟨r, 0, none⟩)] w (ProgP r L0 s w) := by
  obtain ⟨i0, hi, hz0, hz1, hz2⟩ := info_parts infoC__api_Instr
  have hrlt := hr.lt
  have hg0 := (Gr.refl w).alloc prog0V 27
  have HR := hide (hr.later hg0)
  have HB : Hid ((w.alloc (.cells prog0V 27)).heap[w.heap.size]? = some (.cells prog0V 27)) := heap_alloc_new w _
  have HW : Hid (Wr r w (w.alloc (.cells prog0V 27))) := Wr.of_gr hg0
  clear hr hg0
  have T0 := numV_bounds 1 M s hb
  go_enter Tryz.func30, Tryz.ntmps30
  go_wp2_with (fail)
  generalize w.alloc (.cells prog0V 27) = w0 at HR HB HW ⊢
  refine (field_calls r M s w0 HR.out hb).mono ?_
  rintro e w1 ⟨rfl, R1, W1⟩
  have hsz0 := HW.out.size
  have hsz1 := W1.size
  go_wp2_with (fail)
  refine (field_calls r _ _ w1 R1 (numL_bytes hb)).mono ?_
  rintro e w2 ⟨rfl, R2, W2⟩
  have hsz2 := W2.size
  have hg2 := (Gr.refl w2).alloc #[.slice none 0 0, .slice none 0 0, .int .i64 (numV 1 (numL 1 M s) (numS 1 M s))] 27
  have R3 := hide (R2.later hg2)
  have W3 := hide (HW.out.trans (W1.trans (W2.trans (Wr.of_gr hg2))))
  have row3 : Hid ((w2.alloc (.cells #[.slice none 0 0, .slice none 0 0, .int .i64 (numV 1 (numL 1 M s) (numS 1 M s))] 27)).heap[w2.heap.size]? = some (.cells #[.slice none 0 0, .slice none 0 0, .int .i64 (numV 1 (numL 1 M s) (numS 1 M s))] 27)) := heap_alloc_new w2 _
  have rowN : Hid ((w2.alloc (.cells #[.slice none 0 0, .slice none 0 0, .int .i64 (numV 1 (numL 1 M s) (numS 1 M s))] 27)).heap[w.heap.size]? = some (.cells prog0V 27)) := (heap_alloc_old w2 _ (by have := heap_lt HB.out; omega)).trans (W2.row (by omega) (W1.row (by omega) HB.out))
  have hNlt := heap_lt (W2.row (show w.heap.size ≠ r by omega) (W1.row (show w.heap.size ≠ r by omega) HB.out))
  clear R1 R2 W1 W2 hg2
  go_wp2_with (fail)
  generalize w2.alloc (.cells #[.slice none 0 0, .slice none 0 0, .int .i64 (numV 1 (numL 1 M s) (numS 1 M s))] 27) = w3 at R3 W3 row3 rowN ⊢
  refine (words_calls r _ _ w3 R3.out (numL_bytes (numL_bytes hb)) (by have := numL_le 1 M s; have := numL_le 1 (numL 1 M s) (numS 1 M s); omega)).mono ?_
  intro e w4 HP
  obtain ⟨am, nm, cm, rfl, W4⟩ : ∃ a n c, e = .returned (.slice a n c) ∧ Wr r w3 w4 := by
    obtain ⟨v, L', s', rfl, ⟨a, n, c, rfl⟩, _, W4, _⟩ := HP
    exact ⟨a, n, c, rfl, W4⟩
  have row4 := W4.row (show w2.heap.size ≠ r by omega) row3.out
  have PI := hide (pinv_start hrlt (by omega) hb0 hM0 hl W3.out row3.out HP)
  have RN : Hid ((w4.setCell ⟨w2.heap.size, 1, none⟩ (.slice am nm cm)).heap[w.heap.size]? = some (.cells prog0V 27)) := by
    show _ = _
    rw [Below.heap_setCell _ _ _ _ (by show w.heap.size ≠ w2.heap.size; omega)]
    exact W4.row (by omega) rowN.out
  have c1 := row_cell row4 1
  have z1 := row_frozen row4 1
  generalize hrm : numV 1 (numL 1 M s) (numS 1 M s) = room at PI c1 row4 ⊢
  obtain ⟨T, hT⟩ : ∃ T : Nat, numV 1 M s = T := ⟨(numV 1 M s).toNat, by omega⟩
  rw [hT] at T0 ⊢
  have PI' : Hid (PInv r L0 s w w2.heap.size T room 0 (w4.setCell ⟨w2.heap.size, 1, none⟩ (.slice am nm cm))) := by
    have := PI.out
    rw [hT] at this
    exact this
  have hT255 : T < 256 := by have := T0.2; simp at this; omega
  clear PI HP W4 row4 row3 rowN R3 W3 HR HB HW hrm hT T0
  go_wp2_with (fail)
  generalize w4.setCell ⟨w2.heap.size, 1, none⟩ (.slice am nm cm) = w5 at PI' RN ⊢
  go_loopw [14] (fun i wr => ∃ k : Nat, k ≤ T ∧ i = .int .i64 k ∧ Hid (PInv r L0 s w w2.heap.size T room k wr) ∧ Hid (wr.heap[w.heap.size]? = some (.cells prog0V 27))) (fun i _ => T - (intOf i).toNat)
  case atStart => exact ⟨0, by omega, rfl, PI', RN⟩
  case round =>
    obtain ⟨k, hk, rfl, hPI, hRN⟩ := hrel
    obtain ⟨vC, vM, vs, M5, t5, pv, p1, p2, p3, p4, p5, p6, p7, p8⟩ := id hPI.out
    obtain ⟨ac, nc, cc, rfl⟩ := own_shape p2
    by_cases hlt : k < T
    · have q0 := row_cell p1 0
      have hlt' : (k : Int) < T := by omega
      have hszr := p5.size
      have hpl := heap_lt p1
      have CC : Hid (Calls Tryz.prog 52 #[.pointer (some ⟨r, 0, none⟩)] wr.drew fun e w' => ∃ v, e = .returned v ∧ (∃ a n c, v = .slice a n c ∧ Hid (CodeP r M5 t5 wr (.returned v) w') ∧ Hid (Wr r wr w') ∧ w'.cell? ⟨w2.heap.size, 0, none⟩ = some (.slice ac nc cc))) := by
        refine (code_calls r M5 t5 wr.drew (p4.later (Gr.refl wr).drew) p6 p7).mono ?_
        intro e w' hc
        obtain ⟨v, n, xs, L', s', rfl, a1, a2, a3, a4, a5, a6, a7⟩ := hc
        have a2' : Wr r wr w' := (Wr.of_gr (Gr.refl wr).drew).trans a2
        obtain ⟨a, m, c, rfl⟩ := own_shape a6
        exact ⟨_, rfl, a, m, c, rfl, ⟨_, n, xs, L', s', rfl, a1, a2', a3, a4, a5, a6, a7⟩, a2', row_cell (a2'.row (by omega) p1) 0⟩
      have P2 := hide p2
      have P1 := hide p1
      have P8 := hide p8
      clear p8 p2 p1
      go_wp2_with (fail)
      go_region_law (first
        | (refine step_call rfl 52 #[.pointer (some ⟨r, 0, none⟩)] (by kernel_rfl) _ CC.out ?_; intro v w6 hc6; obtain ⟨av, nv, cv, rfl, hc6, hw6, hq6⟩ := hc6
           have O6 : Hid ((w6.alloc (.cells #[.slice av nv cv] 65)).ownsRow w.heap.size 65 1 (.slice ac nc cc) k vs) := World.ownsRow.alloc (own_kept P2.out hrlt hw6.out) _
           have hq6' := cell_later ((Gr.refl w6).alloc #[.slice av nv cv] 65) hq6
           have N6 := hide (lit_cells w6 [.slice av nv cv] 65)
           have S6 : w.heap.size ≤ (w6.alloc (.cells #[.slice av nv cv] 65)).heap.size := by have := hw6.out.size; simp; omega)
        | (refine step_append_own rfl (.tmp 17) (.tmp 20) 24 rfl w.heap.size 65 i0 (.slice none 0 0) 1 24 Tryz.underlying24 hi hz0 hz1 hz2 rfl (by decide) _ k vs rfl O6.out ⟨w6.heap.size, 0, none⟩ 1 1 [.slice av nv cv] rfl rfl N6.out (one_slice _ _ _) (by unfold maxLen; omega) (by omega) S6 ?_
           intro v' w7 hown7 hgrow7
           have k7 : Hid (Kept 65 w.heap.size w6 w7) := (Kept.of_gr ((Gr.refl w6).alloc _ _)).trans (Kept.grown O6.out hgrow7)
           have row7 := k7.out.row (show 27 ≠ 65 by decide) (hw6.out.row (show w2.heap.size ≠ r by omega) P1.out)
           have q7 := row_cell row7 0
           have z7 := row_frozen row7 0
           obtain ⟨a7, n7, c7, rfl⟩ := own_shape hown7
           have hown7' := hide hown7
           clear hown7 hgrow7 row7))
      all_goals
        have PI9 : Hid (PInv r L0 s w w2.heap.size T room (k + 1) (w7.setCell ⟨w2.heap.size, 0, none⟩ (.slice a7 n7 c7))) := pinv_step hrlt (by omega) hlt pv P1.out P2.out p3 p5 P8.out p7 hc6.out k7.out hown7'.out
        have RN9 : Hid ((w7.setCell ⟨w2.heap.size, 0, none⟩ (.slice a7 n7 c7)).heap[w.heap.size]? = some (.cells prog0V 27)) := by
          show _ = _
          rw [Below.heap_setCell _ _ _ _ (by show w.heap.size ≠ w2.heap.size; omega)]
          exact k7.out.row (by decide) (hw6.out.row (by omega) hRN.out)
        go_wp2
        go_roundw
        case rel => exact ⟨k + 1, by omega, by go_num, PI9, RN9⟩
        case measure => simp [intOf]; omega
    · obtain rfl : k = T := by omega
      have q0 := row_cell p1 0
      have q1 := row_cell p1 1
      have q2 := row_cell p1 2
      have m0 := row_cell hRN.out 0
      have m1 := row_cell hRN.out 1
      have m2 := row_cell hRN.out 2
      have y0 := row_frozen hRN.out 0
      have y1 := row_frozen hRN.out 1
      have y2 := row_frozen hRN.out 2
      have hN : w.heap.size ≤ w.heap.size := Nat.le_refl _
      have R9 := hide p4
      have W9 := hide p5
      have k9 : Hid (∀ a b c : Value, Kept 27 w.heap.size wr (((wr.setCell ⟨w.heap.size, 0, none⟩ a).setCell ⟨w.heap.size, 1, none⟩ b).setCell ⟨w.heap.size, 2, none⟩ c)) := by
        intro a b c
        have r1 := row_set hRN.out 0 a (by simp)
        have r2 := row_set r1 1 b (by simp)
        exact (Kept.setCell (o := 0) w.heap.size hRN.out hN a).trans ((Kept.setCell (o := 1) w.heap.size r1 hN b).trans (Kept.setCell (o := 2) w.heap.size r2 hN c))
      have P2 := hide p2
      have P8 := hide p8
      obtain ⟨am', nm', cm', hvm⟩ : ∃ a n c, vM = .slice a n c := pv
      subst hvm
      clear p1 p2 p4 p5 p8
      go_wp2_with (fail)
      refine bodyPost_ret (v := .agg #[.slice ac nc cc, .slice am' nm' cm', .int .i64 room]) (by simp [results, Tryz.results30, go_sem, m0, m1, m2]) rfl ?_
      have kk := k9.out (.slice ac nc cc) (.slice am' nm' cm') (.int .i64 room)
      have bel := kk.below (by have := W9.out.size; omega)
      refine ⟨_, _, room, vs, M5, t5, rfl, ⟨_, _, _, rfl⟩, ⟨_, _, _, rfl⟩, R9.out.below hrlt bel, W9.out.below bel, ?_, by omega, ?_⟩
      · rw [p3]; exact kk.own (by decide) P2.out
      · rcases P8.out with h | ⟨h1, h2, cs, q, h3, h4, h5, h6, h7, h8, h9⟩
        · exact .inl h
        · have hq := codesTo_le L0 _ k h3 cs q h4
          refine .inr ⟨h1, h2, cs, q, ?_, h5, hq.1, h6.kept kk (by decide), kk.own (by decide) h7, h8⟩
          unfold tell
          rw [if_neg (by omega), if_neg (by omega), ← h9]
          exact h4
end Go.Proofs.YthbenfnanhpcoaaGreatDoor.Cd
