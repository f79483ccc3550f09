/-
  TraceCalls' walk: of any events it answers true. No condition but that the slice's cells hold the events.
-/
import Derived.Test.YtfhplbmgjgfihaaRCls
import Derived.Test.YtfhplbmgjgfihaaAwk
namespace Go.Proofs.Ytfhplbmgjgfihaa
open Go.ChangeShapes Go.WideShapes Go.ChangeAt Go.RowKit
set_option linter.unusedVariables false
set_option maxRecDepth 20000

theorem infoP6 : (Try.prog.info? 43).map (·.size) = some 6 := by kernel_rfl
theorem alloc_p {o : Oper} {a : Act} {w : World} (ho : o.op = .alloc 43) : (execOp a.eval o).run Try.prog w = .ok (.value (.pointer (some ⟨w.heap.size, 0, none⟩))) (w.alloc (.cells (clA cl0) 43)) := by
  unfold execOp
  simp only [ho]
  go_simp
  rfl
theorem wp_store_p {o : Oper} {a : Act} {w : World} {K : Act → World → Prop} {Q : Exit → Act → World → Prop} (hd0 : o.dst = none) (x y : Operand) (ho : o.op = .store 43 x y) (g : Nat) (hx : a.eval x = .pointer (some ⟨g, 0, none⟩)) (C : Cl) (hy : a.eval y = .agg (clA C)) (D : Cl)
    (hg : Has w g (clA D) 43) (h : K a (w.setRow g (clA C))) : Oper.wp Try.prog o a w K Q :=
  wp_store_row 43 x y ho g (clA C) hx hy 43 (clA D) hg infoP6 rfl (clA_one C) (by rw [hd0]; exact h)
theorem own_rowAt {w : World} {base sz n m c : Nat} {t : TypeId} {a : Option Addr} {xs : List Value} (h : w.ownsRow base t sz (.slice a n c) m xs) : RowAt w a xs := by
  obtain ⟨a', c', hv, hr, -⟩ := own_at h
  obtain ⟨rfl, -, -⟩ := Value.slice.inj hv
  exact hr
/-- two rows of the same calls, at a place -/
theorem two_at {w : World} {a b : Option Addr} {k1 k2 : List Cl} {R : List Ca} (h1 : RowAt w a (flatOf clL k1)) (h2 : RowAt w b (flatOf clL k2)) (e1 : k1.map (·.q) = R) (e2 : k2.map (·.q) = R) {j : Nat} (hj : j < R.length) :
    ∃ (q : Ca) (ia ib : Option Addr) (ic id : Nat) (x y o p : Nat), a = some ⟨x, o, none⟩ ∧ b = some ⟨y, p, none⟩ ∧ (⟨q, ia, ic⟩ : Cl) ∈ k1 ∧ (⟨q, ib, id⟩ : Cl) ∈ k2 ∧
      (∀ i, i < 6 → w.cell? ⟨x, o + (j * 6 + i), none⟩ = (clL ⟨q, ia, ic⟩)[i]?) ∧ (∀ i, i < 6 → w.cell? ⟨y, p + (j * 6 + i), none⟩ = (clL ⟨q, ib, id⟩)[i]?) := by
  have l1 : j < k1.length := by rw [← e1, List.length_map] at hj; exact hj
  have l2 : j < k2.length := by rw [← e2, List.length_map] at hj; exact hj
  have q1 : (k1.getD j cl0).q = R.getD j ca0 := by
    rw [← e1, List.getD_eq_getElem?_getD, List.getD_eq_getElem?_getD, List.getElem?_map, List.getElem?_eq_getElem l1]; rfl
  have q2 : (k2.getD j cl0).q = R.getD j ca0 := by
    rw [← e2, List.getD_eq_getElem?_getD, List.getD_eq_getElem?_getD, List.getElem?_map, List.getElem?_eq_getElem l2]; rfl
  obtain ⟨x, o, ha, -⟩ := h1.get (by rw [flatOf_length clL_len]; omega)
  obtain ⟨y, p, hb, -⟩ := h2.get (by rw [flatOf_length clL_len]; omega)
  subst ha hb
  have m1 := mem_getD l1 cl0
  have m2 := mem_getD l2 cl0
  have c1 := fun i hi => h1.cell clL_len l1 cl0 i hi
  have c2 := fun i hi => h2.cell clL_len l2 cl0 i hi
  generalize k1.getD j cl0 = d1 at q1 m1 c1
  generalize k2.getD j cl0 = d2 at q2 m2 c2
  generalize R.getD j ca0 = q at q1 q2
  obtain ⟨z1, ia, ic⟩ := d1
  obtain ⟨z2, ib, id⟩ := d2
  simp only at q1 q2
  subst q1 q2
  exact ⟨_, ia, ib, ic, id, x, y, o, p, rfl, rfl, m1, m2, c1, c2⟩

set_option maxHeartbeats 4000000 in
theorem callsL_few (a : Option Addr) (c : Nat) (l : List Ev) (hl : ∀ x ∈ l, EvOk x) (hn : l.length ≤ 400) (w : World) (h : RowAt w a (flatOf evL l)) :
    Calls Try.prog 5 #[.slice a l.length c] w fun e w' => e = .returned (.bool true) ∧ Gr w w' := by
  have hn' : (l.length : Int) ≤ 400 := by omega
  have C1 : Hid (∀ u, Gr w u → Calls Try.prog 17 #[.slice a l.length c] u (ClsP u (refF 0 l))) := fun u g => calls_calls a c l hl (by omega) u (h.later g)
  have C2 : Hid (∀ u, Gr w u → Calls Try.prog 18 #[.slice a l.length c] u (ClsP u (refF 0 l))) := fun u g => rcalls_calls a c l hl (by omega) u (h.later g)
  have hR : (refF 0 l).length ≤ 900 := by
    have : ∀ (i : Nat) (l : List Ev), (refF i l).length ≤ l.length := by
      intro i l
      induction l generalizing i with
      | nil => simp [refF]
      | cons x l ih =>
        have := ih (i + 1)
        rw [refF_cons]
        split <;> simp <;> omega
    have := this 0 l
    omega
  have hI : ∀ q ∈ refF 0 l, q.inner.length ≤ 900 := by
    have one : ∀ (l : List Ev) (q : Ca) (i : Nat), (oneF q i l).inner.length ≤ q.inner.length + l.length := by
      intro l
      induction l with
      | nil => intro q i; simp [oneF]
      | cons x l ih =>
        intro q i
        unfold oneF
        split
        · split
          · split
            · simp
            · split
              · simp
              · have := ih q (i + 1); simp; omega
          · split
            · have := ih q (i + 1); simp; omega
            · have := ih { q with inner := q.inner ++ [(i : Int)] } (i + 1); simp at this ⊢; omega
        · have := ih q (i + 1); simp; omega
    have all : ∀ (l : List Ev) (i : Nat), ∀ q ∈ refF i l, q.inner.length ≤ l.length := by
      intro l
      induction l with
      | nil => intro i q hq; simp [refF] at hq
      | cons x l ih =>
        intro i q hq
        rw [refF_cons] at hq
        split at hq
        · rcases List.mem_cons.1 hq with rfl | hq
          · have := one l (begE x i) (i + 1); simp [begE] at this ⊢; omega
          · have := ih (i + 1) q hq; simp; omega
        · have := ih (i + 1) q hq; simp; omega
    intro q hq
    have := all l 0 q hq
    omega
  clear h
  generalize refF 0 l = R at C1 C2 hR hI
  go_enter Try.func5, Try.ntmps5
  go_wp2_with (fail)
  refine (awake_calls _).mono ?_
  rintro e w1 ⟨rfl, g1⟩
  go_wp2_with (fail)
  refine (C1.out _ g1).mono ?_
  rintro e w2 ⟨k1, a1, c1, ⟨⟨rfl, r1⟩, i1, q1⟩, g2⟩
  replace g2 := g1.trans g2
  go_wp2_with (fail)
  refine (C2.out _ g2).mono ?_
  rintro e w3 ⟨k2, a2, c2, ⟨⟨rfl, r2⟩, i2, q2⟩, g3⟩
  have n1 : k1.length = R.length := by rw [← q1, List.length_map]
  have n2 : k2.length = R.length := by rw [← q2, List.length_map]
  have R1 := hide (r1.later g3)
  have R2 := hide r2
  have I1 : Hid (∀ k ∈ k1, NumsO w3 0 (slI k) k.q.inner) := fun k hk => own_lower (own_later (i1 k hk) g3) (Nat.zero_le _)
  have I2 : Hid (∀ k ∈ k2, NumsO w3 0 (slI k) k.q.inner) := fun k hk => own_lower (i2 k hk) (Nat.zero_le _)
  have Q1 := hide q1
  have Q2 := hide q2
  have hI' : Hid (∀ k ∈ k1, k.q.inner.length ≤ 900) := fun k hk => hI _ (by rw [← Q1.out]; exact List.mem_map_of_mem hk)
  replace g3 := g2.trans g3
  rw [n1, n2]
  clear r1 r2 i1 i2 q1 q2 C1 C2 n1 n2 hI
  go_wp2_with (fail)
  go_loopw [5] (fun u wr => ∃ j : Nat, j ≤ R.length ∧ u = .int .i64 j ∧ Gr w3 wr) (fun u _ => R.length - (intOf u).toNat)
  case atStart => exact ⟨0, by omega, rfl, Gr.refl _⟩
  case round =>
    obtain ⟨j, hj, rfl, g⟩ := hrel
    by_cases hlt : j < R.length
    · have hlt' : (j : Int) < R.length := by omega
      have hj2 : ¬ (j : Int) < 0 := by omega
      obtain ⟨q, ia, ib, ic, id, x, y, o, p, ha, hb, m1, m2, ca, cb⟩ := two_at R1.out R2.out Q1.out Q2.out hlt
      subst ha hb
      have H1 := hide (I1.out _ m1)
      have H2 := hide (I2.out _ m2)
      have hql := hI'.out _ m1
      simp only at hql
      have CA : Hid (∀ u, Gr w3 u → (u.cell? ⟨x, o + j * 6, none⟩ = some (.int .i64 q.site) ∧ u.cell? ⟨x, o + j * 6 + 1, none⟩ = some (.int .i64 q.who) ∧ u.cell? ⟨x, o + j * 6 + 2, none⟩ = some (.int .i64 q.began) ∧ u.cell? ⟨x, o + j * 6 + 3, none⟩ = some (.int .i64 q.ended) ∧ u.cell? ⟨x, o + j * 6 + 4, none⟩ = some (.int .u32 q.result) ∧ u.cell? ⟨x, o + j * 6 + 5, none⟩ = some (.slice ia q.inner.length ic))) := fun u gu => by
        have z : ∀ k, u.cell? ⟨x, k, none⟩ = w3.cell? ⟨x, k, none⟩ := fun k => Below.cell gu (show x < w3.heap.size from block_lt_of_cell (a := ⟨x, o + (j * 6 + 0), none⟩) (ca 0 (by omega)))
        simp only [z]
        exact ⟨ca 0 (by omega), ca 1 (by omega), ca 2 (by omega), ca 3 (by omega), ca 4 (by omega), ca 5 (by omega)⟩
      have CB : Hid (∀ u, Gr w3 u → (u.cell? ⟨y, p + j * 6, none⟩ = some (.int .i64 q.site) ∧ u.cell? ⟨y, p + j * 6 + 1, none⟩ = some (.int .i64 q.who) ∧ u.cell? ⟨y, p + j * 6 + 2, none⟩ = some (.int .i64 q.began) ∧ u.cell? ⟨y, p + j * 6 + 3, none⟩ = some (.int .i64 q.ended) ∧ u.cell? ⟨y, p + j * 6 + 4, none⟩ = some (.int .u32 q.result) ∧ u.cell? ⟨y, p + j * 6 + 5, none⟩ = some (.slice ib q.inner.length id))) := fun u gu => by
        have z : ∀ k, u.cell? ⟨y, k, none⟩ = w3.cell? ⟨y, k, none⟩ := fun k => Below.cell gu (show y < w3.heap.size from block_lt_of_cell (a := ⟨y, p + (j * 6 + 0), none⟩) (cb 0 (by omega)))
        simp only [z]
        exact ⟨cb 0 (by omega), cb 1 (by omega), cb 2 (by omega), cb 3 (by omega), cb 4 (by omega), cb 5 (by omega)⟩
      clear ca cb m1 m2
      go_wp2_with (fail)
      refine begin_late 12 [11] (fun w' => Gr wr.drew w') (by kernel_rfl) rfl ?_
      have hH : Gr wr.drew wr.drew := Gr.refl _
      refine AnyL.takeP 0 (some 32) (.slice (some ⟨x, o, none⟩) R.length c1) rfl rfl (by kernel_rfl) (by kernel_rfl) (by kernel_rfl) (by kernel_rfl) (fun _ _ _ h => h) (by kernel_rfl) (fun w' => by go_simp) (fun _ => hH) ?_
      simp only [Act.put, List.setIfInBounds_toArray, List.set_cons_zero, List.set_cons_succ]
      refine AnyL.takeP 1 (some 33) (.int .i64 j) rfl rfl (by kernel_rfl) (by kernel_rfl) (by kernel_rfl) (by kernel_rfl) (fun _ _ _ h => h) (by kernel_rfl) (fun w' => by go_simp) (fun _ => hH) ?_
      simp only [Act.put, List.setIfInBounds_toArray, List.set_cons_zero, List.set_cons_succ]
      refine AnyL.takeP 2 (some 34) (.pointer (some ⟨x, o + j * 6, none⟩)) rfl rfl (by kernel_rfl) (by kernel_rfl) (by kernel_rfl) (by kernel_rfl) (fun _ _ _ h => h) (by kernel_rfl) (fun w' => by go_simp) (fun _ => hH) ?_
      simp only [Act.put, List.setIfInBounds_toArray, List.set_cons_zero, List.set_cons_succ]
      refine AnyL.take 3 (some 35) (.agg (clA ⟨q, ia, ic⟩)) rfl rfl (by kernel_rfl) (by kernel_rfl) (by kernel_rfl) (by kernel_rfl) (fun _ _ _ h => h) (yields_held _ (by kernel_rfl) (fun w' hw' => by obtain ⟨z0, z1, z2, z3, z4, z5⟩ := CA.out _ (g.drew.trans hw'); go_simp)) hH ?_
      simp only [Act.put, List.setIfInBounds_toArray, List.set_cons_zero, List.set_cons_succ]
      refine AnyL.takeP 4 (some 36) (.slice (some ⟨y, p, none⟩) R.length c2) rfl rfl (by kernel_rfl) (by kernel_rfl) (by kernel_rfl) (by kernel_rfl) (fun _ _ _ h => h) (by kernel_rfl) (fun w' => by go_simp) (fun _ => hH) ?_
      simp only [Act.put, List.setIfInBounds_toArray, List.set_cons_zero, List.set_cons_succ]
      refine AnyL.takeP 5 (some 37) (.int .i64 j) rfl rfl (by kernel_rfl) (by kernel_rfl) (by kernel_rfl) (by kernel_rfl) (fun _ _ _ h => h) (by kernel_rfl) (fun w' => by go_simp) (fun _ => hH) ?_
      simp only [Act.put, List.setIfInBounds_toArray, List.set_cons_zero, List.set_cons_succ]
      refine AnyL.takeP 6 (some 38) (.pointer (some ⟨y, p + j * 6, none⟩)) rfl rfl (by kernel_rfl) (by kernel_rfl) (by kernel_rfl) (by kernel_rfl) (fun _ _ _ h => h) (by kernel_rfl) (fun w' => by go_simp) (fun _ => hH) ?_
      simp only [Act.put, List.setIfInBounds_toArray, List.set_cons_zero, List.set_cons_succ]
      refine AnyL.take 7 (some 39) (.agg (clA ⟨q, ib, id⟩)) rfl rfl (by kernel_rfl) (by kernel_rfl) (by kernel_rfl) (by kernel_rfl) (fun _ _ _ h => h) (yields_held _ (by kernel_rfl) (fun w' hw' => by obtain ⟨z0, z1, z2, z3, z4, z5⟩ := CB.out _ (g.drew.trans hw'); go_simp)) hH ?_
      simp only [Act.put, List.setIfInBounds_toArray, List.set_cons_zero, List.set_cons_succ]
      refine AnyL.two 8 9 (by kernel_rfl) rfl rfl (by kernel_rfl) ?_ ?_
      refine wp_made (some 6) rfl _ _ (alloc_p rfl) ?_
      have h1 := Has.new wr.drew (clA cl0) 43
      replace hH := hH.alloc (clA cl0) 43
      refine ⟨fun _ => hH, ?_⟩
      have z1 : wr.drew.heap.size ≤ wr.drew.heap.size := Nat.le_refl _
      generalize wr.drew.alloc (.cells (clA cl0) 43) = w5 at h1 hH ⊢
      simp only [Act.put, List.setIfInBounds_toArray, List.set_cons_zero, List.set_cons_succ]
      refine AnyL.one 9 (by kernel_rfl) rfl (by kernel_rfl) ?_
      refine wp_made (some 7) rfl _ _ (alloc_r rfl) ?_
      have h2 := Has.new w5 (clA cl0) 44
      have z2 := hH.size
      replace hH := hH.alloc (clA cl0) 44
      replace h1 := h1.alloc (clA cl0) 44
      refine ⟨fun _ => hH, ?_⟩
      generalize w5.alloc (.cells (clA cl0) 44) = w6 at h1 h2 hH ⊢
      have z3 : wr.heap.size ≤ w5.heap.size := z2
      have z4 : wr.heap.size ≤ wr.drew.heap.size := z1
      generalize wr.drew.heap.size = n1 at h1 z4 ⊢
      generalize w5.heap.size = n2 at h2 z3 ⊢
      clear z1 z2
      rotate_left
      refine wp_made (some 7) rfl _ _ (alloc_r rfl) ?_
      have h2 := Has.new wr.drew (clA cl0) 44
      replace hH := hH.alloc (clA cl0) 44
      refine ⟨fun _ => hH, ?_⟩
      have z1 : wr.drew.heap.size ≤ wr.drew.heap.size := Nat.le_refl _
      generalize wr.drew.alloc (.cells (clA cl0) 44) = w5 at h2 hH ⊢
      simp only [Act.put, List.setIfInBounds_toArray, List.set_cons_zero, List.set_cons_succ]
      refine AnyL.one 8 (by kernel_rfl) rfl (by kernel_rfl) ?_
      refine wp_made (some 6) rfl _ _ (alloc_p rfl) ?_
      have h1 := Has.new w5 (clA cl0) 43
      have z2 := hH.size
      replace hH := hH.alloc (clA cl0) 43
      replace h2 := h2.alloc (clA cl0) 43
      refine ⟨fun _ => hH, ?_⟩
      generalize w5.alloc (.cells (clA cl0) 43) = w6 at h1 h2 hH ⊢
      have z3 : wr.heap.size ≤ wr.drew.heap.size := z1
      have z4 : wr.heap.size ≤ w5.heap.size := z2
      generalize wr.drew.heap.size = n2 at h2 z3 ⊢
      generalize w5.heap.size = n1 at h1 z4 ⊢
      clear z1 z2
      rotate_left
      all_goals
        (simp only [Act.put, List.setIfInBounds_toArray, List.set_cons_zero, List.set_cons_succ]
         refine AnyL.one 10 (by kernel_rfl) rfl (by kernel_rfl) ?_
         refine wp_store_p rfl _ _ rfl n1 (by kernel_rfl) ⟨q, ia, ic⟩ (by kernel_rfl) cl0 h1 ?_
         replace hH := hH.setRow (show wr.drew.heap.size ≤ n1 from z4) (clA ⟨q, ia, ic⟩)
         refine ⟨fun _ => hH, ?_⟩
         have hne : n2 ≠ n1 := fun z => (h2.apart h1 (by decide)) z
         replace h1 := h1.row (clA ⟨q, ia, ic⟩)
         replace h2 := h2.rowAside hne (clA ⟨q, ia, ic⟩)
         generalize w6.setRow n1 (clA ⟨q, ia, ic⟩) = w7 at h1 h2 hH ⊢
         refine AnyL.one 11 (by kernel_rfl) rfl (by kernel_rfl) ?_
         refine wp_store_r rfl _ _ rfl n2 (by kernel_rfl) ⟨q, ib, id⟩ (by kernel_rfl) cl0 h2 ?_
         refine ⟨late (by kernel_rfl), ?_⟩
         refine AnyL.done (by kernel_rfl) ?_
         replace hH := hH.setRow (show wr.drew.heap.size ≤ n2 from z3) (clA ⟨q, ib, id⟩)
         replace h1 := h1.rowAside hne.symm (clA ⟨q, ib, id⟩)
         replace h2 := h2.row (clA ⟨q, ib, id⟩)
         generalize w7.setRow n2 (clA ⟨q, ib, id⟩) = w8 at h1 h2 hH ⊢
         have g8 := g.drew.trans hH
         have A0 := h1.cell (o := 0) (v := .int .i64 q.site) rfl
         have A1 := h1.cell (o := 1) (v := .int .i64 q.who) rfl
         have A2 := h1.cell (o := 2) (v := .int .i64 q.began) rfl
         have A3 := h1.cell (o := 3) (v := .int .i64 q.ended) rfl
         have A4 := h1.cell (o := 4) (v := .int .u32 q.result) rfl
         have A5 := h1.cell (o := 5) (v := .slice ia q.inner.length ic) rfl
         have B0 := h2.cell (o := 0) (v := .int .i64 q.site) rfl
         have B1 := h2.cell (o := 1) (v := .int .i64 q.who) rfl
         have B2 := h2.cell (o := 2) (v := .int .i64 q.began) rfl
         have B3 := h2.cell (o := 3) (v := .int .i64 q.ended) rfl
         have B4 := h2.cell (o := 4) (v := .int .u32 q.result) rfl
         have B5 := h2.cell (o := 5) (v := .slice ib q.inner.length id) rfl
         have E1 := hide h1
         have E2 := hide h2
         have G8 := hide g8
         clear hH h1 h2 g8 g hne z3 z4
         go_wp2_with (fail)
         clear A0 A1 A2 A3 A4 A5 B0 B1 B2 B3 B4 B5
         go_loopw [8] (fun u wr => ∃ m : Nat, m ≤ q.inner.length ∧ u = .int .i64 m ∧ Gr w8 wr) (fun u _ => q.inner.length - (intOf u).toNat)
         case atStart => exact ⟨0, by omega, rfl, Gr.refl _⟩
         case round =>
           obtain ⟨m, hm, rfl, gq⟩ := hrel
           have A5 := (E1.out.later gq).cell (o := 5) (v := .slice ia q.inner.length ic) rfl
           by_cases hmt : m < q.inner.length
           · have hmt' : (m : Int) < q.inner.length := by omega
             have hm2 : ¬ (m : Int) < 0 := by omega
             have gw := G8.out.trans gq
             have i1 := own_rowAt (own_later H1.out gw)
             have i2 := own_rowAt (own_later H2.out gw)
             simp only at i1 i2
             obtain ⟨xa, oa, rfl, -⟩ := i1.get (by rw [flatOf_length numL_len]; omega)
             obtain ⟨xb, ob', rfl, -⟩ := i2.get (by rw [flatOf_length numL_len]; omega)
             have ca := i1.cell numL_len hmt 0 0 (by omega)
             have cb := i2.cell numL_len hmt 0 0 (by omega)
             generalize q.inner.getD m 0 = v at ca cb
             simp only [numL, List.getElem?_cons_zero, Nat.add_zero, Nat.mul_one] at ca cb
             have A6 : wr.drew.cell? ⟨n1, 5, none⟩ = some (.slice (some ⟨xa, oa, none⟩) q.inner.length ic) := A5
             have B6 : wr.drew.cell? ⟨n2, 5, none⟩ = some (.slice (some ⟨xb, ob', none⟩) q.inner.length id) := (E2.out.later gq).cell (o := 5) rfl
             have ca' : wr.drew.cell? ⟨xa, oa + m, none⟩ = some (.int .i64 v) := ca
             have cb' : wr.drew.cell? ⟨xb, ob' + m, none⟩ = some (.int .i64 v) := cb
             go_wp2_with (fail)
             clear A5 ca cb
             refine begin_late 11 [] (fun w' => w' = wr.drew) (by kernel_rfl) rfl ?_
             have hH : wr.drew = wr.drew := rfl
             refine AnyL.takeP 0 (some 89) (.pointer (some ⟨n1, 5, none⟩)) rfl rfl (by kernel_rfl) (by kernel_rfl) (by kernel_rfl) (by kernel_rfl) (fun _ _ _ h => h) (by kernel_rfl) (fun w' => by go_simp) (fun _ => hH) ?_
             simp only [Act.put, List.setIfInBounds_toArray, List.set_cons_zero, List.set_cons_succ]
             refine AnyL.take 1 (some 90) (.slice (some ⟨xa, oa, none⟩) q.inner.length ic) rfl rfl (by kernel_rfl) (by kernel_rfl) (by kernel_rfl) (by kernel_rfl) (fun _ _ _ h => h) (yields_held _ (by kernel_rfl) (fun w' hw' => by subst hw'; go_simp)) hH ?_
             simp only [Act.put, List.setIfInBounds_toArray, List.set_cons_zero, List.set_cons_succ]
             refine AnyL.takeP 2 (some 91) (.int .i64 m) rfl rfl (by kernel_rfl) (by kernel_rfl) (by kernel_rfl) (by kernel_rfl) (fun _ _ _ h => h) (by kernel_rfl) (fun w' => by go_simp) (fun _ => hH) ?_
             simp only [Act.put, List.setIfInBounds_toArray, List.set_cons_zero, List.set_cons_succ]
             refine AnyL.takeP 3 (some 92) (.pointer (some ⟨xa, oa + m, none⟩)) rfl rfl (by kernel_rfl) (by kernel_rfl) (by kernel_rfl) (by kernel_rfl) (fun _ _ _ h => h) (by kernel_rfl) (fun w' => by go_simp) (fun _ => hH) ?_
             simp only [Act.put, List.setIfInBounds_toArray, List.set_cons_zero, List.set_cons_succ]
             refine AnyL.take 4 (some 93) (.int .i64 v) rfl rfl (by kernel_rfl) (by kernel_rfl) (by kernel_rfl) (by kernel_rfl) (fun _ _ _ h => h) (yields_held _ (by kernel_rfl) (fun w' hw' => by subst hw'; go_simp)) hH ?_
             simp only [Act.put, List.setIfInBounds_toArray, List.set_cons_zero, List.set_cons_succ]
             refine AnyL.takeP 5 (some 94) (.pointer (some ⟨n2, 5, none⟩)) rfl rfl (by kernel_rfl) (by kernel_rfl) (by kernel_rfl) (by kernel_rfl) (fun _ _ _ h => h) (by kernel_rfl) (fun w' => by go_simp) (fun _ => hH) ?_
             simp only [Act.put, List.setIfInBounds_toArray, List.set_cons_zero, List.set_cons_succ]
             refine AnyL.take 6 (some 95) (.slice (some ⟨xb, ob', none⟩) q.inner.length id) rfl rfl (by kernel_rfl) (by kernel_rfl) (by kernel_rfl) (by kernel_rfl) (fun _ _ _ h => h) (yields_held _ (by kernel_rfl) (fun w' hw' => by subst hw'; go_simp)) hH ?_
             simp only [Act.put, List.setIfInBounds_toArray, List.set_cons_zero, List.set_cons_succ]
             refine AnyL.takeP 7 (some 96) (.int .i64 m) rfl rfl (by kernel_rfl) (by kernel_rfl) (by kernel_rfl) (by kernel_rfl) (fun _ _ _ h => h) (by kernel_rfl) (fun w' => by go_simp) (fun _ => hH) ?_
             simp only [Act.put, List.setIfInBounds_toArray, List.set_cons_zero, List.set_cons_succ]
             refine AnyL.takeP 8 (some 97) (.pointer (some ⟨xb, ob' + m, none⟩)) rfl rfl (by kernel_rfl) (by kernel_rfl) (by kernel_rfl) (by kernel_rfl) (fun _ _ _ h => h) (by kernel_rfl) (fun w' => by go_simp) (fun _ => hH) ?_
             simp only [Act.put, List.setIfInBounds_toArray, List.set_cons_zero, List.set_cons_succ]
             refine AnyL.take 9 (some 98) (.int .i64 v) rfl rfl (by kernel_rfl) (by kernel_rfl) (by kernel_rfl) (by kernel_rfl) (fun _ _ _ h => h) (yields_held _ (by kernel_rfl) (fun w' hw' => by subst hw'; go_simp)) hH ?_
             simp only [Act.put, List.setIfInBounds_toArray, List.set_cons_zero, List.set_cons_succ]
             refine AnyL.takeP 10 (some 99) (.bool false) rfl rfl (by kernel_rfl) (by kernel_rfl) (by kernel_rfl) (by kernel_rfl) (fun _ _ _ h => h) (by kernel_rfl) (fun w' => by go_simp) (fun _ => hH) ?_
             simp only [Act.put, List.setIfInBounds_toArray, List.set_cons_zero, List.set_cons_succ]
             refine AnyL.done (by kernel_rfl) ?_
             clear A6 B6 ca' cb' hH
             go_wp2_with (fail)
             exact ⟨⟨m + 1, by omega, by go_num, gq.drew⟩, by simp [intOf]; omega⟩
           · obtain rfl : m = q.inner.length := by omega
             go_wp2_with (fail)
             exact ⟨⟨j + 1, by omega, by go_num, G8.out.trans gq⟩, by simp [intOf]; omega⟩)
    · obtain rfl : j = R.length := by omega
      go_wp2_with (fail)
      go_ret
      exact ⟨rfl, g3.trans g⟩
set_option maxHeartbeats 1000000 in
theorem callsL_many (ad : Option Addr) (cap : Nat) (n : Nat) (hn : 400 < n) (hm : n ≤ maxLen) (w : World) :
    Calls Try.prog 5 #[.slice ad n cap] w fun e w' => e = .returned (.bool true) ∧ Gr w w' := by
  unfold maxLen at hm
  go_enter Try.func5, Try.ntmps5
  go_wp2_with (fail)
  refine (awake_calls _).mono ?_
  rintro e w1 ⟨rfl, g1⟩
  go_wp2_with (fail)
  refine (awake_calls _).mono ?_
  rintro e w2 ⟨rfl, g2⟩
  go_wp2_with (fail)
  go_ret
  exact ⟨rfl, g1.trans g2⟩
end Go.Proofs.Ytfhplbmgjgfihaa
