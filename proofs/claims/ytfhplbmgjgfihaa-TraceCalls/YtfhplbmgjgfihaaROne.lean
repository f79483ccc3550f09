/-
  The document's call that begins at a place, of any events. No condition but that the slice's cells hold the events, and that there is the place.
-/
import Derived.Test.YtfhplbmgjgfihaaCPur
import Derived.Test.YtfhplbmgjgfihaaHear
import Derived.Deep.CutRange
namespace Go.Proofs.Ytfhplbmgjgfihaa
open Go.ChangeShapes Go.WideShapes Go.ChangeAt Go.RowKit
set_option linter.unusedVariables false
set_option maxRecDepth 20000

theorem infoR6 : (Try.prog.info? 44).map (·.size) = some 6 := by kernel_rfl
theorem infoR : (Try.prog.info? 44).map (fun i => (i.zero, i.size, i.bytes)) = some (some (.agg #[.int .i64 0, .int .i64 0, .int .i64 0, .int .i64 0, .int .u32 0, .slice none 0 0]), 6, 64) := by kernel_rfl
theorem clA_one (c : Cl) : (clA c).all (·.oneCell') = true := all_oneCell_toArray (clL_one c)
theorem alloc_r {o : Oper} {a : Act} {w : World} (ho : o.op = .alloc 44) : (execOp a.eval o).run Try.prog w = .ok (.value (.pointer (some ⟨w.heap.size, 0, none⟩))) (w.alloc (.cells (clA cl0) 44)) := by
  unfold execOp
  simp only [ho]
  go_simp
  rfl
theorem wp_store_r {o : Oper} {a : Act} {w : World} {K : Act → World → Prop} {Q : Exit → Act → World → Prop} (hd0 : o.dst = none) (x y : Operand) (ho : o.op = .store 44 x y) (g : Nat) (hx : a.eval x = .pointer (some ⟨g, 0, none⟩)) (C : Cl) (hy : a.eval y = .agg (clA C)) (D : Cl)
    (hg : Has w g (clA D) 44) (h : K a (w.setRow g (clA C))) : Oper.wp Try.prog o a w K Q :=
  wp_store_row 44 x y ho g (clA C) hx hy 44 (clA D) hg infoR6 rfl (clA_one C) (by rw [hd0]; exact h)
theorem store_r {ops : Array Oper} {rest : List Oper} {op : Oper} {a : Act} {w : World} {Q : Exit → Act → World → Prop} (hgd : op.guard = none) (x y : Operand) (ho : op.op = .store 44 x y) (g : Nat) (hx : a.eval x = .pointer (some ⟨g, 0, none⟩)) (C : Cl) (hy : a.eval y = .agg (clA C)) (D : Cl)
    (hg : Has w g (clA D) 44) (h : wpList Try.prog ops Q rest (a.put op.dst undef) (w.setRow g (clA C))) : wpList Try.prog ops Q (op :: rest) a w :=
  wpList_store_row hgd 44 x y ho g (clA C) hx hy 44 (clA D) hg infoR6 rfl (clA_one C) h
theorem load_r {ops : Array Oper} {rest : List Oper} {op : Oper} {a : Act} {w : World} {Q : Exit → Act → World → Prop} (hgd : op.guard = none) (x : Operand) (ho : op.op = .load 44 x) (g : Nat) (hx : a.eval x = .pointer (some ⟨g, 0, none⟩)) (C : Cl)
    (hg : Has w g (clA C) 44) (h : wpList Try.prog ops Q rest (a.put op.dst (.agg (clA C))) w) : wpList Try.prog ops Q (op :: rest) a w :=
  wpList_load_row hgd 44 x ho g hx 44 (clA C) (0, 0) _ hg Try.underlying44 rfl infoR6 h
theorem results_r {fn : Func} {p : Tmp} (h : fn.results = #[.cell p 44]) (tmps : Array Value) (w : World) (g : Nat) (C : Cl) (hp : tmps.getD p undef = .pointer (some ⟨g, 0, none⟩)) (hg : Has w g (clA C) 44) :
    (results fn tmps).run Try.prog w = .ok (.agg (clA C)) w :=
  results_cell_row h tmps w g 44 (clA C) (0, 0) _ hp hg Try.underlying44 rfl infoR6

theorem half_facts {k : Int} (h0 : 0 ≤ k) (h1 : k < 4294967296) : IntKind.u32.wrap (k.tdiv 2) = k / 2 ∧ IntKind.i64.wrap (k / 2) = k / 2 := by
  rw [Int.tdiv_eq_ediv_of_nonneg h0]
  constructor
  · simp [IntKind.wrap, IntKind.bits, IntKind.signed]; omega
  · simp [IntKind.wrap, IntKind.bits, IntKind.signed]; omega
theorem drop_getD {l : List Ev} {j : Nat} (h : j < l.length) : l.drop j = l.getD j ev0 :: l.drop (j + 1) := by
  rw [List.drop_eq_getElem_cons h, List.getD_eq_getElem?_getD, List.getElem?_eq_getElem h]
  rfl
/-- a call that is answered -/
def OneP (w : World) (q : Ca) (r : Ending) (w' : World) : Prop :=
  ∃ c : Cl, (r = .returned (.agg (clA c)) ∧ NumsO w' w.heap.size (slI c) c.q.inner) ∧ (c.q = q ∧ Gr w w')

set_option maxHeartbeats 4000000 in
theorem one_calls (a : Option Addr) (c : Nat) (l : List Ev) (hl : ∀ x ∈ l, EvOk x) (hn : l.length ≤ 900) (i0 : Nat) (hi : i0 < l.length) (w : World) (h : RowAt w a (flatOf evL l)) :
    Calls Try.prog 24 #[.slice a l.length c, .int .i64 i0] w (OneP w (oneF (begE (l.getD i0 ev0) i0) (i0 + 1) (l.drop (i0 + 1)))) := by
  have HH := hide h
  have g0 := (Gr.refl w).alloc (clA cl0) 44
  have hr0 := Has.new w (clA cl0) 44
  clear h
  obtain ⟨R, hR⟩ : ∃ R, oneF (begE (l.getD i0 ev0) i0) (i0 + 1) (l.drop (i0 + 1)) = R := ⟨_, rfl⟩
  rw [hR]
  obtain ⟨x0, hx0, hk0⟩ : ∃ x0, l.getD i0 ev0 = x0 ∧ EvOk x0 := ⟨_, rfl, hl _ (mem_getD hi ev0)⟩
  have X0 := hide hx0
  rw [hx0] at hR
  have HR := hide hR
  clear hR hx0
  have hi0 : ¬ (i0 : Int) < 0 := by omega
  have hi1 : (i0 : Int) < l.length := by omega
  obtain ⟨hk1, hk2⟩ := hk0
  obtain ⟨wk1, wk2⟩ := half_facts hk1 hk2
  go_enter Try.func24, Try.ntmps24
  go_upto_region 1 with (fail)
  change Code.wp _ _ _ _ (w.alloc (.cells (clA cl0) 44))
  have hs1 : (w.alloc (.cells (clA cl0) 44)).heap.size = w.heap.size + 1 := by simp
  generalize w.alloc (.cells (clA cl0) 44) = w1 at g0 hr0 hs1 ⊢
  obtain ⟨b, off, had, -⟩ := (HH.out.later g0).get (by rw [flatOf_length evL_len]; omega)
  subst had
  have cx : ∀ u, Gr w1 u → u.cell? ⟨b, off + (i0 * 8 + 6), none⟩ = some (.int .u32 x0.k) ∧ u.cell? ⟨b, off + (i0 * 8 + 1), none⟩ = some (.int .i64 x0.who) := fun u g => by
    have r := HH.out.later (g0.trans g)
    have q6 := r.cell evL_len hi ev0 6 (by omega)
    have q1 := r.cell evL_len hi ev0 1 (by omega)
    rw [X0.out] at q6 q1
    exact ⟨q6, q1⟩
  simp only [← Nat.add_assoc] at cx
  refine begin_late 16 [15] (fun w' => Gr w1 w') (by kernel_rfl) rfl ?_
  have hH : Gr w1 w1.drew := (Gr.refl w1).drew
  refine AnyL.takeP 0 (some 7) (.slice (some ⟨b, off, none⟩) l.length c) rfl rfl (by kernel_rfl) (by kernel_rfl) (by kernel_rfl) (by kernel_rfl) (fun _ _ _ h => h) (by kernel_rfl) (fun w' => by go_simp) (fun _ => hH) ?_
  simp only [Act.put, List.setIfInBounds_toArray, List.set_cons_zero, List.set_cons_succ]
  refine AnyL.takeP 1 (some 8) (.int .i64 i0) rfl rfl (by kernel_rfl) (by kernel_rfl) (by kernel_rfl) (by kernel_rfl) (fun _ _ _ h => h) (by kernel_rfl) (fun w' => by go_simp) (fun _ => hH) ?_
  simp only [Act.put, List.setIfInBounds_toArray, List.set_cons_zero, List.set_cons_succ]
  refine AnyL.takeP 2 (some 9) (.pointer (some ⟨b, off + i0 * 8, none⟩)) rfl rfl (by kernel_rfl) (by kernel_rfl) (by kernel_rfl) (by kernel_rfl) (fun _ _ _ h => h) (by kernel_rfl) (fun w' => by go_simp) (fun _ => hH) ?_
  simp only [Act.put, List.setIfInBounds_toArray, List.set_cons_zero, List.set_cons_succ]
  refine AnyL.takeP 3 (some 10) (.pointer (some ⟨b, off + i0 * 8 + 6, none⟩)) rfl rfl (by kernel_rfl) (by kernel_rfl) (by kernel_rfl) (by kernel_rfl) (fun _ _ _ h => h) (by kernel_rfl) (fun w' => by go_simp) (fun _ => hH) ?_
  simp only [Act.put, List.setIfInBounds_toArray, List.set_cons_zero, List.set_cons_succ]
  refine AnyL.take 4 (some 11) (.int .u32 x0.k) rfl rfl (by kernel_rfl) (by kernel_rfl) (by kernel_rfl) (by kernel_rfl) (fun _ _ _ h => h) (yields_held _ (by kernel_rfl) (fun w' hw' => by obtain ⟨c6, -⟩ := cx _ hw'; clear cx; go_simp)) hH ?_
  simp only [Act.put, List.setIfInBounds_toArray, List.set_cons_zero, List.set_cons_succ]
  refine AnyL.takeP 5 (some 12) (.int .u32 (x0.k / 2)) rfl rfl (by kernel_rfl) (by kernel_rfl) (by kernel_rfl) (by kernel_rfl) (fun _ _ _ h => h) (by kernel_rfl) (fun w' => by go_simp) (fun _ => hH) ?_
  simp only [Act.put, List.setIfInBounds_toArray, List.set_cons_zero, List.set_cons_succ]
  refine AnyL.takeP 6 (some 13) (.int .i64 (x0.k / 2)) rfl rfl (by kernel_rfl) (by kernel_rfl) (by kernel_rfl) (by kernel_rfl) (fun _ _ _ h => h) (by kernel_rfl) (fun w' => by go_simp) (fun _ => hH) ?_
  simp only [Act.put, List.setIfInBounds_toArray, List.set_cons_zero, List.set_cons_succ]
  refine AnyL.takeP 7 (some 14) (.slice (some ⟨b, off, none⟩) l.length c) rfl rfl (by kernel_rfl) (by kernel_rfl) (by kernel_rfl) (by kernel_rfl) (fun _ _ _ h => h) (by kernel_rfl) (fun w' => by go_simp) (fun _ => hH) ?_
  simp only [Act.put, List.setIfInBounds_toArray, List.set_cons_zero, List.set_cons_succ]
  refine AnyL.takeP 8 (some 15) (.int .i64 i0) rfl rfl (by kernel_rfl) (by kernel_rfl) (by kernel_rfl) (by kernel_rfl) (fun _ _ _ h => h) (by kernel_rfl) (fun w' => by go_simp) (fun _ => hH) ?_
  simp only [Act.put, List.setIfInBounds_toArray, List.set_cons_zero, List.set_cons_succ]
  refine AnyL.takeP 9 (some 16) (.pointer (some ⟨b, off + i0 * 8, none⟩)) rfl rfl (by kernel_rfl) (by kernel_rfl) (by kernel_rfl) (by kernel_rfl) (fun _ _ _ h => h) (by kernel_rfl) (fun w' => by go_simp) (fun _ => hH) ?_
  simp only [Act.put, List.setIfInBounds_toArray, List.set_cons_zero, List.set_cons_succ]
  refine AnyL.takeP 10 (some 17) (.pointer (some ⟨b, off + i0 * 8 + 1, none⟩)) rfl rfl (by kernel_rfl) (by kernel_rfl) (by kernel_rfl) (by kernel_rfl) (fun _ _ _ h => h) (by kernel_rfl) (fun w' => by go_simp) (fun _ => hH) ?_
  simp only [Act.put, List.setIfInBounds_toArray, List.set_cons_zero, List.set_cons_succ]
  refine AnyL.take 11 (some 18) (.int .i64 x0.who) rfl rfl (by kernel_rfl) (by kernel_rfl) (by kernel_rfl) (by kernel_rfl) (fun _ _ _ h => h) (yields_held _ (by kernel_rfl) (fun w' hw' => by obtain ⟨-, c1⟩ := cx _ hw'; clear cx; go_simp)) hH ?_
  simp only [Act.put, List.setIfInBounds_toArray, List.set_cons_zero, List.set_cons_succ]
  refine AnyL.takeP 12 (some 19) (.int .i64 i0) rfl rfl (by kernel_rfl) (by kernel_rfl) (by kernel_rfl) (by kernel_rfl) (fun _ _ _ h => h) (by kernel_rfl) (fun w' => by go_simp) (fun _ => hH) ?_
  simp only [Act.put, List.setIfInBounds_toArray, List.set_cons_zero, List.set_cons_succ]
  refine AnyL.takeP 13 (some 20) (.agg #[.int .i64 (x0.k / 2), .int .i64 x0.who, .int .i64 i0, .int .i64 (-1), .int .u32 0, .slice none 0 0]) rfl rfl (by kernel_rfl) (by kernel_rfl) (by kernel_rfl) (by kernel_rfl) (fun _ _ _ h => h) (by kernel_rfl) (fun w' => by go_simp) (fun _ => hH) ?_
  simp only [Act.put, List.setIfInBounds_toArray, List.set_cons_zero, List.set_cons_succ]
  refine AnyL.one 14 (by kernel_rfl) rfl (by kernel_rfl) ?_
  refine wp_made (some 5) rfl _ _ (alloc_r rfl) ?_
  have hb := Has.new w1.drew (clA cl0) 44
  replace hH := hH.alloc (clA cl0) 44
  have hre := hr0.later hH
  have he : w1.drew.heap.size = w.heap.size + 1 := hs1
  rw [he] at hb
  refine ⟨fun _ => hH, ?_⟩
  simp only [Act.put, List.setIfInBounds_toArray, List.set_cons_zero, List.set_cons_succ, he]
  generalize w1.drew.alloc (.cells (clA cl0) 44) = w2 at hb hH hre ⊢
  refine AnyL.one 15 (by kernel_rfl) rfl (by kernel_rfl) ?_
  refine wp_store_r rfl _ _ rfl (w.heap.size + 1) (by kernel_rfl) ⟨begE x0 i0, none, 0⟩ (by kernel_rfl) cl0 hb ?_
  refine ⟨late (by kernel_rfl), ?_⟩
  refine AnyL.done (by kernel_rfl) ?_
  have hb3 := hb.row (clA ⟨begE x0 i0, none, 0⟩)
  have hr3 := hre.rowAside (show w.heap.size ≠ w.heap.size + 1 by omega) (clA ⟨begE x0 i0, none, 0⟩)
  have g3 := (g0.trans hH).setRow (show w.heap.size ≤ w.heap.size + 1 by omega) (clA ⟨begE x0 i0, none, 0⟩)
  generalize w2.setRow (w.heap.size + 1) (clA ⟨begE x0 i0, none, 0⟩) = w3 at hb3 hr3 g3 ⊢
  clear cx hb hH hre he hs1 g0 hr0
  go_wp2_with (fail)
  go_loopw [6] (fun u wr => ∃ (j : Nat) (d : Cl), i0 + 1 ≤ j ∧ j ≤ l.length ∧ u = .int .i64 j ∧ Has wr (w.heap.size + 1) (clA d) 44 ∧ Has wr w.heap.size (clA cl0) 44 ∧ NumsO wr (w.heap.size + 2) (slI d) d.q.inner ∧ Hid (oneF d.q j (l.drop j) = R) ∧ d.q.inner.length ≤ j ∧ Gr w wr) (fun u _ => l.length - (intOf u).toNat)
  case atStart => exact ⟨i0 + 1, ⟨begE x0 i0, none, 0⟩, by omega, by omega, by go_num, hb3, hr3, own_nil _ _ _ _, HR.out, Nat.zero_le _, g3⟩
  case round =>
    clear hb3 hr3 g3
    obtain ⟨j, d, hj0, hj, rfl, hb, hr, hin, hq, hlen, g⟩ := hrel
    have nb : w.heap.size + 1 ≠ w.heap.size := by omega
    by_cases hlt : j < l.length
    · have hlt' : (j : Int) < l.length := by omega
      have hj2 : ¬ (j : Int) < 0 := by omega
      obtain ⟨x, hx, hok⟩ : ∃ x, l.getD j ev0 = x ∧ EvOk x := ⟨_, rfl, hl _ (mem_getD hlt ev0)⟩
      have hq' := hq.out
      rw [drop_getD hlt, hx] at hq'
      have HXX := hide hx
      have cx : ∀ u, Gr w u → u.cell? ⟨b, off + j * 8, none⟩ = some (.int .i64 x.kind) ∧ u.cell? ⟨b, off + j * 8 + 1, none⟩ = some (.int .i64 x.who) ∧ u.cell? ⟨b, off + j * 8 + 4, none⟩ = some (.int .u32 x.value) ∧ u.cell? ⟨b, off + j * 8 + 6, none⟩ = some (.int .u32 x.k) := fun u g => by
        have r := HH.out.later g
        have q0 := r.cell evL_len hlt ev0 0 (by omega)
        have q1 := r.cell evL_len hlt ev0 1 (by omega)
        have q4 := r.cell evL_len hlt ev0 4 (by omega)
        have q6 := r.cell evL_len hlt ev0 6 (by omega)
        rw [HXX.out] at q0 q1 q4 q6
        rw [Nat.add_zero] at q0
        rw [← Nat.add_assoc] at q1 q4 q6
        exact ⟨q0, q1, q4, q6⟩
      obtain ⟨c0, c1, c4, c6⟩ := cx wr.drew g.drew
      clear cx hx hq
      have hb1 := hb.drew
      have hr1 := hr.drew
      have hin1 := own_later hin (Gr.refl wr).drew
      have g1 := g.drew
      have kw := hb1.cell (o := 1) (v := .int .i64 d.q.who) rfl
      go_wp2_with (fail)
      refine begin_late 8 [] (fun w' => w' = wr.drew) (by kernel_rfl) rfl ?_
      have hH : wr.drew = wr.drew := rfl
      refine AnyL.takeP 0 (some 29) (.slice (some ⟨b, off, none⟩) l.length c) rfl rfl (by kernel_rfl) (by kernel_rfl) (by kernel_rfl) (by kernel_rfl) (fun _ _ _ h => h) (by kernel_rfl) (fun w' => by go_simp) (fun _ => hH) ?_
      simp only [Act.put, List.setIfInBounds_toArray, List.set_cons_zero, List.set_cons_succ]
      refine AnyL.takeP 1 (some 30) (.int .i64 j) rfl rfl (by kernel_rfl) (by kernel_rfl) (by kernel_rfl) (by kernel_rfl) (fun _ _ _ h => h) (by kernel_rfl) (fun w' => by go_simp) (fun _ => hH) ?_
      simp only [Act.put, List.setIfInBounds_toArray, List.set_cons_zero, List.set_cons_succ]
      refine AnyL.takeP 2 (some 31) (.pointer (some ⟨b, off + j * 8, none⟩)) rfl rfl (by kernel_rfl) (by kernel_rfl) (by kernel_rfl) (by kernel_rfl) (fun _ _ _ h => h) (by kernel_rfl) (fun w' => by go_simp) (fun _ => hH) ?_
      simp only [Act.put, List.setIfInBounds_toArray, List.set_cons_zero, List.set_cons_succ]
      refine AnyL.takeP 3 (some 32) (.pointer (some ⟨b, off + j * 8 + 1, none⟩)) rfl rfl (by kernel_rfl) (by kernel_rfl) (by kernel_rfl) (by kernel_rfl) (fun _ _ _ h => h) (by kernel_rfl) (fun w' => by go_simp) (fun _ => hH) ?_
      simp only [Act.put, List.setIfInBounds_toArray, List.set_cons_zero, List.set_cons_succ]
      refine AnyL.take 4 (some 33) (.int .i64 x.who) rfl rfl (by kernel_rfl) (by kernel_rfl) (by kernel_rfl) (by kernel_rfl) (fun _ _ _ h => h) (yields_held _ (by kernel_rfl) (fun w' hw' => by subst hw'; go_simp)) hH ?_
      simp only [Act.put, List.setIfInBounds_toArray, List.set_cons_zero, List.set_cons_succ]
      refine AnyL.takeP 5 (some 34) (.pointer (some ⟨w.heap.size + 1, 1, none⟩)) rfl rfl (by kernel_rfl) (by kernel_rfl) (by kernel_rfl) (by kernel_rfl) (fun _ _ _ h => h) (by kernel_rfl) (fun w' => by go_simp) (fun _ => hH) ?_
      simp only [Act.put, List.setIfInBounds_toArray, List.set_cons_zero, List.set_cons_succ]
      refine AnyL.take 6 (some 35) (.int .i64 d.q.who) rfl rfl (by kernel_rfl) (by kernel_rfl) (by kernel_rfl) (by kernel_rfl) (fun _ _ _ h => h) (yields_held _ (by kernel_rfl) (fun w' hw' => by subst hw'; go_simp)) hH ?_
      simp only [Act.put, List.setIfInBounds_toArray, List.set_cons_zero, List.set_cons_succ]
      refine AnyL.takeP 7 (some 36) (.bool (x.who != d.q.who)) rfl rfl (by kernel_rfl) (by kernel_rfl) (by kernel_rfl) (by kernel_rfl) (fun _ _ _ h => h) (by kernel_rfl) (fun w' => by go_simp) (fun _ => hH) ?_
      simp only [Act.put, List.setIfInBounds_toArray, List.set_cons_zero, List.set_cons_succ]
      refine AnyL.done (by kernel_rfl) ?_
      clear hb hr hin g kw hH
      generalize wr.drew = w4 at hb1 hr1 hin1 g1 c0 c1 c4 c6 ⊢
      by_cases hw : x.who = d.q.who
      · have hw1 : (x.who != d.q.who) = false := by simpa using hw
        have HW := hide hw
        clear hw
        by_cases h7 : x.kind = 7
        · have h7' : (x.kind == 7) = true := by simpa using h7
          have h7'' : (x.kind != 7) = false := by simpa using h7
          by_cases h2 : x.k % 2 = 0
          · have h2' : (x.k % 2 == 0) = true := by simpa using h2
            have HE := hide (show d.q = R by
              rw [← hq']
              conv => rhs; unfold oneF
              rw [if_pos HW.out, if_pos h7, if_pos h2])
            clear h7 h2 hq'
            obtain ⟨hk1, hk2⟩ := hok
            go_wp2_with (first
              | (refine load_r rfl _ rfl (w.heap.size + 1) rfl d hb1 ?_)
              | (refine store_r rfl _ _ rfl w.heap.size rfl d rfl cl0 hr1 ?_))
            exact bodyPost_ret (results_r rfl _ _ w.heap.size d rfl (hr1.row (clA d))) rfl ⟨d, ⟨rfl, own_lower (own_kept hin1 (Kp.setRow w4 w.heap.size (clA d)) (fun y h1 h2 => by
              have := (hin1.lt y h1).1
              have : y = w.heap.size := by simpa using h2
              omega)) (by omega)⟩, HE.out, g1.setRow (Nat.le_refl _) _⟩
          · have h2' : (x.k % 2 == 0) = false := by simpa using h2
            obtain ⟨hk1, hk2⟩ := hok
            obtain ⟨wk1, wk2⟩ := half_facts hk1 hk2
            have ks := hb1.drew.cell (o := 0) (v := .int .i64 d.q.site) rfl
            go_wp2_with (fail)
            refine begin_late 10 [] (fun w' => w' = w4.drew) (by kernel_rfl) rfl ?_
            have hH : w4.drew = w4.drew := rfl
            have c6' : w4.drew.cell? ⟨b, off + j * 8 + 6, none⟩ = some (.int .u32 x.k) := c6
            refine AnyL.takeP 0 (some 63) (.slice (some ⟨b, off, none⟩) l.length c) rfl rfl (by kernel_rfl) (by kernel_rfl) (by kernel_rfl) (by kernel_rfl) (fun _ _ _ h => h) (by kernel_rfl) (fun w' => by go_simp) (fun _ => hH) ?_
            simp only [Act.put, List.setIfInBounds_toArray, List.set_cons_zero, List.set_cons_succ]
            refine AnyL.takeP 1 (some 64) (.int .i64 j) rfl rfl (by kernel_rfl) (by kernel_rfl) (by kernel_rfl) (by kernel_rfl) (fun _ _ _ h => h) (by kernel_rfl) (fun w' => by go_simp) (fun _ => hH) ?_
            simp only [Act.put, List.setIfInBounds_toArray, List.set_cons_zero, List.set_cons_succ]
            refine AnyL.takeP 2 (some 65) (.pointer (some ⟨b, off + j * 8, none⟩)) rfl rfl (by kernel_rfl) (by kernel_rfl) (by kernel_rfl) (by kernel_rfl) (fun _ _ _ h => h) (by kernel_rfl) (fun w' => by go_simp) (fun _ => hH) ?_
            simp only [Act.put, List.setIfInBounds_toArray, List.set_cons_zero, List.set_cons_succ]
            refine AnyL.takeP 3 (some 66) (.pointer (some ⟨b, off + j * 8 + 6, none⟩)) rfl rfl (by kernel_rfl) (by kernel_rfl) (by kernel_rfl) (by kernel_rfl) (fun _ _ _ h => h) (by kernel_rfl) (fun w' => by go_simp) (fun _ => hH) ?_
            simp only [Act.put, List.setIfInBounds_toArray, List.set_cons_zero, List.set_cons_succ]
            refine AnyL.take 4 (some 67) (.int .u32 x.k) rfl rfl (by kernel_rfl) (by kernel_rfl) (by kernel_rfl) (by kernel_rfl) (fun _ _ _ h => h) (yields_held _ (by kernel_rfl) (fun w' hw' => by subst hw'; go_simp)) hH ?_
            simp only [Act.put, List.setIfInBounds_toArray, List.set_cons_zero, List.set_cons_succ]
            refine AnyL.takeP 5 (some 68) (.int .u32 (x.k / 2)) rfl rfl (by kernel_rfl) (by kernel_rfl) (by kernel_rfl) (by kernel_rfl) (fun _ _ _ h => h) (by kernel_rfl) (fun w' => by go_simp) (fun _ => hH) ?_
            simp only [Act.put, List.setIfInBounds_toArray, List.set_cons_zero, List.set_cons_succ]
            refine AnyL.takeP 6 (some 69) (.int .i64 (x.k / 2)) rfl rfl (by kernel_rfl) (by kernel_rfl) (by kernel_rfl) (by kernel_rfl) (fun _ _ _ h => h) (by kernel_rfl) (fun w' => by go_simp) (fun _ => hH) ?_
            simp only [Act.put, List.setIfInBounds_toArray, List.set_cons_zero, List.set_cons_succ]
            refine AnyL.takeP 7 (some 70) (.pointer (some ⟨w.heap.size + 1, 0, none⟩)) rfl rfl (by kernel_rfl) (by kernel_rfl) (by kernel_rfl) (by kernel_rfl) (fun _ _ _ h => h) (by kernel_rfl) (fun w' => by go_simp) (fun _ => hH) ?_
            simp only [Act.put, List.setIfInBounds_toArray, List.set_cons_zero, List.set_cons_succ]
            refine AnyL.take 8 (some 71) (.int .i64 d.q.site) rfl rfl (by kernel_rfl) (by kernel_rfl) (by kernel_rfl) (by kernel_rfl) (fun _ _ _ h => h) (yields_held _ (by kernel_rfl) (fun w' hw' => by subst hw'; go_simp)) hH ?_
            simp only [Act.put, List.setIfInBounds_toArray, List.set_cons_zero, List.set_cons_succ]
            refine AnyL.takeP 9 (some 72) (.bool (x.k / 2 == d.q.site)) rfl rfl (by kernel_rfl) (by kernel_rfl) (by kernel_rfl) (by kernel_rfl) (fun _ _ _ h => h) (by kernel_rfl) (fun w' => by go_simp) (fun _ => hH) ?_
            simp only [Act.put, List.setIfInBounds_toArray, List.set_cons_zero, List.set_cons_succ]
            refine AnyL.done (by kernel_rfl) ?_
            have hb2 := hb1.drew
            have hr2 := hr1.drew
            have hin2 := own_later hin1 (Gr.refl w4).drew
            have g2 := g1.drew
            have c4' : w4.drew.cell? ⟨b, off + j * 8 + 4, none⟩ = some (.int .u32 x.value) := c4
            have hbw : b ≠ w.heap.size + 1 := by
              rintro rfl
              have q := HH.out.lt (by rw [flatOf_length evL_len]; omega)
              omega
            clear hb1 hr1 hin1 g1 c0 c1 c4 c6 c6' ks hH
            generalize w4.drew = w5 at hb2 hr2 hin2 g2 c4' ⊢
            by_cases hs : x.k / 2 = d.q.site
            · have hs' : (x.k / 2 == d.q.site) = true := by simpa using hs
              have HE := hide (show (⟨d.q.site, d.q.who, d.q.began, j, x.value, d.q.inner⟩ : Ca) = R by
                rw [← hq']
                conv => rhs; unfold oneF
                rw [if_pos HW.out, if_pos h7, if_neg h2, if_pos hs])
              have k3 := hb2.cell (o := 3) (v := .int .i64 d.q.ended) rfl
              have f3 := hb2.free 3
              have k4 := hb2.cell (o := 4) (v := .int .u32 d.q.result) rfl
              have f4 := hb2.free 4
              have HS := hide hs'
              clear h7 h2 hs hq'
              go_upto_region 14 with (fail)
              have hb3 : Has ((w5.setCell ⟨w.heap.size + 1, 3, none⟩ (.int .i64 j)).setCell ⟨w.heap.size + 1, 4, none⟩ (.int .u32 x.value)) (w.heap.size + 1) (clA ⟨⟨d.q.site, d.q.who, d.q.began, j, x.value, d.q.inner⟩, d.ia, d.ic⟩) 44 := ((hb2.set 3 (.int .i64 j)).set 4 (.int .u32 x.value)).of rfl
              have hr3 := (hr2.aside nb.symm 3 (.int .i64 j)).aside nb.symm 4 (.int .u32 x.value)
              have K3 := (Kp.setCell w5 (w.heap.size + 1) 3 (.int .i64 j)).trans (Kp.setCell (w5.setCell ⟨w.heap.size + 1, 3, none⟩ (.int .i64 j)) (w.heap.size + 1) 4 (.int .u32 x.value)) (f := [w.heap.size + 1]) (fun x h => h) (fun x h => .inl h)
              have hin3 := own_kept hin2 K3 (fun y h1 h2 => by
                have := (hin2.lt y h1).1
                have : y = w.heap.size + 1 := by simpa using h2
                omega)
              have g3 := (g2.setCell (a := ⟨w.heap.size + 1, 3, none⟩) (by simp) (.int .i64 j)).setCell (a := ⟨w.heap.size + 1, 4, none⟩) (by simp) (.int .u32 x.value)
              generalize (w5.setCell ⟨w.heap.size + 1, 3, none⟩ (.int .i64 j)).setCell ⟨w.heap.size + 1, 4, none⟩ (.int .u32 x.value) = w6 at hb3 hr3 hin3 g3 ⊢
              clear k3 f3 k4 f4 hb2 hr2 K3 hin2 g2 c4'
              go_wp2_with (first
                | (refine load_r rfl _ rfl (w.heap.size + 1) rfl ⟨⟨d.q.site, d.q.who, d.q.began, j, x.value, d.q.inner⟩, d.ia, d.ic⟩ hb3 ?_)
                | (refine store_r rfl _ _ rfl w.heap.size rfl ⟨⟨d.q.site, d.q.who, d.q.began, j, x.value, d.q.inner⟩, d.ia, d.ic⟩ rfl cl0 hr3 ?_))
              exact bodyPost_ret (results_r rfl _ _ w.heap.size ⟨⟨d.q.site, d.q.who, d.q.began, j, x.value, d.q.inner⟩, d.ia, d.ic⟩ rfl (hr3.row _)) rfl ⟨⟨⟨d.q.site, d.q.who, d.q.began, j, x.value, d.q.inner⟩, d.ia, d.ic⟩, ⟨rfl, own_lower (own_kept hin3 (Kp.setRow w6 w.heap.size _) (fun y h1 h2 => by
                have := (hin3.lt y h1).1
                have : y = w.heap.size := by simpa using h2
                omega)) (by omega)⟩, HE.out, g3.setRow (Nat.le_refl _) _⟩
            · have hs' : (x.k / 2 == d.q.site) = false := by simpa using hs
              have HE := hide (show oneF d.q (j + 1) (l.drop (j + 1)) = R by
                rw [← hq']
                conv => rhs; unfold oneF
                rw [if_pos HW.out, if_pos h7, if_neg h2, if_neg hs])
              clear h7 h2 hs hq'
              go_wp2_with (fail)
              exact ⟨⟨j + 1, d, by omega, by omega, by go_num, hb2, hr2, hin2, HE.out, by omega, g2⟩, by simp [intOf]; omega⟩
        · have h7' : (x.kind == 7) = false := by simpa using h7
          have h7'' : (x.kind != 7) = true := by simpa using h7
          by_cases h3 : x.kind = 3
          · have h3' : (x.kind == 3) = true := by simpa using h3
            have h3'' : (x.kind != 3) = false := by simpa using h3
            have HE := hide (show oneF d.q (j + 1) (l.drop (j + 1)) = R by
              rw [← hq']
              conv => rhs; unfold oneF
              rw [if_pos HW.out, if_neg h7, if_pos h3])
            have h37 : ((3 : Int) != 7) = true := by decide
            clear h7 h3 hq'
            go_wp2_with (fail)
            exact ⟨⟨j + 1, d, by omega, by omega, by go_num, hb1, hr1, hin1, HE.out, by omega, g1⟩, by simp [intOf]; omega⟩
          · have h3' : (x.kind == 3) = false := by simpa using h3
            have h3'' : (x.kind != 3) = true := by simpa using h3
            have HE := hide (show oneF { d.q with inner := d.q.inner ++ [(j : Int)] } (j + 1) (l.drop (j + 1)) = R by
              rw [← hq']
              conv => rhs; unfold oneF
              rw [if_pos HW.out, if_neg h7, if_neg h3])
            clear h7 h3 hq'
            have c5 := hb1.cell (o := 5) (v := .slice d.ia d.q.inner.length d.ic) rfl
            have f5 := hb1.free 5
            have hbz := hb1.lt
            obtain ⟨v', w', hra, ho, hg, hob⟩ := app_rec (T := 28) (ty := 28) numL_len numL_one Try.underlying28 infoNum rfl (by omega) (by omega) hin1 (j : Int) #[.int .i64 j] rfl (by omega) (by omega)
            obtain ⟨M, hM⟩ : ∃ M, (d.q.inner ++ [(j : Int)]).length = M := ⟨_, rfl⟩
            rw [hM] at ho
            have HM := hide hM
            have hM2 : M ≤ j + 1 := by rw [← hM, List.length_append, List.length_cons, List.length_nil]; omega
            clear hM
            obtain ⟨va, vc, rfl, -⟩ := own_at ho
            have HRA := hide hra
            have K2 := Kp.grown hg
            have hb2 := (hb1.alloc #[.int .i64 j] 3).kept K2 (fun q => by
              obtain ⟨D, hD⟩ := own_has hin1 q
              exact hb1.apart hD (by decide) rfl)
            have hr2 := (hr1.alloc #[.int .i64 j] 3).kept K2 (fun q => by
              obtain ⟨D, hD⟩ := own_has hin1 q
              exact hr1.apart hD (by decide) rfl)
            have g2 := grown_gr (g1.alloc #[.int .i64 j] 3) (own_lower (own_later hin1 ((Gr.refl w4).alloc #[.int .i64 j] 3)) (show w.heap.size ≤ w.heap.size + 2 by omega)) hg (Nat.le_refl _)
            have c5' := hb2.cell (o := 5) (v := .slice d.ia d.q.inner.length d.ic) rfl
            have f5' := hb2.free 5
            have HO := hide ho
            have HM2 := hide hM2
            clear hra ho hg hob K2 hM2
            go_wp2_with (first
              | (refine step_app rfl (some 53) rfl _ _ _ rfl (.slice d.ia d.q.inner.length d.ic) (.slice (some ⟨w4.heap.size, 0, none⟩) 1 1) rfl rfl (.slice va M vc) w' (by exact HRA.out) ?_))
            refine ⟨⟨j + 1, ⟨{ d.q with inner := d.q.inner ++ [(j : Int)] }, va, vc⟩, by omega, by omega, by go_num, (hb2.set 5 _).of (by rw [← HM.out]; rfl), hr2.aside nb.symm 5 _, ?_, HE.out, by rw [HM.out]; exact HM2.out, g2.setCell (by simp) _⟩, by simp [intOf]; omega⟩
            have q := own_kept HO.out (Kp.setCell w' (w.heap.size + 1) 5 (.slice va M vc)) (fun y h1 h2 => by
              have := (HO.out.lt y h1).1
              have : y = w.heap.size + 1 := by simpa using h2
              omega)
            show World.ownsRow _ _ _ _ (.slice va (d.q.inner ++ [(j : Int)]).length vc) (d.q.inner ++ [(j : Int)]).length _
            rw [HM.out]
            exact q
      · have hw1 : (x.who != d.q.who) = true := by simpa using hw
        have HE := hide (show oneF d.q (j + 1) (l.drop (j + 1)) = R by
          rw [← hq']
          conv => rhs; unfold oneF
          rw [if_neg hw])
        clear hw hq'
        go_wp2_with (fail)
        exact ⟨⟨j + 1, d, by omega, by omega, by go_num, hb1, hr1, hin1, HE.out, by omega, g1⟩, by simp [intOf]; omega⟩
    · obtain rfl : j = l.length := by omega
      have HE := hide (show d.q = R by
        have := hq.out
        rw [List.drop_length] at this
        exact this)
      clear hq
      go_wp2_with (first
        | (refine load_r rfl _ rfl (w.heap.size + 1) rfl d hb ?_)
        | (refine store_r rfl _ _ rfl w.heap.size rfl d rfl cl0 hr ?_))
      exact bodyPost_ret (results_r rfl _ _ w.heap.size d rfl (hr.row (clA d))) rfl ⟨d, ⟨rfl, own_lower (own_kept hin (Kp.setRow wr w.heap.size (clA d)) (fun y h1 h2 => by
        have := (hin.lt y h1).1
        have : y = w.heap.size := by simpa using h2
        omega)) (by omega)⟩, HE.out, g.setRow (Nat.le_refl _) _⟩
end Go.Proofs.Ytfhplbmgjgfihaa
