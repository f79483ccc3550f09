/-
  What callsOf answers of any events: the thread's calls, in the order in which they began. No condition but that the slice's cells hold the events.
-/
import Derived.Test.YtfhplbmgjgfihaaCofP
namespace Go.Proofs.Ytfhplbmgjgfihaa
open Go.ChangeShapes Go.WideShapes Go.ChangeAt Go.RowKit Go.Shelf
set_option linter.unusedVariables false
set_option maxRecDepth 20000

attribute [local go_sem] Oper.semAt_some

theorem wp_store_cls {o : Oper} {a : Act} {w : World} {K : Act → World → Prop} {Q : Exit → Act → World → Prop} (hd0 : o.dst = none) (x y : Operand) (ho : o.op = .store 38 x y) (g j : Nat) (hx : a.eval x = .pointer (some ⟨g, j, none⟩)) (sa : Option Addr) (sn sc : Nat) (hy : a.eval y = .slice sa sn sc)
    (oa : Option Addr) (on oc : Nat) (hc : w.cell? ⟨g, j, none⟩ = some (.slice oa on oc)) (hf : w.frozen? ⟨g, j, none⟩ = false) (h : K a (w.setCell ⟨g, j, none⟩ (.slice sa sn sc))) : Oper.wp Try.prog o a w K Q := by
  unfold Oper.wp execOp
  simp only [ho, hx, hy]
  go_simp
  exact h
theorem build_cl {o : Oper} {a : Act} {w : World} (x : Operand) (ho : o.op = .buildSlice 38 1 #[(0, x)]) (e : Cl) (hx : a.eval x = .agg (clA e)) :
    (execOp a.eval o).run Try.prog w = .ok (.value (.slice (some ⟨w.heap.size, 0, none⟩) 1 1)) (w.alloc (.cells (clA e) 43)) := by
  unfold execOp
  simp only [ho, List.map_toArray, List.map_cons, List.map_nil, hx]
  clear hx
  go_simp

theorem wrap_nat (n : Nat) (h : (n : Int) ≤ 900) : IntKind.i64.wrap (n : Int) = n := by
  simp [IntKind.wrap, IntKind.bits, IntKind.signed]
  omega
/-- calls that are answered, and their inner places -/
def CallsP (w : World) (qs : List Ca) (r : Ending) (w' : World) : Prop :=
  ∃ cs v, ((r = .returned v ∧ ClsO w' w.heap.size v cs) ∧ ((∀ c ∈ cs, NumsO w' w.heap.size (slI c) c.q.inner) ∧ cs.map (·.q) = qs)) ∧ Gr w w'
/-- where the calls that are gathered lie -/
def GatP (w : World) (t : Int) (pre : List Pl) (W : World) : Prop :=
  (∃ cs v, Has W (w.heap.size + 1) #[v] 38 ∧ ClsO W w.heap.size v cs ∧ InnP W (w.heap.size + 1) cs ∧ cs.reverse.map (·.q) = callsR t pre) ∧ Has W w.heap.size #[.int .i64 t] 3 ∧ Below w.heap.size w W
theorem GatP.own {w A B : World} {t : Int} {pre : List Pl} {row : Option Nat} {B0 : Nat} (h : GatP w t pre A) (hB : w.heap.size ≤ B0) (hg : A.grownBy B row) (hr : ∀ r, row = some r → B0 ≤ r ∧ ∃ o : Obj, A.heap[r]? = some o ∧ o.isCells = false) : GatP w t pre B := by
  obtain ⟨⟨cs, v, h1, h2, h3, h4⟩, h5, h6⟩ := h
  exact ⟨⟨cs, v, has_own h1 hg hr, own_own h2 hg hr, h3.own hg hr, h4⟩, has_own h5 hg hr, ownFrom_below (Nat.le_refl _) hB () A B row h6 hg hr⟩
theorem GatP.later {w W W' : World} {t : Int} {pre : List Pl} (h : GatP w t pre W) (g : Gr W W') : GatP w t pre W' := by
  obtain ⟨⟨cs, v, h1, h2, h3, h4⟩, h5, h6⟩ := h
  exact ⟨⟨cs, v, h1.later g, own_later h2 g, h3.later g, h4⟩, h5.later g, Gr.trans h6 g⟩

set_option maxHeartbeats 4000000 in
theorem callsOf_calls (a : Option Addr) (c : Nat) (l : List Ev) (hl : ∀ x ∈ l, EvOk x) (hn : l.length ≤ 900) (t : Int) (w : World) (h : RowAt w a (flatOf evL l)) :
    Calls Try.prog 20 #[.slice a l.length c, .int .i64 t] w (CallsP w (callsR t (plc t 0 l hl)).reverse) := by
  have HO := hide (of_calls a c l hl hn t ((w.alloc (.cells #[.int .i64 t] 3)).alloc (.cells #[.slice none 0 0] 38)) (h.later (((Gr.refl w).alloc _ _).alloc _ _)))
  have hpn : (plc t 0 l hl).length ≤ 900 := by have := plc_len t 0 l hl; omega
  generalize plc t 0 l hl = ps at HO hpn ⊢
  clear h hl hn
  refine (callsIn_wide (n := 6)).1 ?_
  refine callsIn_of_wp_marks Try.func20 rfl trivial ?_ rfl
  simp only [Try.ntmps20, List.size_toArray, List.length_cons, List.length_nil, Nat.reduceAdd, Nat.reduceSub, Array.replicate_succ, Array.replicate_zero, List.push_toArray, List.append_toArray, List.nil_append, List.cons_append]
  gi_wp2_with (refine ⟨trivial, ?_⟩; gi_at_call 15; refine (callsIn_wide.2 HO.out).mono ?_; rintro e w1 ⟨vp, ⟨⟨rfl, g1⟩, hb⟩, hp⟩)
  obtain ⟨ap, cp, rfl, hrp, -, -, -⟩ := own_at hp
  have hs0 : ((w.alloc (.cells #[.int .i64 t] 3)).alloc (.cells #[.slice none 0 0] 38)).heap.size = w.heap.size + 2 := by simp
  rw [hs0] at hb hp
  have bT : Has w1 w.heap.size #[.int .i64 t] 3 := ((Has.new w #[.int .i64 t] 3).alloc _ _).later g1
  have bV : Has w1 (w.heap.size + 1) #[.slice none 0 0] 38 := by
    have q := Has.new (w.alloc (.cells #[.int .i64 t] 3)) #[.slice none 0 0] 38
    rw [World.size_alloc] at q
    exact q.later g1
  have gB : Below w.heap.size w w1 := ((((Gr.refl w).alloc #[.int .i64 t] 3).alloc #[.slice none 0 0] 38).trans g1)
  have hz := gB.size
  have hbl := hb.lt
  have HB := hide hb
  have HRP := hide hrp
  have HP := hide hp
  have hg0 := own_blk hp (by omega)
  clear hb hrp hp HO g1
  refine wpIn_rangeFunc_ownH rfl (by omega) (gf := 19) (lb := #[.pointer (some ⟨w.heap.size + 2, 0, none⟩)]) rfl trivial (enters_of Try.func19 (by kernel_rfl) rfl)
    (each_stops (6 - 1) (by omega) (w.heap.size + 2) ap cp ps hpn w1 HB.out HRP.out) (fun h k => h.trans k) (fun W l o o' hl _ _ _ => stay_put W (by omega) o') (Gr.refl w1) (fun _ => rfl)
    (fun pre W => GatP w t pre W ∧ (Stay (blkOf ap) w1 W ∧ w1.heap.size ≤ W.heap.size))
    (fun _ _ _ => False)
    (OwnFrom.and (fun s A B row hs hg hr => hs.own (by omega) hg hr)
      (fun s A B row hs hg hr => ⟨stay_own hs.1 hg0 hs.2 hg0 hg hr, Nat.le_trans hs.2 hg.size⟩))
    (fun _ _ _ _ _ hs _ _ => hs)
    ⟨⟨⟨[], _, bV, own_nil _ _ _ _, .inl rfl, rfl⟩, bT, gB⟩, Stay.refl _ _, Nat.le_refl _⟩
    (fun x a' W => ∃ Bx, Has W Bx (evA x.ev) 35 ∧ a' = { tmps := #[.slice a l.length c, .int .i64 t, undef, .pointer (some ⟨w.heap.size, 0, none⟩), .slice none 0 0, .pointer (some ⟨w.heap.size + 1, 0, none⟩), .int .i64 x.pos, .pointer (some ⟨Bx, 0, none⟩), undef, .slice a l.length c, .int .i64 t, .func (.func 19) #[] #[.pointer (some ⟨w.heap.size + 2, 0, none⟩)], .int .i64 x.pos, .agg (evA x.ev), undef, undef, undef, undef, undef, undef, undef, undef, undef, undef, undef, undef, undef, undef, undef, undef, undef, undef, undef, undef, undef, undef, undef, undef, undef, undef, undef, undef, undef, undef, undef], defers := [] })
    (fun x a' s A B row hs hg hr => by obtain ⟨Bx, h1, h2⟩ := hs; exact ⟨Bx, has_own h1 hg hr, h2⟩)
    ?assign ?body ?done ?stop
  case assign =>
    rintro l pre x W K ⟨hG, hS, hz2⟩ hK
    gi_wp2
    refine hK _ _ ((KeepsOthers.alloc _ _).from _) (stay_alloc W (by omega) _) ⟨hG.later ((Gr.refl W).alloc _ _), hS.trans (stay_alloc W (by omega) _), by simp; omega⟩ ⟨W.heap.size, Has.new W _ _, rfl⟩
  case body =>
    rintro l pre x a' W - - ⟨⟨⟨cs, v, hv, hrow, hI, hq⟩, hT, hB⟩, hS, hz2⟩ ⟨Bx, hE, rfl⟩ hlt
    obtain ⟨va, vc, rfl, -⟩ := own_at hrow
    have hql := callsR_len t pre
    have hqi := callsR_inner t pre
    rw [← hq] at hqi hql
    rw [List.length_map, List.length_reverse] at hql
    have HSN := hide (callsR_snoc t pre x)
    rw [← hq] at HSN
    have k0 := hE.cell (o := 0) (v := .int .i64 x.ev.kind) rfl
    have k1 := hE.cell (o := 1) (v := .int .i64 x.ev.who) rfl
    have k2 := hE.cell (o := 2) (v := .int .i64 x.ev.pc) rfl
    have k3 := hE.cell (o := 3) (v := .int .i64 x.ev.addr) rfl
    have k4 := hE.cell (o := 4) (v := .int .u32 x.ev.value) rfl
    have k5 := hE.cell (o := 5) (v := .int .u32 x.ev.old) rfl
    have k6 := hE.cell (o := 6) (v := .int .u32 x.ev.k) rfl
    have k7 := hE.cell (o := 7) (v := .bool x.ev.ok) rfl
    have HBG := hide (begins_calls x.ev x.ok W)
    cases hbb : begB x.ev with
    | true =>
      rw [hbb] at HBG
      have HBB := hide hbb
      clear hbb
      gi_wp2_with (refine ⟨trivial, ?_⟩; gi_at_call 25; refine (calls_in HBG.out).mono ?_; rintro e W1 ⟨rfl, gW⟩)
      clear k0 k1 k2 k3 k4 k5 k6 k7 HBG
      have hv1 := hv.later gW
      have hT1 := hT.later gW
      have hE1 := hE.later gW
      refine begin_late_in 9 [7, 8] (fun w' => Gr W1 w') (by kernel_rfl) rfl (by kernel_rfl) (fun ⟨_, _, z⟩ => z) ?_
      have hH : Gr W1 W1.drew := (Gr.refl W1).drew
      refine AnyL.take 0 (some 16) (.slice va cs.length vc) rfl rfl (by kernel_rfl) (by kernel_rfl) (by kernel_rfl) (by kernel_rfl) (fun _ _ _ h => h) (yields_held _ (by kernel_rfl) (fun w' hw' => by have c1 := (hv1.later hw').cell (o := 0) (v := .slice va cs.length vc) rfl; go_simp)) hH ?_
      simp only [Act.put, List.setIfInBounds_toArray, List.set_cons_zero, List.set_cons_succ]
      refine AnyL.take 1 (some 17) (.agg (evA x.ev)) rfl rfl (by kernel_rfl) (by kernel_rfl) (by kernel_rfl) (by kernel_rfl) (fun _ _ _ h => h) (take_ev (by kernel_rfl) _ rfl Bx (by kernel_rfl) x.ev (fun w h => hE1.later h)) hH ?_
      simp only [Act.put, List.setIfInBounds_toArray, List.set_cons_zero, List.set_cons_succ]
      refine AnyL.take 3 (some 19) (.int .i64 t) rfl rfl (by kernel_rfl) (by kernel_rfl) (by kernel_rfl) (by kernel_rfl) (fun _ _ _ h => h) (yields_held _ (by kernel_rfl) (fun w' hw' => by have c1 := (hT1.later hw').cell (o := 0) (v := .int .i64 t) rfl; go_simp)) hH ?_
      simp only [Act.put, List.setIfInBounds_toArray, List.set_cons_zero, List.set_cons_succ]
      refine AnyL.takeP 4 (some 20) (.int .i64 x.pos) rfl rfl (by kernel_rfl) (by kernel_rfl) (by kernel_rfl) (by kernel_rfl) (fun _ _ _ h => h) (by kernel_rfl) (fun w' => by go_simp) (fun _ => hH) ?_
      simp only [Act.put, List.setIfInBounds_toArray, List.set_cons_zero, List.set_cons_succ]
      refine AnyL.one 2 (by kernel_rfl) rfl (by kernel_rfl) ?_
      have HC := site_calls x.ev x.ok W1.drew
      refine wp_call (some 18) rfl 26 #[.agg (evA x.ev)] (by kernel_rfl) HC ?_
      rintro e W2 ⟨rfl, g2⟩
      refine ⟨_, rfl, ?_⟩
      replace hH := hH.trans g2
      refine ⟨fun _ => hH, ?_⟩
      simp only [Act.put, List.setIfInBounds_toArray, List.set_cons_zero, List.set_cons_succ]
      refine AnyL.takeP 5 (some 21) (.agg #[.int .i64 (x.ev.k / 2), .int .i64 t, .int .i64 x.pos, .int .i64 (-1), .int .u32 0, .slice none 0 0]) rfl rfl (by kernel_rfl) (by kernel_rfl) (by kernel_rfl) (by kernel_rfl) (fun _ _ _ h => h) (by kernel_rfl) (fun w' => by go_simp) (fun _ => hH) ?_
      simp only [Act.put, List.setIfInBounds_toArray, List.set_cons_zero, List.set_cons_succ]
      refine AnyL.one 6 (by kernel_rfl) rfl (by kernel_rfl) ?_
      refine wp_made (some 22) rfl _ _ (build_cl _ rfl ⟨begQ t x, none, 0⟩ (by kernel_rfl)) ?_
      replace hH := hH.alloc (clA ⟨begQ t x, none, 0⟩) 43
      refine ⟨fun _ => hH, ?_⟩
      simp only [Act.put, List.setIfInBounds_toArray, List.set_cons_zero, List.set_cons_succ]
      refine AnyL.one 7 (by kernel_rfl) rfl (by kernel_rfl) ?_
      have g3 : Gr W W2 := gW.trans ((Gr.refl W1).drew.trans g2)
      have hrow2 := own_later hrow g3
      have hv2 := hv.later g3
      have hT2 := hT.later g3
      have hI2 := (hI.later g3).push (by have := g3.size; omega) (begQ t x) rfl
      obtain ⟨v', W3, hr, ho, hg, hob⟩ := app_rec (T := 38) (ty := 38) clL_len clL_one Try.underlying38 infoCl rfl (by omega) (by omega) hrow2 (⟨begQ t x, none, 0⟩ : Cl) (clA ⟨begQ t x, none, 0⟩) rfl (by omega) (Nat.le_trans hB.size g3.size)
      obtain ⟨va', vc', rfl, -⟩ := own_at ho
      refine wp_app (some 23) rfl _ _ 38 rfl (.slice va cs.length vc) (.slice (some ⟨W2.heap.size, 0, none⟩) 1 1) (by kernel_rfl) (by kernel_rfl) _ W3 hr ?_
      refine ⟨late (by kernel_rfl), ?_⟩
      simp only [Act.put, List.setIfInBounds_toArray, List.set_cons_zero, List.set_cons_succ]
      refine AnyL.one 8 (by kernel_rfl) rfl (by kernel_rfl) ?_
      have hv3 := (hv2.alloc (clA ⟨begQ t x, none, 0⟩) 43).kept (Kp.grown hg) (fun q => by
        obtain ⟨D, hD⟩ := own_has hrow2 q
        exact hv2.apart hD (by decide) rfl)
      have c1 := hv3.cell (o := 0) (v := .slice va cs.length vc) rfl
      refine wp_store_cls rfl _ _ rfl (w.heap.size + 1) 0 (by kernel_rfl) va' (cs ++ [(⟨begQ t x, none, 0⟩ : Cl)]).length vc' (by kernel_rfl) va cs.length vc c1 (hv3.free 0) ?_
      refine ⟨late (by kernel_rfl), ?_⟩
      refine AnyL.done (by kernel_rfl) ?_
      have K1 : Kp ((w.heap.size + 1) :: ob (.slice va cs.length vc)) W (W3.setCell ⟨w.heap.size + 1, 0, none⟩ (.slice va' (cs ++ [(⟨begQ t x, none, 0⟩ : Cl)]).length vc')) :=
        ((g3.alloc (clA ⟨begQ t x, none, 0⟩) 43).kp _).trans ((Kp.grown hg).trans (Kp.setCell W3 (w.heap.size + 1) 0 _) (f := (w.heap.size + 1) :: ob (.slice va cs.length vc)) (fun x h => List.mem_cons_of_mem _ h) (fun x h => .inl (by rw [List.mem_singleton.1 h]; exact List.mem_cons_self ..))) (fun x h => h) (fun x h => .inl h)
      have ne1 : ∀ y ∈ (w.heap.size + 1) :: ob (.slice va cs.length vc), ∃ C t, Has W y C t ∧ t ≠ 3 ∧ t ≠ 49 := by
        intro y hy
        rcases List.mem_cons.1 hy with rfl | hy
        · exact ⟨_, _, hv, by decide, by decide⟩
        · obtain ⟨D, hD⟩ := own_has hrow hy
          exact ⟨_, _, hD, by decide, by decide⟩
      have hpp : flatOf plL ps ≠ [] := fun q => by
        have := flatOf_length plL_len ps
        rw [q] at this
        simp at this
        omega
      obtain ⟨-, C, hC⟩ := own_block HP.out hpp
      have hC1 : Has W (blkOf ap) C 49 := Eq.trans hS hC
      have hS1 := stay_kp K1 hC1.lt (fun q => by
        obtain ⟨D, u, hD, -, hu⟩ := ne1 _ q
        exact hD.apart hC1 hu rfl)
      have gK : Gr w (W3.setCell ⟨w.heap.size + 1, 0, none⟩ (.slice va' (cs ++ [(⟨begQ t x, none, 0⟩ : Cl)]).length vc')) := K1.gr hB (fun y hy => by
        rcases List.mem_cons.1 hy with rfl | hy
        · omega
        · exact (own_ltb hrow (mem_ob.1 hy)).1)
      refine ⟨(keeps_kp K1 fun y hy => by obtain ⟨C, u, h, -⟩ := ne1 y hy; exact ⟨C, u, h⟩).from _, hS1, ⟨⟨⟨cs ++ [⟨begQ t x, none, 0⟩], _, (hv3.set 0 _).of rfl, ?_, ?_, ?_⟩, ?_, gK⟩, hS.trans hS1, Nat.le_trans hz2 K1.size⟩⟩
      · exact own_kept ho (Kp.setCell W3 (w.heap.size + 1) 0 _) (fun g h1 h2 => by
          obtain rfl : g = w.heap.size + 1 := by simpa using h2
          obtain ⟨D, hD⟩ := own_has ho (mem_ob.2 h1)
          exact hv3.apart hD (by decide) rfl)
      · have q1 := hI2.later ((Gr.refl W2).alloc (clA ⟨begQ t x, none, 0⟩) 43)
        have q2 := q1.kept (Kp.grown hg) (fun y hy => by
          obtain ⟨D, hD⟩ := own_has hrow2 hy
          exact ⟨_, _, hD.alloc _ _, by decide⟩)
        exact q2.kept (Kp.setCell W3 (w.heap.size + 1) 0 _) (fun y hy => by
          obtain rfl : y = w.heap.size + 1 := by simpa using hy
          exact ⟨_, _, hv3, by decide⟩)
      · rw [HSN.out]
        unfold stepC
        rw [if_pos HBB.out]
        simp
      · have q1 := (hT2.alloc (clA ⟨begQ t x, none, 0⟩) 43).kept (Kp.grown hg) (fun q => by
          obtain ⟨D, hD⟩ := own_has hrow2 q
          exact hT2.apart hD (by decide) rfl)
        exact q1.aside (by omega) 0 _
    | false =>
      rw [hbb] at HBG
      have HBB := hide hbb
      clear hbb
      rcases hI with rfl | ⟨ds, d, m, rfl, hm1, hm2, hds, hd⟩
      · gi_wp2_with (refine ⟨trivial, ?_⟩; gi_at_call 25; refine (calls_in HBG.out).mono ?_; rintro e W1 ⟨rfl, gW⟩; have c1 := (hv.later gW).cell (o := 0) (v := .slice va 0 vc) rfl)
        have hS1 : Stay (blkOf ap) W W1 := gW.block _ (by omega)
        refine ⟨(keeps_kp (gW.kp []) fun y hy => by cases hy).from _, hS1, ⟨⟨⟨[], _, hv.later gW, own_later hrow gW, .inl rfl, ?_⟩, hT.later gW, Gr.trans hB gW⟩, hS.trans hS1, Nat.le_trans hz2 gW.size⟩⟩
        rw [HSN.out]
        unfold stepC
        rw [if_neg (by rw [HBB.out]; decide)]
        rfl
      · have hN : (ds ++ [d]).length = ds.length + 1 := by simp
        rw [hN] at hql
        have hv' : Has W (w.heap.size + 1) #[.slice va (ds.length + 1) vc] 38 := by rw [← hN]; exact hv
        have hrow' : W.ownsRow w.heap.size 43 6 (.slice va (ds.length + 1) vc) (ds.length + 1) (flatOf clL ds ++ clL d) := by
          have q := hrow
          unfold ClsO at q
          rw [hN, flatOf_append] at q
          exact q
        clear hv hrow hN
        have hqd : d.q.inner.length ≤ 900 := by
          have := hqi d.q (by simp)
          omega
        have hds9 : (ds.length : Int) ≤ 900 := by omega
        rw [List.reverse_append, List.map_append] at HSN
        replace HSN := hide (HSN.out.trans (show stepC t (d.q :: ds.reverse.map (·.q)) x = if d.q.ended = -1 then hearsQ d.q x.pos x.ev :: ds.reverse.map (·.q) else d.q :: ds.reverse.map (·.q) by unfold stepC; rw [if_neg (by rw [HBB.out]; decide)]))
        obtain ⟨b, rfl⟩ : ∃ b, va = some ⟨b, 0, none⟩ := by
          rcases hrow'.2 with ⟨z, _⟩ | ⟨g, cap, cur, z, -⟩
          · cases z
          · exact ⟨g, by cases z; rfl⟩
        obtain ⟨-, Cb, hb⟩ : b < W.heap.size ∧ ∃ C, Has W b C 43 := own_block hrow' (by simp [clL])
        have e3 : ∀ u, Gr W u → u.cell? ⟨b, ds.length * 6 + 3, none⟩ = some (.int .i64 d.q.ended) := fun u g => last_cell (own_later hrow' g) 3 (by omega)
        have E3 := hide e3
        clear e3
        by_cases hend : d.q.ended = -1
        · have hend' : (d.q.ended == -1) = true := by simpa using hend
          have HQ := hide (HSN.out.trans (if_pos hend))
          clear hend
          gi_wp2_with (refine ⟨trivial, ?_⟩; gi_at_call 25; refine (calls_in HBG.out).mono ?_; rintro e W1 ⟨rfl, gW⟩; have c1 := (hv'.later gW).cell (o := 0) (v := .slice (some ⟨b, 0, none⟩) (ds.length + 1) vc) rfl; have c3 := E3.out W1 gW)
          clear k0 k1 k2 k3 k4 k5 k6 k7 HBG c1 c3
          have hv1 := hv'.later gW
          have hE1 := hE.later gW
          have hi0 : ¬ (ds.length : Int) < 0 := by omega
          have hi1 : (ds.length : Int) < (ds.length : Int) + 1 := by omega
          have hwr := wrap_nat ds.length hds9
          refine begin_late_in 7 [6] (fun w' => Gr W1 w') (by kernel_rfl) rfl (by kernel_rfl) (fun ⟨_, _, z⟩ => z) ?_
          have hH : Gr W1 W1.drew := (Gr.refl W1).drew
          refine AnyL.take 0 (some 37) (.slice (some ⟨b, 0, none⟩) (ds.length + 1) vc) rfl rfl (by kernel_rfl) (by kernel_rfl) (by kernel_rfl) (by kernel_rfl) (fun _ _ _ h => h) (yields_held _ (by kernel_rfl) (fun w' hw' => by have c1 := (hv1.later hw').cell (o := 0) (v := .slice (some ⟨b, 0, none⟩) (ds.length + 1) vc) rfl; go_simp)) hH ?_
          simp only [Act.put, List.setIfInBounds_toArray, List.set_cons_zero, List.set_cons_succ]
          refine AnyL.takeP 1 (some 38) (.int .i64 ((ds.length : Int) + 1)) rfl rfl (by kernel_rfl) (by kernel_rfl) (by kernel_rfl) (by kernel_rfl) (fun _ _ _ h => h) (by kernel_rfl) (fun w' => by go_simp) (fun _ => hH) ?_
          simp only [Act.put, List.setIfInBounds_toArray, List.set_cons_zero, List.set_cons_succ]
          refine AnyL.takeP 2 (some 39) (.int .i64 ds.length) rfl rfl (by kernel_rfl) (by kernel_rfl) (by kernel_rfl) (by kernel_rfl) (fun _ _ _ h => h) (by kernel_rfl) (fun w' => by go_simp) (fun _ => hH) ?_
          simp only [Act.put, List.setIfInBounds_toArray, List.set_cons_zero, List.set_cons_succ]
          refine AnyL.takeP 3 (some 40) (.pointer (some ⟨b, ds.length * 6, none⟩)) rfl rfl (by kernel_rfl) (by kernel_rfl) (by kernel_rfl) (by kernel_rfl) (fun _ _ _ h => h) (by kernel_rfl) (fun w' => by go_simp) (fun _ => hH) ?_
          simp only [Act.put, List.setIfInBounds_toArray, List.set_cons_zero, List.set_cons_succ]
          refine AnyL.takeP 4 (some 41) (.int .i64 x.pos) rfl rfl (by kernel_rfl) (by kernel_rfl) (by kernel_rfl) (by kernel_rfl) (fun _ _ _ h => h) (by kernel_rfl) (fun w' => by go_simp) (fun _ => hH) ?_
          simp only [Act.put, List.setIfInBounds_toArray, List.set_cons_zero, List.set_cons_succ]
          refine AnyL.take 5 (some 42) (.agg (evA x.ev)) rfl rfl (by kernel_rfl) (by kernel_rfl) (by kernel_rfl) (by kernel_rfl) (fun _ _ _ h => h) (take_ev (by kernel_rfl) _ rfl Bx (by kernel_rfl) x.ev (fun w h => hE1.later h)) hH ?_
          simp only [Act.put, List.setIfInBounds_toArray, List.set_cons_zero, List.set_cons_succ]
          refine AnyL.one 6 (by kernel_rfl) rfl (by kernel_rfl) ?_
          have g1 := gW.trans (Gr.refl W1).drew
          have HC := hears_calls (own_later hrow' g1) (own_later hd g1) (Nat.le_trans hm2 g1.size) hqd x.pos x.ev x.ok
          refine wp_call (some 43) rfl 27 #[.pointer (some ⟨b, ds.length * 6, none⟩), .int .i64 x.pos, .agg (evA x.ev)] (by kernel_rfl) HC ?_
          rintro e W2 ⟨c', ⟨⟨rfl, hr2⟩, hq2, hi2⟩, K2⟩
          refine ⟨_, rfl, ?_⟩
          refine ⟨late (by kernel_rfl), ?_⟩
          simp only [Act.put, List.setIfInBounds_toArray, List.set_cons_zero, List.set_cons_succ]
          refine AnyL.done (by kernel_rfl) ?_
          have K1 : Kp (b :: ob (slI d)) W W2 := (g1.kp _).trans K2 (fun y h => h) (fun y h => .inl h)
          have ne1 : ∀ y ∈ b :: ob (slI d), ∃ C u, Has W y C u ∧ u ≠ 38 ∧ u ≠ 49 := by
            intro y hy
            rcases List.mem_cons.1 hy with rfl | hy
            · exact ⟨_, _, hb, by decide, by decide⟩
            · obtain ⟨D, hD⟩ := own_has hd hy
              exact ⟨_, _, hD, by decide, by decide⟩
          have hpp : flatOf plL ps ≠ [] := fun q => by
            have := flatOf_length plL_len ps
            rw [q] at this
            simp at this
            omega
          obtain ⟨-, C, hC⟩ := own_block HP.out hpp
          have hC1 : Has W (blkOf ap) C 49 := Eq.trans hS hC
          have hS1 := stay_kp K1 hC1.lt (fun q => by
            obtain ⟨D, u, hD, -, hu⟩ := ne1 _ q
            exact hD.apart hC1 hu rfl)
          have gK : Gr w W2 := K1.gr hB (fun y hy => by
            rcases List.mem_cons.1 hy with rfl | hy
            · exact (own_ltb hrow' (g := y) rfl).1
            · have := (own_ltb hd (mem_ob.1 hy)).1; omega)
          have hN : (ds ++ [c']).length = ds.length + 1 := by simp
          refine ⟨(keeps_kp K1 fun y hy => by obtain ⟨C, u, h, -⟩ := ne1 y hy; exact ⟨C, u, h⟩).from _, hS1, ⟨⟨⟨ds ++ [c'], _, hv'.kept K1 (fun q => by
            obtain ⟨D, u, hD, hu, -⟩ := ne1 _ q
            exact hD.apart hv' hu rfl), ?_, ?_, ?_⟩, ?_, gK⟩, hS.trans hS1, Nat.le_trans hz2 K1.size⟩⟩
          · unfold ClsO
            rw [hN, flatOf_append]
            simpa [flatOf] using hr2
          · refine .inr ⟨ds, c', m, rfl, hm1, Nat.le_trans hm2 K1.size, fun d0 h0 => ⟨own_kept (hds d0 h0).1 K1 (fun g q1 q2 => ?_), (hds d0 h0).2⟩, hi2⟩
            rcases List.mem_cons.1 q2 with rfl | q2
            · obtain ⟨D, hD⟩ := own_has (hds d0 h0).1 (mem_ob.2 q1)
              exact hD.apart hb (by decide) rfl
            · have z1 := (own_ltb hd (mem_ob.1 q2)).1
              have z2 := (hds d0 h0).2 g q1
              omega
          · rw [HQ.out, List.reverse_append, List.map_append, ← hq2]
            rfl
          · exact hT.kept K1 (fun q => by
              rcases List.mem_cons.1 q with q | q
              · subst q; exact hT.apart hb (by decide) rfl
              · have := (own_ltb hd (mem_ob.1 q)).1; omega)
        · have hend' : (d.q.ended == -1) = false := by simpa using hend
          have HQ := hide (HSN.out.trans (if_neg hend))
          clear hend
          gi_wp2_with (refine ⟨trivial, ?_⟩; gi_at_call 25; refine (calls_in HBG.out).mono ?_; rintro e W1 ⟨rfl, gW⟩; have c1 := (hv'.later gW).cell (o := 0) (v := .slice (some ⟨b, 0, none⟩) (ds.length + 1) vc) rfl; have c3 := E3.out W1 gW)
          have hS1 : Stay (blkOf ap) W W1 := gW.block _ (by omega)
          have hN : (ds ++ [d]).length = ds.length + 1 := by simp
          refine ⟨(keeps_kp (gW.kp []) fun y hy => by cases hy).from _, hS1, ⟨⟨⟨ds ++ [d], _, hv'.later gW, ?_, .inr ⟨ds, d, m, rfl, hm1, Nat.le_trans hm2 gW.size, fun d0 h0 => ⟨own_later (hds d0 h0).1 gW, (hds d0 h0).2⟩, own_later hd gW⟩, ?_⟩, hT.later gW, Gr.trans hB gW⟩, hS.trans hS1, Nat.le_trans hz2 gW.size⟩⟩
          · unfold ClsO
            rw [hN, flatOf_append]
            simpa [flatOf] using own_later hrow' gW
          · rw [HQ.out, List.reverse_append, List.map_append]
            rfl
  case done =>
    rintro D ys W hD rfl ⟨⟨⟨cs, v, hv, hrow, hI, hq⟩, -, hB⟩, hS, hz2⟩ hK
    obtain ⟨va, vc, rfl, -⟩ := own_at hrow
    have hc := hv.cell (o := 0) (v := .slice va cs.length vc) rfl
    gi_wp2
    refine ⟨by simp, .inl ⟨_, _, rfl, run_takeDeferred hK, ?_⟩⟩
    exact ⟨_, results_tmp rfl _ _ _, cs, _, ⟨⟨rfl, ownsRow_putObj hrow _ hK rfl⟩, fun c hc => ownsRow_putObj (own_lower (hI.each c hc) (by omega)) _ hK rfl, by rw [← hq, List.map_reverse, List.reverse_reverse]⟩, hB.trans (belowK_b (w := w) (Nat.le_refl _) W D _ _ (by omega) hK rfl rfl)⟩
  case stop =>
    rintro D c pre W _ _ h _
    exact h.elim
end Go.Proofs.Ytfhplbmgjgfihaa
