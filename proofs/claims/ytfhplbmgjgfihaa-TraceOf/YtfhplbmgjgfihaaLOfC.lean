/-
  TraceOf's own function, that it hands to the iterator: told the next of a thread's events with its place, it finds what it looks for, counts one more, and tells whether to go on. No condition but that its boxes lie so.
-/
import Derived.Test.YtfhplbmgjgfihaaRsm3
import Derived.Test.YtfhplbmgjgfihaaAwk
import Derived.Laws.StructEq
import Derived.Deep.CutRange
namespace Go.Proofs.Ytfhplbmgjgfihaa
open Go.ChangeShapes Go.WideShapes Go.ChangeAt Go.RowKit
set_option linter.unusedVariables false
set_option maxRecDepth 20000

theorem eq_ev (w : World) (x : Ev) : (Op.equalIn 10000 35 (.agg (evA x)) (.agg (evA x))).run Try.prog w = .ok true w := by
  rw [run_equalIn_agg w 9999 _ _ _ (by kernel_rfl) (by kernel_rfl)]
  go_simp
theorem eql_ev (w : World) (x : Ev) : (binOp .eql 35 (.agg (evA x)) (.agg (evA x))).run Try.prog w = .ok (.bool true) w := by
  rw [run_eql_struct, eq_ev w x]
  rfl
theorem guard_ev (op : BinOp) (x y : Operand) (xs ys : Array Value) (w : World) : (eqGuard op 35 x y (.agg xs) (.agg ys)).run Try.prog w = .ok () w :=
  run_eqGuard_agg w op _ x y xs ys (by kernel_rfl)
theorem take_eqev {ops : Array Oper} {S : World → Prop} {op : Oper} {a : Act} (hw : Region.wanted op (yielded ops a.tmps) = true) (x y : Operand) (ho : op.op = .binOp .eql 35 x y 35) (e : Ev)
    (hx : a.eval x = .agg (evA e)) (hy : a.eval y = .agg (evA e)) : YieldsIf Try.prog ops S op (.bool true) a :=
  .inl ⟨hw, fun w _ => by
    unfold execOp
    simp only [ho, hx, hy, Sem.run_bind, guard_ev, eql_ev w e, Result.andThen_ok]
    rfl⟩

/-- what is so behind k events that were told -/
structure JP (w : World) (l : List Ev) (a : Option Addr) (c : Nat) (ps : List Pl) (stop : Int) (wa : Option Addr) (wc : Nat) (oa : Option Addr) (oc : Nat) (wB nB gB oB : Nat) (k : Nat) (W : World) : Prop where
  gr : Gr w W
  lb : Has W w.heap.size #[.slice a l.length c] 22
  sb : Has W (w.heap.size + 1) #[.int .u8 stop] 5
  wb : Has W wB #[.slice wa ps.length wc] 28
  nb : Has W nB #[.int .i64 k] 3
  gb : Has W gB #[.bool true] 4
  ob : Has W oB #[.slice oa ps.length oc] 47
  lr : RowAt W a (flatOf evL l)
  wr : RowAt W wa (flatOf numL (ps.map fun p => (p.pos : Int)))
  orr : RowAt W oa (flatOf plL ps)
/-- what does not change -/
structure JC (w : World) (l : List Ev) (a : Option Addr) (ps : List Pl) (wa oa : Option Addr) (nB gB : Nat) : Prop where
  n0 : w.heap.size ≤ nB
  g0 : w.heap.size ≤ gB
  la : l ≠ [] → blkOf a ≠ nB ∧ blkOf a ≠ gB
  wa : ps ≠ [] → blkOf wa ≠ nB ∧ blkOf wa ≠ gB
  oa : ps ≠ [] → blkOf oa ≠ nB ∧ blkOf oa ≠ gB
  at' : ∀ p ∈ ps, p.pos < l.length ∧ l.getD p.pos ev0 = p.ev
  len : ps.length ≤ 900
theorem RowAt.keep {w w' : World} {a : Option Addr} {xs : List Value} {e : List Nat} (h : RowAt w a xs) (g : Kp e w w') (ha : xs ≠ [] → blkOf a ∉ e) : RowAt w' a xs := by
  by_cases q : xs = []
  · exact .inl q
  · exact h.kept g fun y hy => by subst hy; exact ha q
theorem JP.later {w : World} {l : List Ev} {a : Option Addr} {c : Nat} {ps : List Pl} {stop : Int} {wa : Option Addr} {wc : Nat} {oa : Option Addr} {oc wB nB gB oB k : Nat} {W W' : World} (h : JP w l a c ps stop wa wc oa oc wB nB gB oB k W) (g : Gr W W') : JP w l a c ps stop wa wc oa oc wB nB gB oB k W' :=
  ⟨h.gr.trans g, h.lb.later g, h.sb.later g, h.wb.later g, h.nb.later g, h.gb.later g, h.ob.later g, h.lr.later g, h.wr.later g, h.orr.later g⟩
theorem flat_ne {α : Type} {f : α → List Value} {l : List α} (h : flatOf f l ≠ []) : l ≠ [] := fun q => h (by rw [q]; rfl)
/-- one more is counted -/
theorem JP.more {w : World} {l : List Ev} {a : Option Addr} {c : Nat} {ps : List Pl} {stop : Int} {wa : Option Addr} {wc : Nat} {oa : Option Addr} {oc wB nB gB oB k : Nat} {W : World} (h : JP w l a c ps stop wa wc oa oc wB nB gB oB k W) (hc : JC w l a ps wa oa nB gB) :
    JP w l a c ps stop wa wc oa oc wB nB gB oB (k + 1) ((W.setCell ⟨gB, 0, none⟩ (.bool true)).setCell ⟨nB, 0, none⟩ (.int .i64 ((k : Int) + 1))) := by
  have q := (Kp.setCell W gB 0 (.bool true)).trans (Kp.setCell (W.setCell ⟨gB, 0, none⟩ (.bool true)) nB 0 (.int .i64 ((k : Int) + 1))) (f := [gB, nB]) (fun x h => by simp at h; simp [h]) (fun x h => .inl (by simp at h; simp [h]))
  have ne : ∀ {g : Nat} {C : Array Value} {t : TypeId}, Has W g C t → t ≠ 3 → t ≠ 4 → g ∉ [gB, nB] := fun {g C t} hg h1 h2 hm => by
    rcases List.mem_cons.1 hm with rfl | hm
    · exact hg.apart h.gb h2 rfl
    · rw [List.mem_singleton.1 hm] at hg; exact hg.apart h.nb h1 rfl
  have gn : gB ≠ nB := fun z => (h.gb.apart h.nb (by decide)) z
  refine ⟨(h.gr.setCell (a := ⟨gB, 0, none⟩) hc.g0 _).setCell (a := ⟨nB, 0, none⟩) hc.n0 _, h.lb.kept q (ne h.lb (by decide) (by decide)), h.sb.kept q (ne h.sb (by decide) (by decide)), h.wb.kept q (ne h.wb (by decide) (by decide)), ?_, ?_, h.ob.kept q (ne h.ob (by decide) (by decide)), ?_, ?_, ?_⟩
  · exact ((h.nb.aside (fun z => gn z.symm) 0 (.bool true)).set 0 (.int .i64 ((k : Int) + 1))).of (by simp)
  · exact ((h.gb.set 0 (.bool true)).aside gn 0 _).of rfl
  · exact h.lr.keep q fun z => by have := hc.la (flat_ne z); simp; omega
  · exact h.wr.keep q fun z => by have := hc.wa (fun y => flat_ne z (by rw [y]; rfl)); simp; omega
  · exact h.orr.keep q fun z => by have := hc.oa (flat_ne z); simp; omega
theorem wp_store_bool {o : Oper} {a : Act} {w : World} {K : Act → World → Prop} {Q : Exit → Act → World → Prop} (hd0 : o.dst = none) (x y : Operand) (ho : o.op = .store 4 x y) (g j : Nat) (hx : a.eval x = .pointer (some ⟨g, j, none⟩)) (n : Bool) (hy : a.eval y = .bool n)
    (m : Bool) (hc : w.cell? ⟨g, j, none⟩ = some (.bool m)) (hf : w.frozen? ⟨g, j, none⟩ = false) (h : K a (w.setCell ⟨g, j, none⟩ (.bool n))) : Oper.wp Try.prog o a w K Q := by
  unfold Oper.wp execOp
  simp only [ho, hx, hy]
  go_simp
  exact h

set_option maxHeartbeats 4000000 in
theorem fn_calls {w : World} {l : List Ev} {a : Option Addr} {c : Nat} {ps : List Pl} {stop : Int} {wa : Option Addr} {wc : Nat} {oa : Option Addr} {oc wB nB gB oB k : Nat} {W : World} (h : JP w l a c ps stop wa wc oa oc wB nB gB oB k W) (hc : JC w l a ps wa oa nB gB) (hln : l.length ≤ 400) (hk : k < ps.length) (hs0 : 0 ≤ stop) (hs1 : stop < 256) :
    Calls Try.prog 16 #[.int .i64 (ps.getD k pl0).pos, .agg (evA (ps.getD k pl0).ev), .pointer (some ⟨gB, 0, none⟩), .pointer (some ⟨nB, 0, none⟩), .pointer (some ⟨wB, 0, none⟩), .pointer (some ⟨w.heap.size, 0, none⟩), .pointer (some ⟨w.heap.size + 1, 0, none⟩)] W fun e W' =>
      e = .returned (.bool (decide ((k : Int) + 1 < stop))) ∧ JP w l a c ps stop wa wc oa oc wB nB gB oB (k + 1) W' := by
  obtain ⟨hp1, hp2⟩ := hc.at' _ (mem_getD hk pl0)
  have hkl := hc.len
  have hk2 : (k : Int) < ps.length := by omega
  have hk3 : ¬ (k : Int) < 0 := by omega
  obtain ⟨wb', wo, rfl, -⟩ := h.wr.get (by rw [flatOf_length numL_len, List.length_map]; omega)
  obtain ⟨lb', lo, rfl, -⟩ := h.lr.get (by rw [flatOf_length evL_len]; omega)
  have hwc : (ps.map fun p => (p.pos : Int)).getD k 0 = (ps.getD k pl0).pos := by
    rw [List.getD_eq_getElem?_getD, List.getElem?_map, List.getD_eq_getElem?_getD, List.getElem?_eq_getElem hk]
    rfl
  have cw : ∀ u, Gr W u → u.cell? ⟨wb', wo + k, none⟩ = some (.int .i64 (ps.getD k pl0).pos) := fun u g => by
    have q := (h.wr.later g).cell numL_len (i := k) (by rw [List.length_map]; exact hk) 0 0 (by omega)
    rw [hwc, Nat.mul_one, Nat.add_zero] at q
    exact q
  have cl : ∀ u, Gr W u → ∀ j, j < 8 → u.cell? ⟨lb', lo + (ps.getD k pl0).pos * 8 + j, none⟩ = (evL (ps.getD k pl0).ev)[j]? := fun u g j hj => by
    have q := (h.lr.later g).cell evL_len hp1 ev0 j hj
    rw [hp2, ← Nat.add_assoc] at q
    exact q
  generalize ps.getD k pl0 = p at cw cl hp1
  obtain ⟨pos, x, hok⟩ := p
  simp only at cw cl hp1
  have hp3 : (pos : Int) < l.length := by omega
  have hp4 : ¬ (pos : Int) < 0 := by omega
  have CW := hide cw
  have CL : Hid (∀ u, Gr W u → u.cell? ⟨lb', lo + pos * 8, none⟩ = some (.int .i64 x.kind) ∧ u.cell? ⟨lb', lo + pos * 8 + 1, none⟩ = some (.int .i64 x.who) ∧ u.cell? ⟨lb', lo + pos * 8 + 2, none⟩ = some (.int .i64 x.pc) ∧ u.cell? ⟨lb', lo + pos * 8 + 3, none⟩ = some (.int .i64 x.addr) ∧ u.cell? ⟨lb', lo + pos * 8 + 4, none⟩ = some (.int .u32 x.value) ∧ u.cell? ⟨lb', lo + pos * 8 + 5, none⟩ = some (.int .u32 x.old) ∧ u.cell? ⟨lb', lo + pos * 8 + 6, none⟩ = some (.int .u32 x.k) ∧ u.cell? ⟨lb', lo + pos * 8 + 7, none⟩ = some (.bool x.ok)) := fun u g =>
    ⟨cl u g 0 (by omega), cl u g 1 (by omega), cl u g 2 (by omega), cl u g 3 (by omega), cl u g 4 (by omega), cl u g 5 (by omega), cl u g 6 (by omega), cl u g 7 (by omega)⟩
  have HH := hide h
  have HCC := hide hc
  clear cw cl h hc hwc hp2
  have g0 := (Gr.refl W).alloc (evA x) 35
  have he := Has.new W (evA x) 35
  go_enter Try.func16, Try.ntmps16
  go_upto_region 1 with (fail)
  change Code.wp _ _ _ _ (W.alloc (.cells (evA x) 35))
  generalize W.alloc (.cells (evA x) 35) = w1 at g0 he ⊢
  generalize W.heap.size = eb at he ⊢
  have h1 := HH.out.later (g0.trans (Gr.refl w1).drew)
  have kg := h1.gb.cell (o := 0) (v := .bool true) rfl
  have kn := h1.nb.cell (o := 0) (v := .int .i64 k) rfl
  have kw := h1.wb.cell (o := 0) (v := .slice (some ⟨wb', wo, none⟩) ps.length wc) rfl
  have kl := h1.lb.cell (o := 0) (v := .slice (some ⟨lb', lo, none⟩) l.length c) rfl
  have cw := CW.out w1.drew (g0.trans (Gr.refl w1).drew)
  obtain ⟨z0, z1, z2, z3, z4, z5, z6, z7⟩ := CL.out w1.drew (g0.trans (Gr.refl w1).drew)
  refine begin_late 30 [29] (fun w' => w' = w1.drew) (by kernel_rfl) rfl ?_
  have hH : w1.drew = w1.drew := rfl
  refine AnyL.take 0 (some 10) (.bool true) rfl rfl (by kernel_rfl) (by kernel_rfl) (by kernel_rfl) (by kernel_rfl) (fun _ _ _ h => h) (yields_held _ (by kernel_rfl) (fun w' hw' => by subst hw'; go_simp)) hH ?_
  simp only [Act.put, List.setIfInBounds_toArray, List.set_cons_zero, List.set_cons_succ]
  refine AnyL.takeP 1 (some 11) (.bool true) rfl rfl (by kernel_rfl) (by kernel_rfl) (by kernel_rfl) (by kernel_rfl) (fun _ _ _ h => h) (by kernel_rfl) (fun w' => by go_simp) (fun _ => hH) ?_
  simp only [Act.put, List.setIfInBounds_toArray, List.set_cons_zero, List.set_cons_succ]
  refine AnyL.take 2 (some 12) (.int .i64 k) rfl rfl (by kernel_rfl) (by kernel_rfl) (by kernel_rfl) (by kernel_rfl) (fun _ _ _ h => h) (yields_held _ (by kernel_rfl) (fun w' hw' => by subst hw'; go_simp)) hH ?_
  simp only [Act.put, List.setIfInBounds_toArray, List.set_cons_zero, List.set_cons_succ]
  refine AnyL.take 3 (some 13) (.slice (some ⟨wb', wo, none⟩) ps.length wc) rfl rfl (by kernel_rfl) (by kernel_rfl) (by kernel_rfl) (by kernel_rfl) (fun _ _ _ h => h) (yields_held _ (by kernel_rfl) (fun w' hw' => by subst hw'; go_simp)) hH ?_
  simp only [Act.put, List.setIfInBounds_toArray, List.set_cons_zero, List.set_cons_succ]
  refine AnyL.takeP 4 (some 14) (.int .i64 ps.length) rfl rfl (by kernel_rfl) (by kernel_rfl) (by kernel_rfl) (by kernel_rfl) (fun _ _ _ h => h) (by kernel_rfl) (fun w' => by go_simp) (fun _ => hH) ?_
  simp only [Act.put, List.setIfInBounds_toArray, List.set_cons_zero, List.set_cons_succ]
  refine AnyL.takeP 5 (some 15) (.bool true) rfl rfl (by kernel_rfl) (by kernel_rfl) (by kernel_rfl) (by kernel_rfl) (fun _ _ _ h => h) (by kernel_rfl) (fun w' => by go_simp) (fun _ => hH) ?_
  simp only [Act.put, List.setIfInBounds_toArray, List.set_cons_zero, List.set_cons_succ]
  refine AnyL.takeP 6 (some 16) (.bool true) rfl rfl (by kernel_rfl) (by kernel_rfl) (by kernel_rfl) (by kernel_rfl) (fun _ _ _ h => h) (by kernel_rfl) (fun w' => by go_simp) (fun _ => hH) ?_
  simp only [Act.put, List.setIfInBounds_toArray, List.set_cons_zero, List.set_cons_succ]
  refine AnyL.takeP 7 (some 17) (.bool true) rfl rfl (by kernel_rfl) (by kernel_rfl) (by kernel_rfl) (by kernel_rfl) (fun _ _ _ h => h) (by kernel_rfl) (fun w' => by go_simp) (fun _ => hH) ?_
  simp only [Act.put, List.setIfInBounds_toArray, List.set_cons_zero, List.set_cons_succ]
  refine AnyL.takeP 8 (some 18) (.int .i64 pos) rfl rfl (by kernel_rfl) (by kernel_rfl) (by kernel_rfl) (by kernel_rfl) (fun _ _ _ h => h) (by kernel_rfl) (fun w' => by go_simp) (fun _ => hH) ?_
  simp only [Act.put, List.setIfInBounds_toArray, List.set_cons_zero, List.set_cons_succ]
  refine AnyL.take 9 (some 19) (.slice (some ⟨wb', wo, none⟩) ps.length wc) rfl rfl (by kernel_rfl) (by kernel_rfl) (by kernel_rfl) (by kernel_rfl) (fun _ _ _ h => h) (yields_held _ (by kernel_rfl) (fun w' hw' => by subst hw'; go_simp)) hH ?_
  simp only [Act.put, List.setIfInBounds_toArray, List.set_cons_zero, List.set_cons_succ]
  refine AnyL.take 10 (some 20) (.int .i64 k) rfl rfl (by kernel_rfl) (by kernel_rfl) (by kernel_rfl) (by kernel_rfl) (fun _ _ _ h => h) (yields_held _ (by kernel_rfl) (fun w' hw' => by subst hw'; go_simp)) hH ?_
  simp only [Act.put, List.setIfInBounds_toArray, List.set_cons_zero, List.set_cons_succ]
  refine AnyL.takeP 11 (some 21) (.pointer (some ⟨wb', wo + k, none⟩)) rfl rfl (by kernel_rfl) (by kernel_rfl) (by kernel_rfl) (by kernel_rfl) (fun _ _ _ h => h) (by kernel_rfl) (fun w' => by go_simp) (fun _ => hH) ?_
  simp only [Act.put, List.setIfInBounds_toArray, List.set_cons_zero, List.set_cons_succ]
  refine AnyL.take 12 (some 22) (.int .i64 pos) rfl rfl (by kernel_rfl) (by kernel_rfl) (by kernel_rfl) (by kernel_rfl) (fun _ _ _ h => h) (yields_held _ (by kernel_rfl) (fun w' hw' => by subst hw'; go_simp)) hH ?_
  simp only [Act.put, List.setIfInBounds_toArray, List.set_cons_zero, List.set_cons_succ]
  refine AnyL.takeP 13 (some 23) (.bool true) rfl rfl (by kernel_rfl) (by kernel_rfl) (by kernel_rfl) (by kernel_rfl) (fun _ _ _ h => h) (by kernel_rfl) (fun w' => by go_simp) (fun _ => hH) ?_
  simp only [Act.put, List.setIfInBounds_toArray, List.set_cons_zero, List.set_cons_succ]
  refine AnyL.takeP 14 (some 24) (.bool true) rfl rfl (by kernel_rfl) (by kernel_rfl) (by kernel_rfl) (by kernel_rfl) (fun _ _ _ h => h) (by kernel_rfl) (fun w' => by go_simp) (fun _ => hH) ?_
  simp only [Act.put, List.setIfInBounds_toArray, List.set_cons_zero, List.set_cons_succ]
  refine AnyL.takeP 15 (some 25) (.bool true) rfl rfl (by kernel_rfl) (by kernel_rfl) (by kernel_rfl) (by kernel_rfl) (fun _ _ _ h => h) (by kernel_rfl) (fun w' => by go_simp) (fun _ => hH) ?_
  simp only [Act.put, List.setIfInBounds_toArray, List.set_cons_zero, List.set_cons_succ]
  refine AnyL.takeP 16 (some 26) (.int .i64 pos) rfl rfl (by kernel_rfl) (by kernel_rfl) (by kernel_rfl) (by kernel_rfl) (fun _ _ _ h => h) (by kernel_rfl) (fun w' => by go_simp) (fun _ => hH) ?_
  simp only [Act.put, List.setIfInBounds_toArray, List.set_cons_zero, List.set_cons_succ]
  refine AnyL.take 17 (some 27) (.slice (some ⟨lb', lo, none⟩) l.length c) rfl rfl (by kernel_rfl) (by kernel_rfl) (by kernel_rfl) (by kernel_rfl) (fun _ _ _ h => h) (yields_held _ (by kernel_rfl) (fun w' hw' => by subst hw'; go_simp)) hH ?_
  simp only [Act.put, List.setIfInBounds_toArray, List.set_cons_zero, List.set_cons_succ]
  refine AnyL.takeP 18 (some 28) (.int .i64 l.length) rfl rfl (by kernel_rfl) (by kernel_rfl) (by kernel_rfl) (by kernel_rfl) (fun _ _ _ h => h) (by kernel_rfl) (fun w' => by go_simp) (fun _ => hH) ?_
  simp only [Act.put, List.setIfInBounds_toArray, List.set_cons_zero, List.set_cons_succ]
  refine AnyL.takeP 19 (some 29) (.bool true) rfl rfl (by kernel_rfl) (by kernel_rfl) (by kernel_rfl) (by kernel_rfl) (fun _ _ _ h => h) (by kernel_rfl) (fun w' => by go_simp) (fun _ => hH) ?_
  simp only [Act.put, List.setIfInBounds_toArray, List.set_cons_zero, List.set_cons_succ]
  refine AnyL.takeP 20 (some 30) (.bool true) rfl rfl (by kernel_rfl) (by kernel_rfl) (by kernel_rfl) (by kernel_rfl) (fun _ _ _ h => h) (by kernel_rfl) (fun w' => by go_simp) (fun _ => hH) ?_
  simp only [Act.put, List.setIfInBounds_toArray, List.set_cons_zero, List.set_cons_succ]
  refine AnyL.takeP 21 (some 31) (.bool true) rfl rfl (by kernel_rfl) (by kernel_rfl) (by kernel_rfl) (by kernel_rfl) (fun _ _ _ h => h) (by kernel_rfl) (fun w' => by go_simp) (fun _ => hH) ?_
  simp only [Act.put, List.setIfInBounds_toArray, List.set_cons_zero, List.set_cons_succ]
  refine AnyL.take 22 (some 32) (.agg (evA x)) rfl rfl (by kernel_rfl) (by kernel_rfl) (by kernel_rfl) (by kernel_rfl) (fun _ _ _ h => h) (take_ev (by kernel_rfl) _ rfl eb (by kernel_rfl) x (fun w h => by subst h; exact he.drew)) hH ?_
  simp only [Act.put, List.setIfInBounds_toArray, List.set_cons_zero, List.set_cons_succ]
  refine AnyL.take 23 (some 33) (.slice (some ⟨lb', lo, none⟩) l.length c) rfl rfl (by kernel_rfl) (by kernel_rfl) (by kernel_rfl) (by kernel_rfl) (fun _ _ _ h => h) (yields_held _ (by kernel_rfl) (fun w' hw' => by subst hw'; go_simp)) hH ?_
  simp only [Act.put, List.setIfInBounds_toArray, List.set_cons_zero, List.set_cons_succ]
  refine AnyL.takeP 24 (some 34) (.int .i64 pos) rfl rfl (by kernel_rfl) (by kernel_rfl) (by kernel_rfl) (by kernel_rfl) (fun _ _ _ h => h) (by kernel_rfl) (fun w' => by go_simp) (fun _ => hH) ?_
  simp only [Act.put, List.setIfInBounds_toArray, List.set_cons_zero, List.set_cons_succ]
  refine AnyL.takeP 25 (some 35) (.pointer (some ⟨lb', lo + pos * 8, none⟩)) rfl rfl (by kernel_rfl) (by kernel_rfl) (by kernel_rfl) (by kernel_rfl) (fun _ _ _ h => h) (by kernel_rfl) (fun w' => by go_simp) (fun _ => hH) ?_
  simp only [Act.put, List.setIfInBounds_toArray, List.set_cons_zero, List.set_cons_succ]
  refine AnyL.take 26 (some 36) (.agg (evA x)) rfl rfl (by kernel_rfl) (by kernel_rfl) (by kernel_rfl) (by kernel_rfl) (fun _ _ _ h => h) (yields_held _ (by kernel_rfl) (fun w' hw' => by subst hw'; go_simp)) hH ?_
  simp only [Act.put, List.setIfInBounds_toArray, List.set_cons_zero, List.set_cons_succ]
  refine AnyL.take 27 (some 37) (.bool true) rfl rfl (by kernel_rfl) (by kernel_rfl) (by kernel_rfl) (by kernel_rfl) (fun _ _ _ h => h) (take_eqev (by kernel_rfl) _ _ rfl x (by kernel_rfl) (by kernel_rfl)) hH ?_
  simp only [Act.put, List.setIfInBounds_toArray, List.set_cons_zero, List.set_cons_succ]
  refine AnyL.takeP 28 (some 38) (.bool true) rfl rfl (by kernel_rfl) (by kernel_rfl) (by kernel_rfl) (by kernel_rfl) (fun _ _ _ h => h) (by kernel_rfl) (fun w' => by go_simp) (fun _ => hH) ?_
  simp only [Act.put, List.setIfInBounds_toArray, List.set_cons_zero, List.set_cons_succ]
  refine AnyL.one 29 (by kernel_rfl) rfl (by kernel_rfl) ?_
  refine wp_store_bool rfl _ _ rfl gB 0 (by kernel_rfl) true (by kernel_rfl) true kg (h1.gb.free 0) ?_
  refine ⟨late (by kernel_rfl), ?_⟩
  refine AnyL.done (by kernel_rfl) ?_
  have h2 := h1.more HCC.out
  have gn : nB ≠ gB := fun z => (h1.nb.apart h1.gb (by decide)) z
  have kn2 := (h1.nb.aside gn 0 (.bool true)).cell (o := 0) (v := .int .i64 k) rfl
  have fn2 := (h1.nb.aside gn 0 (.bool true)).free 0
  clear h1 kg kn kw kl cw z0 z1 z2 z3 z4 z5 z6 z7 hH he
  generalize w1.drew.setCell ⟨gB, 0, none⟩ (.bool true) = w2 at h2 kn2 fn2 ⊢
  go_upto_region 3 with (fail)
  generalize w2.setCell ⟨nB, 0, none⟩ (.int .i64 ((k : Int) + 1)) = w3 at h2 ⊢
  have ks2 := h2.sb.cell (o := 0) (v := .int .u8 stop) rfl
  have kn3 := h2.nb.cell (o := 0) (v := .int .i64 ((k : Int) + 1)) (by simp)
  have ws : IntKind.i64.wrap stop = stop := by simp [IntKind.wrap, IntKind.bits, IntKind.signed]; omega
  have H2 := hide h2
  clear kn2 fn2 h2
  go_wp2_with (fail)
  go_ret
  exact ⟨rfl, H2.out⟩
end Go.Proofs.Ytfhplbmgjgfihaa
