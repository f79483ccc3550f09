/-
  What note of a side does: an event is appended to the machine's. No condition but what each law names.
-/
import Derived.Test.YthbenfnanhpcoaaGreatDoorZtaz
import Derived.Deep.CutBlock
namespace Go.Proofs.YthbenfnanhpcoaaGreatDoor.Mc
open Go.ChangeShapes Go.WideShapes Go.ChangeAt Go.RowKit
set_option linter.unusedVariables false
set_option maxRecDepth 20000

theorem build_ev {o : Oper} {a : Act} {w : World} (x : Operand) (ho : o.op = .buildSlice 52 1 #[(0, x)]) (e : Ev) (hx : a.eval x = .agg (evA e)) :
    (execOp a.eval o).run Tryz.prog w = .ok (.value (.slice (some ⟨w.heap.size, 0, none⟩) 1 1)) (w.alloc (.cells (evA e) 68)) := by
  unfold execOp
  simp only [ho, List.map_toArray, List.map_cons, List.map_nil, hx]
  clear hx
  go_simp
theorem infoE8 : (Tryz.prog.info? 68).map (·.size) = some 8 := by kernel_rfl
theorem take_ev {ops : Array Oper} {S : World → Prop} {op : Oper} {a : Act} (hw : Region.wanted op (yielded ops a.tmps) = true) (x : Operand) (ho : op.op = .load 68 x)
    (g : Nat) (hx : a.eval x = .pointer (some ⟨g, 0, none⟩)) (e : Ev) (hS : ∀ w, S w → Has w g (evA e) 68) : YieldsIf Tryz.prog ops S op (.agg (evA e)) a :=
  .inl ⟨hw, fun w hw' => by
    unfold execOp
    simp only [ho, hx, Instr.loadAt, Instr.sureAddr, Sem.run_bind, Sem.run_pure, Result.andThen_ok, run_loadVar_row w g 68 68 (evA e) (0, 0) _ (hS w hw') Tryz.underlying68 rfl infoE8]⟩
theorem wp_store_evs {o : Oper} {a : Act} {w : World} {K : Act → World → Prop} {Q : Exit → Act → World → Prop} (hd0 : o.dst = none) (x y : Operand) (ho : o.op = .store 52 x y) (g j : Nat) (hx : a.eval x = .pointer (some ⟨g, j, none⟩)) (sa : Option Addr) (sn sc : Nat) (hy : a.eval y = .slice sa sn sc)
    (oa : Option Addr) (on oc : Nat) (hc : w.cell? ⟨g, j, none⟩ = some (.slice oa on oc)) (hf : w.frozen? ⟨g, j, none⟩ = false) (h : K a (w.setCell ⟨g, j, none⟩ (.slice sa sn sc))) : Oper.wp Tryz.prog o a w K Q := by
  unfold Oper.wp execOp
  simp only [ho, hx, hy]
  go_simp
  exact h

/-- the machine's events are others -/
theorem Mw.setE {k : Mk} {s : Ms} {e e' : Value} {u u' : World} {l : List Ev} (h : Mw k s e u) (kg : Kp (ob e) u u') (ho : EvsO u' 0 e' l) (hp : 0 ∉ ob e') : Mw k ⟨s.sides, s.mem, s.slp, l, s.room⟩ e' (u'.setCell ⟨k.mb, 19, none⟩ e') := by
  have q := Kp.setCell u' k.mb 19 e'
  obtain ⟨C, hC, iC⟩ := id h.q
  have n0 : 0 ∉ ob e := fun z => h.pos (mem_foot.2 (.inr (.inr (.inr (.inl z)))))
  have a1 : ∀ {t sz n v xs}, u.ownsRow 0 t sz v n xs → t ≠ 68 → ∀ g, v.ownBlock = some g → g ∉ ob e := fun hr ht g hg z => own_apart hr h.evs ht (mem_ob.2 hg) z
  have a2 : ∀ {g C t}, Has u g C t → t ≠ 68 → g ∉ ob e := fun {g C t} hg ht z => own_aside h.evs hg (fun y => ht y.symm) z
  have hC' := hC.kept kg (a2 hC (by decide))
  have b1 : ∀ {t sz n v xs}, u'.ownsRow 0 t sz v n xs → t ≠ 88 → ∀ g, v.ownBlock = some g → g ∉ [k.mb] := fun hr ht g hg z => own_aside hr hC' ht (mem_ob.2 (by rw [hg, show g = k.mb by simpa using z]))
  have b2 : ∀ {g D t}, Has u' g D t → t ≠ 88 → g ∉ [k.mb] := fun {g D t} hg ht z => hg.apart hC' ht (by simpa using z)
  have m0 : 0 ∉ [k.mb] := fun z => h.pos (mem_foot.2 (.inl (by simpa using z)))
  have r1 := own_kept h.row kg (a1 h.row (by decide))
  have r2 := own_kept h.mem kg (a1 h.mem (by decide))
  refine ⟨Laid.kept (Laid.kept h.laid kg n0) q m0, ⟨C, (hC'.set 19 e').of (Kq.mach_setE iC.size e'), iC⟩, own_kept r1 q (b1 r1 (by decide)), h.len, fun i x hx => ?_, h.nod, own_kept r2 q (b1 r2 (by decide)), own_kept ho q (b1 ho (by decide)), h.num, h.most, h.wrd, h.ok, h.slp, h.few, fun z => ?_⟩
  · have hs := h.side i x hx
    obtain ⟨B, hB, -⟩ := hs.hs
    have hs1 := Si.kept hs kg (a2 hB (by decide)) (fun y hy => a1 hs.code (by decide) y (mem_ob.1 hy))
    obtain ⟨B2, hB2, -⟩ := hs1.hs
    exact Si.kept hs1 q (b2 hB2 (by decide)) (fun y hy => b1 hs1.code (by decide) y (mem_ob.1 hy))
  · rcases mem_foot.1 z with y | y | y | y | y | y
    · exact h.pos (mem_foot.2 (.inl y))
    · exact h.pos (mem_foot.2 (.inr (.inl y)))
    · exact h.pos (mem_foot.2 (.inr (.inr (.inl y))))
    · exact hp y
    · exact h.pos (mem_foot.2 (.inr (.inr (.inr (.inr (.inl y))))))
    · exact h.pos (mem_foot.2 (.inr (.inr (.inr (.inr (.inr y))))))

set_option maxHeartbeats 1000000 in
theorem note_does (k : Mk) (i : Nat) (x : Sk) (hx : k.ss[i]? = some x) (s : Ms) (v : Ev) (hq : s.evs.length ≤ 95000) (w : World) :
    Does (MI k) s w 64 #[.pointer (some ⟨x.g, 0, none⟩), .agg (evA v)] (.tuple #[]) (s.note i v) := by
  rintro F ⟨e, h, rfl⟩
  have HH := hide h
  have hl := hq
  have hw0 := h.laid.lt
  obtain ⟨B, sr, -⟩ := h.sr hx
  have hb0 := Has.new w (evA v) 68
  have ga := (Gr.refl w).alloc (evA v) 68
  have c1 := (sr.later ga).c1
  have cf := hb0.free 1
  have cz := hb0.cell (o := 1) (v := .int .i64 v.who) rfl
  have hb1 := Has.new w (evA (evOf v i)) 68
  have gb := (Gr.refl w).alloc (evA (evOf v i)) 68
  have hxe : w.heap.size ∉ ob e := fun z => Nat.lt_irrefl _ (own_lt h.evs z)
  have szu : (w.alloc (.cells (evA (evOf v i)) 68)).heap.size = w.heap.size + 1 := by simp
  clear h sr
  go_enter Tryz.func64, Tryz.ntmps64
  go_upto_region 2 with (fail)
  change Code.wp _ _ _ _ (w.alloc (.cells (evA (evOf v i)) 68))
  generalize w.alloc (.cells (evA (evOf v i)) 68) = u0 at gb hb1 szu ⊢
  clear c1 cf cz hb0 ga
  have h1 := HH.out.later gb.drew
  obtain ⟨B1, sr1, -⟩ := h1.sr hx
  obtain ⟨C1, hC1, iC1⟩ := id h1.q
  have hbx := hb1.drew
  obtain ⟨ad, cap, he, -, -, -, -⟩ := own_at h1.evs
  have ns : x.g ∉ ob e := fun z => own_aside h1.evs sr1.has (by decide) z
  have nm : k.mb ∉ ob e := fun z => own_aside h1.evs hC1 (by decide) z
  refine begin_late 17 [16] (fun w' => Kp (ob e) u0.drew w') (by kernel_rfl) rfl ?_
  have hH : Kp (ob e) u0.drew u0.drew := Kp.refl _ _
  refine AnyL.takeP 0 (some 9) (.pointer (some ⟨x.g, 0, none⟩)) rfl rfl (by kernel_rfl) (by kernel_rfl) (by kernel_rfl) (by kernel_rfl) (fun _ _ _ h => h) (by kernel_rfl) (fun w' => by go_simp) (fun _ => hH) ?_
  simp only [Act.put, List.setIfInBounds_toArray, List.set_cons_zero, List.set_cons_succ]
  refine AnyL.takeP 1 (some 10) (.pointer (some ⟨x.g, 0, none⟩)) rfl rfl (by kernel_rfl) (by kernel_rfl) (by kernel_rfl) (by kernel_rfl) (fun _ _ _ h => h) (by kernel_rfl) (fun w' => by go_simp) (fun _ => hH) ?_
  simp only [Act.put, List.setIfInBounds_toArray, List.set_cons_zero, List.set_cons_succ]
  refine AnyL.takeP 2 (some 11) (.pointer (some ⟨x.g, 0, none⟩)) rfl rfl (by kernel_rfl) (by kernel_rfl) (by kernel_rfl) (by kernel_rfl) (fun _ _ _ h => h) (by kernel_rfl) (fun w' => by go_simp) (fun _ => hH) ?_
  simp only [Act.put, List.setIfInBounds_toArray, List.set_cons_zero, List.set_cons_succ]
  refine AnyL.take 3 (some 12) (.pointer (some ⟨k.mb, 0, none⟩)) rfl rfl (by kernel_rfl) (by kernel_rfl) (by kernel_rfl) (by kernel_rfl) (fun _ _ _ h => h) (yields_held _ (by kernel_rfl) (fun w' hw' => by have c1 := (sr1.has.kept hw' ns).cell side_0; go_simp)) hH ?_
  simp only [Act.put, List.setIfInBounds_toArray, List.set_cons_zero, List.set_cons_succ]
  refine AnyL.takeP 4 (some 13) (.pointer (some ⟨x.g, 0, none⟩)) rfl rfl (by kernel_rfl) (by kernel_rfl) (by kernel_rfl) (by kernel_rfl) (fun _ _ _ h => h) (by kernel_rfl) (fun w' => by go_simp) (fun _ => hH) ?_
  simp only [Act.put, List.setIfInBounds_toArray, List.set_cons_zero, List.set_cons_succ]
  refine AnyL.takeP 5 (some 14) (.pointer (some ⟨x.g, 0, none⟩)) rfl rfl (by kernel_rfl) (by kernel_rfl) (by kernel_rfl) (by kernel_rfl) (fun _ _ _ h => h) (by kernel_rfl) (fun w' => by go_simp) (fun _ => hH) ?_
  simp only [Act.put, List.setIfInBounds_toArray, List.set_cons_zero, List.set_cons_succ]
  refine AnyL.takeP 6 (some 15) (.pointer (some ⟨x.g, 0, none⟩)) rfl rfl (by kernel_rfl) (by kernel_rfl) (by kernel_rfl) (by kernel_rfl) (fun _ _ _ h => h) (by kernel_rfl) (fun w' => by go_simp) (fun _ => hH) ?_
  simp only [Act.put, List.setIfInBounds_toArray, List.set_cons_zero, List.set_cons_succ]
  refine AnyL.take 7 (some 16) (.pointer (some ⟨k.mb, 0, none⟩)) rfl rfl (by kernel_rfl) (by kernel_rfl) (by kernel_rfl) (by kernel_rfl) (fun _ _ _ h => h) (yields_held _ (by kernel_rfl) (fun w' hw' => by have c1 := (sr1.has.kept hw' ns).cell side_0; go_simp)) hH ?_
  simp only [Act.put, List.setIfInBounds_toArray, List.set_cons_zero, List.set_cons_succ]
  refine AnyL.takeP 8 (some 17) (.pointer (some ⟨k.mb, 0, none⟩)) rfl rfl (by kernel_rfl) (by kernel_rfl) (by kernel_rfl) (by kernel_rfl) (fun _ _ _ h => h) (by kernel_rfl) (fun w' => by go_simp) (fun _ => hH) ?_
  simp only [Act.put, List.setIfInBounds_toArray, List.set_cons_zero, List.set_cons_succ]
  refine AnyL.takeP 9 (some 18) (.pointer (some ⟨k.mb, 19, none⟩)) rfl rfl (by kernel_rfl) (by kernel_rfl) (by kernel_rfl) (by kernel_rfl) (fun _ _ _ h => h) (by kernel_rfl) (fun w' => by go_simp) (fun _ => hH) ?_
  simp only [Act.put, List.setIfInBounds_toArray, List.set_cons_zero, List.set_cons_succ]
  refine AnyL.take 10 (some 19) (e) rfl rfl (by kernel_rfl) (by kernel_rfl) (by kernel_rfl) (by kernel_rfl) (fun _ _ _ h => h) (yields_held _ (by kernel_rfl) (fun w' hw' => by have c1 := (hC1.kept hw' nm).cell (Kq.mach_e iC1.size); go_simp)) hH ?_
  simp only [Act.put, List.setIfInBounds_toArray, List.set_cons_zero, List.set_cons_succ]
  refine AnyL.take 11 (some 20) (.agg (evA (evOf v i))) rfl rfl (by kernel_rfl) (by kernel_rfl) (by kernel_rfl) (by kernel_rfl) (fun _ _ _ h => h) (take_ev (by kernel_rfl) _ rfl w.heap.size rfl (evOf v i) (fun w' hw' => hbx.kept hw' hxe)) hH ?_
  simp only [Act.put, List.setIfInBounds_toArray, List.set_cons_zero, List.set_cons_succ]
  refine AnyL.one 12 (by kernel_rfl) rfl (by kernel_rfl) ?_
  refine wp_made (some 21) rfl _ _ (build_ev _ rfl (evOf v i) (by kernel_rfl)) ?_
  refine ⟨fun _ => (((Gr.refl u0.drew).alloc (evA (evOf v i)) 68).kp _), ?_⟩
  simp only [Act.put, List.setIfInBounds_toArray, List.set_cons_zero, List.set_cons_succ]
  obtain ⟨e', w', hr, ho, hgr, hb⟩ := app_rec (ty := 52) evL_len evL_one (T := 52) Tryz.underlying52 infoEv (by decide) (by decide) (by decide) h1.evs (evOf v i) (evA (evOf v i)) rfl (by omega) (by omega)
  refine AnyL.one 13 (by kernel_rfl) rfl (by kernel_rfl) ?_
  refine wp_app (some 22) rfl _ _ 52 rfl e _ (by kernel_rfl) rfl e' w' hr ?_
  have kg : Kp (ob e) u0.drew w' := (((Gr.refl u0.drew).alloc (evA (evOf v i)) 68).kp (ob e)).trans (Kp.grown hgr) (fun _ h => h) (fun _ h => .inl h)
  refine ⟨fun _ => kg, ?_⟩
  simp only [Act.put, List.setIfInBounds_toArray, List.set_cons_zero, List.set_cons_succ]
  replace hH := kg
  refine AnyL.takeP 14 (some 23) (.pointer (some ⟨k.mb, 0, none⟩)) rfl rfl (by kernel_rfl) (by kernel_rfl) (by kernel_rfl) (by kernel_rfl) (fun _ _ _ h => h) (by kernel_rfl) (fun w' => by go_simp) (fun _ => hH) ?_
  simp only [Act.put, List.setIfInBounds_toArray, List.set_cons_zero, List.set_cons_succ]
  refine AnyL.takeP 15 (some 24) (.pointer (some ⟨k.mb, 19, none⟩)) rfl rfl (by kernel_rfl) (by kernel_rfl) (by kernel_rfl) (by kernel_rfl) (fun _ _ _ h => h) (by kernel_rfl) (fun w' => by go_simp) (fun _ => hH) ?_
  simp only [Act.put, List.setIfInBounds_toArray, List.set_cons_zero, List.set_cons_succ]
  refine AnyL.one 16 (by kernel_rfl) rfl (by kernel_rfl) ?_
  obtain ⟨ad', cap', hve', -, -, -, -⟩ := own_at ho
  have cy := (hC1.kept kg nm).cell (Kq.mach_e iC1.size)
  rw [he] at cy
  refine wp_store_evs rfl _ _ rfl k.mb 19 (by kernel_rfl) ad' _ cap' hve' _ _ _ cy ((hC1.kept kg nm).free 19) ?_
  refine ⟨late (by kernel_rfl), ?_⟩
  refine AnyL.done (by kernel_rfl) ?_
  rw [← hve']
  have hpos : 0 ∉ ob e' := fun z => by
    rw [mem_ob] at z
    rcases hb with y | y
    · exact h1.pos (mem_foot.2 (.inr (.inr (.inr (.inl (by rw [mem_ob, ← y, z]))))))
    · rw [y] at z; simp at z
  have h2 := h1.setE kg ho hpos
  have hp := mi_post HH.out h2 (((gb.drew.kp []).trans kg (by simp) (fun y hy => .inl (mem_foot.2 (.inr (.inr (.inr (.inl hy))))))).trans (Kp.setCell w' k.mb 19 e') (fun _ h => h) (fun y hy => .inl (mem_foot.2 (.inl (by simpa using hy))))) (fun y hy => by
    rw [mem_ob] at hy
    rcases hb with z | z
    · exact .inl (mem_foot.2 (.inr (.inr (.inr (.inl (by rw [mem_ob, ← z, hy]))))))
    · rw [z] at hy
      have hy' : u0.drew.heap.size + 1 = y := by simpa using hy
      have : u0.drew.heap.size = u0.heap.size := rfl
      right; omega)
  clear cy hr ho hgr hb kg hH h1 h2 ns nm hbx hb1 gb hxe sr1 hC1
  generalize w'.setCell ⟨k.mb, 19, none⟩ e' = u at hp ⊢
  go_wp2_with (fail)
  go_end0
  exact ⟨rfl, hp⟩
end Go.Proofs.YthbenfnanhpcoaaGreatDoor.Mc
