/-
  What the port's Note and Sleep do to a yard. No condition but that there is room for what is asked.
-/
import Derived.Test.YtbmlliohepidaaaDoorAsk
namespace Go.Proofs.YtbmlliohepidaaaDoor
open Go.ChangeShapes Go.WideShapes Go.ChangeAt Go.RowKit
set_option linter.unusedVariables false

theorem build_ev {o : Oper} {a : Act} {w : World} (x : Operand) (ho : o.op = .buildSlice 38 1 #[(0, x)]) (e : Ev) (hx : a.eval x = .agg (evA e)) :
    (execOp a.eval o).run Tryd.prog w = .ok (.value (.slice (some ⟨w.heap.size, 0, none⟩) 1 1)) (w.alloc (.cells (evA e) 81)) := by
  unfold execOp
  simp only [ho, List.map_toArray, List.map_cons, List.map_nil, hx]
  clear hx
  go_simp
theorem build_slp {o : Oper} {a : Act} {w : World} (x : Operand) (ho : o.op = .buildSlice 37 1 #[(0, x)]) (e : Ent) (hx : a.eval x = .agg #[.int .i64 e.a, .int .i64 e.v]) :
    (execOp a.eval o).run Tryd.prog w = .ok (.value (.slice (some ⟨w.heap.size, 0, none⟩) 1 1)) (w.alloc (.cells #[.int .i64 e.a, .int .i64 e.v] 85)) := by
  unfold execOp
  simp only [ho, List.map_toArray, List.map_cons, List.map_nil, hx]
  clear hx
  go_simp
theorem infoE8 : (Tryd.prog.info? 81).map (·.size) = some 8 := by kernel_rfl
theorem take_ev {ops : Array Oper} {S : World → Prop} {op : Oper} {a : Act} (hw : Region.wanted op (yielded ops a.tmps) = true) (x : Operand) (ho : op.op = .load 81 x)
    (g : Nat) (hx : a.eval x = .pointer (some ⟨g, 0, none⟩)) (e : Ev) (hS : ∀ w, S w → Has w g (evA e) 81) : YieldsIf Tryd.prog ops S op (.agg (evA e)) a :=
  .inl ⟨hw, fun w hw' => by
    unfold execOp
    simp only [ho, hx, Instr.loadAt, Instr.sureAddr, Sem.run_bind, Sem.run_pure, Result.andThen_ok, run_loadVar_row w g 81 81 (evA e) (0, 0) _ (hS w hw') Tryd.underlying81 rfl infoE8]⟩

set_option maxRecDepth 20000 in
set_option maxHeartbeats 1000000 in
theorem note_does (k : Yc) (s : Ys) (x : Ev) (hq : 200 ≤ s.fuel) (w : World) :
    Does (YI k) s w 48 #[.agg (evA x), .pointer (some ⟨k.wb, 0, none⟩)] (.tuple #[]) (s.note x) := by
  rintro F ⟨vbuf, vs, ve, B, h, rfl⟩
  have HH := hide h
  have ga := ((Gr.refl w).alloc (evA x) 81).drew
  have h1 := h.kept (ga.kp []) (by simp)
  have hbx := (Has.new w (evA x) 81).drew
  have hl : s.evs.length ≤ 90000 := by unfold Ys.fuel at hq; omega
  have hw0 := h.laid.lt
  have hxe : w.heap.size ∉ ob ve := fun z => Nat.lt_irrefl _ (own_lt h.evs z)
  clear h
  go_enter Tryd.func48, Tryd.ntmps48
  go_wp2_with (fail)
  change Code.wp _ _ _ _ (w.alloc (.cells (evA x) 81))
  have hsz : (w.alloc (.cells (evA x) 81)).heap.size = w.heap.size + 1 := size1 _ _ _
  generalize w.alloc (.cells (evA x) 81) = u0 at ga h1 hbx hsz ⊢
  obtain ⟨ad, cap, rfl, hrow, -, -, -⟩ := own_at h1.evs
  generalize hve : Value.slice ad s.evs.length cap = ve at h1 hxe HH
  have HVE := hide hve
  clear hve
  have nw : k.wb ∉ ob ve := fun z => own_aside h1.evs h1.hwb (by decide) z
  have ny : k.y ∉ ob ve := fun z => own_aside h1.evs h1.hy (by decide) z
  refine begin_late 11 [10] (fun w' => Kp (ob ve) u0.drew w') (by kernel_rfl) rfl ?_
  have hH : Kp (ob ve) u0.drew u0.drew := Kp.refl _ _
  refine AnyL.take 0 (some 3) (.pointer (some ⟨k.y, 0, none⟩)) rfl rfl (by kernel_rfl) (by kernel_rfl) (by kernel_rfl) (by kernel_rfl) (fun _ _ _ h => h) (yields_held _ (by kernel_rfl) (fun w' hw' => by have c1 := (h1.hwb.kept hw' nw).cell (o := 0) rfl; go_simp)) hH ?_
  simp only [Act.put, List.setIfInBounds_toArray, List.set_cons_zero, List.set_cons_succ]
  refine AnyL.take 1 (some 4) (.pointer (some ⟨k.y, 0, none⟩)) rfl rfl (by kernel_rfl) (by kernel_rfl) (by kernel_rfl) (by kernel_rfl) (fun _ _ _ h => h) (yields_held _ (by kernel_rfl) (fun w' hw' => by have c1 := (h1.hwb.kept hw' nw).cell (o := 0) rfl; go_simp)) hH ?_
  simp only [Act.put, List.setIfInBounds_toArray, List.set_cons_zero, List.set_cons_succ]
  refine AnyL.takeP 2 (some 5) (.pointer (some ⟨k.y, 0, none⟩)) rfl rfl (by kernel_rfl) (by kernel_rfl) (by kernel_rfl) (by kernel_rfl) (fun _ _ _ h => h) (by kernel_rfl) (fun w' => by go_simp) (fun _ => hH) ?_
  simp only [Act.put, List.setIfInBounds_toArray, List.set_cons_zero, List.set_cons_succ]
  refine AnyL.takeP 3 (some 6) (.pointer (some ⟨k.y, 6, none⟩)) rfl rfl (by kernel_rfl) (by kernel_rfl) (by kernel_rfl) (by kernel_rfl) (fun _ _ _ h => h) (by kernel_rfl) (fun w' => by go_simp) (fun _ => hH) ?_
  simp only [Act.put, List.setIfInBounds_toArray, List.set_cons_zero, List.set_cons_succ]
  refine AnyL.take 4 (some 7) (ve) rfl rfl (by kernel_rfl) (by kernel_rfl) (by kernel_rfl) (by kernel_rfl) (fun _ _ _ h => h) (yields_held _ (by kernel_rfl) (fun w' hw' => by have c1 := (h1.hy.kept hw' ny).cell (o := 6) (v := ve) rfl; go_simp)) hH ?_
  simp only [Act.put, List.setIfInBounds_toArray, List.set_cons_zero, List.set_cons_succ]
  refine AnyL.take 5 (some 8) (.agg (evA x)) rfl rfl (by kernel_rfl) (by kernel_rfl) (by kernel_rfl) (by kernel_rfl) (fun _ _ _ h => h) (take_ev (by kernel_rfl) _ rfl w.heap.size rfl x (fun w' hw' => hbx.kept hw' hxe)) hH ?_
  simp only [Act.put, List.setIfInBounds_toArray, List.set_cons_zero, List.set_cons_succ]
  refine AnyL.one 6 (by kernel_rfl) rfl (by kernel_rfl) ?_
  refine wp_made (some 9) rfl _ _ (build_ev _ rfl x (by kernel_rfl)) ?_
  refine ⟨fun _ => (((Gr.refl u0.drew).alloc (evA x) 81).kp _), ?_⟩
  simp only [Act.put, List.setIfInBounds_toArray, List.set_cons_zero, List.set_cons_succ]
  obtain ⟨ve', w', hr, ho, hgr, hb⟩ := app_rec (ty := 38) evL_len evL_one (T := 38) Tryd.underlying38 infoEv (by decide) (by decide) (by decide) h1.evs x (evA x) rfl (by omega) (by omega)
  refine AnyL.one 7 (by kernel_rfl) rfl (by kernel_rfl) ?_
  refine wp_app (some 10) rfl _ _ 38 rfl ve _ (by kernel_rfl) rfl ve' w' hr ?_
  have kg : Kp (ob ve) u0.drew w' := (((Gr.refl u0.drew).alloc (evA x) 81).kp (ob ve)).trans (Kp.grown hgr) (fun _ h => h) (fun _ h => .inl h)
  refine ⟨fun _ => kg, ?_⟩
  simp only [Act.put, List.setIfInBounds_toArray, List.set_cons_zero, List.set_cons_succ]
  replace hH := kg
  refine AnyL.takeP 8 (some 11) (.pointer (some ⟨k.y, 0, none⟩)) rfl rfl (by kernel_rfl) (by kernel_rfl) (by kernel_rfl) (by kernel_rfl) (fun _ _ _ h => h) (by kernel_rfl) (fun w' => by go_simp) (fun _ => hH) ?_
  simp only [Act.put, List.setIfInBounds_toArray, List.set_cons_zero, List.set_cons_succ]
  refine AnyL.takeP 9 (some 12) (.pointer (some ⟨k.y, 6, none⟩)) rfl rfl (by kernel_rfl) (by kernel_rfl) (by kernel_rfl) (by kernel_rfl) (fun _ _ _ h => h) (by kernel_rfl) (fun w' => by go_simp) (fun _ => hH) ?_
  simp only [Act.put, List.setIfInBounds_toArray, List.set_cons_zero, List.set_cons_succ]
  refine AnyL.one 10 (by kernel_rfl) rfl (by kernel_rfl) ?_
  obtain ⟨ad', cap', hve', -, -, -, -⟩ := own_at ho
  have cy := (h1.hy.kept kg ny).cell (o := 6) (v := ve) rfl
  rw [← HVE.out] at cy
  refine wp_store_evs rfl _ _ rfl k.y 6 (by kernel_rfl) ad' _ cap' hve' _ _ _ cy ((h1.hy.kept kg ny).free 6) ?_
  refine ⟨late (by kernel_rfl), ?_⟩
  refine AnyL.done (by kernel_rfl) ?_
  rw [← hve']
  have hpos : 0 ∉ ob ve' := fun z => by
    rw [mem_ob] at z
    rcases hb with e | e
    · exact h1.pos (mem_foot.2 (by simp [mem_ob, ← e, z]))
    · rw [e] at z; simp at z
  have h2 := h1.turn kg (fun x hx => .inr hx) 6 ve' (s.note x) vs ve' rfl rfl rfl rfl (own_kept h1.slp kg fun g hg z => own_apart h1.slp h1.evs (by decide) (mem_ob.2 hg) z) ho (fun z => by
    rcases mem_foot.1 z with e | e | e | e | e | e | e | e | e
    all_goals first | exact hpos e | exact h1.pos (mem_foot.2 (by simp [e])))
  have hp := yi_post HH.out h2 (((ga.kp []).trans kg (by simp) (fun x hx => .inl (mem_foot.2 (by simp [hx])))).trans (Kp.setCell w' k.y 6 ve') (fun _ h => h) (fun x hx => .inl (mem_foot.2 (by simp at hx; simp [hx])))) foot_buf foot_slp (fun x hx => by
    rw [mem_ob] at hx
    rcases hb with e | e
    · exact .inl (mem_foot.2 (by simp [mem_ob, ← e, hx]))
    · rw [e] at hx
      have hx' : u0.drew.heap.size + 1 = x := by simpa using hx
      have : u0.drew.heap.size = u0.heap.size := rfl
      right; omega)
  clear cy hr ho hgr hb kg hH h1 h2 nw ny hbx ga hrow
  generalize w'.setCell ⟨k.y, 6, none⟩ ve' = u at hp ⊢
  go_wp2_with (fail)
  go_end0
  exact ⟨rfl, by rw [HVE.out]; exact hp⟩
set_option maxRecDepth 20000 in
set_option maxHeartbeats 1000000 in
theorem sleep_does (k : Yc) (s : Ys) (m : Int) (hq : 200 ≤ s.fuel) (w : World) :
    Does (YI k) s w 44 #[.int .i64 m, .pointer (some ⟨k.ab, 0, none⟩), .pointer (some ⟨k.wb, 0, none⟩)] (.tuple #[]) ((s.ask 122).sleep m) := by
  rintro F ⟨vbuf0, vs0, ve0, B0, h, rfl⟩
  have HP := hide (Pst.start (yi_inv k) ⟨vbuf0, vs0, ve0, B0, h, rfl⟩)
  have ca := h.hab.cell (o := 0) rfl
  have hl : (s.ask 122).slp.length ≤ 90000 := by show s.slp.length ≤ 90000; unfold Ys.fuel at hq; omega
  have HQ := hide hq
  clear h hq
  go_enter Tryd.func44, Tryd.ntmps44
  go_wp2_with (fail)
  refine ((ask_does k s 122 HQ.out _).go HP.out).mono ?_
  rintro e u0 ⟨⟨rfl, -⟩, p⟩
  obtain ⟨F', ⟨vbuf, vs, ve, B, h0, rfl⟩, kp, hn, -, hz⟩ := id p
  generalize hs2 : s.ask 122 = s2 at h0 hl
  have HS2 := hide hs2
  clear hs2
  clear p HP
  have ga := (Gr.refl u0).drew
  have HH := hide h0
  have h1 := h0.kept (ga.kp []) (by simp)
  clear h0 ca
  go_wp2_with (fail)
  obtain ⟨ad, cap, rfl, hrow, -, -, -⟩ := own_at h1.slp
  generalize hvs : Value.slice ad s2.slp.length cap = vs at h1 HH hn
  have HVS := hide hvs
  clear hvs
  have nw : k.wb ∉ ob vs := fun z => own_aside h1.slp h1.hwb (by decide) z
  have ny : k.y ∉ ob vs := fun z => own_aside h1.slp h1.hy (by decide) z
  refine begin_late 12 [11] (fun w' => Kp (ob vs) u0.drew w') (by kernel_rfl) rfl ?_
  have hH : Kp (ob vs) u0.drew u0.drew := Kp.refl _ _
  refine AnyL.take 0 (some 6) (.pointer (some ⟨k.y, 0, none⟩)) rfl rfl (by kernel_rfl) (by kernel_rfl) (by kernel_rfl) (by kernel_rfl) (fun _ _ _ h => h) (yields_held _ (by kernel_rfl) (fun w' hw' => by have c1 := (h1.hwb.kept hw' nw).cell (o := 0) rfl; go_simp)) hH ?_
  simp only [Act.put, List.setIfInBounds_toArray, List.set_cons_zero, List.set_cons_succ]
  refine AnyL.take 1 (some 7) (.pointer (some ⟨k.y, 0, none⟩)) rfl rfl (by kernel_rfl) (by kernel_rfl) (by kernel_rfl) (by kernel_rfl) (fun _ _ _ h => h) (yields_held _ (by kernel_rfl) (fun w' hw' => by have c1 := (h1.hwb.kept hw' nw).cell (o := 0) rfl; go_simp)) hH ?_
  simp only [Act.put, List.setIfInBounds_toArray, List.set_cons_zero, List.set_cons_succ]
  refine AnyL.takeP 2 (some 8) (.pointer (some ⟨k.y, 0, none⟩)) rfl rfl (by kernel_rfl) (by kernel_rfl) (by kernel_rfl) (by kernel_rfl) (fun _ _ _ h => h) (by kernel_rfl) (fun w' => by go_simp) (fun _ => hH) ?_
  simp only [Act.put, List.setIfInBounds_toArray, List.set_cons_zero, List.set_cons_succ]
  refine AnyL.takeP 3 (some 9) (.pointer (some ⟨k.y, 5, none⟩)) rfl rfl (by kernel_rfl) (by kernel_rfl) (by kernel_rfl) (by kernel_rfl) (fun _ _ _ h => h) (by kernel_rfl) (fun w' => by go_simp) (fun _ => hH) ?_
  simp only [Act.put, List.setIfInBounds_toArray, List.set_cons_zero, List.set_cons_succ]
  refine AnyL.take 4 (some 10) (vs) rfl rfl (by kernel_rfl) (by kernel_rfl) (by kernel_rfl) (by kernel_rfl) (fun _ _ _ h => h) (yields_held _ (by kernel_rfl) (fun w' hw' => by have c1 := (h1.hy.kept hw' ny).cell (o := 5) (v := vs) rfl; go_simp)) hH ?_
  simp only [Act.put, List.setIfInBounds_toArray, List.set_cons_zero, List.set_cons_succ]
  refine AnyL.takeP 5 (some 11) (.int .i64 m) rfl rfl (by kernel_rfl) (by kernel_rfl) (by kernel_rfl) (by kernel_rfl) (fun _ _ _ h => h) (by kernel_rfl) (fun w' => by go_simp) (fun _ => hH) ?_
  simp only [Act.put, List.setIfInBounds_toArray, List.set_cons_zero, List.set_cons_succ]
  refine AnyL.takeP 6 (some 12) (.agg #[.int .i64 0, .int .i64 m]) rfl rfl (by kernel_rfl) (by kernel_rfl) (by kernel_rfl) (by kernel_rfl) (fun _ _ _ h => h) (by kernel_rfl) (fun w' => by go_simp) (fun _ => hH) ?_
  simp only [Act.put, List.setIfInBounds_toArray, List.set_cons_zero, List.set_cons_succ]
  refine AnyL.one 7 (by kernel_rfl) rfl (by kernel_rfl) ?_
  refine wp_made (some 13) rfl _ _ (build_slp _ rfl ⟨0, m⟩ (by kernel_rfl)) ?_
  refine ⟨fun _ => (((Gr.refl u0.drew).alloc #[.int .i64 0, .int .i64 m] 85).kp _), ?_⟩
  simp only [Act.put, List.setIfInBounds_toArray, List.set_cons_zero, List.set_cons_succ]
  obtain ⟨vs', w', hr, ho, hgr, hb⟩ := app_rec (ty := 37) slpL_len slpL_one (T := 37) Tryd.underlying37 infoSlp (by decide) (by decide) (by decide) h1.slp ⟨0, m⟩ #[.int .i64 0, .int .i64 m] rfl (by omega) (by omega)
  refine AnyL.one 8 (by kernel_rfl) rfl (by kernel_rfl) ?_
  refine wp_app (some 14) rfl _ _ 37 rfl vs _ (by kernel_rfl) rfl vs' w' hr ?_
  have kg : Kp (ob vs) u0.drew w' := (((Gr.refl u0.drew).alloc #[.int .i64 0, .int .i64 m] 85).kp (ob vs)).trans (Kp.grown hgr) (fun _ h => h) (fun _ h => .inl h)
  refine ⟨fun _ => kg, ?_⟩
  simp only [Act.put, List.setIfInBounds_toArray, List.set_cons_zero, List.set_cons_succ]
  replace hH := kg
  refine AnyL.takeP 9 (some 15) (.pointer (some ⟨k.y, 0, none⟩)) rfl rfl (by kernel_rfl) (by kernel_rfl) (by kernel_rfl) (by kernel_rfl) (fun _ _ _ h => h) (by kernel_rfl) (fun w' => by go_simp) (fun _ => hH) ?_
  simp only [Act.put, List.setIfInBounds_toArray, List.set_cons_zero, List.set_cons_succ]
  refine AnyL.takeP 10 (some 16) (.pointer (some ⟨k.y, 5, none⟩)) rfl rfl (by kernel_rfl) (by kernel_rfl) (by kernel_rfl) (by kernel_rfl) (fun _ _ _ h => h) (by kernel_rfl) (fun w' => by go_simp) (fun _ => hH) ?_
  simp only [Act.put, List.setIfInBounds_toArray, List.set_cons_zero, List.set_cons_succ]
  refine AnyL.one 11 (by kernel_rfl) rfl (by kernel_rfl) ?_
  obtain ⟨ad', cap', hvs', -, -, -, -⟩ := own_at ho
  have cy := (h1.hy.kept kg ny).cell (o := 5) (v := vs) rfl
  rw [← HVS.out] at cy
  refine wp_store_slps rfl _ _ rfl k.y 5 (by kernel_rfl) ad' _ cap' hvs' _ _ _ cy ((h1.hy.kept kg ny).free 5) ?_
  refine ⟨late (by kernel_rfl), ?_⟩
  refine AnyL.done (by kernel_rfl) ?_
  rw [← hvs']
  have hpos : 0 ∉ ob vs' := fun z => by
    rw [mem_ob] at z
    rcases hb with e | e
    · exact h1.pos (mem_foot.2 (by simp [mem_ob, ← e, z]))
    · rw [e] at z; simp at z
  have h2 := h1.turn kg (fun x hx => .inl hx) 5 vs' (s2.sleep m) vs' ve rfl rfl rfl rfl ho (own_kept h1.evs kg fun g hg z => own_apart h1.evs h1.slp (by decide) (mem_ob.2 hg) z) (fun z => by
    rcases mem_foot.1 z with e | e | e | e | e | e | e | e | e
    all_goals first | exact hpos e | exact h1.pos (mem_foot.2 (by simp [e])))
  have hp := yi_post HH.out h2 (((ga.kp []).trans kg (by simp) (fun x hx => .inl (mem_foot.2 (by simp [hx])))).trans (Kp.setCell w' k.y 5 vs') (fun _ h => h) (fun x hx => .inl (mem_foot.2 (by simp at hx; simp [hx])))) foot_buf (fun x hx => by
    rw [mem_ob] at hx
    rcases hb with e | e
    · exact .inl (mem_foot.2 (by simp [mem_ob, ← e, hx]))
    · rw [e] at hx
      have hx' : u0.drew.heap.size + 1 = x := by simpa using hx
      have : u0.drew.heap.size = u0.heap.size := rfl
      right; omega) foot_evs
  have PV := hide (Pst.via kp hn hz hp)
  clear cy hr ho hgr hb kg hH h1 h2 nw ny ga hrow hp kp hn
  generalize w'.setCell ⟨k.y, 5, none⟩ vs' = u at PV ⊢
  go_wp2_with (fail)
  go_end0
  exact ⟨rfl, by rw [HS2.out]; exact PV.out⟩
end Go.Proofs.YtbmlliohepidaaaDoor
