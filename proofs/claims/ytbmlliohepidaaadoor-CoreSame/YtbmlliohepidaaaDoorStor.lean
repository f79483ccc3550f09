/-
  What the port's Store does to a yard. No condition but that there is room for what is asked.
-/
import Derived.Test.YtbmlliohepidaaaDoorAsk
namespace Go.Proofs.YtbmlliohepidaaaDoor
open Go.ChangeShapes Go.WideShapes Go.ChangeAt Go.RowKit
set_option linter.unusedVariables false

theorem build_e0 {o : Oper} {a : Act} {w : World} (ho : o.op = .buildSlice 27 0 #[]) : (execOp a.eval o).run Tryd.prog w = .ok (.value (.slice (some ⟨w.heap.size, 0, none⟩) 0 0)) (w.alloc (.cells #[] 83)) := by
  unfold execOp
  simp only [ho]
  go_simp
theorem build_e1 {o : Oper} {a : Act} {w : World} (x : Operand) (ho : o.op = .buildSlice 27 1 #[(0, x)]) (e : Ent) (hx : a.eval x = .agg #[.int .i64 e.a, .int .u32 e.v]) :
    (execOp a.eval o).run Tryd.prog w = .ok (.value (.slice (some ⟨w.heap.size, 0, none⟩) 1 1)) (w.alloc (.cells #[.int .i64 e.a, .int .u32 e.v] 83)) := by
  unfold execOp
  simp only [ho, List.map_toArray, List.map_cons, List.map_nil, hx]
  clear hx
  go_simp

/-- entries are appended to a row of one's own -/
theorem app_ents {w w0 : World} {v : Value} {l : List Ent} (g : Gr w0 w) (hown : EntsO w w0.heap.size v l) (ad : Option Addr) (c : Nat) (m : List Ent) (hm : RowAt w ad (flatOf entL m)) (hc : ad = none → c = 0 ∧ m = []) (hn : l.length + m.length ≤ 100000) :
    ∃ v' w', (Builtin.append_ #[27, 27] 27 #[v, .slice ad m.length c]).run Tryd.prog w = .ok v' w' ∧ EntsO w' w0.heap.size v' (l ++ m) ∧ Gr w0 w' ∧ Kp (ob v) w w' ∧ (v'.ownBlock = v.ownBlock ∨ v'.ownBlock = some w.heap.size) := by
  obtain ⟨v', w', h1, h2, h3, h4⟩ := app_recs (ty := 27) entL_len entL_one (T := 27) Tryd.underlying27 infoEnt (by decide) (by decide) (by decide) hown ad c m hm hc hn g.size
  exact ⟨v', w', h1, h2, grown_gr g hown h3 (Nat.le_refl _), Kp.grown h3, h4⟩
theorem ent_row {w : World} {N : Nat} {e : Ent} (h : Has w N #[.int .i64 e.a, .int .u32 e.v] 83) : RowAt w (some ⟨N, 0, none⟩) (flatOf entL [e]) := by
  have h' : Has w N (flatOf entL [e]).toArray 83 := h
  exact h'.rowAt

set_option maxRecDepth 20000 in
set_option maxHeartbeats 2000000 in
theorem store_does (k : Yc) (s : Ys) (m v : Int) (h0 : 0 ≤ m) (hm : m < k.N) (hu : U32 v) (hq : 200 ≤ s.fuel) (w : World) :
    Does (YI k) s w 39 #[.int .i64 m, .int .u32 v, .pointer (some ⟨k.ab, 0, none⟩), .pointer (some ⟨k.wb, 0, none⟩)] (.tuple #[]) ((s.ask 115).store m v) := by
  rintro F ⟨vbuf0, vs0, ve0, B0, h, rfl⟩
  have HP := hide (Pst.start (yi_inv k) ⟨vbuf0, vs0, ve0, B0, h, rfl⟩)
  have ca := h.hab.cell (o := 0) rfl
  have hl : (s.ask 115).buf.length ≤ 90000 := by show s.buf.length ≤ 90000; unfold Ys.fuel at hq; omega
  have HQ := hide hq
  have HM : Hid ((0 ≤ m ∧ m < k.N) ∧ U32 v) := ⟨⟨h0, hm⟩, hu⟩
  clear h hq h0 hm hu
  go_enter Tryd.func39, Tryd.ntmps39
  go_wp2_with (fail)
  refine ((ask_does k s 115 HQ.out _).go HP.out).mono ?_
  rintro e u0 ⟨⟨rfl, -⟩, p⟩
  obtain ⟨F', ⟨vbuf, vs, ve, B, h0, rfl⟩, kp, hn, -, hz⟩ := id p
  generalize hs2 : s.ask 115 = s2 at h0 hl
  have HS2 := hide hs2
  clear p HP hs2
  have ga := (Gr.refl u0).drew
  have HH := hide h0
  have h1 := h0.kept (ga.kp []) (by simp)
  clear h0 ca
  go_wp2_with (fail)
  obtain ⟨ad, cap, hvb, hrow, hnil, hcap, -⟩ := own_at h1.buf
  have HVB := hide hvb
  have hnb' : (0 : Int) < (k.nb : Int) := by have := h1.hnb; omega
  have hsz : u0.drew.heap.size = u0.heap.size := rfl
  clear hvb
  -- what is left when all is appended
  have FIN : Hid (∀ (w' : World) (v' : Value), Gr u0.drew w' → EntsO w' u0.drew.heap.size v' (s2.buf ++ [⟨m, v⟩]) → Pst (YI k) (foot k vbuf0 vs0 ve0) w [] (s2.store m v) (w'.setCell ⟨k.gb, 0, none⟩ v')) := by
    intro w' v' gw ho
    have hpos : 0 ∉ ob v' := fun z => by
      have := (ho.lt 0 (mem_ob.1 z)).1
      have := h1.laid.lt
      omega
    have h2 := h1.turnB gw (s2.store m v) v' rfl rfl rfl rfl rfl (own_lower ho (Nat.zero_le _)) (fun x hx => by
      rcases List.mem_append.1 hx with q | q
      · exact h1.rng x q
      · rw [List.mem_singleton.1 q]; exact HM.out) hpos
    exact Pst.via kp hn hz (yi_post HH.out h2 (((ga.trans gw).kp []).trans (Kp.setCell w' k.gb 0 v') (by simp) (fun x hx => .inl (mem_foot.2 (by simp at hx; simp [hx])))) (fun x hx => .inr (by have := (ho.lt x (mem_ob.1 hx)).1; omega)) foot_slp foot_evs)
  refine begin_late 19 [18] (fun w' => Gr u0.drew w') (by kernel_rfl) rfl ?_
  have hH : Gr u0.drew u0.drew := Gr.refl _
  refine AnyL.take 0 (some 8) (.pointer (some ⟨k.y, 0, none⟩)) rfl rfl (by kernel_rfl) (by kernel_rfl) (by kernel_rfl) (by kernel_rfl) (fun _ _ _ h => h) (yields_held _ (by kernel_rfl) (fun w' hw' => by have c1 := (h1.hwb.later hw').cell (o := 0) rfl; go_simp)) hH ?_
  simp only [Act.put, List.setIfInBounds_toArray, List.set_cons_zero, List.set_cons_succ]
  refine AnyL.takeP 1 (some 9) (.pointer (some ⟨k.y, 0, none⟩)) rfl rfl (by kernel_rfl) (by kernel_rfl) (by kernel_rfl) (by kernel_rfl) (fun _ _ _ h => h) (by kernel_rfl) (fun w' => by go_simp) (fun _ => hH) ?_
  simp only [Act.put, List.setIfInBounds_toArray, List.set_cons_zero, List.set_cons_succ]
  refine AnyL.takeP 2 (some 10) (.pointer (some ⟨k.y, 2, none⟩)) rfl rfl (by kernel_rfl) (by kernel_rfl) (by kernel_rfl) (by kernel_rfl) (fun _ _ _ h => h) (by kernel_rfl) (fun w' => by go_simp) (fun _ => hH) ?_
  simp only [Act.put, List.setIfInBounds_toArray, List.set_cons_zero, List.set_cons_succ]
  refine AnyL.take 3 (some 11) (.slice (some ⟨k.gb, 0, none⟩) k.nb k.cb) rfl rfl (by kernel_rfl) (by kernel_rfl) (by kernel_rfl) (by kernel_rfl) (fun _ _ _ h => h) (yields_held _ (by kernel_rfl) (fun w' hw' => by have c1 := (h1.hy.later hw').cell (o := 2) (v := .slice (some ⟨k.gb, 0, none⟩) k.nb k.cb) rfl; go_simp)) hH ?_
  simp only [Act.put, List.setIfInBounds_toArray, List.set_cons_zero, List.set_cons_succ]
  refine AnyL.take 5 (some 13) (.pointer (some ⟨k.y, 0, none⟩)) rfl rfl (by kernel_rfl) (by kernel_rfl) (by kernel_rfl) (by kernel_rfl) (fun _ _ _ h => h) (yields_held _ (by kernel_rfl) (fun w' hw' => by have c1 := (h1.hwb.later hw').cell (o := 0) rfl; go_simp)) hH ?_
  simp only [Act.put, List.setIfInBounds_toArray, List.set_cons_zero, List.set_cons_succ]
  refine AnyL.takeP 6 (some 14) (.pointer (some ⟨k.y, 0, none⟩)) rfl rfl (by kernel_rfl) (by kernel_rfl) (by kernel_rfl) (by kernel_rfl) (fun _ _ _ h => h) (by kernel_rfl) (fun w' => by go_simp) (fun _ => hH) ?_
  simp only [Act.put, List.setIfInBounds_toArray, List.set_cons_zero, List.set_cons_succ]
  refine AnyL.takeP 7 (some 15) (.pointer (some ⟨k.y, 2, none⟩)) rfl rfl (by kernel_rfl) (by kernel_rfl) (by kernel_rfl) (by kernel_rfl) (fun _ _ _ h => h) (by kernel_rfl) (fun w' => by go_simp) (fun _ => hH) ?_
  simp only [Act.put, List.setIfInBounds_toArray, List.set_cons_zero, List.set_cons_succ]
  refine AnyL.take 8 (some 16) (.slice (some ⟨k.gb, 0, none⟩) k.nb k.cb) rfl rfl (by kernel_rfl) (by kernel_rfl) (by kernel_rfl) (by kernel_rfl) (fun _ _ _ h => h) (yields_held _ (by kernel_rfl) (fun w' hw' => by have c1 := (h1.hy.later hw').cell (o := 2) (v := .slice (some ⟨k.gb, 0, none⟩) k.nb k.cb) rfl; go_simp)) hH ?_
  simp only [Act.put, List.setIfInBounds_toArray, List.set_cons_zero, List.set_cons_succ]
  refine AnyL.takeP 9 (some 17) (.pointer (some ⟨k.gb, 0, none⟩)) rfl rfl (by kernel_rfl) (by kernel_rfl) (by kernel_rfl) (by kernel_rfl) (fun _ _ _ h => h) (by kernel_rfl) (fun w' => by go_simp; intro q; omega) (fun _ => hH) ?_
  simp only [Act.put, List.setIfInBounds_toArray, List.set_cons_zero, List.set_cons_succ]
  refine AnyL.take 10 (some 18) (vbuf) rfl rfl (by kernel_rfl) (by kernel_rfl) (by kernel_rfl) (by kernel_rfl) (fun _ _ _ h => h) (yields_held _ (by kernel_rfl) (fun w' hw' => by have c1 := (h1.hgb.later hw').cell h1.hB; go_simp)) hH ?_
  simp only [Act.put, List.setIfInBounds_toArray, List.set_cons_zero, List.set_cons_succ]
  refine AnyL.takeP 12 (some 20) (.int .i64 m) rfl rfl (by kernel_rfl) (by kernel_rfl) (by kernel_rfl) (by kernel_rfl) (fun _ _ _ h => h) (by kernel_rfl) (fun w' => by go_simp) (fun _ => hH) ?_
  simp only [Act.put, List.setIfInBounds_toArray, List.set_cons_zero, List.set_cons_succ]
  refine AnyL.takeP 13 (some 21) (.int .u32 v) rfl rfl (by kernel_rfl) (by kernel_rfl) (by kernel_rfl) (by kernel_rfl) (fun _ _ _ h => h) (by kernel_rfl) (fun w' => by go_simp) (fun _ => hH) ?_
  simp only [Act.put, List.setIfInBounds_toArray, List.set_cons_zero, List.set_cons_succ]
  refine AnyL.takeP 14 (some 22) (.agg #[.int .i64 m, .int .u32 v]) rfl rfl (by kernel_rfl) (by kernel_rfl) (by kernel_rfl) (by kernel_rfl) (fun _ _ _ h => h) (by kernel_rfl) (fun w' => by go_simp) (fun _ => hH) ?_
  simp only [Act.put, List.setIfInBounds_toArray, List.set_cons_zero, List.set_cons_succ]
  refine AnyL.two 4 15 (by kernel_rfl) rfl rfl (by kernel_rfl) ?_ ?_
  · refine wp_made (some 12) rfl _ _ (build_e0 rfl) ?_
    have ga4 : Gr u0.drew (u0.drew.alloc (.cells #[] 83)) := (Gr.refl _).alloc _ _
    have hown12 : EntsO (u0.drew.alloc (.cells #[] 83)) u0.drew.heap.size (.slice (some ⟨u0.drew.heap.size, 0, none⟩) 0 0) [] := World.ownsRow_made u0.drew #[] 0 (Nat.le_refl _) (Nat.zero_le _) rfl
    refine ⟨fun _ => ga4, ?_⟩
    simp only [Act.put, List.setIfInBounds_toArray, List.set_cons_zero, List.set_cons_succ]
    refine AnyL.two 11 15 (by kernel_rfl) rfl rfl (by kernel_rfl) ?_ ?_
    · have hrw := hrow.later ga4
      obtain ⟨v19, w19, r19, o19, g19, k19, b19⟩ := app_ents ga4 hown12 ad cap s2.buf hrw (fun q => ⟨hnil q, List.length_eq_zero_iff.1 (by have := hnil q; omega)⟩) (by simp; omega)
      refine wp_app (some 19) rfl _ _ 27 rfl _ _ rfl (by rw [← HVB.out]; rfl) v19 w19 r19 ?_
      refine ⟨fun _ => g19, ?_⟩
      simp only [Act.put, List.setIfInBounds_toArray, List.set_cons_zero, List.set_cons_succ]
      refine AnyL.one 15 (by kernel_rfl) rfl (by kernel_rfl) ?_
      refine wp_made (some 23) rfl _ _ (build_e1 _ rfl ⟨m, v⟩ (by kernel_rfl)) ?_
      have gb : Gr w19 (w19.alloc (.cells #[.int .i64 m, .int .u32 v] 83)) := (Gr.refl _).alloc _ _
      refine ⟨fun _ => g19.trans gb, ?_⟩
      simp only [Act.put, List.setIfInBounds_toArray, List.set_cons_zero, List.set_cons_succ]
      obtain ⟨v24, w24, r24, o24, g24, k24, b24⟩ := app_ents (g19.trans gb) (own_later o19 gb) (some ⟨w19.heap.size, 0, none⟩) 1 [⟨m, v⟩] (ent_row (e := ⟨m, v⟩) (Has.new w19 _ _)) (fun q => by cases q) (by simp; omega)
      refine AnyL.one 16 (by kernel_rfl) rfl (by kernel_rfl) ?_
      refine wp_app (some 24) rfl _ _ 27 rfl v19 _ (by kernel_rfl) rfl v24 w24 r24 ?_
      refine ⟨fun _ => g24, ?_⟩
      simp only [Act.put, List.setIfInBounds_toArray, List.set_cons_zero, List.set_cons_succ]
      replace hH := g24
      refine AnyL.takeP 17 (some 25) (.pointer (some ⟨k.gb, 0, none⟩)) rfl rfl (by kernel_rfl) (by kernel_rfl) (by kernel_rfl) (by kernel_rfl) (fun _ _ _ h => h) (by kernel_rfl) (fun w' => by go_simp; intro q; omega) (fun _ => hH) ?_
      simp only [Act.put, List.setIfInBounds_toArray, List.set_cons_zero, List.set_cons_succ]
      refine AnyL.one 18 (by kernel_rfl) rfl (by kernel_rfl) ?_
      obtain ⟨a9, c9, e9, -, -, -, -⟩ := own_at o24
      have cg := (h1.hgb.later g24).cell h1.hB
      rw [HVB.out] at cg
      refine wp_store_ents rfl _ _ rfl k.gb 0 (by kernel_rfl) a9 _ c9 e9 _ _ _ cg ((h1.hgb.later g24).free 0) ?_
      refine ⟨late (by kernel_rfl), ?_⟩
      refine AnyL.done (by kernel_rfl) ?_
      rw [← e9]
      have PV := hide (FIN.out _ _ g24 o24)
      generalize w24.setCell ⟨k.gb, 0, none⟩ v24 = u at PV ⊢
      clear cg hH h1 hrow
      go_wp2_with (fail)
      go_end0
      exact ⟨rfl, by rw [HS2.out]; exact PV.out⟩
    · refine wp_made (some 23) rfl _ _ (build_e1 _ rfl ⟨m, v⟩ (by kernel_rfl)) ?_
      have gb : Gr (u0.drew.alloc (.cells #[] 83)) ((u0.drew.alloc (.cells #[] 83)).alloc (.cells #[.int .i64 m, .int .u32 v] 83)) := (Gr.refl _).alloc _ _
      have hx := Has.new (u0.drew.alloc (.cells #[] 83)) #[.int .i64 m, .int .u32 v] 83
      replace hown12 := own_later hown12 gb
      replace ga4 := ga4.trans gb
      clear gb
      have hne : (u0.drew.alloc (.cells #[] 83)).heap.size ∉ ob (.slice (some ⟨u0.drew.heap.size, 0, none⟩) 0 0) := by rw [mem_ob]; simp [Value.ownBlock]
      refine ⟨fun _ => ga4, ?_⟩
      simp only [Act.put, List.setIfInBounds_toArray, List.set_cons_zero, List.set_cons_succ]
      have hrw := hrow.later ga4
      obtain ⟨v19, w19, r19, o19, g19, k19, b19⟩ := app_ents ga4 hown12 ad cap s2.buf hrw (fun q => ⟨hnil q, List.length_eq_zero_iff.1 (by have := hnil q; omega)⟩) (by simp; omega)
      refine AnyL.one 11 (by kernel_rfl) rfl (by kernel_rfl) ?_
      refine wp_app (some 19) rfl _ _ 27 rfl _ _ rfl (by rw [← HVB.out]; rfl) v19 w19 r19 ?_
      refine ⟨fun _ => g19, ?_⟩
      simp only [Act.put, List.setIfInBounds_toArray, List.set_cons_zero, List.set_cons_succ]
      obtain ⟨v24, w24, r24, o24, g24, k24, b24⟩ := app_ents g19 o19 (some ⟨(u0.drew.alloc (.cells #[] 83)).heap.size, 0, none⟩) 1 [⟨m, v⟩] (ent_row (e := ⟨m, v⟩) (hx.kept k19 hne)) (fun q => by cases q) (by simp; omega)
      refine AnyL.one 16 (by kernel_rfl) rfl (by kernel_rfl) ?_
      refine wp_app (some 24) rfl _ _ 27 rfl v19 _ (by kernel_rfl) rfl v24 w24 r24 ?_
      refine ⟨fun _ => g24, ?_⟩
      simp only [Act.put, List.setIfInBounds_toArray, List.set_cons_zero, List.set_cons_succ]
      replace hH := g24
      refine AnyL.takeP 17 (some 25) (.pointer (some ⟨k.gb, 0, none⟩)) rfl rfl (by kernel_rfl) (by kernel_rfl) (by kernel_rfl) (by kernel_rfl) (fun _ _ _ h => h) (by kernel_rfl) (fun w' => by go_simp; intro q; omega) (fun _ => hH) ?_
      simp only [Act.put, List.setIfInBounds_toArray, List.set_cons_zero, List.set_cons_succ]
      refine AnyL.one 18 (by kernel_rfl) rfl (by kernel_rfl) ?_
      obtain ⟨a9, c9, e9, -, -, -, -⟩ := own_at o24
      have cg := (h1.hgb.later g24).cell h1.hB
      rw [HVB.out] at cg
      refine wp_store_ents rfl _ _ rfl k.gb 0 (by kernel_rfl) a9 _ c9 e9 _ _ _ cg ((h1.hgb.later g24).free 0) ?_
      refine ⟨late (by kernel_rfl), ?_⟩
      refine AnyL.done (by kernel_rfl) ?_
      rw [← e9]
      have PV := hide (FIN.out _ _ g24 o24)
      generalize w24.setCell ⟨k.gb, 0, none⟩ v24 = u at PV ⊢
      clear cg hH h1 hrow
      go_wp2_with (fail)
      go_end0
      exact ⟨rfl, by rw [HS2.out]; exact PV.out⟩
  · refine wp_made (some 23) rfl _ _ (build_e1 _ rfl ⟨m, v⟩ (by kernel_rfl)) ?_
    have gb : Gr u0.drew (u0.drew.alloc (.cells #[.int .i64 m, .int .u32 v] 83)) := (Gr.refl _).alloc _ _
    have hx := (Has.new u0.drew #[.int .i64 m, .int .u32 v] 83).alloc #[] 83
    refine ⟨fun _ => gb, ?_⟩
    simp only [Act.put, List.setIfInBounds_toArray, List.set_cons_zero, List.set_cons_succ]
    refine AnyL.one 4 (by kernel_rfl) rfl (by kernel_rfl) ?_
    refine wp_made (some 12) rfl _ _ (build_e0 rfl) ?_
    have ga4 : Gr u0.drew ((u0.drew.alloc (.cells #[.int .i64 m, .int .u32 v] 83)).alloc (.cells #[] 83)) := gb.alloc _ _
    have hown12 : EntsO ((u0.drew.alloc (.cells #[.int .i64 m, .int .u32 v] 83)).alloc (.cells #[] 83)) u0.drew.heap.size (.slice (some ⟨(u0.drew.alloc (.cells #[.int .i64 m, .int .u32 v] 83)).heap.size, 0, none⟩) 0 0) [] := World.ownsRow_made _ #[] 0 gb.size (Nat.zero_le _) rfl
    have hne : u0.drew.heap.size ∉ ob (.slice (some ⟨(u0.drew.alloc (.cells #[.int .i64 m, .int .u32 v] 83)).heap.size, 0, none⟩) 0 0) := by rw [mem_ob]; simp [Value.ownBlock]
    refine ⟨fun _ => ga4, ?_⟩
    simp only [Act.put, List.setIfInBounds_toArray, List.set_cons_zero, List.set_cons_succ]
    have hrw := hrow.later ga4
    obtain ⟨v19, w19, r19, o19, g19, k19, b19⟩ := app_ents ga4 hown12 ad cap s2.buf hrw (fun q => ⟨hnil q, List.length_eq_zero_iff.1 (by have := hnil q; omega)⟩) (by simp; omega)
    refine AnyL.one 11 (by kernel_rfl) rfl (by kernel_rfl) ?_
    refine wp_app (some 19) rfl _ _ 27 rfl _ _ rfl (by rw [← HVB.out]; rfl) v19 w19 r19 ?_
    refine ⟨fun _ => g19, ?_⟩
    simp only [Act.put, List.setIfInBounds_toArray, List.set_cons_zero, List.set_cons_succ]
    obtain ⟨v24, w24, r24, o24, g24, k24, b24⟩ := app_ents g19 o19 (some ⟨u0.drew.heap.size, 0, none⟩) 1 [⟨m, v⟩] (ent_row (e := ⟨m, v⟩) (hx.kept k19 hne)) (fun q => by cases q) (by simp; omega)
    refine AnyL.one 16 (by kernel_rfl) rfl (by kernel_rfl) ?_
    refine wp_app (some 24) rfl _ _ 27 rfl v19 _ (by kernel_rfl) rfl v24 w24 r24 ?_
    refine ⟨fun _ => g24, ?_⟩
    simp only [Act.put, List.setIfInBounds_toArray, List.set_cons_zero, List.set_cons_succ]
    replace hH := g24
    refine AnyL.takeP 17 (some 25) (.pointer (some ⟨k.gb, 0, none⟩)) rfl rfl (by kernel_rfl) (by kernel_rfl) (by kernel_rfl) (by kernel_rfl) (fun _ _ _ h => h) (by kernel_rfl) (fun w' => by go_simp; intro q; omega) (fun _ => hH) ?_
    simp only [Act.put, List.setIfInBounds_toArray, List.set_cons_zero, List.set_cons_succ]
    refine AnyL.one 18 (by kernel_rfl) rfl (by kernel_rfl) ?_
    obtain ⟨a9, c9, e9, -, -, -, -⟩ := own_at o24
    have cg := (h1.hgb.later g24).cell h1.hB
    rw [HVB.out] at cg
    refine wp_store_ents rfl _ _ rfl k.gb 0 (by kernel_rfl) a9 _ c9 e9 _ _ _ cg ((h1.hgb.later g24).free 0) ?_
    refine ⟨late (by kernel_rfl), ?_⟩
    refine AnyL.done (by kernel_rfl) ?_
    rw [← e9]
    have PV := hide (FIN.out _ _ g24 o24)
    generalize w24.setCell ⟨k.gb, 0, none⟩ v24 = u at PV ⊢
    clear cg hH h1 hrow
    go_wp2_with (fail)
    go_end0
    exact ⟨rfl, by rw [HS2.out]; exact PV.out⟩
end Go.Proofs.YtbmlliohepidaaaDoor
