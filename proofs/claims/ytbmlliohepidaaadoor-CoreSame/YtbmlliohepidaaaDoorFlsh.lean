/-
  What the document's flush does to a yard, and the port's Flush. No condition but that there is room for what is asked.
-/
import Derived.Test.YtbmlliohepidaaaDoorStor
import Derived.Test.YtbmlliohepidaaaDoorNote
import Derived.Test.YtbmlliohepidaaaDoorLoad2
namespace Go.Proofs.YtbmlliohepidaaaDoor
open Go.ChangeShapes Go.WideShapes Go.ChangeAt Go.RowKit
set_option linter.unusedVariables false

theorem Ys.flush_cons (s : Ys) (x : Ent) (l : List Ent) (h : s.buf = x :: l) : s.flush = ((⟨s.mem, l, s.slp, s.evs, s.asks, s.room⟩ : Ys).swap x.a x.v).note ⟨3, 0, 0, x.a, x.v, 0, 0, false⟩ := by
  unfold Ys.flush
  rw [h]
  rfl
theorem Ys.flush_nil (s : Ys) (h : s.buf = []) : s.flush = s := by
  unfold Ys.flush
  rw [h]

set_option maxRecDepth 20000 in
set_option maxHeartbeats 2000000 in
theorem refflush_nil (k : Yc) (s : Ys) (hb : s.buf = []) (w : World) :
    Does (YI k) s w 81 #[.pointer (some ⟨k.y, 0, none⟩), .int .i64 0] (.tuple #[]) s.flush := by
  rintro F ⟨vbuf, vs, ve, B, h, rfl⟩
  have HP := hide (Pst.start (yi_inv k) ⟨vbuf, vs, ve, B, h, rfl⟩)
  rw [s.flush_nil hb]
  have cy := h.hy.cell (o := 2) (v := .slice (some ⟨k.gb, 0, none⟩) k.nb k.cb) rfl
  obtain ⟨ad, cap, rfl, -, -, -, -⟩ := own_at h.buf
  have cg := h.hgb.cell h.hB
  have hnb' : (0 : Int) < (k.nb : Int) := by have := h.hnb; omega
  rw [hb] at cg
  simp only [List.length_nil] at cg
  clear h
  go_enter Tryd.func81, Tryd.ntmps81
  go_wp2_with (fail)
  exact bodyPost_ret (results_none rfl _ _ _) rfl ⟨rfl, HP.out⟩

set_option maxRecDepth 20000 in
set_option maxHeartbeats 2000000 in
theorem refflush_cons (k : Yc) (s : Ys) (x : Ent) (l : List Ent) (hb : s.buf = x :: l) (hq : 100 ≤ s.fuel) (w : World) :
    Does (YI k) s w 81 #[.pointer (some ⟨k.y, 0, none⟩), .int .i64 0] (.tuple #[]) s.flush := by
  rintro F ⟨vbuf, vs, ve, B, h, rfl⟩
  rw [s.flush_cons x l hb]
  have hl : l.length ≤ 90000 ∧ s.evs.length ≤ 90000 := by unfold Ys.fuel at hq; rw [hb] at hq; simp at hq; omega
  obtain ⟨xa, xv⟩ := x
  have hr := h.rng ⟨xa, xv⟩ (by rw [hb]; simp)
  obtain ⟨⟨hr0, hr1⟩, hu⟩ := hr
  obtain ⟨a, rfl⟩ := Int.eq_ofNat_of_zero_le (show 0 ≤ xa from hr0)
  have hak : a < k.N := by have : (a : Int) < k.N := hr1; omega
  have hak' : (a : Int) < k.N := by omega
  have HH := hide h
  have HU : Hid (U32 xv) := hu
  have cy := h.hy.cell (o := 2) (v := .slice (some ⟨k.gb, 0, none⟩) k.nb k.cb) rfl
  obtain ⟨ad, cap, hvb, hrow, -, hcap, hbl⟩ := own_at h.buf
  have cg := h.hgb.cell h.hB
  have hnb' : (0 : Int) < (k.nb : Int) := by have := h.hnb; omega
  obtain ⟨b, off, rfl, -⟩ := hrow.get (by rw [flatOf_length entL_len, hb]; simp)
  obtain ⟨-, hbo, -⟩ := hbl _ rfl
  cases hbo
  have x0 : w.cell? ⟨b, 0, none⟩ = some (.int .i64 a) := by
    have := hrow.cell entL_len (i := 0) (by rw [hb]; simp) ent0 0 (by omega)
    rw [hb] at this
    exact this
  have x1 : w.cell? ⟨b, 0 + 1, none⟩ = some (.int .u32 xv) := by
    have := hrow.cell entL_len (i := 0) (by rw [hb]; simp) ent0 1 (by omega)
    rw [hb] at this
    exact this
  rw [hb] at hvb hrow hcap
  simp only [List.length_cons] at hvb hcap
  rw [hvb] at cg
  have HVB := hide hvb
  have HRW : Hid (RowAt w (some ⟨b, 0, none⟩) (flatOf entL (⟨a, xv⟩ :: l))) := hrow
  have ga := (((Gr.refl w).alloc #[.int .i64 a, .int .u32 xv] 83)).drew
  have hB := (Has.new w #[.int .i64 a, .int .u32 xv] 83).drew
  have hws : (w.alloc (.cells #[.int .i64 a, .int .u32 xv] 83)).heap.size = w.heap.size + 1 := size1 _ _ _
  have hl1 : (1 : Int) ≤ (l.length : Int) + 1 := by omega
  have hl0 : (0 : Int) < (l.length : Int) + 1 := by omega
  clear h hrow hvb hbl hr0 hr1 hu hq
  go_enter Tryd.func81, Tryd.ntmps81
  go_wp2_with (fail)
  change Code.wp _ _ _ _ (w.alloc (.cells #[.int .i64 a, .int .u32 xv] 83))
  generalize w.alloc (.cells #[.int .i64 a, .int .u32 xv] 83) = u0 at ga hB hws ⊢
  have h1 := HH.out.kept (ga.kp []) (by simp)
  have hrow := HRW.out.later ga
  have hsz : u0.drew.heap.size = w.heap.size + 1 := hws
  clear cy cg x0 x1
  -- the slice behind the first entry
  obtain ⟨o13, c13, H13, hrow13⟩ : ∃ (o13 c13 : Nat), Hid ((cap = 1 ∧ o13 = 0 ∧ c13 = 0 ∧ l.length = 0) ∨ (1 < cap ∧ o13 = 2 ∧ c13 = cap - 1)) ∧ RowAt u0.drew (some ⟨b, o13, none⟩) (flatOf entL l) := by
    by_cases hc1 : cap = 1
    · refine ⟨0, 0, .inl ⟨hc1, rfl, rfl, by omega⟩, .inl ?_⟩
      rw [show l = [] from List.length_eq_zero_iff.1 (by omega)]; rfl
    · refine ⟨2, cap - 1, .inr ⟨by omega, rfl, rfl⟩, ?_⟩
      have := hrow.drop 2
      rw [flatOf_cons] at this
      exact this
  refine begin_late 17 [16] (fun w' => Gr u0.drew w') (by kernel_rfl) rfl ?_
  have hH : Gr u0.drew u0.drew := Gr.refl _
  refine AnyL.takeP 0 (some 23) (.pointer (some ⟨k.y, 0, none⟩)) rfl rfl (by kernel_rfl) (by kernel_rfl) (by kernel_rfl) (by kernel_rfl) (fun _ _ _ h => h) (by kernel_rfl) (fun w' => by go_simp) (fun _ => hH) ?_
  simp only [Act.put, List.setIfInBounds_toArray, List.set_cons_zero, List.set_cons_succ]
  refine AnyL.takeP 1 (some 24) (.pointer (some ⟨k.y, 0, none⟩)) rfl rfl (by kernel_rfl) (by kernel_rfl) (by kernel_rfl) (by kernel_rfl) (fun _ _ _ h => h) (by kernel_rfl) (fun w' => by go_simp) (fun _ => hH) ?_
  simp only [Act.put, List.setIfInBounds_toArray, List.set_cons_zero, List.set_cons_succ]
  refine AnyL.takeP 2 (some 25) (.pointer (some ⟨k.y, 2, none⟩)) rfl rfl (by kernel_rfl) (by kernel_rfl) (by kernel_rfl) (by kernel_rfl) (fun _ _ _ h => h) (by kernel_rfl) (fun w' => by go_simp) (fun _ => hH) ?_
  simp only [Act.put, List.setIfInBounds_toArray, List.set_cons_zero, List.set_cons_succ]
  refine AnyL.take 3 (some 26) (.slice (some ⟨k.gb, 0, none⟩) k.nb k.cb) rfl rfl (by kernel_rfl) (by kernel_rfl) (by kernel_rfl) (by kernel_rfl) (fun _ _ _ h => h) (yields_held _ (by kernel_rfl) (fun w' hw' => by have c1 := (h1.hy.later hw').cell (o := 2) (v := .slice (some ⟨k.gb, 0, none⟩) k.nb k.cb) rfl; go_simp)) hH ?_
  simp only [Act.put, List.setIfInBounds_toArray, List.set_cons_zero, List.set_cons_succ]
  refine AnyL.takeP 4 (some 27) (.int .i64 0) rfl rfl (by kernel_rfl) (by kernel_rfl) (by kernel_rfl) (by kernel_rfl) (fun _ _ _ h => h) (by kernel_rfl) (fun w' => by go_simp) (fun _ => hH) ?_
  simp only [Act.put, List.setIfInBounds_toArray, List.set_cons_zero, List.set_cons_succ]
  refine AnyL.takeP 6 (some 29) (.pointer (some ⟨k.y, 0, none⟩)) rfl rfl (by kernel_rfl) (by kernel_rfl) (by kernel_rfl) (by kernel_rfl) (fun _ _ _ h => h) (by kernel_rfl) (fun w' => by go_simp) (fun _ => hH) ?_
  simp only [Act.put, List.setIfInBounds_toArray, List.set_cons_zero, List.set_cons_succ]
  refine AnyL.takeP 7 (some 30) (.pointer (some ⟨k.y, 0, none⟩)) rfl rfl (by kernel_rfl) (by kernel_rfl) (by kernel_rfl) (by kernel_rfl) (fun _ _ _ h => h) (by kernel_rfl) (fun w' => by go_simp) (fun _ => hH) ?_
  simp only [Act.put, List.setIfInBounds_toArray, List.set_cons_zero, List.set_cons_succ]
  refine AnyL.takeP 8 (some 31) (.pointer (some ⟨k.y, 2, none⟩)) rfl rfl (by kernel_rfl) (by kernel_rfl) (by kernel_rfl) (by kernel_rfl) (fun _ _ _ h => h) (by kernel_rfl) (fun w' => by go_simp) (fun _ => hH) ?_
  simp only [Act.put, List.setIfInBounds_toArray, List.set_cons_zero, List.set_cons_succ]
  refine AnyL.take 9 (some 32) (.slice (some ⟨k.gb, 0, none⟩) k.nb k.cb) rfl rfl (by kernel_rfl) (by kernel_rfl) (by kernel_rfl) (by kernel_rfl) (fun _ _ _ h => h) (yields_held _ (by kernel_rfl) (fun w' hw' => by have c1 := (h1.hy.later hw').cell (o := 2) (v := .slice (some ⟨k.gb, 0, none⟩) k.nb k.cb) rfl; go_simp)) hH ?_
  simp only [Act.put, List.setIfInBounds_toArray, List.set_cons_zero, List.set_cons_succ]
  refine AnyL.takeP 10 (some 33) (.int .i64 0) rfl rfl (by kernel_rfl) (by kernel_rfl) (by kernel_rfl) (by kernel_rfl) (fun _ _ _ h => h) (by kernel_rfl) (fun w' => by go_simp) (fun _ => hH) ?_
  simp only [Act.put, List.setIfInBounds_toArray, List.set_cons_zero, List.set_cons_succ]
  refine AnyL.takeP 11 (some 34) (.pointer (some ⟨k.gb, 0, none⟩)) rfl rfl (by kernel_rfl) (by kernel_rfl) (by kernel_rfl) (by kernel_rfl) (fun _ _ _ h => h) (by kernel_rfl) (fun w' => by go_simp; intro q; omega) (fun _ => hH) ?_
  simp only [Act.put, List.setIfInBounds_toArray, List.set_cons_zero, List.set_cons_succ]
  refine AnyL.take 12 (some 35) (vbuf) rfl rfl (by kernel_rfl) (by kernel_rfl) (by kernel_rfl) (by kernel_rfl) (fun _ _ _ h => h) (yields_held _ (by kernel_rfl) (fun w' hw' => by have c1 := (h1.hgb.later hw').cell h1.hB; go_simp)) hH ?_
  simp only [Act.put, List.setIfInBounds_toArray, List.set_cons_zero, List.set_cons_succ]
  rw [HVB.out]
  refine AnyL.takeP 13 (some 36) (.slice (some ⟨b, o13, none⟩) l.length c13) rfl rfl (by kernel_rfl) (by kernel_rfl) (by kernel_rfl) (by kernel_rfl) (fun _ _ _ h => h) (by kernel_rfl) (fun w' => ?_) (fun _ => hH) ?_
  · rcases H13.out with ⟨q1, rfl, rfl, q2⟩ | ⟨q1, rfl, rfl⟩
    · subst q1
      go_simp
    · go_simp
      omega
  simp only [Act.put, List.setIfInBounds_toArray, List.set_cons_zero, List.set_cons_succ]
  rw [← HVB.out]
  refine AnyL.one 5 (by kernel_rfl) rfl (by kernel_rfl) ?_
  refine wp_made (some 28) rfl _ _ (build_e0 rfl) ?_
  have ga4 : Gr u0.drew (u0.drew.alloc (.cells #[] 83)) := (Gr.refl _).alloc _ _
  have hown12 : EntsO (u0.drew.alloc (.cells #[] 83)) u0.drew.heap.size (.slice (some ⟨u0.drew.heap.size, 0, none⟩) 0 0) [] := World.ownsRow_made u0.drew #[] 0 (Nat.le_refl _) (Nat.zero_le _) rfl
  refine ⟨fun _ => ga4, ?_⟩
  simp only [Act.put, List.setIfInBounds_toArray, List.set_cons_zero, List.set_cons_succ]
  obtain ⟨v19, w19, r19, o19, g19, k19, b19⟩ := app_ents ga4 hown12 (some ⟨b, o13, none⟩) c13 l (hrow13.later ga4) (fun q => by cases q) (by simp; omega)
  refine AnyL.one 14 (by kernel_rfl) rfl (by kernel_rfl) ?_
  refine wp_app (some 37) rfl _ _ 27 rfl _ _ rfl rfl v19 w19 r19 ?_
  refine ⟨fun _ => g19, ?_⟩
  simp only [Act.put, List.setIfInBounds_toArray, List.set_cons_zero, List.set_cons_succ]
  replace hH := g19
  refine AnyL.takeP 15 (some 38) (.pointer (some ⟨k.gb, 0, none⟩)) rfl rfl (by kernel_rfl) (by kernel_rfl) (by kernel_rfl) (by kernel_rfl) (fun _ _ _ h => h) (by kernel_rfl) (fun w' => by go_simp; intro q; omega) (fun _ => hH) ?_
  simp only [Act.put, List.setIfInBounds_toArray, List.set_cons_zero, List.set_cons_succ]
  refine AnyL.one 16 (by kernel_rfl) rfl (by kernel_rfl) ?_
  obtain ⟨a9, c9, e9, -, -, -, -⟩ := own_at o19
  have cg := (h1.hgb.later g19).cell h1.hB
  rw [HVB.out] at cg
  refine wp_store_ents rfl _ _ rfl k.gb 0 (by kernel_rfl) a9 _ c9 e9 _ _ _ cg ((h1.hgb.later g19).free 0) ?_
  refine ⟨late (by kernel_rfl), ?_⟩
  refine AnyL.done (by kernel_rfl) ?_
  rw [← e9]
  have hpos : 0 ∉ ob v19 := fun z => by
    have := (o19.lt 0 (mem_ob.1 z)).1
    omega
  have h2 := h1.turnB g19 ⟨s.mem, l, s.slp, s.evs, s.asks, s.room⟩ v19 rfl rfl rfl rfl rfl (own_lower o19 (Nat.zero_le _)) (fun x hx => HH.out.rng x (by rw [hb]; exact List.mem_cons_of_mem _ hx)) hpos
  have k2 : Kp (foot k vbuf vs ve) w (w19.setCell ⟨k.gb, 0, none⟩ v19) := ((ga.trans g19).kp []).trans (Kp.setCell w19 k.gb 0 v19) (by simp) (fun x hx => .inl (mem_foot.2 (by simp at hx; simp [hx])))
  have hB2 : Has (w19.setCell ⟨k.gb, 0, none⟩ v19) w.heap.size #[.int .i64 a, .int .u32 xv] 83 := (hB.later g19).aside (fun q => (hB.apart h1.hgb (by decide)) q) 0 v19
  have n19 : ∀ x ∈ ob v19, w.heap.size < x := fun x hx => by have := (o19.lt x (mem_ob.1 hx)).1; omega
  clear cg hH g19 k19 b19 r19 o19 hown12 ga4 hrow13 H13 h1 hrow hpos ga hB
  generalize w19.setCell ⟨k.gb, 0, none⟩ v19 = u1 at h2 k2 hB2 ⊢
  go_wp2_with (fail)
  -- memory
  obtain ⟨g, vmc, hvm, cm, fm⟩ := h2.memAt hak
  have h2d := h2.kept ((Gr.refl u1).drew.kp []) (by simp)
  have cw3 := h2.hy.drew.cell (o := 3) (v := k.vm) rfl
  rw [hvm] at cw3
  have cB0 := hB2.drew.cell (o := 0) rfl
  have cB1 := hB2.drew.cell (o := 1) rfl
  refine begin_late 10 [9] (fun w' => w' = u1.drew) (by kernel_rfl) rfl ?_
  have hH : u1.drew = u1.drew := rfl
  refine AnyL.takeP 0 (some 39) (.pointer (some ⟨k.y, 0, none⟩)) rfl rfl (by kernel_rfl) (by kernel_rfl) (by kernel_rfl) (by kernel_rfl) (fun _ _ _ h => h) (by kernel_rfl) (fun w' => by go_simp) (fun _ => hH) ?_
  simp only [Act.put, List.setIfInBounds_toArray, List.set_cons_zero, List.set_cons_succ]
  refine AnyL.takeP 1 (some 40) (.pointer (some ⟨k.y, 0, none⟩)) rfl rfl (by kernel_rfl) (by kernel_rfl) (by kernel_rfl) (by kernel_rfl) (fun _ _ _ h => h) (by kernel_rfl) (fun w' => by go_simp) (fun _ => hH) ?_
  simp only [Act.put, List.setIfInBounds_toArray, List.set_cons_zero, List.set_cons_succ]
  refine AnyL.takeP 2 (some 41) (.pointer (some ⟨k.y, 3, none⟩)) rfl rfl (by kernel_rfl) (by kernel_rfl) (by kernel_rfl) (by kernel_rfl) (fun _ _ _ h => h) (by kernel_rfl) (fun w' => by go_simp) (fun _ => hH) ?_
  simp only [Act.put, List.setIfInBounds_toArray, List.set_cons_zero, List.set_cons_succ]
  refine AnyL.take 3 (some 42) (.slice (some ⟨g, 0, none⟩) k.N vmc) rfl rfl (by kernel_rfl) (by kernel_rfl) (by kernel_rfl) (by kernel_rfl) (fun _ _ _ h => h) (yields_held _ (by kernel_rfl) (fun w' hw' => by subst hw'; go_simp)) hH ?_
  simp only [Act.put, List.setIfInBounds_toArray, List.set_cons_zero, List.set_cons_succ]
  refine AnyL.takeP 4 (some 43) (.pointer (some ⟨w.heap.size, 0, none⟩)) rfl rfl (by kernel_rfl) (by kernel_rfl) (by kernel_rfl) (by kernel_rfl) (fun _ _ _ h => h) (by kernel_rfl) (fun w' => by go_simp) (fun _ => hH) ?_
  simp only [Act.put, List.setIfInBounds_toArray, List.set_cons_zero, List.set_cons_succ]
  refine AnyL.take 5 (some 44) (.int .i64 a) rfl rfl (by kernel_rfl) (by kernel_rfl) (by kernel_rfl) (by kernel_rfl) (fun _ _ _ h => h) (yields_held _ (by kernel_rfl) (fun w' hw' => by subst hw'; go_simp)) hH ?_
  simp only [Act.put, List.setIfInBounds_toArray, List.set_cons_zero, List.set_cons_succ]
  refine AnyL.takeP 6 (some 45) (.pointer (some ⟨w.heap.size, 1, none⟩)) rfl rfl (by kernel_rfl) (by kernel_rfl) (by kernel_rfl) (by kernel_rfl) (fun _ _ _ h => h) (by kernel_rfl) (fun w' => by go_simp) (fun _ => hH) ?_
  simp only [Act.put, List.setIfInBounds_toArray, List.set_cons_zero, List.set_cons_succ]
  refine AnyL.take 7 (some 46) (.int .u32 xv) rfl rfl (by kernel_rfl) (by kernel_rfl) (by kernel_rfl) (by kernel_rfl) (fun _ _ _ h => h) (yields_held _ (by kernel_rfl) (fun w' hw' => by subst hw'; go_simp)) hH ?_
  simp only [Act.put, List.setIfInBounds_toArray, List.set_cons_zero, List.set_cons_succ]
  refine AnyL.takeP 8 (some 47) (.pointer (some ⟨g, a, none⟩)) rfl rfl (by kernel_rfl) (by kernel_rfl) (by kernel_rfl) (by kernel_rfl) (fun _ _ _ h => h) (by kernel_rfl) (fun w' => by go_simp) (fun _ => hH) ?_
  simp only [Act.put, List.setIfInBounds_toArray, List.set_cons_zero, List.set_cons_succ]
  refine AnyL.one 9 (by kernel_rfl) rfl (by kernel_rfl) ?_
  refine wp_store_word rfl _ _ rfl g a (by kernel_rfl) xv (by kernel_rfl) _ (show u1.drew.cell? _ = _ from cm) (show u1.drew.frozen? _ = _ from fm) ?_
  refine ⟨late (by kernel_rfl), ?_⟩
  refine AnyL.done (by kernel_rfl) ?_
  have hgm : g ∈ ob k.vm := by rw [hvm, mem_ob]; rfl
  have h3 := h2d.setMem hvm a hak xv HU.out
  have k3 : Kp (foot k vbuf vs ve) w (u1.drew.setCell ⟨g, a, none⟩ (.int .u32 xv)) := (k2.trans ((Gr.refl u1).drew.kp []) (fun _ h => h) (by simp)).trans (Kp.setCell u1.drew g a (.int .u32 xv)) (fun _ h => h) (fun x hx => .inl (mem_foot.2 (by simp at hx; rw [hx]; simp [hgm])))
  have hB3 : Has (u1.drew.setCell ⟨g, a, none⟩ (.int .u32 xv)) w.heap.size #[.int .i64 a, .int .u32 xv] 83 := hB2.drew.aside (fun q => own_aside h2.mem hB2 (by decide) (by rw [q]; exact hgm)) a (.int .u32 xv)
  clear hH cB0 cB1 cw3 cm fm h2 h2d k2 hB2
  generalize u1.drew.setCell ⟨g, a, none⟩ (.int .u32 xv) = u2 at h3 k3 hB3 ⊢
  go_wp2_with (fail)
  -- the event
  have h4 := h3.kept ((Gr.refl u2).drew.kp []) (by simp)
  have hB4 := hB3.drew
  have nB : w.heap.size ∉ ob ve := fun z => own_aside h4.evs hB4 (by decide) z
  have ny : k.y ∉ ob ve := fun z => own_aside h4.evs h4.hy (by decide) z
  obtain ⟨ead, ecap, hve, -, -, -, -⟩ := own_at h4.evs
  refine begin_late 16 [15] (fun w' => Kp (ob ve) u2.drew w') (by kernel_rfl) rfl ?_
  have hH : Kp (ob ve) u2.drew u2.drew := Kp.refl _ _
  refine AnyL.takeP 0 (some 48) (.pointer (some ⟨k.y, 0, none⟩)) rfl rfl (by kernel_rfl) (by kernel_rfl) (by kernel_rfl) (by kernel_rfl) (fun _ _ _ h => h) (by kernel_rfl) (fun w' => by go_simp) (fun _ => hH) ?_
  simp only [Act.put, List.setIfInBounds_toArray, List.set_cons_zero, List.set_cons_succ]
  refine AnyL.takeP 1 (some 49) (.pointer (some ⟨k.y, 0, none⟩)) rfl rfl (by kernel_rfl) (by kernel_rfl) (by kernel_rfl) (by kernel_rfl) (fun _ _ _ h => h) (by kernel_rfl) (fun w' => by go_simp) (fun _ => hH) ?_
  simp only [Act.put, List.setIfInBounds_toArray, List.set_cons_zero, List.set_cons_succ]
  refine AnyL.takeP 2 (some 50) (.pointer (some ⟨k.y, 0, none⟩)) rfl rfl (by kernel_rfl) (by kernel_rfl) (by kernel_rfl) (by kernel_rfl) (fun _ _ _ h => h) (by kernel_rfl) (fun w' => by go_simp) (fun _ => hH) ?_
  simp only [Act.put, List.setIfInBounds_toArray, List.set_cons_zero, List.set_cons_succ]
  refine AnyL.takeP 3 (some 51) (.pointer (some ⟨k.y, 6, none⟩)) rfl rfl (by kernel_rfl) (by kernel_rfl) (by kernel_rfl) (by kernel_rfl) (fun _ _ _ h => h) (by kernel_rfl) (fun w' => by go_simp) (fun _ => hH) ?_
  simp only [Act.put, List.setIfInBounds_toArray, List.set_cons_zero, List.set_cons_succ]
  refine AnyL.take 4 (some 52) (ve) rfl rfl (by kernel_rfl) (by kernel_rfl) (by kernel_rfl) (by kernel_rfl) (fun _ _ _ h => h) (yields_held _ (by kernel_rfl) (fun w' hw' => by have c1 := (h4.hy.kept hw' ny).cell (o := 6) (v := ve) rfl; go_simp)) hH ?_
  simp only [Act.put, List.setIfInBounds_toArray, List.set_cons_zero, List.set_cons_succ]
  refine AnyL.takeP 5 (some 53) (.int .i64 0) rfl rfl (by kernel_rfl) (by kernel_rfl) (by kernel_rfl) (by kernel_rfl) (fun _ _ _ h => h) (by kernel_rfl) (fun w' => by go_simp) (fun _ => hH) ?_
  simp only [Act.put, List.setIfInBounds_toArray, List.set_cons_zero, List.set_cons_succ]
  refine AnyL.takeP 6 (some 54) (.pointer (some ⟨w.heap.size, 0, none⟩)) rfl rfl (by kernel_rfl) (by kernel_rfl) (by kernel_rfl) (by kernel_rfl) (fun _ _ _ h => h) (by kernel_rfl) (fun w' => by go_simp) (fun _ => hH) ?_
  simp only [Act.put, List.setIfInBounds_toArray, List.set_cons_zero, List.set_cons_succ]
  refine AnyL.take 7 (some 55) (.int .i64 a) rfl rfl (by kernel_rfl) (by kernel_rfl) (by kernel_rfl) (by kernel_rfl) (fun _ _ _ h => h) (yields_held _ (by kernel_rfl) (fun w' hw' => by have c1 := (hB4.kept hw' nB).cell (o := 0) rfl; go_simp)) hH ?_
  simp only [Act.put, List.setIfInBounds_toArray, List.set_cons_zero, List.set_cons_succ]
  refine AnyL.takeP 8 (some 56) (.pointer (some ⟨w.heap.size, 1, none⟩)) rfl rfl (by kernel_rfl) (by kernel_rfl) (by kernel_rfl) (by kernel_rfl) (fun _ _ _ h => h) (by kernel_rfl) (fun w' => by go_simp) (fun _ => hH) ?_
  simp only [Act.put, List.setIfInBounds_toArray, List.set_cons_zero, List.set_cons_succ]
  refine AnyL.take 9 (some 57) (.int .u32 xv) rfl rfl (by kernel_rfl) (by kernel_rfl) (by kernel_rfl) (by kernel_rfl) (fun _ _ _ h => h) (yields_held _ (by kernel_rfl) (fun w' hw' => by have c1 := (hB4.kept hw' nB).cell (o := 1) rfl; go_simp)) hH ?_
  simp only [Act.put, List.setIfInBounds_toArray, List.set_cons_zero, List.set_cons_succ]
  refine AnyL.takeP 10 (some 58) (.agg (evA ⟨3, 0, 0, a, xv, 0, 0, false⟩)) rfl rfl (by kernel_rfl) (by kernel_rfl) (by kernel_rfl) (by kernel_rfl) (fun _ _ _ h => h) (by kernel_rfl) (fun w' => by go_simp) (fun _ => hH) ?_
  simp only [Act.put, List.setIfInBounds_toArray, List.set_cons_zero, List.set_cons_succ]
  refine AnyL.one 11 (by kernel_rfl) rfl (by kernel_rfl) ?_
  refine wp_made (some 59) rfl _ _ (build_ev _ rfl ⟨3, 0, 0, a, xv, 0, 0, false⟩ (by kernel_rfl)) ?_
  refine ⟨fun _ => (((Gr.refl u2.drew).alloc (evA ⟨3, 0, 0, a, xv, 0, 0, false⟩) 81).kp _), ?_⟩
  simp only [Act.put, List.setIfInBounds_toArray, List.set_cons_zero, List.set_cons_succ]
  obtain ⟨ve', w', hr, ho, hgr, hbb⟩ := app_rec (ty := 38) evL_len evL_one (T := 38) Tryd.underlying38 infoEv (by decide) (by decide) (by decide) h4.evs ⟨3, 0, 0, a, xv, 0, 0, false⟩ (evA ⟨3, 0, 0, a, xv, 0, 0, false⟩) rfl (show s.evs.length ≤ 99999 by omega) (by omega)
  refine AnyL.one 12 (by kernel_rfl) rfl (by kernel_rfl) ?_
  refine wp_app (some 60) rfl _ _ 38 rfl ve _ (by kernel_rfl) rfl ve' w' hr ?_
  have kg : Kp (ob ve) u2.drew w' := (((Gr.refl u2.drew).alloc (evA ⟨3, 0, 0, a, xv, 0, 0, false⟩) 81).kp (ob ve)).trans (Kp.grown hgr) (fun _ h => h) (fun _ h => .inl h)
  refine ⟨fun _ => kg, ?_⟩
  simp only [Act.put, List.setIfInBounds_toArray, List.set_cons_zero, List.set_cons_succ]
  replace hH := kg
  refine AnyL.takeP 13 (some 61) (.pointer (some ⟨k.y, 0, none⟩)) rfl rfl (by kernel_rfl) (by kernel_rfl) (by kernel_rfl) (by kernel_rfl) (fun _ _ _ h => h) (by kernel_rfl) (fun w' => by go_simp) (fun _ => hH) ?_
  simp only [Act.put, List.setIfInBounds_toArray, List.set_cons_zero, List.set_cons_succ]
  refine AnyL.takeP 14 (some 62) (.pointer (some ⟨k.y, 6, none⟩)) rfl rfl (by kernel_rfl) (by kernel_rfl) (by kernel_rfl) (by kernel_rfl) (fun _ _ _ h => h) (by kernel_rfl) (fun w' => by go_simp) (fun _ => hH) ?_
  simp only [Act.put, List.setIfInBounds_toArray, List.set_cons_zero, List.set_cons_succ]
  refine AnyL.one 15 (by kernel_rfl) rfl (by kernel_rfl) ?_
  obtain ⟨ad', cap', hve', -, -, -, -⟩ := own_at ho
  have cy := (h4.hy.kept kg ny).cell (o := 6) (v := ve) rfl
  rw [hve] at cy
  refine wp_store_evs rfl _ _ rfl k.y 6 (by kernel_rfl) ad' _ cap' hve' _ _ _ cy ((h4.hy.kept kg ny).free 6) ?_
  refine ⟨late (by kernel_rfl), ?_⟩
  refine AnyL.done (by kernel_rfl) ?_
  rw [← hve']
  have hsu : w.heap.size ≤ u2.drew.heap.size := k3.size
  have hfe : ∀ x ∈ ob ve', x ∈ ob ve ∨ w.heap.size < x := fun x hx => by
    rw [mem_ob] at hx
    rcases hbb with e | e
    · left; rw [mem_ob, ← e, hx]
    · rw [e] at hx
      have hx' : u2.drew.heap.size + 1 = x := by simpa using hx
      right; omega
  have hpos : 0 ∉ ob ve' := fun z => by
    rcases hfe 0 z with e | e
    · exact h4.pos (mem_foot.2 (by simp [e]))
    · omega
  have h5 := h4.turn kg (fun x hx => .inr hx) 6 ve' (((⟨s.mem, l, s.slp, s.evs, s.asks, s.room⟩ : Ys).swap a xv).note ⟨3, 0, 0, a, xv, 0, 0, false⟩) vs ve' rfl rfl rfl rfl (own_kept h4.slp kg fun g hg z => own_apart h4.slp h4.evs (by decide) (mem_ob.2 hg) z) ho (fun z => by
    rcases mem_foot.1 z with e | e | e | e | e | e | e | e | e
    all_goals first | exact hpos e | exact h4.pos (mem_foot.2 (by simp [e])))
  have hp := yi_post HH.out h5 (((k3.trans ((Gr.refl u2).drew.kp []) (fun _ h => h) (by simp)).trans kg (fun _ h => h) (fun x hx => .inl (mem_foot.2 (by simp [hx])))).trans (Kp.setCell w' k.y 6 ve') (fun _ h => h) (fun x hx => .inl (mem_foot.2 (by simp at hx; simp [hx])))) (fun x hx => .inr (Nat.le_of_lt (n19 x hx))) foot_slp (fun x hx => by
    rcases hfe x hx with e | e
    · exact .inl (mem_foot.2 (by simp [e]))
    · exact .inr (Nat.le_of_lt e))
  clear cy hr ho hgr hbb kg hH h3 h4 h5 k3 hB3 hB4
  generalize w'.setCell ⟨k.y, 6, none⟩ ve' = u at hp ⊢
  go_wp2_with (fail)
  go_end0
  exact ⟨rfl, hp⟩
end Go.Proofs.YtbmlliohepidaaaDoor
