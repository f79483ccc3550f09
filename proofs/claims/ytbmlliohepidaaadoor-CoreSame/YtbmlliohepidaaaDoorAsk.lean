/-
  What the law's ask, and the port's Remote, Empty and Room do to a yard. No condition but that there is room for what is asked.
-/
import Derived.Test.YtbmlliohepidaaaDoorYard
namespace Go.Proofs.YtbmlliohepidaaaDoor
open Go.ChangeShapes Go.WideShapes Go.ChangeAt Go.RowKit
set_option linter.unusedVariables false

theorem asks_add (l : List UInt8) (b : UInt8) : (⟨l.toArray⟩ : ByteArray) ++ ⟨#[b]⟩ = ⟨(l ++ [b]).toArray⟩ := by
  apply ByteArray.ext
  simp

set_option maxRecDepth 20000 in
set_option maxHeartbeats 400000 in
theorem ask_does (k : Yc) (s : Ys) (b : UInt8) (hq : 200 ≤ s.fuel) (w : World) :
    Does (YI k) s w 36 #[.string ⟨#[b]⟩, .pointer (some ⟨k.yb, 0, none⟩)] (.tuple #[]) (s.ask b) := by
  rintro F ⟨vbuf, vs, ve, B, h, rfl⟩
  have HH := hide h
  have cb := h.hyb.drew.cell (o := 0) rfl
  have cy := h.hy.drew.cell (o := 8) (v := .string ⟨s.asks.toArray⟩) rfl
  have fy := h.hy.drew.free 8
  have hl : s.asks.length ≤ 90000 := by unfold Ys.fuel at hq; omega
  have HL := hide hl
  clear h hl
  go_enter Tryd.func36, Tryd.ntmps36
  go_wp2_with (fail)
  refine begin_late 10 [9] (fun w' => w' = w.drew) (by kernel_rfl) rfl ?_
  have hH : w.drew = w.drew := rfl
  refine AnyL.take 0 (some 3) (.pointer (some ⟨k.y, 0, none⟩)) rfl rfl (by kernel_rfl) (by kernel_rfl) (by kernel_rfl) (by kernel_rfl) (fun _ _ _ h => h) (yields_held _ (by kernel_rfl) (fun w' hw' => by subst hw'; go_simp)) hH ?_
  simp only [Act.put, List.setIfInBounds_toArray, List.set_cons_zero, List.set_cons_succ]
  refine AnyL.take 1 (some 4) (.pointer (some ⟨k.y, 0, none⟩)) rfl rfl (by kernel_rfl) (by kernel_rfl) (by kernel_rfl) (by kernel_rfl) (fun _ _ _ h => h) (yields_held _ (by kernel_rfl) (fun w' hw' => by subst hw'; go_simp)) hH ?_
  simp only [Act.put, List.setIfInBounds_toArray, List.set_cons_zero, List.set_cons_succ]
  refine AnyL.takeP 2 (some 5) (.pointer (some ⟨k.y, 0, none⟩)) rfl rfl (by kernel_rfl) (by kernel_rfl) (by kernel_rfl) (by kernel_rfl) (fun _ _ _ h => h) (by kernel_rfl) (fun w' => by go_simp) (fun _ => hH) ?_
  simp only [Act.put, List.setIfInBounds_toArray, List.set_cons_zero, List.set_cons_succ]
  refine AnyL.takeP 3 (some 6) (.pointer (some ⟨k.y, 8, none⟩)) rfl rfl (by kernel_rfl) (by kernel_rfl) (by kernel_rfl) (by kernel_rfl) (fun _ _ _ h => h) (by kernel_rfl) (fun w' => by go_simp) (fun _ => hH) ?_
  simp only [Act.put, List.setIfInBounds_toArray, List.set_cons_zero, List.set_cons_succ]
  refine AnyL.take 4 (some 7) (.string ⟨s.asks.toArray⟩) rfl rfl (by kernel_rfl) (by kernel_rfl) (by kernel_rfl) (by kernel_rfl) (fun _ _ _ h => h) (yields_held _ (by kernel_rfl) (fun w' hw' => by subst hw'; go_simp)) hH ?_
  simp only [Act.put, List.setIfInBounds_toArray, List.set_cons_zero, List.set_cons_succ]
  refine AnyL.takeP 5 (some 8) (.string ⟨#[b]⟩) rfl rfl (by kernel_rfl) (by kernel_rfl) (by kernel_rfl) (by kernel_rfl) (fun _ _ _ h => h) (by kernel_rfl) (fun w' => by go_simp) (fun _ => hH) ?_
  simp only [Act.put, List.setIfInBounds_toArray, List.set_cons_zero, List.set_cons_succ]
  refine AnyL.takeP 6 (some 9) (.string ⟨(s.asks ++ [b]).toArray⟩) rfl rfl (by kernel_rfl) (by kernel_rfl) (by kernel_rfl) (by kernel_rfl) (fun _ _ _ h => h) (by kernel_rfl) (fun w' => by have := HL.out; rw [← asks_add]; go_simp; omega) (fun _ => hH) ?_
  simp only [Act.put, List.setIfInBounds_toArray, List.set_cons_zero, List.set_cons_succ]
  refine AnyL.takeP 7 (some 10) (.pointer (some ⟨k.y, 0, none⟩)) rfl rfl (by kernel_rfl) (by kernel_rfl) (by kernel_rfl) (by kernel_rfl) (fun _ _ _ h => h) (by kernel_rfl) (fun w' => by go_simp) (fun _ => hH) ?_
  simp only [Act.put, List.setIfInBounds_toArray, List.set_cons_zero, List.set_cons_succ]
  refine AnyL.takeP 8 (some 11) (.pointer (some ⟨k.y, 8, none⟩)) rfl rfl (by kernel_rfl) (by kernel_rfl) (by kernel_rfl) (by kernel_rfl) (fun _ _ _ h => h) (by kernel_rfl) (fun w' => by go_simp) (fun _ => hH) ?_
  simp only [Act.put, List.setIfInBounds_toArray, List.set_cons_zero, List.set_cons_succ]
  refine AnyL.one 9 (by kernel_rfl) rfl (by kernel_rfl) ?_
  refine wp_store_str rfl _ _ rfl k.y 8 (by kernel_rfl) ⟨(s.asks ++ [b]).toArray⟩ (by kernel_rfl) _ cy fy ?_
  refine ⟨late (by kernel_rfl), ?_⟩
  refine AnyL.done (by kernel_rfl) ?_
  have h1 := HH.out.kept ((Gr.refl w).drew.kp []) (by simp)
  have h2 := h1.setY 8 (.string ⟨(s.asks ++ [b]).toArray⟩) (s.ask b) vs ve rfl rfl rfl rfl h1.slp h1.evs h1.pos
  have hp := yi_post HH.out h2 (((Gr.refl w).drew.kp []).trans (Kp.setCell w.drew k.y 8 (.string ⟨(s.asks ++ [b]).toArray⟩)) (by simp) (fun x hx => .inl (mem_foot.2 (by simp at hx; simp [hx])))) foot_buf foot_slp foot_evs
  clear cb cy fy h1 h2 hH
  generalize w.drew.setCell ⟨k.y, 8, none⟩ (.string ⟨(s.asks ++ [b]).toArray⟩) = u at hp ⊢
  go_wp2_with (fail)
  go_end0
  exact ⟨rfl, hp⟩

theorem fuel_ask1 {s : Ys} {b : UInt8} (hq : 200 ≤ s.fuel) : 199 ≤ (s.ask b).fuel := by have := s.fuel_ask b; omega

set_option maxHeartbeats 400000 in
theorem remote_does (k : Yc) (s : Ys) (hq : 200 ≤ s.fuel) (w : World) : Does (YI k) s w 47 #[.pointer (some ⟨k.ab, 0, none⟩)] (.tuple #[]) (s.ask 114) := by
  rintro F ⟨vbuf, vs, ve, B, h, rfl⟩
  have HP := hide (Pst.start (yi_inv k) ⟨vbuf, vs, ve, B, h, rfl⟩)
  have ca := h.hab.cell (o := 0) rfl
  clear h
  go_enter Tryd.func47, Tryd.ntmps47
  go_wp2_with (go_at_call 36; refine ((ask_does k s 114 hq _).go HP.out).mono ?_; rintro e u ⟨⟨rfl, -⟩, p⟩)
  go_end0
  exact ⟨rfl, p⟩

set_option maxHeartbeats 400000 in
theorem empty_does (k : Yc) (s : Ys) (w : World) : Does (YI k) s w 40 #[.pointer (some ⟨k.wb, 0, none⟩)] (.bool ((s.buf.length : Int) == 0)) s := by
  rintro F ⟨vbuf, vs, ve, B, h, rfl⟩
  have HP := hide (Pst.start (yi_inv k) ⟨vbuf, vs, ve, B, h, rfl⟩)
  have cw := h.hwb.cell (o := 0) rfl
  have cy := h.hy.cell (o := 2) (v := .slice (some ⟨k.gb, 0, none⟩) k.nb k.cb) rfl
  obtain ⟨ad, cap, rfl, -, -, -, -⟩ := own_at h.buf
  have cg := h.hgb.cell h.hB
  have hnb := h.hnb
  have hnb' : (0 : Int) < (k.nb : Int) := by omega
  clear h
  go_enter Tryd.func40, Tryd.ntmps40
  go_wp2_with (fail)
  go_ret
  exact ⟨rfl, HP.out⟩

set_option maxHeartbeats 400000 in
theorem room_does (k : Yc) (s : Ys) (w : World) : Does (YI k) s w 38 #[.pointer (some ⟨k.wb, 0, none⟩)] (.bool (decide (s.buf.length < s.room))) s := by
  rintro F ⟨vbuf, vs, ve, B, h, rfl⟩
  have HP := hide (Pst.start (yi_inv k) ⟨vbuf, vs, ve, B, h, rfl⟩)
  have cw := h.hwb.cell (o := 0) rfl
  have cy := h.hy.cell (o := 2) (v := .slice (some ⟨k.gb, 0, none⟩) k.nb k.cb) rfl
  have cr := h.hy.cell (o := 4) (v := .int .i64 s.room) rfl
  obtain ⟨ad, cap, rfl, -, -, -, -⟩ := own_at h.buf
  have cg := h.hgb.cell h.hB
  have hnb := h.hnb
  have hnb' : (0 : Int) < (k.nb : Int) := by omega
  have HE : Hid (decide (s.buf.length < s.room) = decide ((s.buf.length : Int) < (s.room : Int))) := by show _ = _; simp
  clear h
  go_enter Tryd.func38, Tryd.ntmps38
  go_wp2_with (fail)
  go_quiet (fail)
  go_wp2_with (fail)
  go_ret
  exact ⟨by rw [HE.out]; rfl, HP.out.gr (yi_inv k) ((Gr.refl w).drewN _)⟩
end Go.Proofs.YtbmlliohepidaaaDoor
