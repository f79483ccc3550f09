/-
  What the port's Wake does to a yard. No condition but that there is room for what is asked.
-/
import Derived.Test.YtbmlliohepidaaaDoorAsk
import Derived.Test.YtbmlliohepidaaaDoorRwk
namespace Go.Proofs.YtbmlliohepidaaaDoor
open Go.ChangeShapes Go.WideShapes Go.ChangeAt Go.RowKit
set_option linter.unusedVariables false

set_option maxRecDepth 20000 in
set_option maxHeartbeats 1000000 in
theorem wake_does (k : Yc) (s : Ys) (m v : Int) (hu : U32 v) (hq : 200 ≤ s.fuel) (w : World) :
    Does (YI k) s w 45 #[.int .i64 m, .int .u32 v, .pointer (some ⟨k.ab, 0, none⟩), .pointer (some ⟨k.wb, 0, none⟩)] (.int .u32 (s.woken m v)) ((s.ask 119).wake m v) := by
  rintro F ⟨vbuf0, vs0, ve0, B0, h, rfl⟩
  have HP := hide (Pst.start (yi_inv k) ⟨vbuf0, vs0, ve0, B0, h, rfl⟩)
  have ca := h.hab.cell (o := 0) rfl
  have hl : (s.ask 119).slp.length ≤ 90000 := by show s.slp.length ≤ 90000; unfold Ys.fuel at hq; omega
  have HQ := hide hq
  have HW : Hid (s.woken m v = (s.ask 119).woken m v) := rfl
  obtain ⟨n, rfl, hn⟩ := u32_nat hu
  clear h hq hu
  rw [HW.out]
  go_enter Tryd.func45, Tryd.ntmps45
  go_wp2_with (fail)
  refine ((ask_does k s 119 HQ.out _).go HP.out).mono ?_
  rintro e u0 ⟨⟨rfl, -⟩, p⟩
  obtain ⟨F', ⟨vbuf, vs, ve, B, h1, rfl⟩, kp, hnn, -, hz⟩ := id p
  generalize hs2 : s.ask 119 = s2 at h1 hl
  have HS2 := hide hs2
  clear p HP hs2 ca HW
  have cw := h1.hwb.cell (o := 0) rfl
  have cy := h1.hy.cell (o := 5) (v := vs) rfl
  obtain ⟨ad, cap, hvs, hrow, -, -, -⟩ := own_at h1.slp
  rw [hvs] at cy
  have HH := hide h1
  have hlen := (siftS_len m n s2.slp).2
  have HWK : Hid (s2.woken m n = IntKind.u32.wrap ((siftS m n s2.slp).out.length : Int)) := by show _ = _; simp [Ys.woken]
  have HWS : Hid (s2.wake m n = ⟨s2.mem, s2.buf, (siftS m n s2.slp).left, s2.evs, s2.asks, s2.room⟩) := by show _ = _; simp [Ys.wake]
  have HRW := hide (rwake_calls ad cap s2.slp hl m n hn u0 hrow)
  generalize siftS m n s2.slp = s3 at HRW HWK HWS hlen
  have HKP := hide kp
  have HNN := hide hnn
  have HVS := hide hvs
  clear hrow hlen h1 kp hnn hvs
  go_wp2_with (fail)
  refine HRW.out.mono ?_
  rintro e u1 ⟨v1, v2, ⟨rfl, g1⟩, ol, oo⟩
  obtain ⟨a1, c1, rfl, -, -, -, -⟩ := own_at ol
  obtain ⟨a2, c2, rfl, -, -, -, -⟩ := own_at oo
  have cw1 := (HH.out.hwb.later g1).cell (o := 0) rfl
  have cy1 := (HH.out.hy.later g1).cell (o := 5) (v := vs) rfl
  rw [HVS.out] at cy1
  have fy1 := (HH.out.hy.later g1).free 5
  have h1 := HH.out.kept (g1.kp []) (by simp)
  have hpos : 0 ∉ ob (.slice a1 s3.left.length c1) := fun z => by
    have := (ol.lt 0 (mem_ob.1 z)).1
    have := HH.out.laid.lt
    omega
  have h2 := h1.turn (Kp.refl [] u1) (by simp) 5 (.slice a1 s3.left.length c1) ⟨s2.mem, s2.buf, s3.left, s2.evs, s2.asks, s2.room⟩ (.slice a1 s3.left.length c1) ve rfl rfl rfl rfl (own_lower ol (Nat.zero_le _)) h1.evs (fun z => by
    rcases mem_foot.1 z with e | e | e | e | e | e | e | e | e
    all_goals first | exact hpos e | exact h1.pos (mem_foot.2 (by simp [e])))
  have hp := yi_post HH.out h2 ((g1.kp []).trans (Kp.setCell u1 k.y 5 (.slice a1 s3.left.length c1)) (by simp) (fun x hx => .inl (mem_foot.2 (by simp at hx; simp [hx])))) foot_buf (fun x hx => .inr (ol.lt x (mem_ob.1 hx)).1) foot_evs
  have PV := hide (Pst.via HKP.out HNN.out hz hp)
  clear h1 h2 hp hpos ol oo cw cy
  go_wp2_with (fail)
  go_ret
  exact ⟨by rw [HS2.out, HWK.out]; rfl, by rw [HS2.out, HWS.out]; exact PV.out⟩
end Go.Proofs.YtbmlliohepidaaaDoor
