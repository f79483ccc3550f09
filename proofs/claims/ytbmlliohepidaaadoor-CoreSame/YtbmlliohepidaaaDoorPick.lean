/-
  What a pick that flushes does to a yard; the port, all of it. No condition but that there is room for what is asked.
-/
import Derived.Test.YtbmlliohepidaaaDoorFlsh
import Derived.Test.YtbmlliohepidaaaDoorWak
import Derived.Test.YtbmlliohepidaaaDoorStp2
namespace Go.Proofs.YtbmlliohepidaaaDoor
open Go.ChangeShapes Go.WideShapes Go.ChangeAt Go.RowKit
set_option linter.unusedVariables false

theorem refflush_does (k : Yc) (s : Ys) (hq : 100 ≤ s.fuel) (w : World) :
    Does (YI k) s w 81 #[.pointer (some ⟨k.y, 0, none⟩), .int .i64 0] (.tuple #[]) s.flush := by
  cases hb : s.buf with
  | nil => exact refflush_nil k s hb w
  | cons x l => exact refflush_cons k s x l hb hq w

set_option maxRecDepth 20000 in
set_option maxHeartbeats 2000000 in
theorem pick_does (k : Yc) (s : Ys) (hq : 100 ≤ s.fuel) (w : World) :
    Does (YI k) s w 42 #[.pointer (some ⟨k.y, 0, none⟩), .agg #[.int .i64 1, .int .i64 0]] (.tuple #[]) s.flush := by
  rintro F ⟨vbuf, vs, ve, B, h, rfl⟩
  have p := ((Pst.start (yi_inv k) ⟨vbuf, vs, ve, B, h, rfl⟩).alloc (yi_inv k) #[.int .i64 1, .int .i64 0] 73)
  have HP := hide (p.end)
  have hnt' : ¬ (k.nt : Int) ≤ 0 := by have := h.hnt; omega
  have hnt0 : ¬ k.nt = 0 := by have := h.hnt; omega
  have cy := (h.hy.alloc #[.int .i64 1, .int .i64 0] 73).cell (o := 1) (v := .slice k.ta k.nt k.ct) rfl
  have HF := hide (fun w => refflush_does k s hq w)
  clear h p hq
  go_enter Tryd.func42, Tryd.ntmps42
  go_wp2_with (fail)
  go_quiet (fail)
  have HP2 := hide (HP.out.gr (yi_inv k) ((Gr.refl _).drewN nq))
  go_wp2_with (go_at_call 81; refine ((HF.out _).go HP2.out).mono ?_; rintro e u ⟨⟨rfl, -⟩, p⟩)
  go_end0
  exact ⟨rfl, p⟩

set_option maxRecDepth 20000 in
set_option maxHeartbeats 1000000 in
theorem flush_does (k : Yc) (s : Ys) (hq : 200 ≤ s.fuel) (w : World) :
    Does (YI k) s w 41 #[.pointer (some ⟨k.ab, 0, none⟩), .pointer (some ⟨k.wb, 0, none⟩)] (.tuple #[]) (s.ask 102).flush := by
  rintro F ⟨vbuf0, vs0, ve0, B0, h, rfl⟩
  have HP := hide (Pst.start (yi_inv k) ⟨vbuf0, vs0, ve0, B0, h, rfl⟩)
  have ca := h.hab.cell (o := 0) rfl
  have HQ := hide hq
  clear h hq
  go_enter Tryd.func41, Tryd.ntmps41
  go_wp2_with (fail)
  refine ((ask_does k s 102 HQ.out _).go HP.out).mono ?_
  rintro e u0 ⟨⟨rfl, -⟩, p⟩
  obtain ⟨F', ⟨vbuf, vs, ve, B, h1, rfl⟩, -⟩ := id p
  have cw := h1.hwb.cell (o := 0) rfl
  have PP := hide p
  clear h1 p ca
  go_wp2_with (fail)
  refine ((pick_does k (s.ask 102) (by have := s.fuel_ask 102; have := HQ.out; omega) _).go PP.out).mono ?_
  rintro e u1 ⟨⟨rfl, -⟩, p⟩
  clear cw PP
  go_wp2_with (fail)
  go_end0
  exact ⟨rfl, p⟩

/-- the ten functions of a yard's port -/
def fnsY (k : Yc) : Fns :=
  ⟨37, #[.pointer (some ⟨k.ab, 0, none⟩), .pointer (some ⟨k.wb, 0, none⟩)], 38, #[.pointer (some ⟨k.wb, 0, none⟩)],
   39, #[.pointer (some ⟨k.ab, 0, none⟩), .pointer (some ⟨k.wb, 0, none⟩)], 40, #[.pointer (some ⟨k.wb, 0, none⟩)],
   41, #[.pointer (some ⟨k.ab, 0, none⟩), .pointer (some ⟨k.wb, 0, none⟩)], 43, #[.pointer (some ⟨k.ab, 0, none⟩), .pointer (some ⟨k.wb, 0, none⟩)],
   44, #[.pointer (some ⟨k.ab, 0, none⟩), .pointer (some ⟨k.wb, 0, none⟩)], 45, #[.pointer (some ⟨k.ab, 0, none⟩), .pointer (some ⟨k.wb, 0, none⟩)],
   47, #[.pointer (some ⟨k.ab, 0, none⟩)], 48, #[.pointer (some ⟨k.wb, 0, none⟩)]⟩

theorem yard_ok (k : Yc) (hN : k.N ≤ 1000) : PortOk (YI k) (yardM k.N) (fnsY k) where
  inv := yi_inv k
  size := ⟨Int.natCast_nonneg _, by show (k.N : Int) ≤ _; omega⟩
  load := fun s w m h0 h1 hq => by
    obtain ⟨n, rfl⟩ := Int.eq_ofNat_of_zero_le h0
    exact ⟨fun args w => by simp [go_sem, fnsY], load_does k s n (by have : (n : Int) < k.N := h1; omega) hq w⟩
  loadU := by
    rintro F s w m ⟨vbuf, vs, ve, B, h, rfl⟩
    exact see_u32 h.rng h.wrd m _ (Nat.le_refl _)
  loadF := fun s m => by have := s.fuel_ask 108; show s.fuel ≤ (s.ask 108).fuel + 200; omega
  room := fun s w hq => ⟨fun args w => by simp [go_sem, fnsY], room_does k s w⟩
  store := fun s w m v h0 h1 hu _ hq => ⟨fun args w => by simp [go_sem, fnsY], store_does k s m v h0 h1 hu hq w⟩
  storeF := fun s m v => by have := s.fuel_ask 115; have := (s.ask 115).fuel_store m v; show s.fuel ≤ ((s.ask 115).store m v).fuel + 200; omega
  empty := fun s w hq => ⟨fun args w => by simp [go_sem, fnsY], empty_does k s w⟩
  flush := fun s w hq => ⟨fun args w => by simp [go_sem, fnsY], flush_does k s hq w⟩
  swap := fun s w m v h0 h1 hu hq => by
    obtain ⟨n, rfl⟩ := Int.eq_ofNat_of_zero_le h0
    exact ⟨fun args w => by simp [go_sem, fnsY], swap_does k s n v (by have : (n : Int) < k.N := h1; omega) hu hq w⟩
  swapF := fun s m v => by have := s.fuel_ask 120; have := (s.ask 120).fuel_swap m v; show s.fuel ≤ ((s.ask 120).swap m v).fuel + 200; omega
  sleep := fun s w m h0 h1 hq => ⟨fun args w => by simp [go_sem, fnsY], sleep_does k s m hq w⟩
  wake := fun s w m v h0 h1 hu hq => ⟨fun args w => by simp [go_sem, fnsY], wake_does k s m v hu hq w⟩
  wakeU := fun F s w m v _ => u32_wrap _
  wakeF := fun s m v => by have := s.fuel_ask 119; have := (s.ask 119).fuel_wake m v; show s.fuel ≤ ((s.ask 119).wake m v).fuel + 200; omega
  remote := fun s w hq => ⟨fun args w => by simp [go_sem, fnsY], remote_does k s hq w⟩
  remoteF := fun s => by have := s.fuel_ask 114; show s.fuel ≤ (s.ask 114).fuel + 200; omega
  note := fun s w x hq => ⟨fun args w => by simp [go_sem, fnsY], note_does k s x hq w⟩
  noteF := fun s x => by have := s.fuel_note x; show s.fuel ≤ (s.note x).fuel + 200; omega
end Go.Proofs.YtbmlliohepidaaaDoor
