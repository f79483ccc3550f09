/-
  What the port's Load and Swap do to a yard. No condition but that there is room for what is asked.
-/
import Derived.Test.YtbmlliohepidaaaDoorAsk
namespace Go.Proofs.YtbmlliohepidaaaDoor
open Go.ChangeShapes Go.WideShapes Go.ChangeAt Go.RowKit
set_option linter.unusedVariables false

theorem see_hit (l : List Ent) (mem : List Int) (m : Int) (n : Nat) (h : ((l.getD n ent0).a == m) = true) : seeY l mem m (n + 1) = (l.getD n ent0).v := by
  simp only [seeY, h, if_true]
theorem see_skip (l : List Ent) (mem : List Int) (m : Int) (n : Nat) (h : ((l.getD n ent0).a == m) = false) : seeY l mem m (n + 1) = seeY l mem m n := by
  simp only [seeY, h]
  rfl
theorem see_u32 {N : Nat} {l : List Ent} {mem : List Int} (hl : ∀ x ∈ l, (0 ≤ x.a ∧ x.a < N) ∧ U32 x.v) (hm : ∀ x ∈ mem, U32 x) (m : Int) : ∀ n, n ≤ l.length → U32 (seeY l mem m n)
  | 0, _ => by
    simp only [seeY, List.getD_eq_getElem?_getD]
    rcases Nat.lt_or_ge m.toNat mem.length with q | q
    · rw [List.getElem?_eq_getElem q]; exact hm _ (List.getElem_mem q)
    · rw [List.getElem?_eq_none q]; exact ⟨Int.le_refl _, by decide⟩
  | n + 1, hn => by
    simp only [seeY]
    split
    · rw [List.getD_eq_getElem?_getD, List.getElem?_eq_getElem (by omega)]
      exact (hl _ (List.getElem_mem (by omega))).2
    · exact see_u32 hl hm m n (by omega)
theorem Yd.memAt {k : Yc} {s : Ys} {vbuf vs ve : Value} {B : Array Value} {w : World} (h : Yd k s vbuf vs ve B w) {m : Nat} (hm : m < k.N) :
    ∃ g c, k.vm = .slice (some ⟨g, 0, none⟩) k.N c ∧ w.cell? ⟨g, m, none⟩ = some (.int .u32 (s.mem.getD m 0)) ∧ w.frozen? ⟨g, m, none⟩ = false := by
  have hN := h.num
  obtain ⟨vma, vmc, hvm, hvr, -, -, hvb⟩ := own_at h.mem
  obtain ⟨g, og, rfl, -⟩ := hvr.get (by rw [flatOf_length wordL_len]; omega)
  obtain ⟨-, hgo, -⟩ := hvb _ rfl
  cases hgo
  refine ⟨g, vmc, by rw [hvm, hN], ?_, ?_⟩
  · have := hvr.cell wordL_len (i := m) (by omega) 0 0 (by omega)
    simpa [wordL] using this
  · obtain ⟨C, hC⟩ := own_has h.mem (k := g) (by rw [hvm, mem_ob]; rfl)
    exact hC.free m
theorem Yd.swapP {k : Yc} {s : Ys} {vbuf vs ve : Value} {B : Array Value} {w : World} (h : Yd k s vbuf vs ve B w) {m g c : Nat} (hm : m < k.N) (hv : k.vm = .slice (some ⟨g, 0, none⟩) k.N c) (v : Int) (hu : U32 v) :
    Pst (YI k) (foot k vbuf vs ve) w [] (s.swap m v) (w.setCell ⟨g, m, none⟩ (.int .u32 v)) := by
  refine yi_post h (h.setMem hv m hm v hu) ((Kp.setCell w g m (.int .u32 v)).trans (Kp.refl [] _) ?_ (by simp)) foot_buf foot_slp foot_evs
  intro x hx
  have e : x = g := by simpa using hx
  have hg : g ∈ ob k.vm := by rw [hv, mem_ob]; rfl
  rw [e]
  exact mem_foot.2 (by simp [hg])
theorem ret_u32 {a b : Int} (h : a = b) : Ending.returned (.int .u32 a) = .returned (.int .u32 b) := by rw [h]

set_option maxRecDepth 20000 in
set_option maxHeartbeats 1000000 in
theorem load_does (k : Yc) (s : Ys) (m : Nat) (hm : m < k.N) (hq : 200 ≤ s.fuel) (w : World) :
    Does (YI k) s w 37 #[.int .i64 m, .pointer (some ⟨k.ab, 0, none⟩), .pointer (some ⟨k.wb, 0, none⟩)] (.int .u32 (s.load m)) (s.ask 108) := by
  rintro F ⟨vbuf, vs, ve, B, h, rfl⟩
  have HP := hide (Pst.start (yi_inv k) ⟨vbuf, vs, ve, B, h, rfl⟩)
  have ca := h.hab.cell (o := 0) rfl
  clear h
  have HL : Hid (s.load m = seeY (s.ask 108).buf (s.ask 108).mem m (s.ask 108).buf.length) := rfl
  have hlb : s.buf.length ≤ 90000 := by unfold Ys.fuel at hq; omega
  have hlb' : (s.ask 108).buf.length ≤ 90000 := hlb
  go_enter Tryd.func37, Tryd.ntmps37
  go_wp2_with (go_at_call 36; refine ((ask_does k s 108 hq _).go HP.out).mono ?_; rintro e u ⟨⟨rfl, -⟩, p⟩; obtain ⟨F', ⟨vbuf', vs', ve', B', h, rfl⟩, kp, hn, -, hz⟩ := id p; have cw := h.hwb.cell (o := 0) rfl; have cy := h.hy.cell (o := 2) (v := .slice (some ⟨k.gb, 0, none⟩) k.nb k.cb) rfl; obtain ⟨ad, cap, rfl, hrow, -, -, -⟩ := own_at h.buf; have cg := h.hgb.cell h.hB; have hnb' : (0 : Int) < (k.nb : Int) := by (have := h.hnb; omega))
  generalize hs2 : s.ask 108 = s2 at HL h hrow cg p hlb' ⊢
  have HS := hide hs2
  obtain ⟨g, vmc, hvm, cm, fm⟩ := h.memAt hm
  have hN := h.num
  have cy3 := h.hy.cell (o := 3) (v := k.vm) rfl
  rw [hvm] at cy3
  generalize hz : s2.mem.getD m 0 = z at cm
  have HZ := hide hz
  have HR := hide hrow
  have PP := hide p
  have hm' : (m : Int) < k.N := by omega
  have hm0 : ¬ (m : Int) < 0 := by omega
  clear hrow p h hvm kp hn hN fm hs2 hz
  go_loop [5] (fun i => ∃ j : Nat, j ≤ s2.buf.length ∧ i = .int .i64 ((j : Int) - 1) ∧ Hid (seeY s2.buf s2.mem m s2.buf.length = seeY s2.buf s2.mem m j)) (fun i => (intOf i + 1).toNat)
  case atStart => exact ⟨s2.buf.length, Nat.le_refl _, by go_num, rfl⟩
  case round =>
    obtain ⟨j, hj, rfl, hd⟩ := hrel
    cases j with
    | zero =>
      have e0 : ((0 : Nat) : Int) - 1 = -1 := by omega
      rw [e0]
      have HE : Hid (s.load m = z) := by show _ = _; rw [HL.out, hd.out, ← HZ.out]; simp [seeY]
      clear HL hd
      go_wp2_with (fail)
      go_ret
      exact ⟨by rw [HE.out]; rfl, by rw [HS.out]; exact PP.out⟩
    | succ j =>
      have e1 : ((j + 1 : Nat) : Int) - 1 = j := by omega
      rw [e1]
      obtain ⟨b, off, rfl, -⟩ := HR.out.get (by rw [flatOf_length entL_len]; omega)
      have x0 : u.cell? ⟨b, off + j * 2, none⟩ = some (.int .i64 (s2.buf.getD j ent0).a) := HR.out.cell entL_len (by omega) ent0 0 (by omega)
      have x1 : u.cell? ⟨b, off + j * 2 + 1, none⟩ = some (.int .u32 (s2.buf.getD j ent0).v) := by rw [Nat.add_assoc]; exact HR.out.cell entL_len (by omega) ent0 1 (by omega)
      have hjl : (j : Int) < s2.buf.length := by omega
      have hj0 : (0 : Int) ≤ j := by omega
      cases hb : ((s2.buf.getD j ent0).a == (m : Int))
      · have H2 : Hid (seeY s2.buf s2.mem m s2.buf.length = seeY s2.buf s2.mem m j) := hd.out.trans (see_skip _ _ _ _ hb)
        generalize s2.buf.getD j ent0 = x at x0 x1 hb
        clear hd
        go_wp2_with (fail)
        exact ⟨⟨j, by omega, by go_num, H2⟩, by simp [intOf]⟩
      · have HE : Hid (s.load m = (s2.buf.getD j ent0).v) := HL.out.trans (hd.out.trans (see_hit _ _ _ _ hb))
        generalize s2.buf.getD j ent0 = x at x0 x1 hb HE
        clear hd HL
        go_wp2_with (fail)
        go_ret
        exact ⟨by rw [HE.out]; rfl, by rw [HS.out]; exact PP.out⟩

set_option maxRecDepth 20000 in
set_option maxHeartbeats 1000000 in
theorem swap_does (k : Yc) (s : Ys) (m : Nat) (v : Int) (hm : m < k.N) (hu : U32 v) (hq : 200 ≤ s.fuel) (w : World) :
    Does (YI k) s w 43 #[.int .i64 m, .int .u32 v, .pointer (some ⟨k.ab, 0, none⟩), .pointer (some ⟨k.wb, 0, none⟩)] (.int .u32 (s.mem.getD m 0)) ((s.ask 120).swap m v) := by
  rintro F ⟨vbuf, vs, ve, B, h, rfl⟩
  have HP := hide (Pst.start (yi_inv k) ⟨vbuf, vs, ve, B, h, rfl⟩)
  have ca := h.hab.cell (o := 0) rfl
  clear h
  have HU := hide hu
  have HM : Hid (s.mem = (s.ask 120).mem) := rfl
  have hm' : (m : Int) < k.N := by omega
  have hm0 : ¬ (m : Int) < 0 := by omega
  rw [HM.out]
  have HQ := hide hq
  generalize hzz : (s.ask 120).mem.getD m 0 = z
  have HZ := hide hzz
  clear hzz HM
  clear hu hq
  go_enter Tryd.func43, Tryd.ntmps43
  go_wp2_with (fail)
  refine ((ask_does k s 120 HQ.out _).go HP.out).mono ?_
  rintro e u ⟨⟨rfl, -⟩, p⟩
  obtain ⟨F', ⟨vbuf', vs', ve', B', h, rfl⟩, kp, hn, -, hz⟩ := id p
  have cw := h.hwb.cell (o := 0) rfl
  have cy3 := h.hy.cell (o := 3) (v := k.vm) rfl
  obtain ⟨g, vmc, hvm, cm, fm⟩ := h.memAt hm
  rw [hvm] at cy3
  have PV := hide (Pst.via kp hn hz (h.swapP hm hvm v HU.out))
  rw [HZ.out] at cm
  clear h p kp hn hz hvm
  go_wp2_with (fail)
  go_ret
  exact ⟨rfl, PV.out⟩
end Go.Proofs.YtbmlliohepidaaaDoor
