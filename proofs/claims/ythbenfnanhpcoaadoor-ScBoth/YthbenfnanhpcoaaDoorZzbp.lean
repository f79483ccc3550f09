/-
  What has and Pick of a machine do. No condition but what each law names.
-/
import Derived.Test.YthbenfnanhpcoaaDoorZzaw
import Derived.Test.YthbenfnanhpcoaaDoorZzbi
import Derived.Test.YthbenfnanhpcoaaDoorZzbh
namespace Go.Proofs.YthbenfnanhpcoaaDoor.Mc
open Go.ChangeShapes Go.WideShapes Go.ChangeAt Go.RowKit
set_option linter.unusedVariables false
set_option maxRecDepth 20000

def hasB (s : Ms) (who : Int) : Bool := decide (0 ≤ who) && decide (who < s.sides.length)
theorem Mw.svAt {k : Mk} {s : Ms} {e : Value} {w : World} (h : Mw k s e w) : ∃ a c, k.sv = .slice a s.sides.length c := by
  have hr0 := h.row
  rw [sideP_flat] at hr0
  obtain ⟨a, c, hv, -⟩ := own_at hr0
  exact ⟨a, c, by rw [hv, h.len]⟩

set_option maxHeartbeats 400000 in
theorem has_calls {k : Mk} {s : Ms} {e : Value} {w : World} (h : Mw k s e w) (who : Int) :
    Calls Tryd.prog 36 #[.pointer (some ⟨k.mb, 0, none⟩), .int .i64 who] w fun r w' => r = .returned (.bool (hasB s who)) ∧ Gr w w' := by
  obtain ⟨a, c, hsv⟩ := h.svAt
  have c0 := h.mach.2.1
  rw [hsv] at c0
  have HP := hide (Gr.refl w)
  clear h hsv
  by_cases h0 : 0 ≤ who
  · have HB : Hid (hasB s who = decide (who < s.sides.length)) := by show _ = _; simp [hasB, h0]
    rw [HB.out]
    generalize s.sides.length = n at c0 ⊢
    go_enter Tryd.func36, Tryd.ntmps36
    go_wp2_with (fail)
    go_ret
    exact ⟨rfl, HP.out⟩
  · have HB : Hid (hasB s who = false) := by show _ = _; simp [hasB, h0]
    rw [HB.out]
    go_enter Tryd.func36, Tryd.ntmps36
    go_wp2_with (fail)
    go_ret
    exact ⟨rfl, HP.out⟩
end Go.Proofs.YthbenfnanhpcoaaDoor.Mc

namespace Go.Proofs.YthbenfnanhpcoaaDoor.Sc
open Go.Proofs.YthbenfnanhpcoaaDoor.Mc Go.ChangeShapes Go.WideShapes Go.ChangeAt Go.RowKit
set_option linter.unusedVariables false
set_option maxRecDepth 20000

theorem Mw.svAt {k : Mk} {s : Ms} {e : Value} {w : World} (h : Mw k s e w) : ∃ a c, k.sv = .slice a s.sides.length c := by
  have hr0 := h.row
  rw [sideP_flat] at hr0
  obtain ⟨a, c, hv, -⟩ := own_at hr0
  exact ⟨a, c, by rw [hv, h.len]⟩

set_option maxHeartbeats 400000 in
theorem has_calls {k : Mk} {s : Ms} {e : Value} {w : World} (h : Mw k s e w) (who : Int) :
    Calls Tryd.prog 44 #[.pointer (some ⟨k.mb, 0, none⟩), .int .i64 who] w fun r w' => r = .returned (.bool (hasB s who)) ∧ Gr w w' := by
  obtain ⟨a, c, hsv⟩ := h.svAt
  have c0 := h.mach.2.1
  rw [hsv] at c0
  have HP := hide (Gr.refl w)
  clear h hsv
  by_cases h0 : 0 ≤ who
  · have HB : Hid (hasB s who = decide (who < s.sides.length)) := by show _ = _; simp [hasB, h0]
    rw [HB.out]
    generalize s.sides.length = n at c0 ⊢
    go_enter Tryd.func44, Tryd.ntmps44
    go_wp2_with (fail)
    go_ret
    exact ⟨rfl, HP.out⟩
  · have HB : Hid (hasB s who = false) := by show _ = _; simp [hasB, h0]
    rw [HB.out]
    go_enter Tryd.func44, Tryd.ntmps44
    go_wp2_with (fail)
    go_ret
    exact ⟨rfl, HP.out⟩
end Go.Proofs.YthbenfnanhpcoaaDoor.Sc

namespace Go.Proofs.YthbenfnanhpcoaaDoor.Mc
open Go.ChangeShapes Go.WideShapes Go.ChangeAt Go.RowKit
set_option linter.unusedVariables false
set_option maxRecDepth 20000

set_option maxHeartbeats 1000000 in
theorem pick_does (k : Mk) (s : Ms) (kind who : Int) (hq : 1000 ≤ s.fuel) (hc : ∀ i, (s.side i).code.length ≤ 100000) (w : World) :
    Does (MI k) s w 16 #[.pointer (some ⟨k.mb, 0, none⟩), .agg #[.int .i64 kind, .int .i64 who]] (.tuple #[]) (s.pick k.N kind who) := by
  rintro F ⟨e, h, rfl⟩
  have ga := (Gr.refl w).alloc #[.int .i64 kind, .int .i64 who] 45
  have hb := Has.new w #[.int .i64 kind, .int .i64 who] 45
  have HH := hide h
  have HHAS := hide (has_calls (h.later ga) who)
  cases hh : hasB s who with
  | false =>
    have HR : Hid (s.pick k.N kind who = s) := by
      show _ = _
      unfold Ms.pick
      rw [if_neg]
      intro hx
      simp [hasB, hx.1, hx.2] at hh
    rw [HR.out]
    rw [hh] at HHAS
    have c1 := hb.cell (o := 1) rfl
    clear h HR hh
    go_enter Tryd.func16, Tryd.ntmps16
    go_wp2_with (fail)
    change Calls _ _ _ (w.alloc (.cells #[.int .i64 kind, .int .i64 who] 45)) _
    generalize w.alloc (.cells #[.int .i64 kind, .int .i64 who] 45) = w1 at HHAS c1 hb ga ⊢
    refine HHAS.out.mono ?_
    rintro r u ⟨rfl, g2⟩
    have HP := hide (mi_same HH.out (ga.trans g2))
    go_wp2_with (fail)
    exact bodyPost_ret (results_none rfl _ _ _) rfl ⟨rfl, HP.out⟩
  | true =>
    rw [hh] at HHAS
    have hwho : 0 ≤ who ∧ who < s.sides.length := by simpa [hasB] using hh
    obtain ⟨n, rfl⟩ := nat_of hwho.1
    obtain ⟨y, hy⟩ : ∃ y, k.ss[n]? = some y := ⟨_, List.getElem?_eq_getElem (by rw [h.len]; omega)⟩
    have HY := hide hy
    have hn1 : (n : Int) < k.ss.length := by rw [h.len]; omega
    have hn0 : ¬ (n : Int) < 0 := by omega
    clear h hh
    go_enter Tryd.func16, Tryd.ntmps16
    go_wp2_with (fail)
    change Calls _ _ _ (w.alloc (.cells #[.int .i64 kind, .int .i64 (n : Int)] 45)) _
    generalize w.alloc (.cells #[.int .i64 kind, .int .i64 (n : Int)] 45) = w1 at HHAS hb ga ⊢
    refine HHAS.out.mono ?_
    rintro r u ⟨rfl, g2⟩
    have h2 := HH.out.later (ga.trans g2)
    have hb2 := hb.later g2
    have c0 := hb2.cell (o := 0) (v := .int .i64 kind) rfl
    have c1 := hb2.cell (o := 1) (v := .int .i64 (n : Int)) rfl
    obtain ⟨bs, cs, hsv, hcs⟩ := h2.sideAt hy
    have cm := h2.mach.2.1
    rw [hsv] at cm
    have GG := hide (ga.trans g2)
    have HB2 := hide hb2
    clear hb hb2 h2 ga g2 hsv hy
    go_upto_region 2 with (fail)
    go_quiet (fail)
    have GU := GG.out.drewN nq
    have c0' : (u.drewN nq).cell? ⟨w.heap.size, 0, none⟩ = some (.int .i64 kind) := c0
    have hpk : s.pick k.N kind (n : Int) = if kind = 0 then s.step k.N n else if kind = 1 then s.flush n else if kind = 2 then s.rouse n else s := by
      unfold Ms.pick
      rw [if_pos hwho]
      rfl
    have HPK := hide hpk
    have P0 := hide (mi_same HH.out GU)
    have hev : s.evs.length ≤ 95000 := fuel_evs (by omega)
    clear c0 c1 hcs cm GG HB2 GU hpk
    generalize u.drewN nq = u2 at c0' P0 ⊢
    by_cases k0 : kind = 0
    · subst k0
      have HR : Hid (s.pick k.N 0 n = s.step k.N n) := by show _ = _; rw [HPK.out, if_pos rfl]
      clear HPK
      have HD := hide (step_does k n y HY.out s hq (hc n) u2)
      go_wp2_with (fail)
      refine (HD.out.go P0.out).mono ?_
      rintro r u3 ⟨⟨rfl, -⟩, p1⟩
      have PQ := hide p1
      clear p1 c0'
      go_wp2_with (fail)
      go_end0
      exact ⟨rfl, by rw [HR.out]; exact PQ.out⟩
    · have k0' : (kind == 0) = false := by simpa using k0
      by_cases k1 : kind = 1
      · subst k1
        have HR : Hid (s.pick k.N 1 n = s.flush n) := by show _ = _; rw [HPK.out, if_neg (by decide), if_pos rfl]
        clear HPK
        have HD := hide (flush_does k n y HY.out s hev u2)
        go_wp2_with (fail)
        refine (HD.out.go P0.out).mono ?_
        rintro r u3 ⟨⟨rfl, -⟩, p1⟩
        have PQ := hide p1
        clear p1 c0'
        go_wp2_with (fail)
        go_end0
        exact ⟨rfl, by rw [HR.out]; exact PQ.out⟩
      · have k1' : (kind == 1) = false := by simpa using k1
        by_cases k2 : kind = 2
        · subst k2
          have HR : Hid (s.pick k.N 2 n = s.rouse n) := by show _ = _; rw [HPK.out, if_neg (by decide), if_neg (by decide), if_pos rfl]
          clear HPK
          have HD := hide (rouse_does k n y HY.out s hev u2)
          go_wp2_with (fail)
          refine (HD.out.go P0.out).mono ?_
          rintro r u3 ⟨⟨rfl, -⟩, p1⟩
          have PQ := hide p1
          clear p1 c0'
          go_wp2_with (fail)
          go_end0
          exact ⟨rfl, by rw [HR.out]; exact PQ.out⟩
        · have k2' : (kind == 2) = false := by simpa using k2
          have HR : Hid (s.pick k.N kind n = s) := by show _ = _; rw [HPK.out, if_neg k0, if_neg k1, if_neg k2]
          clear HPK
          go_wp2_with (fail)
          go_end0
          exact ⟨rfl, by rw [HR.out]; exact P0.out⟩
end Go.Proofs.YthbenfnanhpcoaaDoor.Mc

namespace Go.Proofs.YthbenfnanhpcoaaDoor.Sc
open Go.Proofs.YthbenfnanhpcoaaDoor.Mc Go.ChangeShapes Go.WideShapes Go.ChangeAt Go.RowKit
set_option linter.unusedVariables false
set_option maxRecDepth 20000

set_option maxHeartbeats 1000000 in
theorem pick_does (k : Mk) (s : Ms) (kind who : Int) (hq : 1000 ≤ s.fuel) (hc : ∀ i, (s.side i).code.length ≤ 100000) (w : World) :
    Does (MI k) s w 26 #[.pointer (some ⟨k.mb, 0, none⟩), .agg #[.int .i64 kind, .int .i64 who]] (.tuple #[]) (s.pickS k.N kind who) := by
  rintro F ⟨e, h, rfl⟩
  have ga := (Gr.refl w).alloc #[.int .i64 kind, .int .i64 who] 45
  have hb := Has.new w #[.int .i64 kind, .int .i64 who] 45
  have HH := hide h
  have HHAS := hide (has_calls (h.later ga) who)
  cases hh : hasB s who with
  | false =>
    have HR : Hid (s.pickS k.N kind who = s) := by
      show _ = _
      unfold Ms.pickS
      rw [if_neg]
      intro hx
      simp [hasB, hx.1, hx.2] at hh
    rw [HR.out]
    rw [hh] at HHAS
    have c1 := hb.cell (o := 1) rfl
    clear h HR hh
    go_enter Tryd.func26, Tryd.ntmps26
    go_wp2_with (fail)
    change Calls _ _ _ (w.alloc (.cells #[.int .i64 kind, .int .i64 who] 45)) _
    generalize w.alloc (.cells #[.int .i64 kind, .int .i64 who] 45) = w1 at HHAS c1 hb ga ⊢
    refine HHAS.out.mono ?_
    rintro r u ⟨rfl, g2⟩
    have HP := hide (mi_same HH.out (ga.trans g2))
    go_wp2_with (fail)
    exact bodyPost_ret (results_none rfl _ _ _) rfl ⟨rfl, HP.out⟩
  | true =>
    rw [hh] at HHAS
    have hwho : 0 ≤ who ∧ who < s.sides.length := by simpa [hasB] using hh
    obtain ⟨n, rfl⟩ := nat_of hwho.1
    obtain ⟨y, hy⟩ : ∃ y, k.ss[n]? = some y := ⟨_, List.getElem?_eq_getElem (by rw [h.len]; omega)⟩
    have HY := hide hy
    have hn1 : (n : Int) < k.ss.length := by rw [h.len]; omega
    have hn0 : ¬ (n : Int) < 0 := by omega
    clear h hh
    go_enter Tryd.func26, Tryd.ntmps26
    go_wp2_with (fail)
    change Calls _ _ _ (w.alloc (.cells #[.int .i64 kind, .int .i64 (n : Int)] 45)) _
    generalize w.alloc (.cells #[.int .i64 kind, .int .i64 (n : Int)] 45) = w1 at HHAS hb ga ⊢
    refine HHAS.out.mono ?_
    rintro r u ⟨rfl, g2⟩
    have h2 := HH.out.later (ga.trans g2)
    have hb2 := hb.later g2
    have c0 := hb2.cell (o := 0) (v := .int .i64 kind) rfl
    have c1 := hb2.cell (o := 1) (v := .int .i64 (n : Int)) rfl
    obtain ⟨bs, cs, hsv, hcs⟩ := h2.sideAt hy
    have cm := h2.mach.2.1
    rw [hsv] at cm
    have GG := hide (ga.trans g2)
    have HB2 := hide hb2
    clear hb hb2 h2 ga g2 hsv hy
    go_upto_region 2 with (fail)
    go_quiet (fail)
    have GU := GG.out.drewN nq
    have c0' : (u.drewN nq).cell? ⟨w.heap.size, 0, none⟩ = some (.int .i64 kind) := c0
    have hpk : s.pickS k.N kind (n : Int) = if kind = 0 then s.stepS k.N n else if kind = 2 then s.rouse n else s := by
      unfold Ms.pickS
      rw [if_pos hwho]
      rfl
    have HPK := hide hpk
    have P0 := hide (mi_same HH.out GU)
    have hev : s.evs.length ≤ 95000 := fuel_evs (by omega)
    clear c0 c1 hcs cm GG HB2 GU hpk
    generalize u.drewN nq = u2 at c0' P0 ⊢
    by_cases k0 : kind = 0
    · subst k0
      have HR : Hid (s.pickS k.N 0 n = s.stepS k.N n) := by show _ = _; rw [HPK.out, if_pos rfl]
      clear HPK
      have HD := hide (step_does k n y HY.out s hq (hc n) u2)
      go_wp2_with (fail)
      refine (HD.out.go P0.out).mono ?_
      rintro r u3 ⟨⟨rfl, -⟩, p1⟩
      have PQ := hide p1
      clear p1 c0'
      go_wp2_with (fail)
      go_end0
      exact ⟨rfl, by rw [HR.out]; exact PQ.out⟩
    · have k0' : (kind == 0) = false := by simpa using k0
      by_cases k2 : kind = 2
      · subst k2
        have HR : Hid (s.pickS k.N 2 n = s.rouse n) := by show _ = _; rw [HPK.out, if_neg (by decide), if_pos rfl]
        clear HPK
        have HD := hide (rouse_does k n y HY.out s hev u2)
        go_wp2_with (fail)
        refine (HD.out.go P0.out).mono ?_
        rintro r u3 ⟨⟨rfl, -⟩, p1⟩
        have PQ := hide p1
        clear p1 c0'
        go_wp2_with (fail)
        go_end0
        exact ⟨rfl, by rw [HR.out]; exact PQ.out⟩
      · have k2' : (kind == 2) = false := by simpa using k2
        have HR : Hid (s.pickS k.N kind n = s) := by show _ = _; rw [HPK.out, if_neg k0, if_neg k2]
        clear HPK
        go_wp2_with (fail)
        go_end0
        exact ⟨rfl, by rw [HR.out]; exact P0.out⟩
end Go.Proofs.YthbenfnanhpcoaaDoor.Sc

namespace Go.Proofs.YthbenfnanhpcoaaDoor.Mc
open Go.ChangeShapes Go.WideShapes Go.ChangeAt Go.RowKit
set_option linter.unusedVariables false
set_option maxRecDepth 20000

theorem fuel_few {s : Ms} (h : s.okB = true) (he : s.evs.length ≤ 94000) : 1000 ≤ s.fuel := by
  unfold Ms.fuel
  rw [if_pos h]
  omega
set_option maxHeartbeats 1000000 in
theorem run_does (k : Mk) (P : Ms → Prop) (hP : ∀ s e w kind who, Mw k s e w → P s → P (s.pick k.N kind who)) (l : List Ent) (a : Option Addr) (c : Nat) (hl : l.length ≤ 600) (s : Ms) (hs : P s) (he : s.evs.length ≤ 10000) (hc : Short s) (w : World) (F : List Nat) (hI : MI k F s w)
    (hrow : RowAt w a (flatOf slpL l)) (hout : ∀ y, a = some y → 0 < l.length → y.block ∉ F) :
    Calls Tryd.prog 11 #[.pointer (some ⟨k.mb, 0, none⟩), .slice a l.length c] w fun r w' => (r = .returned (.tuple #[]) ∧ Pst (MI k) F w [] (s.run k.N l) w') ∧ P (s.run k.N l) ∧ (s.run k.N l).evs.length ≤ 10000 + 130 * l.length := by
  have p0 := Pst.start (mi_inv k) hI
  have HT := hide (fun j h => run_snoc s k.N l j h)
  have HP := hide hP
  have hs0 : P (s.run k.N (l.take 0)) := hs
  have hc0 : Short (s.run k.N (l.take 0)) := hc
  have he0 : (s.run k.N (l.take 0)).evs.length ≤ 10000 + 130 * 0 := he
  have p00 : Pst (MI k) F w [] (s.run k.N (l.take 0)) w := p0
  clear hI p0 hP hs hc he
  go_enter Tryd.func11, Tryd.ntmps11
  go_wp2_with (fail)
  go_loopw [8] (fun v wr => ∃ j : Nat, j ≤ l.length ∧ v = .int .i64 j ∧ Pst (MI k) F w [] (s.run k.N (l.take j)) wr ∧ P (s.run k.N (l.take j)) ∧ Short (s.run k.N (l.take j)) ∧ (s.run k.N (l.take j)).evs.length ≤ 10000 + 130 * j) (fun v _ => l.length - (intOf v).toNat)
  case atStart => exact ⟨0, by omega, rfl, p00, hs0, hc0, he0⟩
  case round =>
    clear p00 hs0 hc0 he0
    obtain ⟨j, hj, rfl, p, hs, hc, he⟩ := hrel
    by_cases hlt : j < l.length
    · have hlt' : (j : Int) < l.length := by omega
      have rw1 : RowAt wr a (flatOf slpL l) := by
        obtain ⟨F', -, kp, -⟩ := p
        exact hrow.kept kp fun y hy => hout y hy (by omega)
      obtain ⟨b, off, had, -⟩ := rw1.get (by rw [flatOf_length slpL_len]; omega)
      subst had
      have c0 := rw1.cell slpL_len hlt ent0 0 (by omega)
      have c1 := rw1.cell slpL_len hlt ent0 1 (by omega)
      have HS := hide (HT.out j hlt)
      generalize l.getD j ent0 = x at c0 c1 HS
      simp only [slpL, List.getElem?_cons_zero, List.getElem?_cons_succ, Nat.add_zero, ← Nat.add_assoc] at c0 c1
      generalize s.run k.N (l.take j) = sj at p hs hc he HS
      obtain ⟨e1, h1⟩ := Pst.mw p
      have hf := fuel_few h1.ok (by omega)
      have HD := hide (fun wx => pick_does k sj x.a x.v hf hc wx)
      have hp1 := HP.out sj e1 wr x.a x.v h1 hs
      have hc1 := short_pick hc k.N x.a x.v
      have he1 := evs_pick (n := k.N) h1.ok x.a x.v
      have PP := hide p
      have G1 := (Gr.refl wr).alloc #[.int .i64 x.a, .int .i64 x.v] 45
      clear p rw1 h1 hs hf hc
      go_wp2_with (fail)
      refine ((HD.out _).go (PP.out.gr (mi_inv k) G1)).mono ?_
      rintro r u ⟨⟨rfl, -⟩, p1⟩
      have PQ := hide p1
      clear p1 c0 c1 G1 HD
      go_wp2_with (fail)
      exact ⟨⟨j + 1, by omega, by go_num, by rw [HS.out]; exact PQ.out, by rw [HS.out]; exact hp1, by rw [HS.out]; exact hc1, by rw [HS.out]; omega⟩, by simp [intOf]; omega⟩
    · have hj' : j = l.length := by omega
      subst hj'
      rw [List.take_length] at p hs he
      have PP := hide p
      clear p
      go_wp2_with (fail)
      go_end0
      exact ⟨⟨rfl, PP.out⟩, hs, he⟩
end Go.Proofs.YthbenfnanhpcoaaDoor.Mc

namespace Go.Proofs.YthbenfnanhpcoaaDoor.Sc
open Go.Proofs.YthbenfnanhpcoaaDoor.Mc Go.ChangeShapes Go.WideShapes Go.ChangeAt Go.RowKit
set_option linter.unusedVariables false
set_option maxRecDepth 20000

theorem pst_mw {k : Mk} {F L : List Nat} {w w' : World} {s : Ms} (p : Pst (MI k) F w L s w') : ∃ e, Mw k s e w' := by
  obtain ⟨F', ⟨e, h, -⟩, -⟩ := p
  exact ⟨e, h⟩
set_option maxHeartbeats 1000000 in
theorem run_does (k : Mk) (P : Ms → Prop) (hP : ∀ s e w kind who, Mw k s e w → P s → P (s.pickS k.N kind who)) (l : List Ent) (a : Option Addr) (c : Nat) (hl : l.length ≤ 600) (s : Ms) (hs : P s) (he : s.evs.length ≤ 10000) (hc : Short s) (w : World) (F : List Nat) (hI : MI k F s w)
    (hrow : RowAt w a (flatOf slpL l)) (hout : ∀ y, a = some y → 0 < l.length → y.block ∉ F) :
    Calls Tryd.prog 22 #[.pointer (some ⟨k.mb, 0, none⟩), .slice a l.length c] w fun r w' => (r = .returned (.tuple #[]) ∧ Pst (MI k) F w [] (s.runS k.N l) w') ∧ P (s.runS k.N l) ∧ (s.runS k.N l).evs.length ≤ 10000 + 1 * l.length := by
  have p0 := Pst.start (mi_inv k) hI
  have HT := hide (fun j h => runS_snoc s k.N l j h)
  have HP := hide hP
  have hs0 : P (s.runS k.N (l.take 0)) := hs
  have hc0 : Short (s.runS k.N (l.take 0)) := hc
  have he0 : (s.runS k.N (l.take 0)).evs.length ≤ 10000 + 1 * 0 := he
  have p00 : Pst (MI k) F w [] (s.runS k.N (l.take 0)) w := p0
  clear hI p0 hP hs hc he
  go_enter Tryd.func22, Tryd.ntmps22
  go_wp2_with (fail)
  go_loopw [8] (fun v wr => ∃ j : Nat, j ≤ l.length ∧ v = .int .i64 j ∧ Pst (MI k) F w [] (s.runS k.N (l.take j)) wr ∧ P (s.runS k.N (l.take j)) ∧ Short (s.runS k.N (l.take j)) ∧ (s.runS k.N (l.take j)).evs.length ≤ 10000 + 1 * j) (fun v _ => l.length - (intOf v).toNat)
  case atStart => exact ⟨0, by omega, rfl, p00, hs0, hc0, he0⟩
  case round =>
    clear p00 hs0 hc0 he0
    obtain ⟨j, hj, rfl, p, hs, hc, he⟩ := hrel
    by_cases hlt : j < l.length
    · have hlt' : (j : Int) < l.length := by omega
      have rw1 : RowAt wr a (flatOf slpL l) := by
        obtain ⟨F', -, kp, -⟩ := p
        exact hrow.kept kp fun y hy => hout y hy (by omega)
      obtain ⟨b, off, had, -⟩ := rw1.get (by rw [flatOf_length slpL_len]; omega)
      subst had
      have c0 := rw1.cell slpL_len hlt ent0 0 (by omega)
      have c1 := rw1.cell slpL_len hlt ent0 1 (by omega)
      have HS := hide (HT.out j hlt)
      generalize l.getD j ent0 = x at c0 c1 HS
      simp only [slpL, List.getElem?_cons_zero, List.getElem?_cons_succ, Nat.add_zero, ← Nat.add_assoc] at c0 c1
      generalize s.runS k.N (l.take j) = sj at p hs hc he HS
      obtain ⟨e1, h1⟩ := pst_mw p
      have hf := fuel_few h1.ok (by omega)
      have HD := hide (fun wx => pick_does k sj x.a x.v hf hc wx)
      have hp1 := HP.out sj e1 wr x.a x.v h1 hs
      have hc1 := short_pickS hc k.N x.a x.v
      have he1 := evs_pickS (s := sj) (n := k.N) x.a x.v
      have PP := hide p
      have G1 := (Gr.refl wr).alloc #[.int .i64 x.a, .int .i64 x.v] 45
      clear p rw1 h1 hs hf hc
      go_wp2_with (fail)
      refine ((HD.out _).go (PP.out.gr (mi_inv k) G1)).mono ?_
      rintro r u ⟨⟨rfl, -⟩, p1⟩
      have PQ := hide p1
      clear p1 c0 c1 G1 HD
      go_wp2_with (fail)
      exact ⟨⟨j + 1, by omega, by go_num, by rw [HS.out]; exact PQ.out, by rw [HS.out]; exact hp1, by rw [HS.out]; exact hc1, by rw [HS.out]; omega⟩, by simp [intOf]; omega⟩
    · have hj' : j = l.length := by omega
      subst hj'
      rw [List.take_length] at p hs he
      have PP := hide p
      clear p
      go_wp2_with (fail)
      go_end0
      exact ⟨⟨rfl, PP.out⟩, hs, he⟩
end Go.Proofs.YthbenfnanhpcoaaDoor.Sc
