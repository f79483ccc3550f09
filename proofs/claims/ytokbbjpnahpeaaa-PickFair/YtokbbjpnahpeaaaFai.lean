/-
  What inAll and Fair answer: whether a script is fair, window by window. No condition but that the script's cells hold it.
-/
import Derived.Test.YtokbbjpnahpeaaaSml
namespace Go.Proofs.Ytokbbjpnahpeaaa
open Go.ChangeShapes Go.WideShapes Go.ChangeAt Go.RowKit
set_option linter.unusedVariables false

set_option maxHeartbeats 1000000 in
theorem inAll_calls (a : Option Addr) (ca : Nat) (L : List Pk) (hL : L.length ≤ 100000) (xk xw : Int) (W : Nat) (hW : 0 < W) (hWm : (W : Int) ≤ 9223372036854775807) (w : World) (ha : PicksAt w a L) :
    Calls Try.prog 19 #[.slice a L.length ca, .agg #[.int .i64 xk, .int .i64 xw], .int .i64 W] w fun e w' => e = .returned (.bool (winB L (xk, xw) W)) ∧ Gr w w' := by
  have g1 := (Gr.refl w).alloc #[.int .i64 xk, .int .i64 xw] 23
  have hx1 := Has.new w #[.int .i64 xk, .int .i64 xw] 23
  have HA := hide (ha.later g1)
  have hLi : (L.length : Int) ≤ 100000 := by omega
  have hW0 : (0 == (W : Int)) = false := by simp; omega
  have HWP := hide hW
  clear ha hW
  go_enter Try.func19, Try.ntmps19
  go_wp2_with (fail)
  generalize w.alloc (.cells #[.int .i64 xk, .int .i64 xw] 23) = w1 at g1 hx1 HA ⊢
  go_loopw [7, 12] (fun s7 s12 wr => ∃ k m : Nat, k ≤ L.length ∧ s7 = .int .i64 m ∧ s12 = .int .i64 k ∧ Gr w1 wr ∧ Hid (Miss L (xk, xw) W k m)) (fun _ s12 _ => L.length - (intOf s12).toNat)
  case atStart => exact ⟨0, 0, by omega, rfl, rfl, Gr.refl _, Miss.start _ _ HWP.out⟩
  case round =>
    obtain ⟨k, m, hk, rfl, rfl, gr, hm⟩ := hrel
    have gw := g1.trans gr
    by_cases hlt : k < L.length
    · have hlt' : (k : Int) < L.length := by omega
      have hmk := hm.out.le
      have hmi : (m : Int) ≤ 100000 := by omega
      obtain ⟨b, o, rfl, c1, c2⟩ := (HA.out.later gr).get hlt
      have HY := hide (show L.getD k p0 = L.getD k p0 from rfl)
      generalize hy : L.getD k p0 = y at c1 c2
      have HE := hide hy
      clear hy HY
      obtain ⟨yk, yw⟩ := y
      simp only at c1 c2
      have hxr := (hx1.later gr).alloc #[.int .i64 yk, .int .i64 yw] 23
      have p1 := hxr.cell (o := 0) rfl
      have p2 := hxr.cell (o := 1) rfl
      clear hxr
      by_cases he : yk = xk ∧ yw = xw
      · obtain ⟨rfl, rfl⟩ := he
        have HM := hide (hm.out.hit HE.out)
        clear hm
        go_wp2_with (fail)
        exact ⟨⟨k + 1, 0, by omega, rfl, by go_num, gr.alloc _ _, HM⟩, by simp [intOf]; omega⟩
      · have hne : L.getD k p0 ≠ (xk, xw) := by
          rw [HE.out]
          intro q
          exact he ⟨congrArg Prod.fst q, congrArg Prod.snd q⟩
        have NE := hide hne
        clear hne
        by_cases hq : m + 1 = W
        · have HR := hide (winB_false (hm.out.fail NE.out hq hlt))
          have hq' : ((m : Int) + 1 == (W : Int)) = true := by simp; omega
          clear hm hq
          rcases Classical.em (yk = xk) with q | q
          · have h2 : (yw == xw) = false := by simpa using fun z => he ⟨q, z⟩
            subst q
            clear he
            go_wp2_with (fail)
            go_ret
            exact ⟨by rw [HR.out]; rfl, gw.alloc _ _⟩
          · have h2 : (yk == xk) = false := by simpa using q
            clear he q
            go_wp2_with (fail)
            go_ret
            exact ⟨by rw [HR.out]; rfl, gw.alloc _ _⟩
        · have HM := hide (hm.out.miss NE.out hq)
          have hq' : ((m : Int) + 1 == (W : Int)) = false := by simp; omega
          clear hm hq
          rcases Classical.em (yk = xk) with q | q
          · have h2 : (yw == xw) = false := by simpa using fun z => he ⟨q, z⟩
            subst q
            clear he
            go_wp2_with (fail)
            exact ⟨⟨k + 1, m + 1, by omega, by go_num, by go_num, gr.alloc _ _, HM⟩, by simp [intOf]; omega⟩
          · have h2 : (yk == xk) = false := by simpa using q
            clear he q
            go_wp2_with (fail)
            exact ⟨⟨k + 1, m + 1, by omega, by go_num, by go_num, gr.alloc _ _, HM⟩, by simp [intOf]; omega⟩
    · obtain rfl : k = L.length := by omega
      have HR := hide (winB_true hm.out.end)
      clear hm
      go_wp2_with (fail)
      go_ret
      exact ⟨by rw [HR.out]; rfl, gw⟩

theorem itm_even (k : Nat) : itm (2 * k) = (0, (k : Int)) := by unfold itm; rw [show 2 * k % 2 = 0 by omega, show 2 * k / 2 = k by omega]; rfl
theorem itm_odd (k : Nat) : itm (2 * k + 1) = (1, (k : Int)) := by unfold itm; rw [show (2 * k + 1) % 2 = 1 by omega, show (2 * k + 1) / 2 = k by omega]; rfl

set_option maxHeartbeats 1000000 in
theorem fair_calls (a : Option Addr) (ca : Nat) (L : List Pk) (hL : L.length ≤ 100000) (t wi : Int) (hwm : wi ≤ 9223372036854775807) (w : World) (ha : PicksAt w a L) :
    Calls Try.prog 13 #[.slice a L.length ca, .int .i64 t, .int .i64 wi] w fun e w' => e = .returned (.bool (fairB L t wi)) ∧ Gr w w' := by
  by_cases hmay : 1 ≤ t ∧ t ≤ 8 ∧ 4 * t ≤ wi
  · obtain ⟨h1, h2, h3⟩ := hmay
    obtain ⟨T, rfl⟩ : ∃ T : Nat, t = T := ⟨t.toNat, by omega⟩
    obtain ⟨W, rfl⟩ : ∃ W : Nat, wi = W := ⟨wi.toNat, by omega⟩
    have HM : Hid (mayB T W = true) := by show mayB T W = true; unfold mayB; simp; omega
    have HA := hide ha
    have hW0 : 0 < W := by omega
    have HF := hide (show (1 : Int) ≤ T ∧ (T : Int) ≤ 8 ∧ 4 * (T : Int) ≤ W from ⟨h1, h2, h3⟩)
    clear ha
    go_enter Try.func13, Try.ntmps13
    go_wp2_with (first
      | (go_at_call 18; refine (mayBe_calls (T : Int) (W : Int) w).mono ?_; rintro e w1 ⟨rfl, hw⟩; subst w1; rw [HM.out]))
    go_loopw [13] (fun s13 wr => ∃ k : Nat, k ≤ T ∧ s13 = .int .i64 k ∧ Gr w wr ∧ Hid (∀ m, m < 2 * k → Win L (itm m) W)) (fun s13 _ => T - (intOf s13).toNat)
    case atStart => exact ⟨0, by omega, rfl, Gr.refl _, fun m hm => by omega⟩
    case round =>
      obtain ⟨k, hk, rfl, gr, hn⟩ := hrel
      by_cases hlt : k < T
      · have hlt' : (k : Int) < T := by omega
        have A1 := HA.out.later gr
        have C1 := inAll_calls a ca L hL 0 k W hW0 hwm wr A1
        rw [← itm_even k] at C1
        have HC1 := hide C1
        clear C1
        cases e1 : winB L (itm (2 * k)) W with
        | false =>
          have HR : Hid (fairB L T W = false) := fairB_false fun q => winB_not e1 (by have := q.2 (2 * k) (by omega); rwa [Int.toNat_natCast] at this)
          clear hn
          go_wp2_with (fail)
          refine HC1.out.mono ?_
          rintro e w1 ⟨rfl, g1⟩
          rw [e1]
          go_wp2_with (fail)
          go_ret
          exact ⟨by rw [HR.out]; rfl, gr.trans g1⟩
        | true =>
          have C2 := fun (w1 : World) (g : Gr wr w1) => inAll_calls a ca L hL 1 k W hW0 hwm w1 (A1.later g)
          have HC2 := hide C2
          clear C2
          cases e2 : winB L (itm (2 * k + 1)) W with
          | false =>
            have HR : Hid (fairB L T W = false) := fairB_false fun q => winB_not e2 (by have := q.2 (2 * k + 1) (by omega); rwa [Int.toNat_natCast] at this)
            rw [itm_odd] at e2
            clear hn
            go_wp2_with (fail)
            refine HC1.out.mono ?_
            rintro e w1 ⟨rfl, g1⟩
            rw [e1]
            go_wp2_with (fail)
            refine (HC2.out _ g1).mono ?_
            rintro e w2 ⟨rfl, g2⟩
            rw [e2]
            go_wp2_with (fail)
            go_ret
            exact ⟨by rw [HR.out]; rfl, (gr.trans g1).trans g2⟩
          | true =>
            have HN : Hid (∀ m, m < 2 * (k + 1) → Win L (itm m) W) := by
              intro m hm
              rcases (by omega : m < 2 * k ∨ m = 2 * k ∨ m = 2 * k + 1) with q | q | q
              · exact hn.out m q
              · rw [q]; exact winB_is e1
              · rw [q]; exact winB_is e2
            rw [itm_odd] at e2
            clear hn
            go_wp2_with (fail)
            refine HC1.out.mono ?_
            rintro e w1 ⟨rfl, g1⟩
            rw [e1]
            go_wp2_with (fail)
            refine (HC2.out _ g1).mono ?_
            rintro e w2 ⟨rfl, g2⟩
            rw [e2]
            go_wp2_with (fail)
            exact ⟨⟨k + 1, by omega, by go_num, (gr.trans g1).trans g2, HN⟩, by simp [intOf]; omega⟩
      · obtain rfl : k = T := by omega
        have HR : Hid (fairB L k W = true) := fairB_true ⟨HF.out, fun m hm => by rw [Int.toNat_natCast]; exact hn.out m (by omega)⟩
        clear hn
        go_wp2_with (fail)
        go_ret
        exact ⟨by rw [HR.out]; rfl, gr⟩
  · have HM : Hid (mayB t wi = false) := by show mayB t wi = false; unfold mayB; simpa using hmay
    have HR : Hid (fairB L t wi = false) := fairB_false fun q => hmay q.1
    clear hmay
    go_enter Try.func13, Try.ntmps13
    go_wp2_with (first
      | (go_at_call 18; refine (mayBe_calls t wi w).mono ?_; rintro e w1 ⟨rfl, hw⟩; subst w1; rw [HM.out]))
    go_ret
    exact ⟨by rw [HR.out]; rfl, Gr.refl w⟩
end Go.Proofs.Ytokbbjpnahpeaaa
