/-
  What Even answers of threads, windows or numbers that may not be; of at most 400 wishes deadlatchlaw07.PickEven answers true. No condition but that the wishes' cells hold them.
-/
import Derived.Test.YtokbbjpnahpeaaaEvw
import Derived.Test.YtokbbjpnahpeaaaREvw
import Derived.Test.YtokbbjpnahpeaaaSam
namespace Go.Proofs.Ytokbbjpnahpeaaa
open Go.ChangeShapes Go.WideShapes Go.ChangeAt Go.RowKit
set_option linter.unusedVariables false

theorem even_no (a : Option Addr) (m ca : Nat) (t wi n : Int) (h : ¬ ((1 ≤ t ∧ t ≤ 8 ∧ 4 * t ≤ wi) ∧ 0 ≤ n ∧ n ≤ 100000)) (w : World) :
    Calls Try.prog 15 #[.slice a m ca, .int .i64 t, .int .i64 wi, .int .i64 n] w fun e w' => e = .returned (.tuple #[.slice none 0 0, .int .i64 1]) ∧ w' = w := by
  have MB := hide (fun w => mayBe_calls t wi w)
  by_cases h1 : 1 ≤ t ∧ t ≤ 8 ∧ 4 * t ≤ wi
  · have HM : Hid (mayB t wi = true) := by show mayB t wi = true; unfold mayB; simpa using h1
    by_cases h2 : n < 0
    · clear h h1
      go_enter Try.func15, Try.ntmps15
      go_wp2_with (first
        | (go_at_call 18; refine (MB.out _).mono ?_; rintro e w1 ⟨rfl, hw⟩; subst w1; rw [HM.out]))
      go_ret2
      exact ⟨rfl, rfl⟩
    · have h3 : 100000 < n := by omega
      clear h h1
      go_enter Try.func15, Try.ntmps15
      go_wp2_with (first
        | (go_at_call 18; refine (MB.out _).mono ?_; rintro e w1 ⟨rfl, hw⟩; subst w1; rw [HM.out]))
      go_ret2
      exact ⟨rfl, rfl⟩
  · have HM : Hid (mayB t wi = false) := by show mayB t wi = false; unfold mayB; simpa using h1
    clear h h1
    go_enter Try.func15, Try.ntmps15
    go_wp2_with (first
      | (go_at_call 18; refine (MB.out _).mono ?_; rintro e w1 ⟨rfl, hw⟩; subst w1; rw [HM.out]))
    go_ret2
    exact ⟨rfl, rfl⟩

/-- which way the law goes on -/
theorem law_no {t wi n : Int} (h : ¬ ((1 ≤ t ∧ t ≤ 8 ∧ 4 * t ≤ wi) ∧ 0 ≤ n ∧ n ≤ 100000)) : t < 1 ∨ (¬ t < 1 ∧ 8 < t) ∨ (¬ t < 1 ∧ ¬ 8 < t ∧ wi < 4 * t) ∨ (¬ t < 1 ∧ ¬ 8 < t ∧ ¬ wi < 4 * t ∧ n < 0) ∨ (¬ t < 1 ∧ ¬ 8 < t ∧ ¬ wi < 4 * t ∧ ¬ n < 0 ∧ 100000 < n) := by omega

set_option maxHeartbeats 1000000 in
theorem even_wrong (a : Option Addr) (m ca : Nat) (hm : m ≤ 400) (t wi n : Int) (h : ¬ ((1 ≤ t ∧ t ≤ 8 ∧ 4 * t ≤ wi) ∧ 0 ≤ n ∧ n ≤ 100000)) (hn : ¬ (400 < n ∧ n ≤ 100000)) (w : World) :
    Calls Try.prog 6 #[.slice a m ca, .int .i64 t, .int .i64 wi, .int .i64 n] w fun e w' => e = .returned (.bool true) ∧ Gr w w' := by
  have HE := hide (fun w => even_no a m ca t wi n h w)
  have hm' : (m : Int) ≤ 400 := by omega
  have HC := hide (law_no h)
  have hN : n ≤ 400 ∨ (400 < n ∧ 100000 < n) := by omega
  clear h hn
  rcases hN with hN | ⟨hN, hN2⟩
  all_goals
    go_enter Try.func6, Try.ntmps6
    go_wp2_with (fail)
    refine (awake_calls _).mono ?_
    rintro e w1 ⟨rfl, g1⟩
    go_wp2_with (fail)
    refine (HE.out _).mono ?_
    rintro e w2 ⟨rfl, hw⟩
    subst w2
    rcases HC.out with h1 | ⟨h1, h2⟩ | ⟨h1, h2, h3⟩ | ⟨h1, h2, h3, h4⟩ | ⟨h1, h2, h3, h4, h5⟩
    · go_wp2_with (fail)
      go_ret
      exact ⟨rfl, g1⟩
    · go_wp2_with (fail)
      go_ret
      exact ⟨rfl, g1⟩
    · have q1 : t ≤ 8 := by omega
      have q2 : 1 ≤ t := by omega
      go_wp2_with (fail)
      go_ret
      exact ⟨rfl, g1⟩
    · have q1 : t ≤ 8 := by omega
      have q2 : 1 ≤ t := by omega
      go_wp2_with (fail)
      go_ret
      exact ⟨rfl, g1⟩
    · have q1 : t ≤ 8 := by omega
      have q2 : 1 ≤ t := by omega
      go_wp2_with (fail)
      go_ret
      exact ⟨rfl, g1⟩

theorem Pown.is {w : World} {b : Nat} {v : Value} {l : List Pk} (h : Pown w b v l) : ∃ a c, v = .slice a l.length c ∧ PicksAt w a l := by
  obtain ⟨a, c, h1, h2, _⟩ := h.at
  exact ⟨a, c, h1, h2⟩

set_option maxHeartbeats 1000000 in
theorem even_right (a : Option Addr) (ca : Nat) (ws : List Pk) (hws : ws.length ≤ 400) (t : Nat) (ht : 1 ≤ t) (h8 : t ≤ 8) (wi : Int) (hwi : 4 * (t : Int) ≤ wi) (hwm : wi ≤ 9223372036854775807) (n : Nat) (hn : n ≤ 400) (w : World) (ha : PicksAt w a ws) :
    Calls Try.prog 6 #[.slice a ws.length ca, .int .i64 t, .int .i64 wi, .int .i64 n] w fun e w' => e = .returned (.bool true) ∧ Gr w w' := by
  have HA := hide ha
  have hm' : (ws.length : Int) ≤ 400 := by omega
  have ht' : (t : Int) ≤ 8 := by omega
  have ht1 : 1 ≤ (t : Int) := by omega
  have hn' : (n : Int) ≤ 400 := by omega
  clear ha
  go_enter Try.func6, Try.ntmps6
  go_wp2_with (fail)
  refine (awake_calls _).mono ?_
  rintro e w1 ⟨rfl, g1⟩
  go_wp2_with (fail)
  refine (even_calls a ca ws hws t ht h8 wi hwi hwm n (by omega) _ (HA.out.later g1)).mono ?_
  rintro e w2 ⟨G, ⟨rfl, g2⟩, hG⟩
  have gr2 := g1.trans g2
  by_cases hbig : 1099511627776 < wi
  · clear hG
    go_wp2_with (fail)
    go_ret
    exact ⟨rfl, gr2⟩
  · have HG := hide hG
    clear hG
    go_wp2_with (fail)
    refine (reven_calls a ca ws hws t ht h8 wi hwi (by omega) n hn _ (HA.out.later gr2)).mono ?_
    rintro e w3 ⟨v, ⟨rfl, g3⟩, b, hv⟩
    obtain ⟨av, cv, rfl, pv⟩ := hv.is
    have P1 := HG.out.picks.later g3
    have S := same_calls (some ⟨G, 0, none⟩) av n cv (evL ws t wi n) (by rw [evL_len]; omega) w3 P1 pv
    rw [evL_len] at S
    have HS := hide S
    rw [evL_len]
    clear S P1 pv hv
    go_wp2_with (fail)
    refine HS.out.mono ?_
    rintro e w4 ⟨rfl, g4⟩
    go_wp2_with (fail)
    go_ret
    exact ⟨rfl, (gr2.trans g3).trans g4⟩
end Go.Proofs.Ytokbbjpnahpeaaa
