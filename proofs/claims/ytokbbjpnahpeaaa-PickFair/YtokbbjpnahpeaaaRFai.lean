/-
  What the document's Fair answers: window by window. No condition but that the script's cells hold it.
-/
import Derived.Test.YtokbbjpnahpeaaaFai
namespace Go.Proofs.Ytokbbjpnahpeaaa
open Go.ChangeShapes Go.WideShapes Go.ChangeAt Go.RowKit
set_option linter.unusedVariables false

theorem rfair_no1 (a : Option Addr) (ca n : Nat) (t wi : Int) (h : t < 1) (w : World) :
    Calls Try.prog 14 #[.slice a n ca, .int .i64 t, .int .i64 wi] w fun e w' => e = .returned (.bool false) ∧ w' = w := by
  go_enter Try.func14, Try.ntmps14
  go_wp2_with (fail)
  go_ret
  exact ⟨rfl, rfl⟩
theorem rfair_no2 (a : Option Addr) (ca n : Nat) (t wi : Int) (h1 : ¬ t < 1) (h : 8 < t) (w : World) :
    Calls Try.prog 14 #[.slice a n ca, .int .i64 t, .int .i64 wi] w fun e w' => e = .returned (.bool false) ∧ w' = w := by
  go_enter Try.func14, Try.ntmps14
  go_wp2_with (fail)
  go_ret
  exact ⟨rfl, rfl⟩
theorem rfair_no3 (a : Option Addr) (ca n : Nat) (t wi : Int) (h1 : ¬ t < 1) (h2 : ¬ 8 < t) (h : wi < 4 * t) (w : World) :
    Calls Try.prog 14 #[.slice a n ca, .int .i64 t, .int .i64 wi] w fun e w' => e = .returned (.bool false) ∧ w' = w := by
  have h3 : t ≤ 8 := by omega
  have h4 : 1 ≤ t := by omega
  go_enter Try.func14, Try.ntmps14
  go_wp2_with (fail)
  go_ret
  exact ⟨rfl, rfl⟩
/-- it was seen between i and j -/
def Seen (L : List Pk) (x : Pk) (i j : Nat) (b : Bool) : Prop := b = true ↔ ∃ q, i ≤ q ∧ q < j ∧ L.getD q p0 = x
theorem Seen.start (L : List Pk) (x : Pk) (i : Nat) : Seen L x i i false := ⟨fun h => (by cases h), fun ⟨q, h1, h2, _⟩ => by omega⟩
theorem Seen.next {L : List Pk} {x : Pk} {i j : Nat} {b c : Bool} (h : Seen L x i j b) (hij : i ≤ j) (hc : c = true ↔ b = true ∨ L.getD j p0 = x) : Seen L x i (j + 1) c := by
  refine hc.trans ⟨?_, ?_⟩
  · rintro (q | q)
    · obtain ⟨r, h1, h2, h3⟩ := h.1 q
      exact ⟨r, h1, by omega, h3⟩
    · exact ⟨j, hij, by omega, q⟩
  · rintro ⟨r, h1, h2, h3⟩
    by_cases e : r = j
    · subst e; exact .inr h3
    · exact .inl (h.2 ⟨r, h1, by omega, h3⟩)

set_option maxHeartbeats 1000000 in
theorem rfair_calls (a : Option Addr) (ca : Nat) (L : List Pk) (hL : L.length ≤ 100000) (t wi : Int) (hwm : wi ≤ 9223372036854775807) (w : World) (ha : PicksAt w a L) :
    Calls Try.prog 14 #[.slice a L.length ca, .int .i64 t, .int .i64 wi] w fun e w' => e = .returned (.bool (fairB L t wi)) ∧ w' = w := by
  by_cases h1 : t < 1
  · rw [fairB_false fun q => by have := q.1; omega]
    exact rfair_no1 a ca _ t wi h1 w
  by_cases h2 : 8 < t
  · rw [fairB_false fun q => by have := q.1; omega]
    exact rfair_no2 a ca _ t wi h1 h2 w
  by_cases h3 : wi < 4 * t
  · rw [fairB_false fun q => by have := q.1; omega]
    exact rfair_no3 a ca _ t wi h1 h2 h3 w
  obtain ⟨T, rfl⟩ : ∃ T : Nat, t = T := ⟨t.toNat, by omega⟩
  obtain ⟨W, rfl⟩ : ∃ W : Nat, wi = W := ⟨wi.toNat, by omega⟩
  have HA := hide ha
  have hLi : (L.length : Int) ≤ 100000 := by omega
  have hT1 : 1 ≤ (T : Int) := by omega
  have hT8 : (T : Int) ≤ 8 := by omega
  have hTW : 4 * (T : Int) ≤ W := by omega
  have HF := hide (show (1 : Int) ≤ T ∧ (T : Int) ≤ 8 ∧ 4 * (T : Int) ≤ W from ⟨hT1, hT8, hTW⟩)
  clear ha h1 h2 h3
  go_enter Try.func14, Try.ntmps14
  go_wp2_with (fail)
  go_loop [7] (fun s7 => ∃ i : Nat, i ≤ L.length + 1 ∧ s7 = .int .i64 i ∧ Hid (∀ b, b < i → ∀ m, m < 2 * T → WinAt L (itm m) W b)) (fun s7 => L.length + 1 - (intOf s7).toNat)
  case atStart => exact ⟨0, by omega, rfl, fun b hb => by omega⟩
  case round =>
    obtain ⟨i, hi, rfl, hn⟩ := hrel
    by_cases hlt : i + W ≤ L.length
    · have hlt' : (i : Int) ≤ (L.length : Int) - W := by omega
      have HN := hn
      clear hn
      go_wp2_with (fail)
      go_loop [8] (fun s8 => ∃ k : Nat, k ≤ T ∧ s8 = .int .i64 k ∧ Hid (∀ m, m < 2 * k → WinAt L (itm m) W i)) (fun s8 => T - (intOf s8).toNat)
      case atStart => exact ⟨0, by omega, rfl, fun m hm => by omega⟩
      case round =>
        obtain ⟨k, hk, rfl, hn2⟩ := hrel
        by_cases hlk : k < T
        · have hlk' : (k : Int) < T := by omega
          go_wp2_with (fail)
          go_loop [9, 10, 11] (fun s9 s10 s11 => ∃ (b c : Bool) (j : Nat), s9 = .bool b ∧ s10 = .bool c ∧ s11 = .int .i64 j ∧ i ≤ j ∧ j ≤ i + W ∧ Hid (Seen L (0, (k : Int)) i j b ∧ Seen L (1, (k : Int)) i j c)) (fun _ _ s11 => i + W - (intOf s11).toNat)
          case atStart => exact ⟨false, false, i, rfl, rfl, rfl, by omega, by omega, Seen.start _ _ _, Seen.start _ _ _⟩
          case round =>
            obtain ⟨b, c, j, rfl, rfl, rfl, hij, hjw, hs⟩ := hrel
            by_cases hlj : j < i + W
            · have hlj' : (j : Int) < (i : Int) + W := by omega
              have hjl : (j : Int) < L.length := by omega
              obtain ⟨bb, oo, rfl, c1, c2⟩ := HA.out.get (i := j) (by omega)
              generalize hy : L.getD j p0 = y at c1 c2
              have HY := hide hy
              clear hy
              obtain ⟨yk, yw⟩ := y
              simp only at c1 c2
              have HS := hs
              clear hs hn2 HN HA HF
              cases b with
              | true =>
                cases c with
                | true =>
                  go_wp2_with (fail)
                  all_goals refine ⟨⟨_, _, j + 1, rfl, rfl, by go_num, by omega, by omega, HS.out.1.next hij ?_, HS.out.2.next hij ?_⟩, by simp [intOf]; omega⟩
                  all_goals rw [HY.out]
                  all_goals simp [*]
                | false =>
                  go_wp2_with (fail)
                  all_goals refine ⟨⟨_, _, j + 1, rfl, rfl, by go_num, by omega, by omega, HS.out.1.next hij ?_, HS.out.2.next hij ?_⟩, by simp [intOf]; omega⟩
                  all_goals rw [HY.out]
                  all_goals simp [*]
              | false =>
                cases c with
                | true =>
                  go_wp2_with (fail)
                  all_goals refine ⟨⟨_, _, j + 1, rfl, rfl, by go_num, by omega, by omega, HS.out.1.next hij ?_, HS.out.2.next hij ?_⟩, by simp [intOf]; omega⟩
                  all_goals rw [HY.out]
                  all_goals simp [*]
                | false =>
                  go_wp2_with (fail)
                  all_goals refine ⟨⟨_, _, j + 1, rfl, rfl, by go_num, by omega, by omega, HS.out.1.next hij ?_, HS.out.2.next hij ?_⟩, by simp [intOf]; omega⟩
                  all_goals rw [HY.out]
                  all_goals simp [*]
            · obtain rfl : j = i + W := by omega
              have h1 : b = true ↔ WinAt L (0, (k : Int)) W i := hs.out.1
              have h2 : c = true ↔ WinAt L (1, (k : Int)) W i := hs.out.2
              have H1 := hide h1
              have H2 := hide h2
              clear hs h1 h2
              have hji : ((i + W : Nat) : Int) = (i : Int) + W := by omega
              cases b with
              | true =>
                cases c with
                | true =>
                  have HW : Hid (∀ m, m < 2 * (k + 1) → WinAt L (itm m) W i) := by
                    intro m hm
                    rcases (by omega : m < 2 * k ∨ m = 2 * k ∨ m = 2 * k + 1) with q | q | q
                    · exact hn2.out m q
                    · rw [q, itm_even]; exact H1.out.1 rfl
                    · rw [q, itm_odd]; exact H2.out.1 rfl
                  clear hn2
                  go_wp2_with (fail)
                  exact ⟨⟨k + 1, by omega, by go_num, HW⟩, by simp [intOf]; omega⟩
                | false =>
                  have HR : Hid (fairB L T W = false) := fairB_false fun q => by
                    have h5 := q.2 (2 * k + 1) (by omega) i (by rw [Int.toNat_natCast]; exact hlt)
                    rw [Int.toNat_natCast, itm_odd] at h5
                    exact absurd (H2.out.2 h5) (by simp)
                  clear hn2
                  go_wp2_with (fail)
                  go_ret
                  exact ⟨by rw [HR.out]; rfl, rfl⟩
              | false =>
                have HR : Hid (fairB L T W = false) := fairB_false fun q => by
                  have h5 := q.2 (2 * k) (by omega) i (by rw [Int.toNat_natCast]; exact hlt)
                  rw [Int.toNat_natCast, itm_even] at h5
                  exact absurd (H1.out.2 h5) (by simp)
                clear hn2
                go_wp2_with (fail)
                go_ret
                exact ⟨by rw [HR.out]; rfl, rfl⟩
        · obtain rfl : k = T := by omega
          have HW : Hid (∀ b, b < i + 1 → ∀ m, m < 2 * k → WinAt L (itm m) W b) := by
            intro b hb m hm
            by_cases e : b = i
            · subst e; exact hn2.out m hm
            · exact HN.out b (by omega) m hm
          clear hn2 HN
          go_wp2_with (fail)
          exact ⟨⟨i + 1, by omega, by go_num, HW⟩, by simp [intOf]; omega⟩
    · have hlt' : ¬ (i : Int) ≤ (L.length : Int) - W := by omega
      have HR : Hid (fairB L T W = true) := fairB_true ⟨HF.out, fun m hm b hb => by
        rw [Int.toNat_natCast] at hb ⊢
        exact hn.out b (by omega) m (by omega)⟩
      clear hn
      go_wp2_with (fail)
      go_ret
      exact ⟨by rw [HR.out]; rfl, rfl⟩
end Go.Proofs.Ytokbbjpnahpeaaa
