/-
  What Sleep does to a queue in memory in which no thread sleeps twice. No condition but that.
-/
import Derived.Test.YtlcjobgnjmhokaaSlp
namespace Go.Proofs.Ytlcjobgnjmhokaa
open Go.ChangeShapes Go.WideShapes Go.ChangeAt Go.RowKit
set_option linter.unusedVariables false

/-- what Sleep answers -/
def sleepE (who : Int) (l : List Ent) : Int := if who < 0 ∨ 8 ≤ who then 1 else if idx who l < l.length then 6 else 0
/-- who sleeps then -/
def sleepL (who addr : Int) (l : List Ent) : List Ent := if sleepE who l = 0 then l ++ [⟨who, addr⟩] else l
theorem Ok.sleep {l : List Ent} (h : Ok l) (who addr : Int) : Ok (sleepL who addr l) := by
  unfold sleepL sleepE
  by_cases h1 : who < 0 ∨ 8 ≤ who
  · simp [h1, h]
  · by_cases h2 : idx who l < l.length
    · simp [h1, h2, h]
    · simp only [h1, h2, if_false, if_true]
      exact h.put (by omega) (by omega) h2 addr

set_option maxHeartbeats 1000000 in
theorem sleep_calls {g : Nat} {l : List Ent} {w : World} (h : K w g l) (ok : Ok l) (who addr : Int) :
    Calls Try.prog 9 #[.pointer (some ⟨g, 0, none⟩), .int .i64 who, .int .i64 addr] w fun e w' => (e = .returned (.int .i64 (sleepE who l)) ∧ Kp [g] w w') ∧ K w' g (sleepL who addr l) := by
  have HK := hide h
  have HO := hide ok
  clear h ok
  by_cases h1 : who < 0
  · have HE : Hid (sleepE who l = 1) := by show sleepE who l = 1; simp [sleepE, h1]
    go_enter Try.func9, Try.ntmps9
    go_wp2_with (fail)
    go_ret
    refine ⟨⟨by rw [HE.out]; rfl, Kp.refl _ _⟩, ?_⟩
    unfold sleepL
    rw [HE.out]
    exact HK.out
  by_cases h2 : 8 ≤ who
  · have HE : Hid (sleepE who l = 1) := by show sleepE who l = 1; simp [sleepE, h2]
    go_enter Try.func9, Try.ntmps9
    go_wp2_with (fail)
    go_ret
    refine ⟨⟨by rw [HE.out]; rfl, Kp.refl _ _⟩, ?_⟩
    unfold sleepL
    rw [HE.out]
    exact HK.out
  by_cases h3 : idx who l < l.length
  · have HE : Hid (sleepE who l = 6) := by show sleepE who l = 6; simp [sleepE, h1, h2, h3]
    have HF : Hid (asleepV (findK who l) = .tuple #[.int .i64 (l.getD (idx who l) ent0).v, .bool true]) := by
      show asleepV (findK who l) = _
      rw [findK_idx, if_pos h3]
      rfl
    clear h3
    go_enter Try.func9, Try.ntmps9
    go_wp2_with (fail)
    refine (asleep_calls HK.out who).mono ?_
    rintro e w1 ⟨rfl, g1⟩
    rw [HF.out]
    go_wp2_with (fail)
    go_ret
    refine ⟨⟨by rw [HE.out]; rfl, g1.kp _⟩, ?_⟩
    unfold sleepL
    rw [HE.out]
    exact HK.out.later g1
  · have HE : Hid (sleepE who l = 0) := by show sleepE who l = 0; simp [sleepE, h1, h2, h3]
    have HF : Hid (asleepV (findK who l) = .tuple #[.int .i64 0, .bool false]) := by
      show asleepV (findK who l) = _
      rw [findK_idx, if_neg h3]
      rfl
    have HL := hide (HO.out.room (by omega) (by omega) h3)
    clear h3
    go_enter Try.func9, Try.ntmps9
    go_wp2_with (fail)
    refine (asleep_calls HK.out who).mono ?_
    rintro e w1 ⟨rfl, g1⟩
    rw [HF.out]
    go_wp2_with (fail)
    refine (last_calls (HK.out.later g1) HL.out ⟨who, addr⟩).mono ?_
    rintro e w2 ⟨⟨rfl, g2⟩, k2⟩
    go_wp2_with (fail)
    go_ret
    refine ⟨⟨by rw [HE.out]; rfl, (g1.kp []).trans g2 (by simp) (by simp)⟩, ?_⟩
    unfold sleepL
    rw [HE.out]
    exact k2
end Go.Proofs.Ytlcjobgnjmhokaa
