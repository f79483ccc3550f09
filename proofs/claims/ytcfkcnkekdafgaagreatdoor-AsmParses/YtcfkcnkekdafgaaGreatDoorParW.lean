/-
  For any text of at most 2^31 bytes, in any world in which the program's tables lie: deadlatchlaw04.AsmParses returns true. No condition but that.
-/
import Derived.Test.YtcfkcnkekdafgaaGreatDoorRpar
import Derived.Test.YtcfkcnkekdafgaaGreatDoorAwak
import Derived.Test.YtcfkcnkekdafgaaGreatDoorSam
namespace Go.Proofs.YtcfkcnkekdafgaaGreatDoor
open Go.ChangeShapes Go.WideShapes Go.ChangeAt Go.RowKit
set_option linter.unusedVariables false

theorem ref1_len : ∀ (ts done : List Bs) (out : List Ins) (no : Nat), out.length ≤ 4000 → (ref1 done ts out no).2.2.length ≤ 4000
  | [], done, out, no, h => h
  | t :: ts, done, out, no, h => by
    simp only [ref1]
    split
    · exact ref1_len ts _ out _ h
    split
    · split
      · exact h
      split
      · exact h
      · exact ref1_len ts _ out _ h
    · split
      · exact h
      · split
        · exact ref1_len ts _ _ _ (by simp; omega)
        · exact h
theorem ref2_len (lines : List Bs) : ∀ (ts : List Bs) (k : Nat) (out : List Ins) (no : Nat), (ref2 lines ts k out no).2.2.length = out.length
  | [], k, out, no => rfl
  | t :: ts, k, out, no => by
    simp only [ref2]
    split
    · exact ref2_len lines ts _ out _
    split
    · exact ref2_len lines ts _ out _
    split
    · rfl
    · split
      · split
        · split
          · exact ref2_len lines ts _ out _
          · rfl
        · split
          · rfl
          · split
            · rw [ref2_len lines ts, setK_length]
            · exact setK_length _ _ _
      · exact ref2_len lines ts _ out _
theorem parse_short (s : Bs) : (parseB s).1.length ≤ 4000 := by
  rw [← rparse_eq s (fun t i h => (readL_ok (i := i.1) (to := i.2) h).1.1)]
  unfold rparse
  split
  · simp
  split
  · split
    · show (ref2 _ _ _ _ _).2.2.length ≤ 4000
      rw [ref2_len]
      exact ref1_len _ _ _ _ (by simp)
    · simp
  · simp

set_option maxRecDepth 20000 in
set_option maxHeartbeats 800000 in
theorem parses_few (s : Bs) (hs : s.length ≤ 20100) (w : World) (L : Laid w) :
    Calls Tryz.prog 3 #[.string ⟨s.toArray⟩] w fun e w' => e = .returned (.bool true) ∧ Gr w w' := by
  have HL := hide L
  have h1 : (s.length : Int) ≤ 20100 := by omega
  have h2 : ((⟨s.toArray⟩ : ByteArray).size : Int) ≤ 20100 := by rw [size_mk]; omega
  have hsh := parse_short s
  clear L
  go_enter Tryz.func3, Tryz.ntmps3
  go_wp2_with (fail)
  refine (awake_calls w HL.out).mono ?_
  rintro e w1 ⟨rfl, g1⟩
  go_wp2_with (fail)
  refine Calls.mono (show Calls Tryz.prog 9 _ w1 (ParseP s w1) from parse_calls s w1 (HL.out.later g1)) ?_
  rintro e w2 ⟨v1, rfl, ho1, g2⟩
  obtain ⟨a1, c1, rfl⟩ := own_shape ho1
  go_wp2_with (fail)
  refine Calls.mono (show Calls Tryz.prog 10 _ w2 (ParseP s w2) from rparse_calls s w2 (by omega)) ?_
  rintro e w3 ⟨v2, rfl, ho2, g3⟩
  obtain ⟨a2, c2, rfl⟩ := own_shape ho2
  have HS := hide (same_calls _ _ (parseB s).1 w3 (codeAt_own (own_gr ho1 g3)) (codeAt_own ho2) (by omega))
  clear ho1 ho2
  generalize (parseB s).2.1 = m1
  generalize (parseB s).2.2 = m2
  generalize (parseB s).1.length = len at HS
  go_wp2_with (fail)
  refine HS.out.mono ?_
  rintro e w4 ⟨rfl, g4⟩
  clear HS
  go_wp2_with (fail)
  refine (name_calls _ _).mono ?_
  rintro e w5 ⟨rfl, g5⟩
  go_wp2_with (fail)
  refine (rname_calls _ _ (by rw [size_mk]; omega)).mono ?_
  rintro e w6 ⟨rfl, rfl⟩
  go_wp2_with (fail)
  go_ret
  exact ⟨by simp, g1.trans (g2.trans (g3.trans (g4.trans g5)))⟩

set_option maxRecDepth 20000 in
set_option maxHeartbeats 800000 in
theorem parses_many (s : Bs) (hs : 20100 < s.length) (hm : s.length ≤ maxLen) (w : World) (L : Laid w) :
    Calls Tryz.prog 3 #[.string ⟨s.toArray⟩] w fun e w' => e = .returned (.bool true) ∧ Gr w w' := by
  have HL := hide L
  unfold maxLen at hm
  have h1 : (20100 : Int) < (s.length : Int) := by omega
  have h2 : (20100 : Int) < ((⟨s.toArray⟩ : ByteArray).size : Int) := by rw [size_mk]; omega
  clear L
  go_enter Tryz.func3, Tryz.ntmps3
  go_wp2_with (fail)
  refine (awake_calls w HL.out).mono ?_
  rintro e w1 ⟨rfl, g1⟩
  go_wp2_with (fail)
  refine (awake_calls w1 (HL.out.later g1)).mono ?_
  rintro e w2 ⟨rfl, g2⟩
  go_wp2_with (fail)
  go_ret
  exact ⟨rfl, g1.trans g2⟩

theorem parses_walk (S : ByteArray) (hm : S.size ≤ maxLen) (w : World) (L : Laid w) :
    Calls Tryz.prog 3 #[.string S] w fun e w' => e = .returned (.bool true) ∧ Gr w w' := by
  have e : S = ⟨S.data.toList.toArray⟩ := by cases S; simp
  have hl := size_list S
  rw [e]
  by_cases h : S.data.toList.length ≤ 20100
  · exact parses_few _ h w L
  · exact parses_many _ (by omega) (by omega) w L
end Go.Proofs.YtcfkcnkekdafgaaGreatDoor
