/-
  For any number and any string, in any world in which the program's tables lie: the law IsaNames answers true, and makes new blocks alone. No condition but that.
-/
import Derived.Test.YtimiggnmihffdaaDoorNumber
import Derived.Test.YtimiggnmihffdaaDoorName
namespace Go.Proofs.YtimiggnmihffdaaDoor
open Go.ChangeShapes Go.WideShapes Go.ChangeAt Go.RowKit
set_option linter.unusedVariables false

theorem num_all : ∀ n : Fin 28, numF (nameAt n) 28 0 = n := by decide +kernel
theorem num_none : numF ⟨#[]⟩ 28 0 = 28 := by decide +kernel
theorem name_full : ∀ n : Fin 28, (nameAt n).data.toList.isEmpty = false := by decide +kernel
theorem kind_all : ∀ n : Fin 28, (kK n == 4) = hasF (fieldAt n) 84 ∧ (kB n == 2) = hasF (fieldAt n) 77 ∧ kD n = (decide (18 ≤ n.val) && decide (n.val ≤ 21) || decide (23 ≤ n.val) && decide (n.val ≤ 25)) := by decide +kernel
theorem numF_fit (s : ByteArray) : ∀ m k, numF s m k < m + k → nameAt (numF s m k) = s
  | 0, k, h => by simp [numF] at h
  | m + 1, k, h => by
    by_cases e : nameAt k = s
    · rw [numF_hit s m k e]; exact e
    · rw [numF_skip s m k e] at h ⊢
      exact numF_fit s m (k + 1) (by omega)
theorem known_name (s : ByteArray) (h : knownB s = true) : nameB (numB s) = s := by
  have h1 : numF s 28 0 < 28 := by simpa [knownB] using h
  have e1 : numB s = (numF s 28 0 : Int) := by unfold numB; rw [if_pos h1]
  rw [e1]
  unfold nameB
  rw [isB_of h1]
  simpa using numF_fit s 28 0 h1
theorem unknown_num (s : ByteArray) (h : knownB s = false) : numB s = 0 := by
  have h1 : ¬ numF s 28 0 < 28 := by simpa [knownB] using h
  unfold numB
  rw [if_neg h1]

theorem retb {x y : Bool} (h : x = y) : Ending.returned (.bool x) = .returned (.bool y) := by rw [h]

set_option maxHeartbeats 2000000 in
theorem names_walk (op : Int) (s : ByteArray) (w : World) (L : Laid w) :
    Calls Tryd.prog 4 #[.int .i64 op, .string s] w fun e w' => e = .returned (.bool true) ∧ Gr w w' := by
  have L' := hide L
  clear L
  cases h : isB op
  · have a1 : nameB op = ⟨#[]⟩ := by simp [nameB, h]
    have a2 : fB op = ⟨#[]⟩ := by simp [fB, h]
    have a3 : numB ⟨#[]⟩ = 0 := by unfold numB; rw [num_none]; rfl
    have a4 : knownB ⟨#[]⟩ = false := by unfold knownB; rw [num_none]; rfl
    have b1 : jumpsB op = false := by simp [jumpsB, h]
    have b2 : asksB op = false := by simp [asksB, h]
    have b3 : drainsB op = false := by simp [drainsB, h]
    have b4 : hasB op 84 = false := by unfold hasB; rw [a2]; rfl
    have b5 : hasB op 77 = false := by unfold hasB; rw [a2]; rfl
    have b6 : op < 0 ∨ 28 ≤ op := by simp [isB] at h; omega
    go_enter Tryd.func4, Tryd.ntmps4
    go_wp2_with (fail)
    refine (awake_calls w L'.out).mono ?_
    rintro e w1 ⟨rfl, hg1⟩
    go_wp2_with (fail)
    refine (refname_calls op w1).mono ?_
    rintro e w2 ⟨rfl, hg2⟩
    go_wp2_with (fail)
    have L2 := hide (L'.out.later (hg1.trans hg2))
    refine (number_calls _ w2 L2.out).mono ?_
    rintro e w3 ⟨rfl, rfl⟩
    go_wp2_with (fail)
    refine (name_calls op w3 L2.out).mono ?_
    rintro e w4 ⟨rfl, rfl⟩
    go_wp2_with (fail)
    cases hk : knownB s
    · have u := unknown_num s hk
      refine (number_calls _ w4 L2.out).mono ?_
      rintro e w5 ⟨rfl, rfl⟩
      go_wp2_with (fail)
      all_goals
        refine (jumps_calls _ _ L2.out).mono ?_
        rintro e w7 ⟨rfl, rfl⟩
        go_wp2_with (fail)
        refine (has_calls _ _ _).mono ?_
        rintro e w8 ⟨rfl, hg8⟩
        go_wp2_with (fail)
        refine (asks_calls _ _ (L2.out.later hg8)).mono ?_
        rintro e w9 ⟨rfl, rfl⟩
        go_wp2_with (fail)
        refine (has_calls _ _ _).mono ?_
        rintro e w10 ⟨rfl, hg10⟩
        go_wp2_with (fail)
        refine (drains_calls _ _ (L2.out.later (hg8.trans hg10))).mono ?_
        rintro e w11 ⟨rfl, rfl⟩
        go_wp2_with (fail)
        go_ret
        refine ⟨retb ?_, hg1.trans (hg2.trans (hg8.trans hg10))⟩
        first | rfl | (clear hg10 hg8 hg2 hg1; by_cases p1 : 18 ≤ op <;> by_cases p2 : op ≤ 21 <;> by_cases p3 : 23 ≤ op <;> by_cases p4 : op ≤ 25 <;> first | omega | simp [p2, p4])
    · have u := known_name s hk
      refine (number_calls _ w4 L2.out).mono ?_
      rintro e w5 ⟨rfl, rfl⟩
      go_wp2_with (fail)
      refine (name_calls _ w5 L2.out).mono ?_
      rintro e w6 ⟨rfl, rfl⟩
      go_wp2_with (fail)
      all_goals
        refine (jumps_calls _ _ L2.out).mono ?_
        rintro e w7 ⟨rfl, rfl⟩
        go_wp2_with (fail)
        refine (has_calls _ _ _).mono ?_
        rintro e w8 ⟨rfl, hg8⟩
        go_wp2_with (fail)
        refine (asks_calls _ _ (L2.out.later hg8)).mono ?_
        rintro e w9 ⟨rfl, rfl⟩
        go_wp2_with (fail)
        refine (has_calls _ _ _).mono ?_
        rintro e w10 ⟨rfl, hg10⟩
        go_wp2_with (fail)
        refine (drains_calls _ _ (L2.out.later (hg8.trans hg10))).mono ?_
        rintro e w11 ⟨rfl, rfl⟩
        go_wp2_with (fail)
        go_ret
        refine ⟨retb ?_, hg1.trans (hg2.trans (hg8.trans hg10))⟩
        first | rfl | (clear hg10 hg8 hg2 hg1; by_cases p1 : 18 ≤ op <;> by_cases p2 : op ≤ 21 <;> by_cases p3 : 23 ≤ op <;> by_cases p4 : op ≤ 25 <;> first | omega | simp [p2, p4])
  · obtain ⟨n, rfl, hn⟩ := isB_nat h
    have a1 : nameB (n : Int) = nameAt n := by simp [nameB, h]
    have a2 : fB (n : Int) = fieldAt n := by simp [fB, h]
    have a3 : numB (nameAt n) = n := by unfold numB; rw [num_all ⟨n, hn⟩, if_pos hn]
    have a4 : knownB (nameAt n) = true := by unfold knownB; rw [num_all ⟨n, hn⟩]; simpa using hn
    have a5 : (nameAt n).toList.isEmpty = false := by rw [ByteArray.toList_eq]; exact name_full ⟨n, hn⟩
    obtain ⟨q1, q2, q3⟩ := kind_all ⟨n, hn⟩
    have b1 : jumpsB (n : Int) = hasF (fieldAt n) 84 := by rw [← q1]; simp [jumpsB, h]
    have b2 : asksB (n : Int) = hasF (fieldAt n) 77 := by rw [← q2]; simp [asksB, h]
    have b3 : drainsB (n : Int) = (decide (18 ≤ (n : Int)) && decide ((n : Int) ≤ 21) || decide (23 ≤ (n : Int)) && decide ((n : Int) ≤ 25)) := by
      have e : drainsB (n : Int) = kD n := by simp [drainsB, h]
      rw [e, q3]
      have c1 : decide (18 ≤ (n : Int)) = decide (18 ≤ n) := by congr 1; apply propext; omega
      have c2 : decide ((n : Int) ≤ 21) = decide (n ≤ 21) := by congr 1; apply propext; omega
      have c3 : decide (23 ≤ (n : Int)) = decide (23 ≤ n) := by congr 1; apply propext; omega
      have c4 : decide ((n : Int) ≤ 25) = decide (n ≤ 25) := by congr 1; apply propext; omega
      rw [c1, c2, c3, c4]
    have b4 : hasB (n : Int) 84 = hasF (fieldAt n) 84 := by unfold hasB; rw [a2]
    have b5 : hasB (n : Int) 77 = hasF (fieldAt n) 77 := by unfold hasB; rw [a2]
    clear q1 q2 q3
    go_enter Tryd.func4, Tryd.ntmps4
    go_wp2_with (fail)
    refine (awake_calls w L'.out).mono ?_
    rintro e w1 ⟨rfl, hg1⟩
    go_wp2_with (fail)
    refine (refname_calls n w1).mono ?_
    rintro e w2 ⟨rfl, hg2⟩
    go_wp2_with (fail)
    have L2 := hide (L'.out.later (hg1.trans hg2))
    refine (number_calls _ w2 L2.out).mono ?_
    rintro e w3 ⟨rfl, rfl⟩
    go_wp2_with (fail)
    refine (name_calls n w3 L2.out).mono ?_
    rintro e w4 ⟨rfl, rfl⟩
    go_wp2_with (fail)
    cases hk : knownB s
    · have u := unknown_num s hk
      refine (number_calls _ w4 L2.out).mono ?_
      rintro e w5 ⟨rfl, rfl⟩
      go_wp2_with (fail)
      all_goals
        refine (jumps_calls _ _ L2.out).mono ?_
        rintro e w7 ⟨rfl, rfl⟩
        go_wp2_with (fail)
        refine (has_calls _ _ _).mono ?_
        rintro e w8 ⟨rfl, hg8⟩
        go_wp2_with (fail)
        refine (asks_calls _ _ (L2.out.later hg8)).mono ?_
        rintro e w9 ⟨rfl, rfl⟩
        go_wp2_with (fail)
        refine (has_calls _ _ _).mono ?_
        rintro e w10 ⟨rfl, hg10⟩
        go_wp2_with (fail)
        refine (drains_calls _ _ (L2.out.later (hg8.trans hg10))).mono ?_
        rintro e w11 ⟨rfl, rfl⟩
        go_wp2_with (fail)
        go_ret
        refine ⟨retb ?_, hg1.trans (hg2.trans (hg8.trans hg10))⟩
        first | rfl | (clear hg10 hg8 hg2 hg1; by_cases p1 : 18 ≤ (n : Int) <;> by_cases p2 : (n : Int) ≤ 21 <;> by_cases p3 : 23 ≤ (n : Int) <;> by_cases p4 : (n : Int) ≤ 25 <;> first | omega | simp [p1, p2, p3, p4])
    · have u := known_name s hk
      refine (number_calls _ w4 L2.out).mono ?_
      rintro e w5 ⟨rfl, rfl⟩
      go_wp2_with (fail)
      refine (name_calls _ w5 L2.out).mono ?_
      rintro e w6 ⟨rfl, rfl⟩
      go_wp2_with (fail)
      all_goals
        refine (jumps_calls _ _ L2.out).mono ?_
        rintro e w7 ⟨rfl, rfl⟩
        go_wp2_with (fail)
        refine (has_calls _ _ _).mono ?_
        rintro e w8 ⟨rfl, hg8⟩
        go_wp2_with (fail)
        refine (asks_calls _ _ (L2.out.later hg8)).mono ?_
        rintro e w9 ⟨rfl, rfl⟩
        go_wp2_with (fail)
        refine (has_calls _ _ _).mono ?_
        rintro e w10 ⟨rfl, hg10⟩
        go_wp2_with (fail)
        refine (drains_calls _ _ (L2.out.later (hg8.trans hg10))).mono ?_
        rintro e w11 ⟨rfl, rfl⟩
        go_wp2_with (fail)
        go_ret
        refine ⟨retb ?_, hg1.trans (hg2.trans (hg8.trans hg10))⟩
        first | rfl | (clear hg10 hg8 hg2 hg1; by_cases p1 : 18 ≤ (n : Int) <;> by_cases p2 : (n : Int) ≤ 21 <;> by_cases p3 : 23 ≤ (n : Int) <;> by_cases p4 : (n : Int) ≤ 25 <;> first | omega | simp [p1, p2, p3, p4])
end Go.Proofs.YtimiggnmihffdaaDoor
