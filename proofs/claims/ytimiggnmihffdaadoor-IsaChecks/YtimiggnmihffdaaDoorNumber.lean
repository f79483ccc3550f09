/-
  For any string, in any world in which the program's tables lie: what isa.Number answers, said by plain lists; and the law's own examples ('awake') come out true. No condition but that.
-/
import Derived.Test.YtimiggnmihffdaaDoorRight
namespace Go.Proofs.YtimiggnmihffdaaDoor
open Go.ChangeShapes Go.WideShapes Go.ChangeAt Go.RowKit
set_option linter.unusedVariables false

/-- the first kind from k on of that name; 28, if there is none -/
def numF (s : ByteArray) : Nat → Nat → Nat
  | 0, k => k
  | m + 1, k => if nameAt k = s then k else numF s m (k + 1)
def numB (s : ByteArray) : Int := if numF s 28 0 < 28 then (numF s 28 0 : Int) else 0
def knownB (s : ByteArray) : Bool := decide (numF s 28 0 < 28)

theorem numF_skip (s : ByteArray) (m k : Nat) (h : ¬ nameAt k = s) : numF s (m + 1) k = numF s m (k + 1) := by
  show (if nameAt k = s then k else _) = _
  rw [if_neg h]
theorem numF_hit (s : ByteArray) (m k : Nat) (h : nameAt k = s) : numF s (m + 1) k = k := by
  show (if nameAt k = s then k else _) = _
  rw [if_pos h]

theorem index_run (w : World) (k : Nat) (h : k < 28) : (Instr.index 54 (.agg nameV) (.int .i64 k)).run Tryd.prog w = .ok (.string (nameAt k)) w := by
  have hat := nameV_at k h
  have h1 : (0 : Int) ≤ k ∧ (k : Int) < 28 := by omega
  have hs : (sizeOf 9).run Tryd.prog w = .ok 1 w := by kernel_rfl
  have hg : (isAgg 9).run Tryd.prog w = .ok false w := by kernel_rfl
  have hp : (part 9 nameV k).run Tryd.prog w = .ok (.string (nameAt k)) w := by
    simp [part, Sem.run_bind, hg, hat]
  have h2 : ¬ 28 ≤ k := by omega
  simp [Instr.index, asIntOf, run_underlying Tryd.underlying54, hs, hp, h2]
theorem str_eq (a b : ByteArray) : (a.toList == b.toList) = decide (a = b) := by
  rw [ByteArray.toList_eq, ByteArray.toList_eq]
  by_cases h : a = b
  · subst h; simp
  · have : ¬ a.data = b.data := fun e => h (by cases a; cases b; simpa using e)
    simp [h, this]

set_option maxHeartbeats 1000000 in
theorem number_calls (s : ByteArray) (w : World) (L : Laid w) :
    Calls Tryd.prog 12 #[.string s] w fun e w' => e = .returned (.tuple #[.int .i64 (numB s), .bool (knownB s)]) ∧ w' = w := by
  obtain ⟨t, fr, hrow⟩ := L.nm
  clear L
  have hsz := nameV_size
  go_enter Tryd.func12, Tryd.ntmps12
  go_wp2_with (refine wpList_load_row rfl 54 _ rfl 1 rfl t nameV fr _ hrow Tryd.underlying54 rfl (by rw [nameV_size]; kernel_rfl) ?_)
  go_loop [7] (fun i => ∃ k : Nat, k ≤ 28 ∧ i = .int .i64 k ∧ Hid (numF s 28 0 = numF s (28 - k) k)) (fun i => 28 - (intOf i).toNat)
  case atStart => exact ⟨0, by omega, rfl, rfl⟩
  case round =>
    obtain ⟨k, hk, rfl, hd⟩ := hrel
    by_cases hlt : k < 28
    · have hat := index_run w k hlt
      have hlt' : (k : Int) < 28 := by omega
      by_cases hb : nameAt k = s
      · have hq : ((nameAt k).toList == s.toList) = true := by rw [str_eq]; simpa using hb
        have e1 : numF s 28 0 = k := by rw [hd.out, show 28 - k = (27 - k) + 1 by omega]; exact numF_hit s _ k hb
        have e2 : numB s = k := by unfold numB; rw [e1, if_pos hlt]
        have e3 : knownB s = true := by unfold knownB; rw [e1]; simpa using hlt
        clear e1 hb
        go_wp2
        go_ret2
        exact ⟨rfl, rfl⟩
      · have hq : ((nameAt k).toList == s.toList) = false := by rw [str_eq]; simpa using hb
        have e1 : Hid (numF s 28 0 = numF s (28 - (k + 1)) (k + 1)) := by
          have h1 := hd.out
          rw [show 28 - k = (27 - k) + 1 by omega, numF_skip s _ k hb] at h1
          rw [show 28 - (k + 1) = 27 - k by omega]
          exact h1
        clear hb
        go_wp2
        exact ⟨⟨k + 1, by omega, by go_num, e1⟩, by simp [intOf]; omega⟩
    · obtain rfl : k = 28 := by omega
      have e1 : numF s 28 0 = 28 := hd.out
      have e2 : numB s = 0 := by unfold numB; rw [e1]; rfl
      have e3 : knownB s = false := by unfold knownB; rw [e1]; rfl
      clear e1
      go_wp2
      go_ret2
      exact ⟨rfl, rfl⟩

set_option maxHeartbeats 1000000 in
theorem awake_calls (w : World) (L : Laid w) :
    Calls Tryd.prog 7 #[] w fun e w' => e = .returned (.bool true) ∧ Gr w w' := by
  have e1 : rightB 1 7 0 0 5 0 = true := by decide +kernel
  have e2 : rightB 1 8 0 0 5 0 = false := by decide +kernel
  have e3 : rightB 13 0 0 0 3 3 = true := by decide +kernel
  have e4 : ((nameB 0).toList == [104, 97, 108, 116]) = true := by decide +kernel
  have L' := hide L
  clear L
  go_enter Tryd.func7, Tryd.ntmps7
  go_wp2_with (fail)
  refine (right_calls 1 7 0 0 5 0 (by omega) (by omega) w L'.out).mono ?_
  rintro e w1 ⟨rfl, hg1⟩
  go_wp2_with (fail)
  refine (right_calls 1 8 0 0 5 0 (by omega) (by omega) w1 (L'.out.later hg1)).mono ?_
  rintro e w2 ⟨rfl, hg2⟩
  go_wp2_with (fail)
  refine (right_calls 13 0 0 0 3 3 (by omega) (by omega) w2 (L'.out.later (hg1.trans hg2))).mono ?_
  rintro e w3 ⟨rfl, hg3⟩
  go_wp2_with (fail)
  refine (name_calls 0 w3 (L'.out.later (hg1.trans (hg2.trans hg3)))).mono ?_
  rintro e w4 ⟨rfl, rfl⟩
  go_wp2_with (fail)
  go_ret
  exact ⟨rfl, hg1.trans (hg2.trans hg3)⟩
end Go.Proofs.YtimiggnmihffdaaDoor
