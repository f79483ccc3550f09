/-
  For any string, in any world: the reference's op tells the kind of a name, or -1; its ifMem tells whether a row of fields asks memory. Memory grows alone. Conditions: strings of at most 2^31 bytes.
-/
import Derived.Test.YtcfkcnkekdafgaaGreatDoorRefm
namespace Go.Proofs.YtcfkcnkekdafgaaGreatDoor
open Go.ChangeShapes Go.WideShapes Go.ChangeAt Go.RowKit
set_option linter.unusedVariables false

/-- the kind of a name, or -1 -/
def opNo (s : ByteArray) : Int := if knownB s = true then numB s else -1
theorem nameB_at (k : Nat) (h : k < 28) : nameB k = nameAt k := by
  unfold nameB
  rw [isB_of h]
  simp
set_option maxHeartbeats 1000000 in
theorem rop_calls (s : ByteArray) (w : World) :
    Calls Tryz.prog 48 #[.string s] w fun e w' => e = .returned (.int .i64 (opNo s)) ∧ Gr w w' := by
  go_enter Tryz.func48, Tryz.ntmps48
  go_wp2
  go_loopw [3] (fun i w' => ∃ k : Nat, k ≤ 28 ∧ i = .int .i64 k ∧ Hid (numF s 28 0 = numF s (28 - k) k) ∧ Gr w w') (fun i w' => 28 - (intOf i).toNat)
  case atStart => exact ⟨0, by omega, rfl, rfl, Gr.refl _⟩
  case round =>
    obtain ⟨k, hk, rfl, hd, hg⟩ := hrel
    by_cases hlt : k < 28
    · have hlt' : (k : Int) < 28 := by omega
      have hn := nameB_at k hlt
      by_cases hb : nameAt k = s
      · have hq : ((nameAt k).toList == s.toList) = true := by rw [str_eq]; simpa using hb
        have e1 : numF s 28 0 = k := by rw [hd.out, show 28 - k = (27 - k) + 1 by omega]; exact numF_hit s _ k hb
        have HE : Hid (opNo s = k) := by
          refine hide ?_
          unfold opNo numB knownB
          rw [e1]
          simp [hlt]
        clear e1 hb hd
        go_wp2_with (go_at_call 37; refine (refname_calls _ _).mono ?_; rw [hn]; rintro e w1 ⟨rfl, hg1⟩)
        go_ret
        exact ⟨by rw [HE.out]; rfl, hg.trans hg1⟩
      · have hq : ((nameAt k).toList == s.toList) = false := by rw [str_eq]; simpa using hb
        have e1 : Hid (numF s 28 0 = numF s (28 - (k + 1)) (k + 1)) := by
          have h1 := hd.out
          rw [show 28 - k = (27 - k) + 1 by omega, numF_skip s _ k hb] at h1
          rw [show 28 - (k + 1) = 27 - k by omega]
          exact h1
        clear hb hd
        go_wp2_with (go_at_call 37; refine (refname_calls _ _).mono ?_; rw [hn]; rintro e w1 ⟨rfl, hg1⟩)
        exact ⟨⟨k + 1, by omega, by go_num, e1, hg.trans hg1⟩, by simp [intOf]; omega⟩
    · obtain rfl : k = 28 := by omega
      have HE : Hid (opNo s = -1) := by
        have e1 : numF s 28 0 = 28 := hd.out
        refine hide ?_
        unfold opNo knownB
        rw [e1]
        rfl
      clear hd
      go_wp2
      go_ret
      exact ⟨by rw [HE.out]; rfl, hg⟩

/-- 1, if a row of fields asks memory -/
def memNo (s : ByteArray) : Int := if hasF s 77 = true then 1 else 0
set_option maxHeartbeats 1000000 in
theorem rmem_calls (s : ByteArray) (w : World) (hs : s.size ≤ 2147483648) :
    Calls Tryz.prog 49 #[.string s] w fun e w' => e = .returned (.int .i64 (memNo s)) ∧ w' = w := by
  go_enter Tryz.func49, Tryz.ntmps49
  go_wp2
  go_loop [3] (fun i => ∃ k : Nat, k ≤ s.size ∧ i = .int .i64 k ∧ Hid (∀ j, j < k → (h : j < s.size) → ((s[j].toNat : Int) == 77) = false)) (fun i => s.size - (intOf i).toNat)
  case atStart => exact ⟨0, by omega, rfl, fun j hj => by omega⟩
  case round =>
    obtain ⟨k, hk, rfl, hd⟩ := hrel
    by_cases hlt : k < s.size
    · have hb1 : (k : Int) < s.size := by omega
      cases hb : ((s[k].toNat : Int) == 77)
      · go_wp2
        exact ⟨⟨k + 1, by omega, by go_num, has_step s 77 k hlt hd hb⟩, by simp [intOf]; omega⟩
      · have HE : Hid (memNo s = 1) := by refine hide ?_; unfold memNo; rw [hasF_yes s 77 k hlt hb]; rfl
        go_wp2
        go_ret
        exact ⟨by rw [HE.out]; rfl, rfl⟩
    · obtain rfl : k = s.size := by omega
      have HE : Hid (memNo s = 0) := by refine hide ?_; unfold memNo; rw [hasF_no s 77 (fun j h => hd.out j h h)]; rfl
      go_wp2
      go_ret
      exact ⟨by rw [HE.out]; rfl, rfl⟩
end Go.Proofs.YtcfkcnkekdafgaaGreatDoor
