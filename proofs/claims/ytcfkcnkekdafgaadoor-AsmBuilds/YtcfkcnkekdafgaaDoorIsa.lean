/-
  For any numbers and any world in which the program's tables lie: what isa.is, isa.Right, isa.Jumps and isa.Number answer, said by plain lists and numbers. Conditions: words are from 0 to 2^32 - 1.
-/
import Derived.Test.YtcfkcnkekdafgaaDoorBase
namespace Go.Proofs.YtcfkcnkekdafgaaDoor
open Go.ChangeShapes Go.WideShapes Go.ChangeAt Go.RowKit
set_option linter.unusedVariables false

theorem is_calls (op : Int) (w : World) :
    Calls Tryd.prog 34 #[.int .i64 op] w fun e w' => e = .returned (.bool (isB op)) ∧ w' = w := by
  by_cases h : 0 ≤ op <;> by_cases h' : op < 28
  all_goals
    go_enter Tryd.func34, Tryd.ntmps34
    go_wp2
    go_ret
    exact ⟨by simp [isB, h, h'], rfl⟩
theorem reg_calls (n : Int) (w : World) :
    Calls Tryd.prog 61 #[.int .i64 n] w fun e w' => e = .returned (.bool (regB n)) ∧ w' = w := by
  by_cases h : 0 ≤ n <;> by_cases h' : n < 8
  all_goals
    go_enter Tryd.func61, Tryd.ntmps61
    go_wp2
    go_ret
    exact ⟨by simp [regB, h, h'], rfl⟩
theorem fits_calls (u n : Int) (w : World) :
    Calls Tryd.prog 42 #[.int .i64 u, .int .i64 n] w fun e w' => e = .returned (.bool (fitsB u n)) ∧ w' = w := by
  by_cases h1 : u = 1
  · subst h1
    go_enter Tryd.func42, Tryd.ntmps42
    go_wp2_with (go_at_call 61; refine (reg_calls _ _).mono ?_; rintro e w1 ⟨rfl, rfl⟩)
    go_ret
    exact ⟨by simp [fitsB], rfl⟩
  by_cases h2 : u = 2
  · subst h2
    cases hr : regB n
    · go_enter Tryd.func42, Tryd.ntmps42
      go_wp2_with (go_at_call 61; refine (reg_calls _ _).mono ?_; rw [hr]; rintro e w1 ⟨rfl, rfl⟩)
      go_ret
      exact ⟨by simp [fitsB, hr], rfl⟩
    · go_enter Tryd.func42, Tryd.ntmps42
      go_wp2_with (go_at_call 61; refine (reg_calls _ _).mono ?_; rw [hr]; rintro e w1 ⟨rfl, rfl⟩)
      go_ret
      exact ⟨by simp [fitsB, hr], rfl⟩
  · have e1 : (u == 1) = false := by simp [h1]
    have e2 : (u == 2) = false := by simp [h2]
    go_enter Tryd.func42, Tryd.ntmps42
    go_wp2
    go_ret
    exact ⟨by simp [fitsB, h1, h2], rfl⟩
theorem holds_calls (u k size : Int) (h0 : 0 ≤ k) (hk : k < 4294967296) (w : World) :
    Calls Tryd.prog 43 #[.int .i64 u, .int .u32 k, .int .i64 size] w fun e w' => e = .returned (.bool (holdsB u k size)) ∧ w' = w := by
  by_cases h1 : u = 3
  · subst h1
    go_enter Tryd.func43, Tryd.ntmps43
    go_wp2
    go_ret
    exact ⟨by simp [holdsB], rfl⟩
  by_cases h2 : u = 4
  · subst h2
    go_enter Tryd.func43, Tryd.ntmps43
    go_wp2
    go_ret
    exact ⟨by simp [holdsB], rfl⟩
  · have e1 : (u == 3) = false := by simp [h1]
    have e2 : (u == 4) = false := by simp [h2]
    go_enter Tryd.func43, Tryd.ntmps43
    go_wp2
    go_ret
    exact ⟨by simp [holdsB, h1, h2], rfl⟩

set_option maxHeartbeats 1000000 in
theorem right_no (op a b c k size : Int) (w : World) (h : isB op = false) :
    Calls Tryd.prog 33 #[insV op a b c k, .int .i64 size] w fun e w' => e = .returned (.bool (rightB op a b c k size)) ∧ Gr w w' := by
  go_enter Tryd.func33, Tryd.ntmps33
  go_wp2_with (go_at_call 34; refine (is_calls _ _).mono ?_; rw [h]; rintro e w1 ⟨rfl, rfl⟩)
  go_ret
  exact ⟨by simp [rightB, h], Gr.alloc (Gr.refl _) _ _⟩

set_option maxHeartbeats 1000000 in
theorem right_yes (n : Nat) (hn : n < 28) (a b c k size : Int) (h0 : 0 ≤ k) (hk : k < 4294967296) (w : World) (L : Laid w) :
    Calls Tryd.prog 33 #[insV n a b c k, .int .i64 size] w fun e w' => e = .returned (.bool (fitsB (kA n) a && fitsB (kB n) b && fitsB (kC n) c && holdsB (kK n) k size)) ∧ Gr w w' := by
  have h := isB_of hn
  obtain ⟨hc0, hc1, hc2, hc3, hc4⟩ := (L.later (Gr.alloc (Gr.refl w) #[.int .i64 n, .int .i64 a, .int .i64 b, .int .i64 c, .int .u32 k] 28)).kd n hn
  have hi : (n : Int) < 28 := by omega
  have hlt : 0 < w.heap.size := by have := L.lt; omega
  clear L
  cases hA : fitsB (kA n) a
  · go_enter Tryd.func33, Tryd.ntmps33
    go_wp2_with (first | (go_at_call 34; refine (is_calls _ _).mono ?_; rw [h]; rintro e w1 ⟨rfl, rfl⟩) | (go_at_call 42; refine (fits_calls _ _ _).mono ?_; rintro e w1 ⟨rfl, rfl⟩) | (go_at_call 43; refine (holds_calls _ _ _ h0 hk _).mono ?_; rintro e w1 ⟨rfl, rfl⟩))
    go_ret
    exact ⟨by simp, Gr.alloc (Gr.alloc (Gr.refl _) _ _) _ _⟩
  cases hB : fitsB (kB n) b
  · go_enter Tryd.func33, Tryd.ntmps33
    go_wp2_with (first | (go_at_call 34; refine (is_calls _ _).mono ?_; rw [h]; rintro e w1 ⟨rfl, rfl⟩) | (go_at_call 42; refine (fits_calls _ _ _).mono ?_; rintro e w1 ⟨rfl, rfl⟩) | (go_at_call 43; refine (holds_calls _ _ _ h0 hk _).mono ?_; rintro e w1 ⟨rfl, rfl⟩))
    go_ret
    exact ⟨by simp, Gr.alloc (Gr.alloc (Gr.refl _) _ _) _ _⟩
  cases hC : fitsB (kC n) c
  · go_enter Tryd.func33, Tryd.ntmps33
    go_wp2_with (first | (go_at_call 34; refine (is_calls _ _).mono ?_; rw [h]; rintro e w1 ⟨rfl, rfl⟩) | (go_at_call 42; refine (fits_calls _ _ _).mono ?_; rintro e w1 ⟨rfl, rfl⟩) | (go_at_call 43; refine (holds_calls _ _ _ h0 hk _).mono ?_; rintro e w1 ⟨rfl, rfl⟩))
    go_ret
    exact ⟨by simp, Gr.alloc (Gr.alloc (Gr.refl _) _ _) _ _⟩
  · go_enter Tryd.func33, Tryd.ntmps33
    go_wp2_with (first | (go_at_call 34; refine (is_calls _ _).mono ?_; rw [h]; rintro e w1 ⟨rfl, rfl⟩) | (go_at_call 42; refine (fits_calls _ _ _).mono ?_; rintro e w1 ⟨rfl, rfl⟩) | (go_at_call 43; refine (holds_calls _ _ _ h0 hk _).mono ?_; rintro e w1 ⟨rfl, rfl⟩))
    go_ret
    exact ⟨by simp, Gr.alloc (Gr.alloc (Gr.refl _) _ _) _ _⟩

theorem right_calls (op a b c k size : Int) (h0 : 0 ≤ k) (hk : k < 4294967296) (w : World) (L : Laid w) :
    Calls Tryd.prog 33 #[insV op a b c k, .int .i64 size] w fun e w' => e = .returned (.bool (rightB op a b c k size)) ∧ Gr w w' := by
  cases h : isB op
  · exact right_no op a b c k size w h
  · obtain ⟨n, rfl, hn⟩ := isB_nat h
    have e1 : rightB (n : Int) a b c k size = (fitsB (kA n) a && fitsB (kB n) b && fitsB (kC n) c && holdsB (kK n) k size) := by simp [rightB, h]
    rw [e1]
    exact right_yes n hn a b c k size h0 hk w L

theorem jumps_calls (op : Int) (w : World) (L : Laid w) :
    Calls Tryd.prog 25 #[.int .i64 op] w fun e w' => e = .returned (.bool (jumpB op)) ∧ w' = w := by
  cases h : isB op
  · clear L
    go_enter Tryd.func25, Tryd.ntmps25
    go_wp2_with (go_at_call 34; refine (is_calls _ _).mono ?_; rw [h]; rintro e w1 ⟨rfl, rfl⟩)
    go_ret
    exact ⟨by simp [jumpB, h], rfl⟩
  · obtain ⟨n, rfl, hn⟩ := isB_nat h
    obtain ⟨hc0, hc1, hc2, hc3, hc4⟩ := L.kd n hn
    have hi : (n : Int) < 28 := by omega
    clear L
    go_enter Tryd.func25, Tryd.ntmps25
    go_wp2_with (go_at_call 34; refine (is_calls _ _).mono ?_; rw [h]; rintro e w1 ⟨rfl, rfl⟩)
    go_ret
    exact ⟨by simp [jumpB, h], rfl⟩

theorem numF_skip (s : ByteArray) (m k : Nat) (h : ¬ nameAt k = s) : numF s (m + 1) k = numF s m (k + 1) := by
  show (if nameAt k = s then k else _) = _
  rw [if_neg h]
theorem numF_hit (s : ByteArray) (m k : Nat) (h : nameAt k = s) : numF s (m + 1) k = k := by
  show (if nameAt k = s then k else _) = _
  rw [if_pos h]
theorem index_run (w : World) (k : Nat) (h : k < 28) : (Instr.index 96 (.agg nameV) (.int .i64 k)).run Tryd.prog w = .ok (.string (nameAt k)) w := by
  have hat := nameV_at k h
  have h1 : (0 : Int) ≤ k ∧ (k : Int) < 28 := by omega
  have hs : (sizeOf 9).run Tryd.prog w = .ok 1 w := by kernel_rfl
  have hg : (isAgg 9).run Tryd.prog w = .ok false w := by kernel_rfl
  have hp : (part 9 nameV k).run Tryd.prog w = .ok (.string (nameAt k)) w := by
    simp [part, Sem.run_bind, hg, hat]
  have h2 : ¬ 28 ≤ k := by omega
  simp [Instr.index, asIntOf, run_underlying Tryd.underlying96, hs, hp, h2]
theorem str_eq (a b : ByteArray) : (a.toList == b.toList) = decide (a = b) := by
  rw [ByteArray.toList_eq, ByteArray.toList_eq]
  by_cases h : a = b
  · subst h; simp
  · have : ¬ a.data = b.data := fun e => h (by cases a; cases b; simpa using e)
    simp [h, this]

set_option maxHeartbeats 1000000 in
theorem number_calls (s : ByteArray) (w : World) (L : Laid w) :
    Calls Tryd.prog 40 #[.string s] w fun e w' => e = .returned (.tuple #[.int .i64 (numB s), .bool (knownB s)]) ∧ w' = w := by
  obtain ⟨t, fr, hrow⟩ := L.nm
  clear L
  have hsz := nameV_size
  go_enter Tryd.func40, Tryd.ntmps40
  go_wp2_with (refine wpList_load_row rfl 96 _ rfl 1 rfl t nameV fr _ hrow Tryd.underlying96 rfl (by rw [nameV_size]; kernel_rfl) ?_)
  go_loop [7] (fun i => ∃ k : Nat, k ≤ 28 ∧ i = .int .i64 k ∧ Hid (numF s 28 0 = numF s (28 - k) k)) (fun i => 28 - (intOf i).toNat)
  case atStart => exact ⟨0, by omega, rfl, rfl⟩
  case round =>
    obtain ⟨k, hk, rfl, hd⟩ := hrel
    by_cases hlt : k < 28
    · have hat := index_run w k hlt
      have hlt' : (k : Int) < 28 := by omega
      by_cases hb : nameAt k = s
      · have hq : ((nameAt k).toList == s.toList) = true := by rw [str_eq]; simpa using hb
        have e1 : numF s 28 0 = k := by rw [hd.out, show 28 - k = (27 - k) + 1 by omega]; exact numF_hit s _ k hb
        have e2 : numB s = k := by unfold numB; rw [e1, if_pos hlt]
        have e3 : knownB s = true := by unfold knownB; rw [e1]; simpa using hlt
        clear e1 hb
        go_wp2
        go_ret2
        exact ⟨rfl, rfl⟩
      · have hq : ((nameAt k).toList == s.toList) = false := by rw [str_eq]; simpa using hb
        have e1 : Hid (numF s 28 0 = numF s (28 - (k + 1)) (k + 1)) := by
          have h1 := hd.out
          rw [show 28 - k = (27 - k) + 1 by omega, numF_skip s _ k hb] at h1
          rw [show 28 - (k + 1) = 27 - k by omega]
          exact h1
        clear hb
        go_wp2
        exact ⟨⟨k + 1, by omega, by go_num, e1⟩, by simp [intOf]; omega⟩
    · obtain rfl : k = 28 := by omega
      have e1 : numF s 28 0 = 28 := hd.out
      have e2 : numB s = 0 := by unfold numB; rw [e1]; rfl
      have e3 : knownB s = false := by unfold knownB; rw [e1]; rfl
      clear e1
      go_wp2
      go_ret2
      exact ⟨rfl, rfl⟩
end Go.Proofs.YtcfkcnkekdafgaaDoor
