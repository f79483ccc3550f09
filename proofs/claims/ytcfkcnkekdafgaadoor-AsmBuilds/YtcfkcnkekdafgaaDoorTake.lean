/-
  For any string, in any world in which the program's tables lie: asm.takeRegister and asm.takeNumber answer the word's number, or give up; the line's takers write it into their field of the line, and leave all else as it was. Conditions: strings of at most 2^31 bytes.
-/
import Derived.Test.YtcfkcnkekdafgaaDoorNam
import Derived.Test.YtcfkcnkekdafgaaDoorLib
import Derived.Lib.AtoiErrMem
import Derived.OwnWalk
namespace Go.Proofs.YtcfkcnkekdafgaaDoor
open Go.ChangeShapes Go.WideShapes Go.ChangeAt Go.RowKit
set_option linter.unusedVariables false

theorem two_of (s : ByteArray) (h : s.size = 2) : s.data.toList = [s[0], s[1]] := by
  obtain ⟨⟨l⟩⟩ := s
  match l, h with
  | [a, b], _ => rfl
theorem reg_two {s : ByteArray} (h : ¬ s.size = 2) : regOf s.data.toList = none := by
  have hl := size_list s
  unfold regOf
  split
  · rename_i r d e
    rw [e] at hl
    exact absurd hl.symm h
  · rfl

set_option maxHeartbeats 1000000 in
theorem takeReg_ok (s : ByteArray) (n : Nat) (w : World) (h : regOf s.data.toList = some n) :
    Calls Tryd.prog 67 #[.string s] w fun e w' => e = .returned (.int .i64 n) ∧ w' = w := by
  by_cases h2 : s.size = 2
  · rw [two_of s h2] at h
    have e1 : ((s.size : Int) == 2) = true := by simp; omega
    simp only [regOf] at h
    split at h
    · rename_i hc
      cases h
      have q : (((s[0]).toNat : Int) == 114) = true := by rw [hc.1]; rfl
      have k1 : (48 : Int) ≤ (s[1]).toNat := by omega
      have k2 : ((s[1]).toNat : Int) < 56 := by omega
      have b0 : (0 : Int) < s.size := by omega
      have b1 : (1 : Int) < s.size := by omega
      clear hc
      go_enter Tryd.func67, Tryd.ntmps67
      go_wp2_with (go_at_call 39; refine (insist_ok _ _).mono ?_; rintro e w1 ⟨rfl, rfl⟩)
      go_ret
      exact ⟨by simp; omega, rfl⟩
    · cases h
  · rw [reg_two h2] at h
    cases h
set_option maxHeartbeats 1000000 in
theorem takeReg_no (s : ByteArray) (w : World) (h : regOf s.data.toList = none) :
    Calls Tryd.prog 67 #[.string s] w fun e w' => e = gone 3 ∧ w' = w := by
  by_cases h2 : s.size = 2
  · rw [two_of s h2] at h
    have e1 : ((s.size : Int) == 2) = true := by simp; omega
    have b0 : (0 : Int) < s.size := by omega
    have b1 : (1 : Int) < s.size := by omega
    simp only [regOf] at h
    split at h
    · cases h
    · rename_i hc
      clear h
      by_cases hr : s[0] = 114
      · have q : (((s[0]).toNat : Int) == 114) = true := by rw [hr]; rfl
        by_cases h1 : 48 ≤ (s[1]).toNat
        · have k1 : (48 : Int) ≤ (s[1]).toNat := by omega
          have k2 : ¬ ((s[1]).toNat : Int) < 56 := by intro k; exact hc ⟨hr, h1, by omega⟩
          clear hr hc h1
          go_enter Tryd.func67, Tryd.ntmps67
          go_wp2_with (go_at_call 39; refine (insist_no _ _).mono ?_; rintro e w1 ⟨rfl, rfl⟩)
          exact ⟨rfl, rfl, rfl⟩
        · have k1 : ¬ (48 : Int) ≤ (s[1]).toNat := by omega
          clear hr hc h1
          go_enter Tryd.func67, Tryd.ntmps67
          go_wp2_with (go_at_call 39; refine (insist_no _ _).mono ?_; rintro e w1 ⟨rfl, rfl⟩)
          exact ⟨rfl, rfl, rfl⟩
      · have q : (((s[0]).toNat : Int) == 114) = false := by
          simp
          intro e
          exact hr (UInt8.toNat_inj.1 (by show (s[0]).toNat = 114; omega))
        clear hr hc
        go_enter Tryd.func67, Tryd.ntmps67
        go_wp2_with (go_at_call 39; refine (insist_no _ _).mono ?_; rintro e w1 ⟨rfl, rfl⟩)
        exact ⟨rfl, rfl, rfl⟩
  · have e1 : ((s.size : Int) == 2) = false := by simp; omega
    go_enter Tryd.func67, Tryd.ntmps67
    go_wp2_with (go_at_call 39; refine (insist_no _ _).mono ?_; rintro e w1 ⟨rfl, rfl⟩)
    exact ⟨rfl, rfl, rfl⟩

theorem parse_ne {s : ByteArray} {u : Nat} (h : Lib.parseUintB 32 s.data.toList = .ok u) : 0 < s.size := by
  rcases Nat.eq_zero_or_pos s.size with h0 | h0
  · have := size_list s
    have e : s.data.toList = [] := List.eq_nil_of_length_eq_zero (by omega)
    rw [e] at h
    simp [Lib.parseUintB] at h
  · exact h0
theorem head_of (s : ByteArray) (h : 0 < s.size) : s.data.toList.head? = some s[0] := by
  have := at_list s 0 h
  rw [← List.head?_eq_getElem?] at this
  exact this
theorem zero_str (s : ByteArray) : (s.toList == [48]) = decide (s.data.toList = [48]) := by
  rw [ByteArray.toList_eq]
  rw [Bool.eq_iff_iff]
  simp

set_option maxHeartbeats 1000000 in
theorem takeNum_calls (s : ByteArray) (w : World) (L : Laid w) (hs : s.size ≤ 2147483648) :
    Calls Tryd.prog 69 #[.string s] w fun e w' => (e = match numOf s.data.toList with | some n => .returned (.int .u32 n) | none => gone 3) ∧ Gr w w' := by
  obtain ⟨t5, p5, h5⟩ := L.es
  obtain ⟨t6, p6, h6⟩ := L.er
  clear L
  have hz := zero_str s
  cases hp : Lib.parseUintB 32 s.data.toList with
  | ok u =>
    have h0 := parse_ne hp
    have h0' : (0 : Int) < s.size := by omega
    have hu : u ≤ 4294967295 := by have := Lib.parseUintB_le hp; simpa using this
    have hh := head_of s h0
    have HG := fun (w' : World) (hw : w' = w ∨ w' = Lib.bytesWorld w 5 s) => show Gr w w' by
      rcases hw with rfl | rfl
      · exact Gr.refl _
      · exact Lib.bytesWorld_below _ _ _
    by_cases hc : s.data.toList = [48]
    · have HE : numOf s.data.toList = some u := by unfold numOf; rw [hp]; simp [hc]
      have q : (s.toList == [48]) = true := by rw [hz]; simpa using hc
      have HP := hide hp
      have HG := hide HG
      clear hz hp hh hc h5 h6
      rw [HE]
      clear HE
      go_enter Tryd.func69, Tryd.ntmps69
      go_wp2_with (first | (go_at_call 76; refine (Tryd.strconv_ParseUint_10_at32_ok s (by omega) u HP.out _).mono ?_; rintro e w1 ⟨rfl, hw⟩; have hw := HG.out w1 hw) | (go_at_call 39; refine (insist_ok _ _).mono ?_; rintro e w1 ⟨rfl, rfl⟩))
      go_ret
      exact ⟨by first | rfl | (congr 2; omega), hw⟩
    · have q : (s.toList == [48]) = false := by rw [hz]; simpa using hc
      by_cases h48 : s[0] = 48
      · have HE : numOf s.data.toList = none := by unfold numOf; rw [hp]; simp [hc, hh, h48]
        have q2 : (((s[0]).toNat : Int) != 48) = false := by rw [h48]; rfl
        have HP := hide hp
        have HG := hide HG
        clear hz hp hh hc h5 h6 h48
        rw [HE]
        clear HE
        go_enter Tryd.func69, Tryd.ntmps69
        go_wp2_with (first | (go_at_call 76; refine (Tryd.strconv_ParseUint_10_at32_ok s (by omega) u HP.out _).mono ?_; rintro e w1 ⟨rfl, hw⟩; have hw := HG.out w1 hw) | (go_at_call 39; refine (insist_no _ _).mono ?_; rintro e w1 ⟨rfl, rfl⟩))
        exact ⟨rfl, rfl, hw⟩
      · have HE : numOf s.data.toList = some u := by unfold numOf; rw [hp]; simp [hh, h48]
        have q2 : (((s[0]).toNat : Int) != 48) = true := by
          rw [bne_iff_ne]
          intro e
          exact h48 (UInt8.toNat_inj.1 (by show (s[0]).toNat = 48; omega))
        have HP := hide hp
        have HG := hide HG
        clear hz hp hh hc h5 h6 h48
        rw [HE]
        clear HE
        go_enter Tryd.func69, Tryd.ntmps69
        go_wp2_with (first | (go_at_call 76; refine (Tryd.strconv_ParseUint_10_at32_ok s (by omega) u HP.out _).mono ?_; rintro e w1 ⟨rfl, hw⟩; have hw := HG.out w1 hw) | (go_at_call 39; refine (insist_ok _ _).mono ?_; rintro e w1 ⟨rfl, rfl⟩))
        go_ret
        exact ⟨by first | rfl | (congr 2; omega), hw⟩
  | «syntax» =>
    have HE : numOf s.data.toList = none := by unfold numOf; rw [hp]
    have HP := hide hp
    have H5 := hide h5
    clear hz hp h5 h6
    rw [HE]
    clear HE
    go_enter Tryd.func69, Tryd.ntmps69
    go_wp2_with (first | (go_at_call 76; refine (Tryd.strconv_ParseUint_10_at32_syntax s (by omega) HP.out _ _ H5.out (.inr ⟨_, _, rfl⟩)).mono ?_; rintro e w1 ⟨N, rfl, -, -, hb⟩) | (go_at_call 39; refine (insist_no _ _).mono ?_; rintro e w1 ⟨rfl, rfl⟩))
    exact ⟨rfl, rfl, hb⟩
  | range =>
    have HE : numOf s.data.toList = none := by unfold numOf; rw [hp]
    have HP := hide hp
    have H6 := hide h6
    clear hz hp h5 h6
    rw [HE]
    clear HE
    go_enter Tryd.func69, Tryd.ntmps69
    go_wp2_with (first | (go_at_call 76; refine (Tryd.strconv_ParseUint_10_at32_range s (by omega) HP.out _ _ H6.out (.inr ⟨_, _, rfl⟩)).mono ?_; rintro e w1 ⟨N, rfl, -, -, hb⟩) | (go_at_call 39; refine (insist_no _ _).mono ?_; rintro e w1 ⟨rfl, rfl⟩))
    exact ⟨rfl, rfl, hb⟩
end Go.Proofs.YtcfkcnkekdafgaaDoor
