/-
  For any words: the reference's Minus, Move, Mul and Less answer what is done with the numbers. Conditions: words are below 2^32, moves are by less than 32 places.
-/
import Derived.Test.YtijfdgkicfllaaaRef1
namespace Go.Proofs.Ytijfdgkicfllaaa
open Go.ChangeShapes Go.WideShapes Go.ChangeAt Go.RowKit
set_option linter.unusedVariables false

def notF (n i : Nat) : Nat := 1 - bitN n i
theorem notF_le (n i : Nat) : notF n i ≤ 1 := by unfold notF; omega
theorem notF_word (n : Nat) (h : n < 4294967296) : numB (notF n) 0 32 = 4294967295 - n := not_word n h

set_option maxHeartbeats 1000000 in
theorem minus_ref (n : Nat) (hn : n < 4294967296) (w : World) :
    Calls Try.prog 13 #[.int .u32 n] w fun e w' => e = .returned (.int .u32 ((4294967296 - n) % 4294967296 : Nat)) ∧ Gr w w' := by
  have hstart := dig_start (notF n) w
  rw [arrV_zero] at hstart
  have HS := hide hstart
  clear hstart
  go_enter Try.func13, Try.ntmps13
  go_wp2
  go_loopw [4] (fun i wr => ∃ k : Nat, k ≤ 32 ∧ i = .int .i64 k ∧ Dig w.heap.size (notF n) k w wr) (fun i _ => 32 - (intOf i).toNat)
  case atStart => exact ⟨0, by omega, rfl, HS.out⟩
  case round =>
    obtain ⟨k, hk, rfl, hd⟩ := hrel
    have ha1 := bitN_le n k
    by_cases hlt : k < 32
    · obtain ⟨v, hv⟩ := dig_cell hd k hlt
      have hfz := dig_frozen hd k
      have HD := hide hd
      clear hd
      go_wp2_with (go_at_call 17; refine (bit_calls _ _ (by assumption) (by omega) (by omega) _).mono ?_; rw [Int.toNat_natCast]; rintro e w1 ⟨rfl, rfl⟩)
      exact ⟨⟨k + 1, by omega, by go_num, dig_set HD.out hlt (by unfold notF; omega)⟩, by simp [intOf]; omega⟩
    · obtain rfl : k = 32 := by omega
      have hrow := hd.2.1
      have hg := hd.1
      have hi : (Try.prog.info? 44).map (·.size) = some (arrV (notF n) 32).size := by rw [arrV_size]; kernel_rfl
      clear hd
      go_wp2_with (first | (refine wpList_load_row rfl 44 _ rfl w.heap.size rfl 44 (arrV (notF n) 32) (0, 0) _ hrow Try.underlying44 rfl hi ?_) | (go_at_call 20; refine (of_calls _ (notF_le n) _).mono ?_; rw [notF_word n hn]; rintro e w1 ⟨rfl, hg1⟩) | (go_at_call 18; refine (add_ref (4294967295 - n) 1 (by omega) (by omega) _).mono ?_; rintro e w2 ⟨rfl, hg2⟩))
      go_ret
      exact ⟨ret1 (by omega), grown_trans hg (grown_trans hg1 hg2)⟩

set_option maxHeartbeats 1000000 in
theorem move_ref (n : Nat) (s : Int) (hn : n < 4294967296) (h0 : -32 < s) (h1 : s < 32) (w : World) :
    Calls Try.prog 21 #[.int .u32 n, .int .i64 s] w fun e w' => e = .returned (.int .u32 (numB (moveF n s) 0 32)) ∧ Gr w w' := by
  have hstart := dig_start (moveF n s) w
  rw [arrV_zero] at hstart
  have HS := hide hstart
  clear hstart
  go_enter Try.func21, Try.ntmps21
  go_wp2
  go_loopw [6] (fun i wr => ∃ k : Nat, k ≤ 32 ∧ i = .int .i64 k ∧ Dig w.heap.size (moveF n s) k w wr) (fun i _ => 32 - (intOf i).toNat)
  case atStart => exact ⟨0, by omega, rfl, HS.out⟩
  case round =>
    obtain ⟨k, hk, rfl, hd⟩ := hrel
    by_cases hlt : k < 32
    · obtain ⟨v, hv⟩ := dig_cell hd k hlt
      have hfz := dig_frozen hd k
      have HD := hide hd
      clear hd
      by_cases ha : 0 ≤ (k : Int) - s
      · by_cases hb : (k : Int) - s < 32
        · go_wp2_with (go_at_call 17; refine (bit_calls _ _ (by assumption) (by omega) (by omega) _).mono ?_; rintro e w1 ⟨rfl, rfl⟩)
          exact ⟨⟨k + 1, by omega, by go_num, dig_set HD.out hlt (by unfold moveF; rw [if_pos ⟨ha, hb⟩])⟩, by simp [intOf]; omega⟩
        · go_wp2_with (fail)
          exact ⟨⟨k + 1, by omega, by go_num, dig_keep HD.out hlt (by unfold moveF; rw [if_neg (by omega)])⟩, by simp [intOf]; omega⟩
      · go_wp2_with (fail)
        exact ⟨⟨k + 1, by omega, by go_num, dig_keep HD.out hlt (by unfold moveF; rw [if_neg (by omega)])⟩, by simp [intOf]; omega⟩
    · obtain rfl : k = 32 := by omega
      have hrow := hd.2.1
      have hg := hd.1
      have hi : (Try.prog.info? 44).map (·.size) = some (arrV (moveF n s) 32).size := by rw [arrV_size]; kernel_rfl
      clear hd
      go_wp2_with (first | (refine wpList_load_row rfl 44 _ rfl w.heap.size rfl 44 (arrV (moveF n s) 32) (0, 0) _ hrow Try.underlying44 rfl hi ?_) | (go_at_call 20; refine (of_calls _ (moveF_le n s) _).mono ?_; rintro e w1 ⟨rfl, hg1⟩))
      go_ret
      exact ⟨rfl, grown_trans hg hg1⟩

theorem mul_stepI (a b k : Nat) (h : bitN b k = 1) : ((mulF a b k : Int) + a * 2 ^ k) % 4294967296 = (mulF a b (k + 1) : Nat) := by
  have h1 := mul_one' a b k h
  have h2 : ((a * 2 ^ k : Nat) : Int) = (a : Int) * 2 ^ k := by simp
  rw [← h2, ← h1]
  omega

set_option maxHeartbeats 1000000 in
theorem mul_ref (a b : Nat) (ha : a < 4294967296) (hb : b < 4294967296) (w : World) :
    Calls Try.prog 19 #[.int .u32 a, .int .u32 b] w fun e w' => e = .returned (.int .u32 (a * b % 4294967296 : Nat)) ∧ Gr w w' := by
  go_enter Try.func19, Try.ntmps19
  go_wp2
  go_loopw [5, 6] (fun n i wr => ∃ k : Nat, k ≤ 32 ∧ i = .int .i64 k ∧ n = .int .u32 (mulF a b k) ∧ Gr w wr) (fun _ i _ => 32 - (intOf i).toNat)
  case atStart => exact ⟨0, by omega, rfl, by rw [mul_zero']; rfl, Gr.refl _⟩
  case round =>
    obtain ⟨k, hk, rfl, rfl, hg⟩ := hrel
    have hm : mulF a b k < 4294967296 := by unfold mulF; omega
    by_cases hlt : k < 32
    · by_cases hbit : bitN b k = 1
      · have e1 : ((bitN b k : Int) == 1) = true := by rw [hbit]; rfl
        have HB := hide hbit
        clear hbit
        go_wp2_with (first | (go_at_call 17; refine (bit_calls _ _ (by assumption) (by omega) (by omega) _).mono ?_; rw [Int.toNat_natCast]; rintro e w1 ⟨rfl, rfl⟩) | (go_at_call 21; refine (move_ref a (k : Int) ha (by omega) (by omega) _).mono ?_; rw [up_word]; rintro e w1 ⟨rfl, hg1⟩) | (go_at_call 18; refine (add_ref (mulF a b k) (a * 2 ^ k % 4294967296) hm (by omega) _).mono ?_; rintro e w2 ⟨rfl, hg2⟩))
        exact ⟨⟨k + 1, by omega, by go_num, num_u32 (mul_stepI a b k HB.out), grown_trans hg (grown_trans hg1 hg2)⟩, by simp [intOf]; omega⟩
      · have e1 : ((bitN b k : Int) == 1) = false := by simp; omega
        have HB := hide hbit
        clear hbit
        go_wp2_with (first | (go_at_call 17; refine (bit_calls _ _ (by assumption) (by omega) (by omega) _).mono ?_; rw [Int.toNat_natCast]; rintro e w1 ⟨rfl, rfl⟩))
        exact ⟨⟨k + 1, by omega, by go_num, by rw [mul_none a b k HB.out], hg⟩, by simp [intOf]; omega⟩
    · obtain rfl : k = 32 := by omega
      go_wp2_with (fail)
      go_ret
      exact ⟨ret1 (by rw [mul_word a b hb]), hg⟩

/-- 1, if a is less than b, else 0 -/
def lessN (a b : Nat) : Nat := if a < b then 1 else 0

set_option maxHeartbeats 1000000 in
theorem less_ref (a b : Nat) (ha : a < 4294967296) (hb : b < 4294967296) (w : World) :
    Calls Try.prog 22 #[.int .u32 a, .int .u32 b] w fun e w' => e = .returned (.int .u32 (lessN a b : Int)) ∧ w' = w := by
  go_enter Try.func22, Try.ntmps22
  go_wp2
  go_loopw [5] (fun i wr => ∃ x : Int, -1 ≤ x ∧ x ≤ 31 ∧ i = .int .i64 x ∧ a / 2 ^ (x + 1).toNat = b / 2 ^ (x + 1).toNat ∧ wr = w) (fun i _ => (intOf i + 1).toNat)
  case atStart =>
    refine ⟨31, by omega, by omega, rfl, ?_, rfl⟩
    show a / 2 ^ 32 = b / 2 ^ 32
    rw [Nat.div_eq_of_lt (by omega), Nat.div_eq_of_lt (by omega)]
  case round =>
    obtain ⟨x, hx1, hx2, rfl, hx, rfl⟩ := hrel
    by_cases hneg : x = -1
    · subst hneg
      have hab : a = b := by simpa using hx
      have HX := hide hab
      clear hab hx
      go_wp2_with (fail)
      go_ret
      exact ⟨ret1 (by rw [HX.out]; unfold lessN; rw [if_neg (by omega)]; rfl), rfl⟩
    · obtain ⟨k, rfl⟩ := Int.eq_ofNat_of_zero_le (show 0 ≤ x by omega)
      rw [show ((k : Int) + 1).toNat = k + 1 by omega] at hx
      have HX := hide hx
      clear hx
      have hbb := bitN_le b k
      by_cases he : bitN a k = bitN b k
      · have e1 : ((bitN a k : Int) != (bitN b k : Int)) = false := by simp [he]
        have HE := hide he
        clear he
        go_wp2_with (first | (go_at_call 17; refine (bit_calls _ _ (by assumption) (by omega) (by omega) _).mono ?_; rw [Int.toNat_natCast]; rintro e w1 ⟨rfl, rfl⟩))
        exact ⟨⟨(k : Int) - 1, by omega, by omega, rfl, by rw [show ((k : Int) - 1 + 1).toNat = k by omega]; exact less_same a b k HX.out HE.out, by trivial⟩, by simp [intOf]⟩
      · have e1 : ((bitN a k : Int) != (bitN b k : Int)) = true := by simp; omega
        have HE := hide he
        clear he
        go_wp2_with (first | (go_at_call 17; refine (bit_calls _ _ (by assumption) (by omega) (by omega) _).mono ?_; rw [Int.toNat_natCast]; rintro e w1 ⟨rfl, rfl⟩))
        go_ret
        exact ⟨ret1 (by rw [less_here a b k HX.out HE.out]; rfl), rfl⟩
end Go.Proofs.Ytijfdgkicfllaaa
