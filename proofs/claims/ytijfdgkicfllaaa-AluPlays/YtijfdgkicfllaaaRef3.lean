/-
  For any number as an operation and any two words: the reference's Do answers what the operation makes of them and 1, or 0 and 0 of another number. Conditions: words are below 2^32.
-/
import Derived.Test.YtijfdgkicfllaaaRef2
import Derived.Deep.RegionWith
namespace Go.Proofs.Ytijfdgkicfllaaa
open Go.ChangeShapes Go.WideShapes Go.ChangeAt Go.RowKit
set_option linter.unusedVariables false

/-- the digits that the reference lays for and, or, xor -/
def fOp (op : Int) (a b i : Nat) : Nat := if op = 6 then (bitN a i + bitN b i) / 2 else if op = 7 then (bitN a i + bitN b i + 1) / 2 else if op = 8 then (bitN a i + bitN b i) % 2 else 0
theorem fOp_le (op : Int) (a b i : Nat) : fOp op a b i ≤ 1 := by
  have := bitN_le a i
  have := bitN_le b i
  unfold fOp
  split
  · omega
  split
  · omega
  split <;> omega
/-- 1 of an operation, 0 of another number -/
def isN (op : Int) : Nat := if 3 ≤ op ∧ op ≤ 12 then 1 else 0
theorem retd {x y : Int} {z t : Int} (h : x = y) (h' : z = t) : Ending.returned (.tuple #[.int .u32 x, .int .i64 z]) = .returned (.tuple #[.int .u32 y, .int .i64 t]) := by rw [h, h']

theorem and_word (a b : Nat) (ha : a < 4294967296) : numB (fOp 6 a b) 0 32 = a &&& b := by
  have h1 : a &&& b < 2 ^ 32 := Nat.lt_of_le_of_lt Nat.and_le_left (by omega)
  rw [numB_congr (fOp 6 a b) (bitN (a &&& b)) 32 0 (fun i _ _ => (and_bit a b i))]
  exact numB_word _ (by omega)
theorem or_word (a b : Nat) (ha : a < 4294967296) (hb : b < 4294967296) : numB (fOp 7 a b) 0 32 = a ||| b := by
  have h2 : a ||| b < 2 ^ 32 := Nat.or_lt_two_pow (by omega) (by omega)
  rw [numB_congr (fOp 7 a b) (bitN (a ||| b)) 32 0 (fun i _ _ => (or_bit' a b i))]
  exact numB_word _ (by omega)
theorem xor_word (a b : Nat) (ha : a < 4294967296) (hb : b < 4294967296) : numB (fOp 8 a b) 0 32 = a ^^^ b := by
  have h3 : a ^^^ b < 2 ^ 32 := Nat.xor_lt_two_pow (by omega) (by omega)
  rw [numB_congr (fOp 8 a b) (bitN (a ^^^ b)) 32 0 (fun i _ _ => (xor_bit a b i))]
  exact numB_word _ (by omega)

theorem less_sum (a b : Nat) : (lessN a b : Int) + lessN b a ≤ 1 := by
  unfold lessN
  split <;> split <;> omega
theorem same_num (a b : Nat) : 1 - ((lessN a b : Int) + lessN b a) = doF 12 a b := by
  have e : doF 12 a b = if a = b then 1 else 0 := rfl
  rw [e]
  unfold lessN
  split <;> split <;> split <;> omega

set_option maxHeartbeats 1000000 in
theorem ref_add (a b : Nat) (ha : a < 4294967296) (hb : b < 4294967296) (w : World) :
    Calls Try.prog 10 #[.int .i64 3, .int .u32 a, .int .u32 b] w fun e w' => e = .returned (.tuple #[.int .u32 (doF 3 a b), .int .i64 1]) ∧ Gr w w' := by
  have hstart := dig_start (fOp 3 a b) w
  rw [arrV_zero] at hstart
  have HS := hide hstart
  clear hstart
  go_enter Try.func10, Try.ntmps10
  go_wp2
  go_loopw [9] (fun i wr => ∃ k : Nat, k ≤ 32 ∧ i = .int .i64 k ∧ Dig w.heap.size (fOp 3 a b) k w wr) (fun i _ => 32 - (intOf i).toNat)
  case atStart => exact ⟨0, by omega, rfl, HS.out⟩
  case round =>
    clear HS
    obtain ⟨k, hk, rfl, hd⟩ := hrel
    by_cases hlt : k < 32
    · have ha1 := bitN_le a k
      have hb1 := bitN_le b k
      obtain ⟨v, hv⟩ := dig_cell hd k hlt
      have hfz := dig_frozen hd k
      have HD := hide hd
      clear hd
      go_wp2_with (go_at_call 17; refine (bit_calls _ _ (by assumption) (by omega) (by omega) _).mono ?_; rw [Int.toNat_natCast]; rintro e w1 ⟨rfl, rfl⟩)
      exact ⟨⟨k + 1, by omega, by go_num, dig_keep HD.out hlt (by simp [fOp])⟩, by simp [intOf]; omega⟩
    · obtain rfl : k = 32 := by omega
      have hrow := hd.2.1
      have hg := hd.1
      clear hrow
      clear hd
      go_wp2_with (first | (go_at_call 18; refine (add_ref a b ha hb _).mono ?_; rintro e w1 ⟨rfl, hg1⟩))
      go_ret2
      exact ⟨retd (by rfl) (by rfl), grown_trans hg hg1⟩

set_option maxHeartbeats 1000000 in
theorem ref_sub (a b : Nat) (ha : a < 4294967296) (hb : b < 4294967296) (w : World) :
    Calls Try.prog 10 #[.int .i64 4, .int .u32 a, .int .u32 b] w fun e w' => e = .returned (.tuple #[.int .u32 (doF 4 a b), .int .i64 1]) ∧ Gr w w' := by
  have hstart := dig_start (fOp 4 a b) w
  rw [arrV_zero] at hstart
  have HS := hide hstart
  clear hstart
  go_enter Try.func10, Try.ntmps10
  go_wp2
  go_loopw [9] (fun i wr => ∃ k : Nat, k ≤ 32 ∧ i = .int .i64 k ∧ Dig w.heap.size (fOp 4 a b) k w wr) (fun i _ => 32 - (intOf i).toNat)
  case atStart => exact ⟨0, by omega, rfl, HS.out⟩
  case round =>
    clear HS
    obtain ⟨k, hk, rfl, hd⟩ := hrel
    by_cases hlt : k < 32
    · have ha1 := bitN_le a k
      have hb1 := bitN_le b k
      obtain ⟨v, hv⟩ := dig_cell hd k hlt
      have hfz := dig_frozen hd k
      have HD := hide hd
      clear hd
      go_wp2_with (go_at_call 17; refine (bit_calls _ _ (by assumption) (by omega) (by omega) _).mono ?_; rw [Int.toNat_natCast]; rintro e w1 ⟨rfl, rfl⟩)
      exact ⟨⟨k + 1, by omega, by go_num, dig_keep HD.out hlt (by simp [fOp])⟩, by simp [intOf]; omega⟩
    · obtain rfl : k = 32 := by omega
      have hrow := hd.2.1
      have hg := hd.1
      clear hrow
      clear hd
      go_wp2_with (first | (go_at_call 13; refine (minus_ref b hb _).mono ?_; rintro e w1 ⟨rfl, hg1⟩) | (go_at_call 18; refine (add_ref a ((4294967296 - b) % 4294967296) ha (by omega) _).mono ?_; rintro e w2 ⟨rfl, hg2⟩))
      go_ret2
      exact ⟨retd (by simp [doF]) (by rfl), grown_trans hg (grown_trans hg1 hg2)⟩

set_option maxHeartbeats 1000000 in
theorem ref_mul (a b : Nat) (ha : a < 4294967296) (hb : b < 4294967296) (w : World) :
    Calls Try.prog 10 #[.int .i64 5, .int .u32 a, .int .u32 b] w fun e w' => e = .returned (.tuple #[.int .u32 (doF 5 a b), .int .i64 1]) ∧ Gr w w' := by
  have hstart := dig_start (fOp 5 a b) w
  rw [arrV_zero] at hstart
  have HS := hide hstart
  clear hstart
  go_enter Try.func10, Try.ntmps10
  go_wp2
  go_loopw [9] (fun i wr => ∃ k : Nat, k ≤ 32 ∧ i = .int .i64 k ∧ Dig w.heap.size (fOp 5 a b) k w wr) (fun i _ => 32 - (intOf i).toNat)
  case atStart => exact ⟨0, by omega, rfl, HS.out⟩
  case round =>
    clear HS
    obtain ⟨k, hk, rfl, hd⟩ := hrel
    by_cases hlt : k < 32
    · have ha1 := bitN_le a k
      have hb1 := bitN_le b k
      obtain ⟨v, hv⟩ := dig_cell hd k hlt
      have hfz := dig_frozen hd k
      have HD := hide hd
      clear hd
      go_wp2_with (go_at_call 17; refine (bit_calls _ _ (by assumption) (by omega) (by omega) _).mono ?_; rw [Int.toNat_natCast]; rintro e w1 ⟨rfl, rfl⟩)
      exact ⟨⟨k + 1, by omega, by go_num, dig_keep HD.out hlt (by simp [fOp])⟩, by simp [intOf]; omega⟩
    · obtain rfl : k = 32 := by omega
      have hrow := hd.2.1
      have hg := hd.1
      clear hrow
      clear hd
      go_wp2_with (first | (go_at_call 19; refine (mul_ref a b ha hb _).mono ?_; rintro e w1 ⟨rfl, hg1⟩))
      go_ret2
      exact ⟨retd (by rfl) (by rfl), grown_trans hg hg1⟩

set_option maxHeartbeats 1000000 in
theorem ref_and (a b : Nat) (ha : a < 4294967296) (hb : b < 4294967296) (w : World) :
    Calls Try.prog 10 #[.int .i64 6, .int .u32 a, .int .u32 b] w fun e w' => e = .returned (.tuple #[.int .u32 (doF 6 a b), .int .i64 1]) ∧ Gr w w' := by
  have hstart := dig_start (fOp 6 a b) w
  rw [arrV_zero] at hstart
  have HS := hide hstart
  clear hstart
  go_enter Try.func10, Try.ntmps10
  go_wp2
  go_loopw [9] (fun i wr => ∃ k : Nat, k ≤ 32 ∧ i = .int .i64 k ∧ Dig w.heap.size (fOp 6 a b) k w wr) (fun i _ => 32 - (intOf i).toNat)
  case atStart => exact ⟨0, by omega, rfl, HS.out⟩
  case round =>
    clear HS
    obtain ⟨k, hk, rfl, hd⟩ := hrel
    by_cases hlt : k < 32
    · have ha1 := bitN_le a k
      have hb1 := bitN_le b k
      obtain ⟨v, hv⟩ := dig_cell hd k hlt
      have hfz := dig_frozen hd k
      have HD := hide hd
      clear hd
      go_wp2_with (go_at_call 17; refine (bit_calls _ _ (by assumption) (by omega) (by omega) _).mono ?_; rw [Int.toNat_natCast]; rintro e w1 ⟨rfl, rfl⟩)
      exact ⟨⟨k + 1, by omega, by go_num, dig_set HD.out hlt (by simp [fOp])⟩, by simp [intOf]; omega⟩
    · obtain rfl : k = 32 := by omega
      have hrow := hd.2.1
      have hg := hd.1
      have hi : (Try.prog.info? 44).map (·.size) = some (arrV (fOp 6 a b) 32).size := by rw [arrV_size]; kernel_rfl
      clear hd
      go_wp2_with (first | (refine wpList_load_row rfl 44 _ rfl w.heap.size rfl 44 (arrV (fOp 6 a b) 32) (0, 0) _ hrow Try.underlying44 rfl hi ?_) | (go_at_call 20; refine (of_calls _ (fOp_le 6 a b) _).mono ?_; rintro e w1 ⟨rfl, hg1⟩))
      go_ret2
      exact ⟨retd (by rw [and_word a b ha]; rfl) (by rfl), grown_trans hg hg1⟩

set_option maxHeartbeats 1000000 in
theorem ref_or (a b : Nat) (ha : a < 4294967296) (hb : b < 4294967296) (w : World) :
    Calls Try.prog 10 #[.int .i64 7, .int .u32 a, .int .u32 b] w fun e w' => e = .returned (.tuple #[.int .u32 (doF 7 a b), .int .i64 1]) ∧ Gr w w' := by
  have hstart := dig_start (fOp 7 a b) w
  rw [arrV_zero] at hstart
  have HS := hide hstart
  clear hstart
  go_enter Try.func10, Try.ntmps10
  go_wp2
  go_loopw [9] (fun i wr => ∃ k : Nat, k ≤ 32 ∧ i = .int .i64 k ∧ Dig w.heap.size (fOp 7 a b) k w wr) (fun i _ => 32 - (intOf i).toNat)
  case atStart => exact ⟨0, by omega, rfl, HS.out⟩
  case round =>
    clear HS
    obtain ⟨k, hk, rfl, hd⟩ := hrel
    by_cases hlt : k < 32
    · have ha1 := bitN_le a k
      have hb1 := bitN_le b k
      obtain ⟨v, hv⟩ := dig_cell hd k hlt
      have hfz := dig_frozen hd k
      have HD := hide hd
      clear hd
      go_wp2_with (go_at_call 17; refine (bit_calls _ _ (by assumption) (by omega) (by omega) _).mono ?_; rw [Int.toNat_natCast]; rintro e w1 ⟨rfl, rfl⟩)
      exact ⟨⟨k + 1, by omega, by go_num, dig_set HD.out hlt (by simp [fOp])⟩, by simp [intOf]; omega⟩
    · obtain rfl : k = 32 := by omega
      have hrow := hd.2.1
      have hg := hd.1
      have hi : (Try.prog.info? 44).map (·.size) = some (arrV (fOp 7 a b) 32).size := by rw [arrV_size]; kernel_rfl
      clear hd
      go_wp2_with (first | (refine wpList_load_row rfl 44 _ rfl w.heap.size rfl 44 (arrV (fOp 7 a b) 32) (0, 0) _ hrow Try.underlying44 rfl hi ?_) | (go_at_call 20; refine (of_calls _ (fOp_le 7 a b) _).mono ?_; rintro e w1 ⟨rfl, hg1⟩))
      go_ret2
      exact ⟨retd (by rw [or_word a b ha hb]; rfl) (by rfl), grown_trans hg hg1⟩

set_option maxHeartbeats 1000000 in
theorem ref_xor (a b : Nat) (ha : a < 4294967296) (hb : b < 4294967296) (w : World) :
    Calls Try.prog 10 #[.int .i64 8, .int .u32 a, .int .u32 b] w fun e w' => e = .returned (.tuple #[.int .u32 (doF 8 a b), .int .i64 1]) ∧ Gr w w' := by
  have hstart := dig_start (fOp 8 a b) w
  rw [arrV_zero] at hstart
  have HS := hide hstart
  clear hstart
  go_enter Try.func10, Try.ntmps10
  go_wp2
  go_loopw [9] (fun i wr => ∃ k : Nat, k ≤ 32 ∧ i = .int .i64 k ∧ Dig w.heap.size (fOp 8 a b) k w wr) (fun i _ => 32 - (intOf i).toNat)
  case atStart => exact ⟨0, by omega, rfl, HS.out⟩
  case round =>
    clear HS
    obtain ⟨k, hk, rfl, hd⟩ := hrel
    by_cases hlt : k < 32
    · have ha1 := bitN_le a k
      have hb1 := bitN_le b k
      obtain ⟨v, hv⟩ := dig_cell hd k hlt
      have hfz := dig_frozen hd k
      have HD := hide hd
      clear hd
      go_wp2_with (go_at_call 17; refine (bit_calls _ _ (by assumption) (by omega) (by omega) _).mono ?_; rw [Int.toNat_natCast]; rintro e w1 ⟨rfl, rfl⟩)
      exact ⟨⟨k + 1, by omega, by go_num, dig_set HD.out hlt (by simp [fOp])⟩, by simp [intOf]; omega⟩
    · obtain rfl : k = 32 := by omega
      have hrow := hd.2.1
      have hg := hd.1
      have hi : (Try.prog.info? 44).map (·.size) = some (arrV (fOp 8 a b) 32).size := by rw [arrV_size]; kernel_rfl
      clear hd
      go_wp2_with (first | (refine wpList_load_row rfl 44 _ rfl w.heap.size rfl 44 (arrV (fOp 8 a b) 32) (0, 0) _ hrow Try.underlying44 rfl hi ?_) | (go_at_call 20; refine (of_calls _ (fOp_le 8 a b) _).mono ?_; rintro e w1 ⟨rfl, hg1⟩))
      go_ret2
      exact ⟨retd (by rw [xor_word a b ha hb]; rfl) (by rfl), grown_trans hg hg1⟩

set_option maxHeartbeats 1000000 in
theorem ref_shl (a b : Nat) (ha : a < 4294967296) (hb : b < 4294967296) (w : World) :
    Calls Try.prog 10 #[.int .i64 9, .int .u32 a, .int .u32 b] w fun e w' => e = .returned (.tuple #[.int .u32 (doF 9 a b), .int .i64 1]) ∧ Gr w w' := by
  have hstart := dig_start (fOp 9 a b) w
  rw [arrV_zero] at hstart
  have HS := hide hstart
  clear hstart
  go_enter Try.func10, Try.ntmps10
  go_wp2
  go_loopw [9] (fun i wr => ∃ k : Nat, k ≤ 32 ∧ i = .int .i64 k ∧ Dig w.heap.size (fOp 9 a b) k w wr) (fun i _ => 32 - (intOf i).toNat)
  case atStart => exact ⟨0, by omega, rfl, HS.out⟩
  case round =>
    clear HS
    obtain ⟨k, hk, rfl, hd⟩ := hrel
    by_cases hlt : k < 32
    · have ha1 := bitN_le a k
      have hb1 := bitN_le b k
      obtain ⟨v, hv⟩ := dig_cell hd k hlt
      have hfz := dig_frozen hd k
      have HD := hide hd
      clear hd
      go_wp2_with (go_at_call 17; refine (bit_calls _ _ (by assumption) (by omega) (by omega) _).mono ?_; rw [Int.toNat_natCast]; rintro e w1 ⟨rfl, rfl⟩)
      exact ⟨⟨k + 1, by omega, by go_num, dig_keep HD.out hlt (by simp [fOp])⟩, by simp [intOf]; omega⟩
    · obtain rfl : k = 32 := by omega
      have hrow := hd.2.1
      have hg := hd.1
      clear hrow
      clear hd
      go_wp2_with (first | (go_at_call 21; refine (move_ref a _ ha (by omega) (by omega) _).mono ?_; rintro e w1 ⟨rfl, hg1⟩))
      go_ret2
      exact ⟨retd (by rw [show ((b : Int) % 32) = ((b % 32 : Nat) : Int) by omega, up_word]; rfl) (by rfl), grown_trans hg hg1⟩

set_option maxHeartbeats 1000000 in
theorem ref_shr (a b : Nat) (ha : a < 4294967296) (hb : b < 4294967296) (w : World) :
    Calls Try.prog 10 #[.int .i64 10, .int .u32 a, .int .u32 b] w fun e w' => e = .returned (.tuple #[.int .u32 (doF 10 a b), .int .i64 1]) ∧ Gr w w' := by
  have hstart := dig_start (fOp 10 a b) w
  rw [arrV_zero] at hstart
  have HS := hide hstart
  clear hstart
  go_enter Try.func10, Try.ntmps10
  go_wp2
  go_loopw [9] (fun i wr => ∃ k : Nat, k ≤ 32 ∧ i = .int .i64 k ∧ Dig w.heap.size (fOp 10 a b) k w wr) (fun i _ => 32 - (intOf i).toNat)
  case atStart => exact ⟨0, by omega, rfl, HS.out⟩
  case round =>
    clear HS
    obtain ⟨k, hk, rfl, hd⟩ := hrel
    by_cases hlt : k < 32
    · have ha1 := bitN_le a k
      have hb1 := bitN_le b k
      obtain ⟨v, hv⟩ := dig_cell hd k hlt
      have hfz := dig_frozen hd k
      have HD := hide hd
      clear hd
      go_wp2_with (go_at_call 17; refine (bit_calls _ _ (by assumption) (by omega) (by omega) _).mono ?_; rw [Int.toNat_natCast]; rintro e w1 ⟨rfl, rfl⟩)
      exact ⟨⟨k + 1, by omega, by go_num, dig_keep HD.out hlt (by simp [fOp])⟩, by simp [intOf]; omega⟩
    · obtain rfl : k = 32 := by omega
      have hrow := hd.2.1
      have hg := hd.1
      clear hrow
      clear hd
      go_wp2_with (first | (go_at_call 21; refine (move_ref a _ ha (by omega) (by omega) _).mono ?_; rintro e w1 ⟨rfl, hg1⟩))
      go_ret2
      exact ⟨retd (by rw [show (-((b : Int) % 32)) = -((b % 32 : Nat) : Int) by omega, down_word a _ ha]; rfl) (by rfl), grown_trans hg hg1⟩

set_option maxHeartbeats 1000000 in
theorem ref_less (a b : Nat) (ha : a < 4294967296) (hb : b < 4294967296) (w : World) :
    Calls Try.prog 10 #[.int .i64 11, .int .u32 a, .int .u32 b] w fun e w' => e = .returned (.tuple #[.int .u32 (doF 11 a b), .int .i64 1]) ∧ Gr w w' := by
  have hstart := dig_start (fOp 11 a b) w
  rw [arrV_zero] at hstart
  have HS := hide hstart
  clear hstart
  go_enter Try.func10, Try.ntmps10
  go_wp2
  go_loopw [9] (fun i wr => ∃ k : Nat, k ≤ 32 ∧ i = .int .i64 k ∧ Dig w.heap.size (fOp 11 a b) k w wr) (fun i _ => 32 - (intOf i).toNat)
  case atStart => exact ⟨0, by omega, rfl, HS.out⟩
  case round =>
    clear HS
    obtain ⟨k, hk, rfl, hd⟩ := hrel
    by_cases hlt : k < 32
    · have ha1 := bitN_le a k
      have hb1 := bitN_le b k
      obtain ⟨v, hv⟩ := dig_cell hd k hlt
      have hfz := dig_frozen hd k
      have HD := hide hd
      clear hd
      go_wp2_with (go_at_call 17; refine (bit_calls _ _ (by assumption) (by omega) (by omega) _).mono ?_; rw [Int.toNat_natCast]; rintro e w1 ⟨rfl, rfl⟩)
      exact ⟨⟨k + 1, by omega, by go_num, dig_keep HD.out hlt (by simp [fOp])⟩, by simp [intOf]; omega⟩
    · obtain rfl : k = 32 := by omega
      have hrow := hd.2.1
      have hg := hd.1
      clear hrow
      clear hd
      go_wp2_with (first | (go_at_call 22; refine (less_ref a b ha hb _).mono ?_; rintro e w1 ⟨rfl, rfl⟩))
      go_ret2
      exact ⟨retd (by rfl) (by rfl), hg⟩

set_option maxHeartbeats 1000000 in
theorem ref_same (a b : Nat) (ha : a < 4294967296) (hb : b < 4294967296) (w : World) :
    Calls Try.prog 10 #[.int .i64 12, .int .u32 a, .int .u32 b] w fun e w' => e = .returned (.tuple #[.int .u32 (doF 12 a b), .int .i64 1]) ∧ Gr w w' := by
  have hstart := dig_start (fOp 12 a b) w
  rw [arrV_zero] at hstart
  have HS := hide hstart
  clear hstart
  go_enter Try.func10, Try.ntmps10
  go_wp2
  go_loopw [9] (fun i wr => ∃ k : Nat, k ≤ 32 ∧ i = .int .i64 k ∧ Dig w.heap.size (fOp 12 a b) k w wr) (fun i _ => 32 - (intOf i).toNat)
  case atStart => exact ⟨0, by omega, rfl, HS.out⟩
  case round =>
    clear HS
    obtain ⟨k, hk, rfl, hd⟩ := hrel
    by_cases hlt : k < 32
    · have ha1 := bitN_le a k
      have hb1 := bitN_le b k
      obtain ⟨v, hv⟩ := dig_cell hd k hlt
      have hfz := dig_frozen hd k
      have HD := hide hd
      clear hd
      go_wp2_with (go_at_call 17; refine (bit_calls _ _ (by assumption) (by omega) (by omega) _).mono ?_; rw [Int.toNat_natCast]; rintro e w1 ⟨rfl, rfl⟩)
      exact ⟨⟨k + 1, by omega, by go_num, dig_keep HD.out hlt (by simp [fOp])⟩, by simp [intOf]; omega⟩
    · obtain rfl : k = 32 := by omega
      have hrow := hd.2.1
      have hg := hd.1
      clear hrow
      clear hd
      have hs := less_sum a b
      go_wp2_with (fail)
      refine (less_ref a b ha hb _).mono ?_
      rintro e w1 ⟨rfl, rfl⟩
      go_wp2_with (fail)
      refine (less_ref b a hb ha _).mono ?_
      rintro e w1 ⟨rfl, rfl⟩
      go_wp2_with (fail)
      go_ret2
      exact ⟨retd (same_num a b) (by rfl), hg⟩

set_option maxHeartbeats 1000000 in
theorem ref_none (a b : Nat) (op : Int) (g3 : (op == 3) = false) (g4 : (op == 4) = false) (g5 : (op == 5) = false) (g6 : (op == 6) = false) (g7 : (op == 7) = false) (g8 : (op == 8) = false) (g9 : (op == 9) = false) (g10 : (op == 10) = false) (g11 : (op == 11) = false) (g12 : (op == 12) = false) (hz : Hid (∀ i, fOp op a b i = 0)) (ha : a < 4294967296) (hb : b < 4294967296) (w : World) :
    Calls Try.prog 10 #[.int .i64 op, .int .u32 a, .int .u32 b] w fun e w' => e = .returned (.tuple #[.int .u32 0, .int .i64 0]) ∧ Gr w w' := by
  have hstart := dig_start (fOp op a b) w
  rw [arrV_zero] at hstart
  have HS := hide hstart
  clear hstart
  go_enter Try.func10, Try.ntmps10
  go_wp2
  go_loopw [9] (fun i wr => ∃ k : Nat, k ≤ 32 ∧ i = .int .i64 k ∧ Dig w.heap.size (fOp op a b) k w wr) (fun i _ => 32 - (intOf i).toNat)
  case atStart => exact ⟨0, by omega, rfl, HS.out⟩
  case round =>
    clear HS
    obtain ⟨k, hk, rfl, hd⟩ := hrel
    by_cases hlt : k < 32
    · have ha1 := bitN_le a k
      have hb1 := bitN_le b k
      obtain ⟨v, hv⟩ := dig_cell hd k hlt
      have hfz := dig_frozen hd k
      have HD := hide hd
      clear hd
      go_wp2_with (go_at_call 17; refine (bit_calls _ _ (by assumption) (by omega) (by omega) _).mono ?_; rw [Int.toNat_natCast]; rintro e w1 ⟨rfl, rfl⟩)
      exact ⟨⟨k + 1, by omega, by go_num, dig_keep HD.out hlt (hz.out k)⟩, by simp [intOf]; omega⟩
    · obtain rfl : k = 32 := by omega
      have hrow := hd.2.1
      have hg := hd.1
      clear hrow
      clear hd
      go_wp2_with (fail)
      go_ret2
      exact ⟨rfl, hg⟩

theorem ref_do (op : Int) (a b : Nat) (ha : a < 4294967296) (hb : b < 4294967296) (w : World) :
    Calls Try.prog 10 #[.int .i64 op, .int .u32 a, .int .u32 b] w fun e w' => e = .returned (.tuple #[.int .u32 (doF op a b), .int .i64 (isN op)]) ∧ Gr w w' := by
  by_cases h3 : op = 3
  · subst h3; exact ref_add a b ha hb w
  by_cases h4 : op = 4
  · subst h4; exact ref_sub a b ha hb w
  by_cases h5 : op = 5
  · subst h5; exact ref_mul a b ha hb w
  by_cases h6 : op = 6
  · subst h6; exact ref_and a b ha hb w
  by_cases h7 : op = 7
  · subst h7; exact ref_or a b ha hb w
  by_cases h8 : op = 8
  · subst h8; exact ref_xor a b ha hb w
  by_cases h9 : op = 9
  · subst h9; exact ref_shl a b ha hb w
  by_cases h10 : op = 10
  · subst h10; exact ref_shr a b ha hb w
  by_cases h11 : op = 11
  · subst h11; exact ref_less a b ha hb w
  by_cases h12 : op = 12
  · subst h12; exact ref_same a b ha hb w
  have e0 : doF op a b = 0 := by simp [doF, h3, h4, h5, h6, h7, h8, h9, h10, h11, h12]
  have e1 : isN op = 0 := by unfold isN; rw [if_neg (by omega)]
  rw [e0, e1]
  exact ref_none a b op (by simp [h3]) (by simp [h4]) (by simp [h5]) (by simp [h6]) (by simp [h7]) (by simp [h8]) (by simp [h9]) (by simp [h10]) (by simp [h11]) (by simp [h12]) (fun i => by simp [fOp, h6, h7, h8]) ha hb w
end Go.Proofs.Ytijfdgkicfllaaa
