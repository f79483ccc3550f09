/-
  For any word and any digits: the reference's 'bit' and 'of' answer the digit and the number of the digits. Conditions: digits are 0 or 1, places are from 0 to 31.
-/
import Derived.Test.YtfhplbmgjgfihaaGreatDoorZzab
import Derived.Test.YtfhplbmgjgfihaaGreatDoorZzaa
import Derived.Test.YtfhplbmgjgfihaaGreatDoorZzaw
import Derived.Laws.Rows
import Derived.Laws.DeepBits32
import Derived.Deep.RegionWith
namespace Go.Proofs.YtfhplbmgjgfihaaGreatDoor.Ra
open Go.ChangeShapes Go.WideShapes Go.ChangeAt Go.RowKit
set_option linter.unusedVariables false
set_option maxRecDepth 20000
theorem grown_trans {a b c : World} (h : Gr a b) (k : Gr b c) : Gr a c := h.trans k
theorem reti {x y : Int} (h : x = y) : Ending.returned (.int .i64 x) = .returned (.int .i64 y) := by rw [h]

theorem bit_num (n k : Nat) (hn : n < 4294967296) : wrap64 (bits BinOp.and IntKind.u32 ((n : Int) / 2 ^ k) 1) = bitN n k := by
  have hd : n / 2 ^ k ≤ n := Nat.div_le_self _ _
  have h := u32_and_nat (n / 2 ^ k) 1 (by omega) (by omega)
  have e : ((n / 2 ^ k : Nat) : Int) = (n : Int) / 2 ^ k := by simp
  have e1 : bits BinOp.and IntKind.u32 ((n : Int) / 2 ^ k) 1 = bitN n k := by
    rw [← e]
    refine h.trans ?_
    rw [Nat.and_one_is_mod]
    rfl
  have hb := bitN_le n k
  rw [e1]
  unfold wrap64
  omega

set_option maxHeartbeats 400000 in
theorem bit_calls (n : Nat) (i : Int) (hn : n < 4294967296) (h0 : 0 ≤ i) (h1 : i < 32) (w : World) :
    Calls Tryz.prog 79 #[.int .u32 n, .int .i64 i] w fun e w' => e = .returned (.int .i64 (bitN n i.toNat)) ∧ w' = w := by
  obtain ⟨k, rfl⟩ := Int.eq_ofNat_of_zero_le h0
  rw [Int.toNat_natCast]
  go_enter Tryz.func79, Tryz.ntmps79
  go_wp2
  go_ret
  exact ⟨reti (bit_num n k hn), rfl⟩

/-- 32 digits in memory, the first k of them those of f, the others 0 -/
def arrV (f : Nat → Nat) (k : Nat) : Array Value := ((List.range 32).map fun i => Value.int .i64 ((if i < k then f i else 0 : Nat) : Int)).toArray

theorem arrV_at (f : Nat → Nat) (k i : Nat) (h : i < 32) : (arrV f k)[i]? = some (.int .i64 ((if i < k then f i else 0 : Nat) : Int)) := by
  unfold arrV
  simp [h]
theorem arrV_size (f : Nat → Nat) (k : Nat) : (arrV f k).size = 32 := by simp [arrV]
theorem arrV_set (f : Nat → Nat) (k : Nat) (h : k < 32) : (arrV f k).setIfInBounds k (.int .i64 (f k)) = arrV f (k + 1) := by
  apply Array.ext
  · simp [arrV]
  · intro i h1 h2
    have hi : i < 32 := by simpa [arrV] using h2
    rw [Array.getElem_setIfInBounds (by simpa [arrV] using h2)]
    simp only [arrV, List.getElem_toArray, List.getElem_map, List.getElem_range]
    by_cases e : k = i
    · subst e; simp
    · by_cases e2 : i < k
      · rw [if_neg e, if_pos e2, if_pos (by omega)]
      · rw [if_neg e, if_neg e2, if_neg (by omega)]
theorem arrV_zero (f : Nat → Nat) : arrV f 0 = #[.int .i64 0, .int .i64 0, .int .i64 0, .int .i64 0, .int .i64 0, .int .i64 0, .int .i64 0, .int .i64 0, .int .i64 0, .int .i64 0, .int .i64 0, .int .i64 0, .int .i64 0, .int .i64 0, .int .i64 0, .int .i64 0, .int .i64 0, .int .i64 0, .int .i64 0, .int .i64 0, .int .i64 0, .int .i64 0, .int .i64 0, .int .i64 0, .int .i64 0, .int .i64 0, .int .i64 0, .int .i64 0, .int .i64 0, .int .i64 0, .int .i64 0, .int .i64 0] := by
  unfold arrV
  simp [List.range, List.range.loop]

theorem of_step (f : Nat → Nat) (k n : Nat) (hf : Hid (∀ i, f i ≤ 1)) (hk : k ≤ 31) (hn : numB f ((k : Int) + 1).toNat (31 - (k : Int)).toNat = n) :
    Value.int .u32 (bits .or .u32 ((n : Int) * 2 % 4294967296) (f k)) = Value.int .u32 (numB f ((k : Int) - 1 + 1).toNat (31 - ((k : Int) - 1)).toNat) := by
  have e1 : ((k : Int) + 1).toNat = k + 1 := by omega
  have e2 : (31 - (k : Int)).toNat = 31 - k := by omega
  have e3 : ((k : Int) - 1 + 1).toNat = k := by omega
  have e4 : (31 - ((k : Int) - 1)).toNat = (31 - k) + 1 := by omega
  rw [e1, e2] at hn
  rw [e3, e4]
  have hl := numB_lt f hf.out (31 - k) (k + 1)
  have hp : 2 ^ (31 - k) ≤ 2 ^ 31 := Nat.pow_le_pow_right (by omega) (by omega)
  have hfk := hf.out k
  rw [hn] at hl
  have h1 : (n : Int) * 2 % 4294967296 = ((n * 2 : Nat) : Int) := by omega
  rw [h1, u32_or_nat (n * 2) (f k) (by omega) (by omega), or_bit (n * 2) (f k) (by omega) hfk]
  have h2 : numB f k (31 - k + 1) = f k + 2 * numB f (k + 1) (31 - k) := rfl
  rw [h2, hn]
  congr 2
  omega

set_option maxHeartbeats 400000 in
theorem of_calls (f : Nat → Nat) (hf : ∀ i, f i ≤ 1) (w : World) :
    Calls Tryz.prog 80 #[.agg (arrV f 32)] w fun e w' => e = .returned (.int .u32 (numB f 0 32)) ∧ Gr w w' := by
  go_enter Tryz.func80, Tryz.ntmps80
  go_wp2
  go_loop [3, 4] (fun n i => ∃ x : Int, -1 ≤ x ∧ x ≤ 31 ∧ i = .int .i64 x ∧ n = .int .u32 (numB f (x + 1).toNat (31 - x).toNat)) (fun _ i => (intOf i + 1).toNat)
  case atStart => exact ⟨31, by omega, by omega, rfl, rfl⟩
  case round =>
    obtain ⟨x, hx1, hx2, rfl, rfl⟩ := hrel
    by_cases hneg : x = -1
    · subst hneg
      go_wp2
      go_ret
      exact ⟨rfl, Gr.alloc (Gr.refl _) _ _⟩
    · obtain ⟨k, rfl⟩ := Int.eq_ofNat_of_zero_le (show 0 ≤ x by omega)
      have hk : k ≤ 31 := by omega
      have hfk := hf k
      have hat := arrV_at f 32 k (by omega)
      rw [if_pos (show k < 32 by omega)] at hat
      generalize hn : numB f ((k : Int) + 1).toNat (31 - (k : Int)).toNat = n
      have HN := hide hn
      have hf' : Hid (∀ i, f i ≤ 1) := hf
      clear hn hf
      go_wp2
      exact ⟨⟨(k : Int) - 1, by omega, by omega, rfl, of_step f k n hf' hk HN.out⟩, by simp [intOf]⟩

/-- of a world that has grown: a block that holds 32 digits, the first k of them those of f -/
def Dig (g : Nat) (f : Nat → Nat) (k : Nat) (w wr : World) : Prop := Gr w wr ∧ wr.heap[g]? = some (.cells (arrV f k) 142 (0, 0)) ∧ w.heap.size ≤ g
theorem dig_cell {g : Nat} {f : Nat → Nat} {k : Nat} {w wr : World} (h : Dig g f k w wr) (j : Nat) (hj : j < 32) : ∃ v, wr.cell? ⟨g, j, none⟩ = some (.int .i64 v) := by
  refine ⟨_, (cell_of_row wr g j _ _ _ h.2.1).trans (arrV_at f k j hj)⟩
theorem dig_frozen {g : Nat} {f : Nat → Nat} {k : Nat} {w wr : World} (h : Dig g f k w wr) (j : Nat) : wr.frozen? ⟨g, j, none⟩ = false := frozen_of_row wr g j _ _ h.2.1
theorem dig_set {g : Nat} {f : Nat → Nat} {k : Nat} {w wr : World} (h : Dig g f k w wr) (hk : k < 32) {v : Int} (hv : v = f k) : Dig g f (k + 1) w (wr.setCell ⟨g, k, none⟩ (.int .i64 v)) := by
  subst hv
  refine ⟨h.1.setCell h.2.2 _, ?_, h.2.2⟩
  rw [heap_setCell_same wr g k _ _ _ h.2.1, arrV_set f k hk]
theorem dig_keep {g : Nat} {f : Nat → Nat} {k : Nat} {w wr : World} (h : Dig g f k w wr) (hk : k < 32) (hv : f k = 0) : Dig g f (k + 1) w wr := by
  refine ⟨h.1, ?_, h.2.2⟩
  have e : arrV f (k + 1) = arrV f k := by
    unfold arrV
    congr 2
    funext i
    by_cases e2 : i < k
    · rw [if_pos e2, if_pos (by omega)]
    · by_cases e3 : i = k
      · subst e3; rw [if_pos (by omega), if_neg (by omega), hv]
      · rw [if_neg e2, if_neg (by omega)]
  rw [e]
  exact h.2.1
theorem dig_start (f : Nat → Nat) (w : World) : Dig w.heap.size f 0 w (w.alloc (.cells (arrV f 0) 142)) :=
  ⟨Gr.alloc (Gr.refl _) _ _, heap_alloc_new w _, Nat.le_refl _⟩

theorem num_i64 {x y : Int} (h : x = y) : Value.int .i64 x = .int .i64 y := by rw [h]
theorem num_u32 {x y : Int} (h : x = y) : Value.int .u32 x = .int .u32 y := by rw [h]
theorem carry_step (a b k : Nat) : ((bitN a k : Int) + bitN b k + carryF a b k) / 2 = (carryF a b (k + 1) : Nat) := by
  show _ = (((bitN a k + bitN b k + carryF a b k) / 2 : Nat) : Int)
  omega
theorem sum_step (a b k : Nat) : ((bitN a k : Int) + bitN b k + carryF a b k) % 2 = (addF a b k : Nat) := by
  show _ = (((bitN a k + bitN b k + carryF a b k) % 2 : Nat) : Int)
  omega

set_option maxHeartbeats 1000000 in
theorem add_ref (a b : Nat) (ha : a < 4294967296) (hb : b < 4294967296) (w : World) :
    Calls Tryz.prog 55 #[.int .u32 a, .int .u32 b] w fun e w' => e = .returned (.int .u32 ((a + b) % 4294967296 : Nat)) ∧ Gr w w' := by
  have hstart := dig_start (addF a b) w
  rw [arrV_zero] at hstart
  have HS := hide hstart
  clear hstart
  go_enter Tryz.func55, Tryz.ntmps55
  go_wp2
  go_loopw [6, 7] (fun c i wr => ∃ k : Nat, k ≤ 32 ∧ i = .int .i64 k ∧ c = .int .i64 (carryF a b k) ∧ Dig w.heap.size (addF a b) k w wr) (fun _ i _ => 32 - (intOf i).toNat)
  case atStart => exact ⟨0, by omega, rfl, rfl, HS.out⟩
  case round =>
    obtain ⟨k, hk, rfl, rfl, hd⟩ := hrel
    have hc := carryF_le a b k
    have ha1 := bitN_le a k
    have hb1 := bitN_le b k
    by_cases hlt : k < 32
    · obtain ⟨v, hv⟩ := dig_cell hd k hlt
      have hfz := dig_frozen hd k
      have HD := hide hd
      clear hd
      go_wp2_with (go_at_call 79; refine (bit_calls _ _ (by assumption) (by omega) (by omega) _).mono ?_; rw [Int.toNat_natCast]; rintro e w1 ⟨rfl, rfl⟩)
      exact ⟨⟨k + 1, by omega, by go_num, num_i64 (carry_step a b k), dig_set HD.out hlt (sum_step a b k)⟩, by simp [intOf]; omega⟩
    · obtain rfl : k = 32 := by omega
      have hrow := hd.2.1
      have hg := hd.1
      have hi : (Tryz.prog.info? 142).map (·.size) = some (arrV (addF a b) 32).size := by rw [arrV_size]; kernel_rfl
      clear hd
      go_wp2_with (first | (refine wpList_load_row rfl 142 _ rfl w.heap.size rfl 142 (arrV (addF a b) 32) (0, 0) _ hrow Tryz.underlying142 rfl hi ?_) | (go_at_call 80; refine (of_calls _ (addF_le a b) _).mono ?_; rintro e w1 ⟨rfl, hg1⟩))
      go_ret
      exact ⟨ret1 (by rw [add_word a b ha hb]), grown_trans hg hg1⟩
def notF (n i : Nat) : Nat := 1 - bitN n i
theorem notF_le (n i : Nat) : notF n i ≤ 1 := by unfold notF; omega
theorem notF_word (n : Nat) (h : n < 4294967296) : numB (notF n) 0 32 = 4294967295 - n := not_word n h

set_option maxHeartbeats 1000000 in
theorem minus_ref (n : Nat) (hn : n < 4294967296) (w : World) :
    Calls Tryz.prog 81 #[.int .u32 n] w fun e w' => e = .returned (.int .u32 ((4294967296 - n) % 4294967296 : Nat)) ∧ Gr w w' := by
  have hstart := dig_start (notF n) w
  rw [arrV_zero] at hstart
  have HS := hide hstart
  clear hstart
  go_enter Tryz.func81, Tryz.ntmps81
  go_wp2
  go_loopw [4] (fun i wr => ∃ k : Nat, k ≤ 32 ∧ i = .int .i64 k ∧ Dig w.heap.size (notF n) k w wr) (fun i _ => 32 - (intOf i).toNat)
  case atStart => exact ⟨0, by omega, rfl, HS.out⟩
  case round =>
    obtain ⟨k, hk, rfl, hd⟩ := hrel
    have ha1 := bitN_le n k
    by_cases hlt : k < 32
    · obtain ⟨v, hv⟩ := dig_cell hd k hlt
      have hfz := dig_frozen hd k
      have HD := hide hd
      clear hd
      go_wp2_with (go_at_call 79; refine (bit_calls _ _ (by assumption) (by omega) (by omega) _).mono ?_; rw [Int.toNat_natCast]; rintro e w1 ⟨rfl, rfl⟩)
      exact ⟨⟨k + 1, by omega, by go_num, dig_set HD.out hlt (by unfold notF; omega)⟩, by simp [intOf]; omega⟩
    · obtain rfl : k = 32 := by omega
      have hrow := hd.2.1
      have hg := hd.1
      have hi : (Tryz.prog.info? 142).map (·.size) = some (arrV (notF n) 32).size := by rw [arrV_size]; kernel_rfl
      clear hd
      go_wp2_with (first | (refine wpList_load_row rfl 142 _ rfl w.heap.size rfl 142 (arrV (notF n) 32) (0, 0) _ hrow Tryz.underlying142 rfl hi ?_) | (go_at_call 80; refine (of_calls _ (notF_le n) _).mono ?_; rw [notF_word n hn]; rintro e w1 ⟨rfl, hg1⟩) | (go_at_call 55; refine (add_ref (4294967295 - n) 1 (by omega) (by omega) _).mono ?_; rintro e w2 ⟨rfl, hg2⟩))
      go_ret
      exact ⟨ret1 (by omega), grown_trans hg (grown_trans hg1 hg2)⟩

set_option maxHeartbeats 1000000 in
theorem move_ref (n : Nat) (s : Int) (hn : n < 4294967296) (h0 : -32 < s) (h1 : s < 32) (w : World) :
    Calls Tryz.prog 83 #[.int .u32 n, .int .i64 s] w fun e w' => e = .returned (.int .u32 (numB (moveF n s) 0 32)) ∧ Gr w w' := by
  have hstart := dig_start (moveF n s) w
  rw [arrV_zero] at hstart
  have HS := hide hstart
  clear hstart
  go_enter Tryz.func83, Tryz.ntmps83
  go_wp2
  go_loopw [6] (fun i wr => ∃ k : Nat, k ≤ 32 ∧ i = .int .i64 k ∧ Dig w.heap.size (moveF n s) k w wr) (fun i _ => 32 - (intOf i).toNat)
  case atStart => exact ⟨0, by omega, rfl, HS.out⟩
  case round =>
    obtain ⟨k, hk, rfl, hd⟩ := hrel
    by_cases hlt : k < 32
    · obtain ⟨v, hv⟩ := dig_cell hd k hlt
      have hfz := dig_frozen hd k
      have HD := hide hd
      clear hd
      by_cases ha : 0 ≤ (k : Int) - s
      · by_cases hb : (k : Int) - s < 32
        · go_wp2_with (go_at_call 79; refine (bit_calls _ _ (by assumption) (by omega) (by omega) _).mono ?_; rintro e w1 ⟨rfl, rfl⟩)
          exact ⟨⟨k + 1, by omega, by go_num, dig_set HD.out hlt (by unfold moveF; rw [if_pos ⟨ha, hb⟩])⟩, by simp [intOf]; omega⟩
        · go_wp2_with (fail)
          exact ⟨⟨k + 1, by omega, by go_num, dig_keep HD.out hlt (by unfold moveF; rw [if_neg (by omega)])⟩, by simp [intOf]; omega⟩
      · go_wp2_with (fail)
        exact ⟨⟨k + 1, by omega, by go_num, dig_keep HD.out hlt (by unfold moveF; rw [if_neg (by omega)])⟩, by simp [intOf]; omega⟩
    · obtain rfl : k = 32 := by omega
      have hrow := hd.2.1
      have hg := hd.1
      have hi : (Tryz.prog.info? 142).map (·.size) = some (arrV (moveF n s) 32).size := by rw [arrV_size]; kernel_rfl
      clear hd
      go_wp2_with (first | (refine wpList_load_row rfl 142 _ rfl w.heap.size rfl 142 (arrV (moveF n s) 32) (0, 0) _ hrow Tryz.underlying142 rfl hi ?_) | (go_at_call 80; refine (of_calls _ (moveF_le n s) _).mono ?_; rintro e w1 ⟨rfl, hg1⟩))
      go_ret
      exact ⟨rfl, grown_trans hg hg1⟩

theorem mul_stepI (a b k : Nat) (h : bitN b k = 1) : ((mulF a b k : Int) + a * 2 ^ k) % 4294967296 = (mulF a b (k + 1) : Nat) := by
  have h1 := mul_one' a b k h
  have h2 : ((a * 2 ^ k : Nat) : Int) = (a : Int) * 2 ^ k := by simp
  rw [← h2, ← h1]
  omega

set_option maxHeartbeats 1000000 in
theorem mul_ref (a b : Nat) (ha : a < 4294967296) (hb : b < 4294967296) (w : World) :
    Calls Tryz.prog 82 #[.int .u32 a, .int .u32 b] w fun e w' => e = .returned (.int .u32 (a * b % 4294967296 : Nat)) ∧ Gr w w' := by
  go_enter Tryz.func82, Tryz.ntmps82
  go_wp2
  go_loopw [5, 6] (fun n i wr => ∃ k : Nat, k ≤ 32 ∧ i = .int .i64 k ∧ n = .int .u32 (mulF a b k) ∧ Gr w wr) (fun _ i _ => 32 - (intOf i).toNat)
  case atStart => exact ⟨0, by omega, rfl, by rw [mul_zero']; rfl, Gr.refl _⟩
  case round =>
    obtain ⟨k, hk, rfl, rfl, hg⟩ := hrel
    have hm : mulF a b k < 4294967296 := by unfold mulF; omega
    by_cases hlt : k < 32
    · by_cases hbit : bitN b k = 1
      · have e1 : ((bitN b k : Int) == 1) = true := by rw [hbit]; rfl
        have HB := hide hbit
        clear hbit
        go_wp2_with (first | (go_at_call 79; refine (bit_calls _ _ (by assumption) (by omega) (by omega) _).mono ?_; rw [Int.toNat_natCast]; rintro e w1 ⟨rfl, rfl⟩) | (go_at_call 83; refine (move_ref a (k : Int) ha (by omega) (by omega) _).mono ?_; rw [up_word]; rintro e w1 ⟨rfl, hg1⟩) | (go_at_call 55; refine (add_ref (mulF a b k) (a * 2 ^ k % 4294967296) hm (by omega) _).mono ?_; rintro e w2 ⟨rfl, hg2⟩))
        exact ⟨⟨k + 1, by omega, by go_num, num_u32 (mul_stepI a b k HB.out), grown_trans hg (grown_trans hg1 hg2)⟩, by simp [intOf]; omega⟩
      · have e1 : ((bitN b k : Int) == 1) = false := by simp; omega
        have HB := hide hbit
        clear hbit
        go_wp2_with (first | (go_at_call 79; refine (bit_calls _ _ (by assumption) (by omega) (by omega) _).mono ?_; rw [Int.toNat_natCast]; rintro e w1 ⟨rfl, rfl⟩))
        exact ⟨⟨k + 1, by omega, by go_num, by rw [mul_none a b k HB.out], hg⟩, by simp [intOf]; omega⟩
    · obtain rfl : k = 32 := by omega
      go_wp2_with (fail)
      go_ret
      exact ⟨ret1 (by rw [mul_word a b hb]), hg⟩

/-- 1, if a is less than b, else 0 -/
def lessN (a b : Nat) : Nat := if a < b then 1 else 0

set_option maxHeartbeats 1000000 in
theorem less_ref (a b : Nat) (ha : a < 4294967296) (hb : b < 4294967296) (w : World) :
    Calls Tryz.prog 84 #[.int .u32 a, .int .u32 b] w fun e w' => e = .returned (.int .u32 (lessN a b : Int)) ∧ w' = w := by
  go_enter Tryz.func84, Tryz.ntmps84
  go_wp2
  go_loopw [5] (fun i wr => ∃ x : Int, -1 ≤ x ∧ x ≤ 31 ∧ i = .int .i64 x ∧ a / 2 ^ (x + 1).toNat = b / 2 ^ (x + 1).toNat ∧ wr = w) (fun i _ => (intOf i + 1).toNat)
  case atStart =>
    refine ⟨31, by omega, by omega, rfl, ?_, rfl⟩
    show a / 2 ^ 32 = b / 2 ^ 32
    rw [Nat.div_eq_of_lt (by omega), Nat.div_eq_of_lt (by omega)]
  case round =>
    obtain ⟨x, hx1, hx2, rfl, hx, rfl⟩ := hrel
    by_cases hneg : x = -1
    · subst hneg
      have hab : a = b := by simpa using hx
      have HX := hide hab
      clear hab hx
      go_wp2_with (fail)
      go_ret
      exact ⟨ret1 (by rw [HX.out]; unfold lessN; rw [if_neg (by omega)]; rfl), rfl⟩
    · obtain ⟨k, rfl⟩ := Int.eq_ofNat_of_zero_le (show 0 ≤ x by omega)
      rw [show ((k : Int) + 1).toNat = k + 1 by omega] at hx
      have HX := hide hx
      clear hx
      have hbb := bitN_le b k
      by_cases he : bitN a k = bitN b k
      · have e1 : ((bitN a k : Int) != (bitN b k : Int)) = false := by simp [he]
        have HE := hide he
        clear he
        go_wp2_with (first | (go_at_call 79; refine (bit_calls _ _ (by assumption) (by omega) (by omega) _).mono ?_; rw [Int.toNat_natCast]; rintro e w1 ⟨rfl, rfl⟩))
        exact ⟨⟨(k : Int) - 1, by omega, by omega, rfl, by rw [show ((k : Int) - 1 + 1).toNat = k by omega]; exact less_same a b k HX.out HE.out, by trivial⟩, by simp [intOf]⟩
      · have e1 : ((bitN a k : Int) != (bitN b k : Int)) = true := by simp; omega
        have HE := hide he
        clear he
        go_wp2_with (first | (go_at_call 79; refine (bit_calls _ _ (by assumption) (by omega) (by omega) _).mono ?_; rw [Int.toNat_natCast]; rintro e w1 ⟨rfl, rfl⟩))
        go_ret
        exact ⟨ret1 (by rw [less_here a b k HX.out HE.out]; rfl), rfl⟩
/-- the digits that the reference lays for and, or, xor -/
def fOp (op : Int) (a b i : Nat) : Nat := if op = 6 then (bitN a i + bitN b i) / 2 else if op = 7 then (bitN a i + bitN b i + 1) / 2 else if op = 8 then (bitN a i + bitN b i) % 2 else 0
theorem fOp_le (op : Int) (a b i : Nat) : fOp op a b i ≤ 1 := by
  have := bitN_le a i
  have := bitN_le b i
  unfold fOp
  split
  · omega
  split
  · omega
  split <;> omega
/-- 1 of an operation, 0 of another number -/
def isN (op : Int) : Nat := if 3 ≤ op ∧ op ≤ 12 then 1 else 0
theorem retd {x y : Int} {z t : Int} (h : x = y) (h' : z = t) : Ending.returned (.tuple #[.int .u32 x, .int .i64 z]) = .returned (.tuple #[.int .u32 y, .int .i64 t]) := by rw [h, h']

theorem and_word (a b : Nat) (ha : a < 4294967296) : numB (fOp 6 a b) 0 32 = a &&& b := by
  have h1 : a &&& b < 2 ^ 32 := Nat.lt_of_le_of_lt Nat.and_le_left (by omega)
  rw [numB_congr (fOp 6 a b) (bitN (a &&& b)) 32 0 (fun i _ _ => (and_bit a b i))]
  exact numB_word _ (by omega)
theorem or_word (a b : Nat) (ha : a < 4294967296) (hb : b < 4294967296) : numB (fOp 7 a b) 0 32 = a ||| b := by
  have h2 : a ||| b < 2 ^ 32 := Nat.or_lt_two_pow (by omega) (by omega)
  rw [numB_congr (fOp 7 a b) (bitN (a ||| b)) 32 0 (fun i _ _ => (or_bit' a b i))]
  exact numB_word _ (by omega)
theorem xor_word (a b : Nat) (ha : a < 4294967296) (hb : b < 4294967296) : numB (fOp 8 a b) 0 32 = a ^^^ b := by
  have h3 : a ^^^ b < 2 ^ 32 := Nat.xor_lt_two_pow (by omega) (by omega)
  rw [numB_congr (fOp 8 a b) (bitN (a ^^^ b)) 32 0 (fun i _ _ => (xor_bit a b i))]
  exact numB_word _ (by omega)

theorem less_sum (a b : Nat) : (lessN a b : Int) + lessN b a ≤ 1 := by
  unfold lessN
  split <;> split <;> omega
theorem same_num (a b : Nat) : 1 - ((lessN a b : Int) + lessN b a) = doF 12 a b := by
  have e : doF 12 a b = if a = b then 1 else 0 := rfl
  rw [e]
  unfold lessN
  split <;> split <;> split <;> omega

set_option maxHeartbeats 1000000 in
theorem ref_add (a b : Nat) (ha : a < 4294967296) (hb : b < 4294967296) (w : World) :
    Calls Tryz.prog 57 #[.int .i64 3, .int .u32 a, .int .u32 b] w fun e w' => e = .returned (.tuple #[.int .u32 (doF 3 a b), .int .i64 1]) ∧ Gr w w' := by
  have hstart := dig_start (fOp 3 a b) w
  rw [arrV_zero] at hstart
  have HS := hide hstart
  clear hstart
  go_enter Tryz.func57, Tryz.ntmps57
  go_wp2
  go_loopw [9] (fun i wr => ∃ k : Nat, k ≤ 32 ∧ i = .int .i64 k ∧ Dig w.heap.size (fOp 3 a b) k w wr) (fun i _ => 32 - (intOf i).toNat)
  case atStart => exact ⟨0, by omega, rfl, HS.out⟩
  case round =>
    clear HS
    obtain ⟨k, hk, rfl, hd⟩ := hrel
    by_cases hlt : k < 32
    · have ha1 := bitN_le a k
      have hb1 := bitN_le b k
      obtain ⟨v, hv⟩ := dig_cell hd k hlt
      have hfz := dig_frozen hd k
      have HD := hide hd
      clear hd
      go_wp2_with (go_at_call 79; refine (bit_calls _ _ (by assumption) (by omega) (by omega) _).mono ?_; rw [Int.toNat_natCast]; rintro e w1 ⟨rfl, rfl⟩)
      exact ⟨⟨k + 1, by omega, by go_num, dig_keep HD.out hlt (by simp [fOp])⟩, by simp [intOf]; omega⟩
    · obtain rfl : k = 32 := by omega
      have hrow := hd.2.1
      have hg := hd.1
      clear hrow
      clear hd
      go_wp2_with (first | (go_at_call 55; refine (add_ref a b ha hb _).mono ?_; rintro e w1 ⟨rfl, hg1⟩))
      go_ret2
      exact ⟨retd (by rfl) (by rfl), grown_trans hg hg1⟩

set_option maxHeartbeats 1000000 in
theorem ref_sub (a b : Nat) (ha : a < 4294967296) (hb : b < 4294967296) (w : World) :
    Calls Tryz.prog 57 #[.int .i64 4, .int .u32 a, .int .u32 b] w fun e w' => e = .returned (.tuple #[.int .u32 (doF 4 a b), .int .i64 1]) ∧ Gr w w' := by
  have hstart := dig_start (fOp 4 a b) w
  rw [arrV_zero] at hstart
  have HS := hide hstart
  clear hstart
  go_enter Tryz.func57, Tryz.ntmps57
  go_wp2
  go_loopw [9] (fun i wr => ∃ k : Nat, k ≤ 32 ∧ i = .int .i64 k ∧ Dig w.heap.size (fOp 4 a b) k w wr) (fun i _ => 32 - (intOf i).toNat)
  case atStart => exact ⟨0, by omega, rfl, HS.out⟩
  case round =>
    clear HS
    obtain ⟨k, hk, rfl, hd⟩ := hrel
    by_cases hlt : k < 32
    · have ha1 := bitN_le a k
      have hb1 := bitN_le b k
      obtain ⟨v, hv⟩ := dig_cell hd k hlt
      have hfz := dig_frozen hd k
      have HD := hide hd
      clear hd
      go_wp2_with (go_at_call 79; refine (bit_calls _ _ (by assumption) (by omega) (by omega) _).mono ?_; rw [Int.toNat_natCast]; rintro e w1 ⟨rfl, rfl⟩)
      exact ⟨⟨k + 1, by omega, by go_num, dig_keep HD.out hlt (by simp [fOp])⟩, by simp [intOf]; omega⟩
    · obtain rfl : k = 32 := by omega
      have hrow := hd.2.1
      have hg := hd.1
      clear hrow
      clear hd
      go_wp2_with (first | (go_at_call 81; refine (minus_ref b hb _).mono ?_; rintro e w1 ⟨rfl, hg1⟩) | (go_at_call 55; refine (add_ref a ((4294967296 - b) % 4294967296) ha (by omega) _).mono ?_; rintro e w2 ⟨rfl, hg2⟩))
      go_ret2
      exact ⟨retd (by simp [doF]) (by rfl), grown_trans hg (grown_trans hg1 hg2)⟩

set_option maxHeartbeats 1000000 in
theorem ref_mul (a b : Nat) (ha : a < 4294967296) (hb : b < 4294967296) (w : World) :
    Calls Tryz.prog 57 #[.int .i64 5, .int .u32 a, .int .u32 b] w fun e w' => e = .returned (.tuple #[.int .u32 (doF 5 a b), .int .i64 1]) ∧ Gr w w' := by
  have hstart := dig_start (fOp 5 a b) w
  rw [arrV_zero] at hstart
  have HS := hide hstart
  clear hstart
  go_enter Tryz.func57, Tryz.ntmps57
  go_wp2
  go_loopw [9] (fun i wr => ∃ k : Nat, k ≤ 32 ∧ i = .int .i64 k ∧ Dig w.heap.size (fOp 5 a b) k w wr) (fun i _ => 32 - (intOf i).toNat)
  case atStart => exact ⟨0, by omega, rfl, HS.out⟩
  case round =>
    clear HS
    obtain ⟨k, hk, rfl, hd⟩ := hrel
    by_cases hlt : k < 32
    · have ha1 := bitN_le a k
      have hb1 := bitN_le b k
      obtain ⟨v, hv⟩ := dig_cell hd k hlt
      have hfz := dig_frozen hd k
      have HD := hide hd
      clear hd
      go_wp2_with (go_at_call 79; refine (bit_calls _ _ (by assumption) (by omega) (by omega) _).mono ?_; rw [Int.toNat_natCast]; rintro e w1 ⟨rfl, rfl⟩)
      exact ⟨⟨k + 1, by omega, by go_num, dig_keep HD.out hlt (by simp [fOp])⟩, by simp [intOf]; omega⟩
    · obtain rfl : k = 32 := by omega
      have hrow := hd.2.1
      have hg := hd.1
      clear hrow
      clear hd
      go_wp2_with (first | (go_at_call 82; refine (mul_ref a b ha hb _).mono ?_; rintro e w1 ⟨rfl, hg1⟩))
      go_ret2
      exact ⟨retd (by rfl) (by rfl), grown_trans hg hg1⟩

set_option maxHeartbeats 1000000 in
theorem ref_and (a b : Nat) (ha : a < 4294967296) (hb : b < 4294967296) (w : World) :
    Calls Tryz.prog 57 #[.int .i64 6, .int .u32 a, .int .u32 b] w fun e w' => e = .returned (.tuple #[.int .u32 (doF 6 a b), .int .i64 1]) ∧ Gr w w' := by
  have hstart := dig_start (fOp 6 a b) w
  rw [arrV_zero] at hstart
  have HS := hide hstart
  clear hstart
  go_enter Tryz.func57, Tryz.ntmps57
  go_wp2
  go_loopw [9] (fun i wr => ∃ k : Nat, k ≤ 32 ∧ i = .int .i64 k ∧ Dig w.heap.size (fOp 6 a b) k w wr) (fun i _ => 32 - (intOf i).toNat)
  case atStart => exact ⟨0, by omega, rfl, HS.out⟩
  case round =>
    clear HS
    obtain ⟨k, hk, rfl, hd⟩ := hrel
    by_cases hlt : k < 32
    · have ha1 := bitN_le a k
      have hb1 := bitN_le b k
      obtain ⟨v, hv⟩ := dig_cell hd k hlt
      have hfz := dig_frozen hd k
      have HD := hide hd
      clear hd
      go_wp2_with (go_at_call 79; refine (bit_calls _ _ (by assumption) (by omega) (by omega) _).mono ?_; rw [Int.toNat_natCast]; rintro e w1 ⟨rfl, rfl⟩)
      exact ⟨⟨k + 1, by omega, by go_num, dig_set HD.out hlt (by simp [fOp])⟩, by simp [intOf]; omega⟩
    · obtain rfl : k = 32 := by omega
      have hrow := hd.2.1
      have hg := hd.1
      have hi : (Tryz.prog.info? 142).map (·.size) = some (arrV (fOp 6 a b) 32).size := by rw [arrV_size]; kernel_rfl
      clear hd
      go_wp2_with (first | (refine wpList_load_row rfl 142 _ rfl w.heap.size rfl 142 (arrV (fOp 6 a b) 32) (0, 0) _ hrow Tryz.underlying142 rfl hi ?_) | (go_at_call 80; refine (of_calls _ (fOp_le 6 a b) _).mono ?_; rintro e w1 ⟨rfl, hg1⟩))
      go_ret2
      exact ⟨retd (by rw [and_word a b ha]; rfl) (by rfl), grown_trans hg hg1⟩

set_option maxHeartbeats 1000000 in
theorem ref_or (a b : Nat) (ha : a < 4294967296) (hb : b < 4294967296) (w : World) :
    Calls Tryz.prog 57 #[.int .i64 7, .int .u32 a, .int .u32 b] w fun e w' => e = .returned (.tuple #[.int .u32 (doF 7 a b), .int .i64 1]) ∧ Gr w w' := by
  have hstart := dig_start (fOp 7 a b) w
  rw [arrV_zero] at hstart
  have HS := hide hstart
  clear hstart
  go_enter Tryz.func57, Tryz.ntmps57
  go_wp2
  go_loopw [9] (fun i wr => ∃ k : Nat, k ≤ 32 ∧ i = .int .i64 k ∧ Dig w.heap.size (fOp 7 a b) k w wr) (fun i _ => 32 - (intOf i).toNat)
  case atStart => exact ⟨0, by omega, rfl, HS.out⟩
  case round =>
    clear HS
    obtain ⟨k, hk, rfl, hd⟩ := hrel
    by_cases hlt : k < 32
    · have ha1 := bitN_le a k
      have hb1 := bitN_le b k
      obtain ⟨v, hv⟩ := dig_cell hd k hlt
      have hfz := dig_frozen hd k
      have HD := hide hd
      clear hd
      go_wp2_with (go_at_call 79; refine (bit_calls _ _ (by assumption) (by omega) (by omega) _).mono ?_; rw [Int.toNat_natCast]; rintro e w1 ⟨rfl, rfl⟩)
      exact ⟨⟨k + 1, by omega, by go_num, dig_set HD.out hlt (by simp [fOp])⟩, by simp [intOf]; omega⟩
    · obtain rfl : k = 32 := by omega
      have hrow := hd.2.1
      have hg := hd.1
      have hi : (Tryz.prog.info? 142).map (·.size) = some (arrV (fOp 7 a b) 32).size := by rw [arrV_size]; kernel_rfl
      clear hd
      go_wp2_with (first | (refine wpList_load_row rfl 142 _ rfl w.heap.size rfl 142 (arrV (fOp 7 a b) 32) (0, 0) _ hrow Tryz.underlying142 rfl hi ?_) | (go_at_call 80; refine (of_calls _ (fOp_le 7 a b) _).mono ?_; rintro e w1 ⟨rfl, hg1⟩))
      go_ret2
      exact ⟨retd (by rw [or_word a b ha hb]; rfl) (by rfl), grown_trans hg hg1⟩

set_option maxHeartbeats 1000000 in
theorem ref_xor (a b : Nat) (ha : a < 4294967296) (hb : b < 4294967296) (w : World) :
    Calls Tryz.prog 57 #[.int .i64 8, .int .u32 a, .int .u32 b] w fun e w' => e = .returned (.tuple #[.int .u32 (doF 8 a b), .int .i64 1]) ∧ Gr w w' := by
  have hstart := dig_start (fOp 8 a b) w
  rw [arrV_zero] at hstart
  have HS := hide hstart
  clear hstart
  go_enter Tryz.func57, Tryz.ntmps57
  go_wp2
  go_loopw [9] (fun i wr => ∃ k : Nat, k ≤ 32 ∧ i = .int .i64 k ∧ Dig w.heap.size (fOp 8 a b) k w wr) (fun i _ => 32 - (intOf i).toNat)
  case atStart => exact ⟨0, by omega, rfl, HS.out⟩
  case round =>
    clear HS
    obtain ⟨k, hk, rfl, hd⟩ := hrel
    by_cases hlt : k < 32
    · have ha1 := bitN_le a k
      have hb1 := bitN_le b k
      obtain ⟨v, hv⟩ := dig_cell hd k hlt
      have hfz := dig_frozen hd k
      have HD := hide hd
      clear hd
      go_wp2_with (go_at_call 79; refine (bit_calls _ _ (by assumption) (by omega) (by omega) _).mono ?_; rw [Int.toNat_natCast]; rintro e w1 ⟨rfl, rfl⟩)
      exact ⟨⟨k + 1, by omega, by go_num, dig_set HD.out hlt (by simp [fOp])⟩, by simp [intOf]; omega⟩
    · obtain rfl : k = 32 := by omega
      have hrow := hd.2.1
      have hg := hd.1
      have hi : (Tryz.prog.info? 142).map (·.size) = some (arrV (fOp 8 a b) 32).size := by rw [arrV_size]; kernel_rfl
      clear hd
      go_wp2_with (first | (refine wpList_load_row rfl 142 _ rfl w.heap.size rfl 142 (arrV (fOp 8 a b) 32) (0, 0) _ hrow Tryz.underlying142 rfl hi ?_) | (go_at_call 80; refine (of_calls _ (fOp_le 8 a b) _).mono ?_; rintro e w1 ⟨rfl, hg1⟩))
      go_ret2
      exact ⟨retd (by rw [xor_word a b ha hb]; rfl) (by rfl), grown_trans hg hg1⟩

set_option maxHeartbeats 1000000 in
theorem ref_shl (a b : Nat) (ha : a < 4294967296) (hb : b < 4294967296) (w : World) :
    Calls Tryz.prog 57 #[.int .i64 9, .int .u32 a, .int .u32 b] w fun e w' => e = .returned (.tuple #[.int .u32 (doF 9 a b), .int .i64 1]) ∧ Gr w w' := by
  have hstart := dig_start (fOp 9 a b) w
  rw [arrV_zero] at hstart
  have HS := hide hstart
  clear hstart
  go_enter Tryz.func57, Tryz.ntmps57
  go_wp2
  go_loopw [9] (fun i wr => ∃ k : Nat, k ≤ 32 ∧ i = .int .i64 k ∧ Dig w.heap.size (fOp 9 a b) k w wr) (fun i _ => 32 - (intOf i).toNat)
  case atStart => exact ⟨0, by omega, rfl, HS.out⟩
  case round =>
    clear HS
    obtain ⟨k, hk, rfl, hd⟩ := hrel
    by_cases hlt : k < 32
    · have ha1 := bitN_le a k
      have hb1 := bitN_le b k
      obtain ⟨v, hv⟩ := dig_cell hd k hlt
      have hfz := dig_frozen hd k
      have HD := hide hd
      clear hd
      go_wp2_with (go_at_call 79; refine (bit_calls _ _ (by assumption) (by omega) (by omega) _).mono ?_; rw [Int.toNat_natCast]; rintro e w1 ⟨rfl, rfl⟩)
      exact ⟨⟨k + 1, by omega, by go_num, dig_keep HD.out hlt (by simp [fOp])⟩, by simp [intOf]; omega⟩
    · obtain rfl : k = 32 := by omega
      have hrow := hd.2.1
      have hg := hd.1
      clear hrow
      clear hd
      go_wp2_with (first | (go_at_call 83; refine (move_ref a _ ha (by omega) (by omega) _).mono ?_; rintro e w1 ⟨rfl, hg1⟩))
      go_ret2
      exact ⟨retd (by rw [show ((b : Int) % 32) = ((b % 32 : Nat) : Int) by omega, up_word]; rfl) (by rfl), grown_trans hg hg1⟩

set_option maxHeartbeats 1000000 in
theorem ref_shr (a b : Nat) (ha : a < 4294967296) (hb : b < 4294967296) (w : World) :
    Calls Tryz.prog 57 #[.int .i64 10, .int .u32 a, .int .u32 b] w fun e w' => e = .returned (.tuple #[.int .u32 (doF 10 a b), .int .i64 1]) ∧ Gr w w' := by
  have hstart := dig_start (fOp 10 a b) w
  rw [arrV_zero] at hstart
  have HS := hide hstart
  clear hstart
  go_enter Tryz.func57, Tryz.ntmps57
  go_wp2
  go_loopw [9] (fun i wr => ∃ k : Nat, k ≤ 32 ∧ i = .int .i64 k ∧ Dig w.heap.size (fOp 10 a b) k w wr) (fun i _ => 32 - (intOf i).toNat)
  case atStart => exact ⟨0, by omega, rfl, HS.out⟩
  case round =>
    clear HS
    obtain ⟨k, hk, rfl, hd⟩ := hrel
    by_cases hlt : k < 32
    · have ha1 := bitN_le a k
      have hb1 := bitN_le b k
      obtain ⟨v, hv⟩ := dig_cell hd k hlt
      have hfz := dig_frozen hd k
      have HD := hide hd
      clear hd
      go_wp2_with (go_at_call 79; refine (bit_calls _ _ (by assumption) (by omega) (by omega) _).mono ?_; rw [Int.toNat_natCast]; rintro e w1 ⟨rfl, rfl⟩)
      exact ⟨⟨k + 1, by omega, by go_num, dig_keep HD.out hlt (by simp [fOp])⟩, by simp [intOf]; omega⟩
    · obtain rfl : k = 32 := by omega
      have hrow := hd.2.1
      have hg := hd.1
      clear hrow
      clear hd
      go_wp2_with (first | (go_at_call 83; refine (move_ref a _ ha (by omega) (by omega) _).mono ?_; rintro e w1 ⟨rfl, hg1⟩))
      go_ret2
      exact ⟨retd (by rw [show (-((b : Int) % 32)) = -((b % 32 : Nat) : Int) by omega, down_word a _ ha]; rfl) (by rfl), grown_trans hg hg1⟩

set_option maxHeartbeats 1000000 in
theorem ref_less (a b : Nat) (ha : a < 4294967296) (hb : b < 4294967296) (w : World) :
    Calls Tryz.prog 57 #[.int .i64 11, .int .u32 a, .int .u32 b] w fun e w' => e = .returned (.tuple #[.int .u32 (doF 11 a b), .int .i64 1]) ∧ Gr w w' := by
  have hstart := dig_start (fOp 11 a b) w
  rw [arrV_zero] at hstart
  have HS := hide hstart
  clear hstart
  go_enter Tryz.func57, Tryz.ntmps57
  go_wp2
  go_loopw [9] (fun i wr => ∃ k : Nat, k ≤ 32 ∧ i = .int .i64 k ∧ Dig w.heap.size (fOp 11 a b) k w wr) (fun i _ => 32 - (intOf i).toNat)
  case atStart => exact ⟨0, by omega, rfl, HS.out⟩
  case round =>
    clear HS
    obtain ⟨k, hk, rfl, hd⟩ := hrel
    by_cases hlt : k < 32
    · have ha1 := bitN_le a k
      have hb1 := bitN_le b k
      obtain ⟨v, hv⟩ := dig_cell hd k hlt
      have hfz := dig_frozen hd k
      have HD := hide hd
      clear hd
      go_wp2_with (go_at_call 79; refine (bit_calls _ _ (by assumption) (by omega) (by omega) _).mono ?_; rw [Int.toNat_natCast]; rintro e w1 ⟨rfl, rfl⟩)
      exact ⟨⟨k + 1, by omega, by go_num, dig_keep HD.out hlt (by simp [fOp])⟩, by simp [intOf]; omega⟩
    · obtain rfl : k = 32 := by omega
      have hrow := hd.2.1
      have hg := hd.1
      clear hrow
      clear hd
      go_wp2_with (first | (go_at_call 84; refine (less_ref a b ha hb _).mono ?_; rintro e w1 ⟨rfl, rfl⟩))
      go_ret2
      exact ⟨retd (by rfl) (by rfl), hg⟩

set_option maxHeartbeats 1000000 in
theorem ref_same (a b : Nat) (ha : a < 4294967296) (hb : b < 4294967296) (w : World) :
    Calls Tryz.prog 57 #[.int .i64 12, .int .u32 a, .int .u32 b] w fun e w' => e = .returned (.tuple #[.int .u32 (doF 12 a b), .int .i64 1]) ∧ Gr w w' := by
  have hstart := dig_start (fOp 12 a b) w
  rw [arrV_zero] at hstart
  have HS := hide hstart
  clear hstart
  go_enter Tryz.func57, Tryz.ntmps57
  go_wp2
  go_loopw [9] (fun i wr => ∃ k : Nat, k ≤ 32 ∧ i = .int .i64 k ∧ Dig w.heap.size (fOp 12 a b) k w wr) (fun i _ => 32 - (intOf i).toNat)
  case atStart => exact ⟨0, by omega, rfl, HS.out⟩
  case round =>
    clear HS
    obtain ⟨k, hk, rfl, hd⟩ := hrel
    by_cases hlt : k < 32
    · have ha1 := bitN_le a k
      have hb1 := bitN_le b k
      obtain ⟨v, hv⟩ := dig_cell hd k hlt
      have hfz := dig_frozen hd k
      have HD := hide hd
      clear hd
      go_wp2_with (go_at_call 79; refine (bit_calls _ _ (by assumption) (by omega) (by omega) _).mono ?_; rw [Int.toNat_natCast]; rintro e w1 ⟨rfl, rfl⟩)
      exact ⟨⟨k + 1, by omega, by go_num, dig_keep HD.out hlt (by simp [fOp])⟩, by simp [intOf]; omega⟩
    · obtain rfl : k = 32 := by omega
      have hrow := hd.2.1
      have hg := hd.1
      clear hrow
      clear hd
      have hs := less_sum a b
      go_wp2_with (fail)
      refine (less_ref a b ha hb _).mono ?_
      rintro e w1 ⟨rfl, rfl⟩
      go_wp2_with (fail)
      refine (less_ref b a hb ha _).mono ?_
      rintro e w1 ⟨rfl, rfl⟩
      go_wp2_with (fail)
      go_ret2
      exact ⟨retd (same_num a b) (by rfl), hg⟩

set_option maxHeartbeats 1000000 in
theorem ref_none (a b : Nat) (op : Int) (g3 : (op == 3) = false) (g4 : (op == 4) = false) (g5 : (op == 5) = false) (g6 : (op == 6) = false) (g7 : (op == 7) = false) (g8 : (op == 8) = false) (g9 : (op == 9) = false) (g10 : (op == 10) = false) (g11 : (op == 11) = false) (g12 : (op == 12) = false) (hz : Hid (∀ i, fOp op a b i = 0)) (ha : a < 4294967296) (hb : b < 4294967296) (w : World) :
    Calls Tryz.prog 57 #[.int .i64 op, .int .u32 a, .int .u32 b] w fun e w' => e = .returned (.tuple #[.int .u32 0, .int .i64 0]) ∧ Gr w w' := by
  have hstart := dig_start (fOp op a b) w
  rw [arrV_zero] at hstart
  have HS := hide hstart
  clear hstart
  go_enter Tryz.func57, Tryz.ntmps57
  go_wp2
  go_loopw [9] (fun i wr => ∃ k : Nat, k ≤ 32 ∧ i = .int .i64 k ∧ Dig w.heap.size (fOp op a b) k w wr) (fun i _ => 32 - (intOf i).toNat)
  case atStart => exact ⟨0, by omega, rfl, HS.out⟩
  case round =>
    clear HS
    obtain ⟨k, hk, rfl, hd⟩ := hrel
    by_cases hlt : k < 32
    · have ha1 := bitN_le a k
      have hb1 := bitN_le b k
      obtain ⟨v, hv⟩ := dig_cell hd k hlt
      have hfz := dig_frozen hd k
      have HD := hide hd
      clear hd
      go_wp2_with (go_at_call 79; refine (bit_calls _ _ (by assumption) (by omega) (by omega) _).mono ?_; rw [Int.toNat_natCast]; rintro e w1 ⟨rfl, rfl⟩)
      exact ⟨⟨k + 1, by omega, by go_num, dig_keep HD.out hlt (hz.out k)⟩, by simp [intOf]; omega⟩
    · obtain rfl : k = 32 := by omega
      have hrow := hd.2.1
      have hg := hd.1
      clear hrow
      clear hd
      go_wp2_with (fail)
      go_ret2
      exact ⟨rfl, hg⟩

theorem ref_do (op : Int) (a b : Nat) (ha : a < 4294967296) (hb : b < 4294967296) (w : World) :
    Calls Tryz.prog 57 #[.int .i64 op, .int .u32 a, .int .u32 b] w fun e w' => e = .returned (.tuple #[.int .u32 (doF op a b), .int .i64 (isN op)]) ∧ Gr w w' := by
  by_cases h3 : op = 3
  · subst h3; exact ref_add a b ha hb w
  by_cases h4 : op = 4
  · subst h4; exact ref_sub a b ha hb w
  by_cases h5 : op = 5
  · subst h5; exact ref_mul a b ha hb w
  by_cases h6 : op = 6
  · subst h6; exact ref_and a b ha hb w
  by_cases h7 : op = 7
  · subst h7; exact ref_or a b ha hb w
  by_cases h8 : op = 8
  · subst h8; exact ref_xor a b ha hb w
  by_cases h9 : op = 9
  · subst h9; exact ref_shl a b ha hb w
  by_cases h10 : op = 10
  · subst h10; exact ref_shr a b ha hb w
  by_cases h11 : op = 11
  · subst h11; exact ref_less a b ha hb w
  by_cases h12 : op = 12
  · subst h12; exact ref_same a b ha hb w
  have e0 : doF op a b = 0 := by simp [doF, h3, h4, h5, h6, h7, h8, h9, h10, h11, h12]
  have e1 : isN op = 0 := by unfold isN; rw [if_neg (by omega)]
  rw [e0, e1]
  exact ref_none a b op (by simp [h3]) (by simp [h4]) (by simp [h5]) (by simp [h6]) (by simp [h7]) (by simp [h8]) (by simp [h9]) (by simp [h10]) (by simp [h11]) (by simp [h12]) (fun i => by simp [fOp, h6, h7, h8]) ha hb w
end Go.Proofs.YtfhplbmgjgfihaaGreatDoor.Ra
