/-
  For any word and any digits: the reference's 'bit' and 'of' answer the digit and the number of the digits. Conditions: digits are 0 or 1, places are from 0 to 31.
-/
import Derived.Test.YtijfdgkicfllaaaDo
import Derived.Test.YtijfdgkicfllaaaNums
import Derived.Laws.Rows
import Derived.Laws.DeepBits32
namespace Go.Proofs.Ytijfdgkicfllaaa
open Go.ChangeShapes Go.WideShapes Go.ChangeAt Go.RowKit
set_option linter.unusedVariables false

theorem hide {p : Prop} (h : p) : Hid p := h
theorem reti {x y : Int} (h : x = y) : Ending.returned (.int .i64 x) = .returned (.int .i64 y) := by rw [h]

theorem bit_num (n k : Nat) (hn : n < 4294967296) : wrap64 (bits BinOp.and IntKind.u32 ((n : Int) / 2 ^ k) 1) = bitN n k := by
  have hd : n / 2 ^ k ≤ n := Nat.div_le_self _ _
  have h := u32_and_nat (n / 2 ^ k) 1 (by omega) (by omega)
  have e : ((n / 2 ^ k : Nat) : Int) = (n : Int) / 2 ^ k := by simp
  have e1 : bits BinOp.and IntKind.u32 ((n : Int) / 2 ^ k) 1 = bitN n k := by
    rw [← e]
    refine h.trans ?_
    rw [Nat.and_one_is_mod]
    rfl
  have hb := bitN_le n k
  rw [e1]
  unfold wrap64
  omega

set_option maxHeartbeats 400000 in
theorem bit_calls (n : Nat) (i : Int) (hn : n < 4294967296) (h0 : 0 ≤ i) (h1 : i < 32) (w : World) :
    Calls Try.prog 17 #[.int .u32 n, .int .i64 i] w fun e w' => e = .returned (.int .i64 (bitN n i.toNat)) ∧ w' = w := by
  obtain ⟨k, rfl⟩ := Int.eq_ofNat_of_zero_le h0
  rw [Int.toNat_natCast]
  go_enter Try.func17, Try.ntmps17
  go_wp2
  go_ret
  exact ⟨reti (bit_num n k hn), rfl⟩

/-- 32 digits in memory, the first k of them those of f, the others 0 -/
def arrV (f : Nat → Nat) (k : Nat) : Array Value := ((List.range 32).map fun i => Value.int .i64 ((if i < k then f i else 0 : Nat) : Int)).toArray

theorem arrV_at (f : Nat → Nat) (k i : Nat) (h : i < 32) : (arrV f k)[i]? = some (.int .i64 ((if i < k then f i else 0 : Nat) : Int)) := by
  unfold arrV
  simp [h]
theorem arrV_size (f : Nat → Nat) (k : Nat) : (arrV f k).size = 32 := by simp [arrV]
theorem arrV_set (f : Nat → Nat) (k : Nat) (h : k < 32) : (arrV f k).setIfInBounds k (.int .i64 (f k)) = arrV f (k + 1) := by
  apply Array.ext
  · simp [arrV]
  · intro i h1 h2
    have hi : i < 32 := by simpa [arrV] using h2
    rw [Array.getElem_setIfInBounds (by simpa [arrV] using h2)]
    simp only [arrV, List.getElem_toArray, List.getElem_map, List.getElem_range]
    by_cases e : k = i
    · subst e; simp
    · by_cases e2 : i < k
      · rw [if_neg e, if_pos e2, if_pos (by omega)]
      · rw [if_neg e, if_neg e2, if_neg (by omega)]
theorem arrV_zero (f : Nat → Nat) : arrV f 0 = #[.int .i64 0, .int .i64 0, .int .i64 0, .int .i64 0, .int .i64 0, .int .i64 0, .int .i64 0, .int .i64 0, .int .i64 0, .int .i64 0, .int .i64 0, .int .i64 0, .int .i64 0, .int .i64 0, .int .i64 0, .int .i64 0, .int .i64 0, .int .i64 0, .int .i64 0, .int .i64 0, .int .i64 0, .int .i64 0, .int .i64 0, .int .i64 0, .int .i64 0, .int .i64 0, .int .i64 0, .int .i64 0, .int .i64 0, .int .i64 0, .int .i64 0, .int .i64 0] := by
  unfold arrV
  simp [List.range, List.range.loop]

theorem of_step (f : Nat → Nat) (k n : Nat) (hf : Hid (∀ i, f i ≤ 1)) (hk : k ≤ 31) (hn : numB f ((k : Int) + 1).toNat (31 - (k : Int)).toNat = n) :
    Value.int .u32 (bits .or .u32 ((n : Int) * 2 % 4294967296) (f k)) = Value.int .u32 (numB f ((k : Int) - 1 + 1).toNat (31 - ((k : Int) - 1)).toNat) := by
  have e1 : ((k : Int) + 1).toNat = k + 1 := by omega
  have e2 : (31 - (k : Int)).toNat = 31 - k := by omega
  have e3 : ((k : Int) - 1 + 1).toNat = k := by omega
  have e4 : (31 - ((k : Int) - 1)).toNat = (31 - k) + 1 := by omega
  rw [e1, e2] at hn
  rw [e3, e4]
  have hl := numB_lt f hf.out (31 - k) (k + 1)
  have hp : 2 ^ (31 - k) ≤ 2 ^ 31 := Nat.pow_le_pow_right (by omega) (by omega)
  have hfk := hf.out k
  rw [hn] at hl
  have h1 : (n : Int) * 2 % 4294967296 = ((n * 2 : Nat) : Int) := by omega
  rw [h1, u32_or_nat (n * 2) (f k) (by omega) (by omega), or_bit (n * 2) (f k) (by omega) hfk]
  have h2 : numB f k (31 - k + 1) = f k + 2 * numB f (k + 1) (31 - k) := rfl
  rw [h2, hn]
  congr 2
  omega

set_option maxHeartbeats 400000 in
theorem of_calls (f : Nat → Nat) (hf : ∀ i, f i ≤ 1) (w : World) :
    Calls Try.prog 20 #[.agg (arrV f 32)] w fun e w' => e = .returned (.int .u32 (numB f 0 32)) ∧ Gr w w' := by
  go_enter Try.func20, Try.ntmps20
  go_wp2
  go_loop [3, 4] (fun n i => ∃ x : Int, -1 ≤ x ∧ x ≤ 31 ∧ i = .int .i64 x ∧ n = .int .u32 (numB f (x + 1).toNat (31 - x).toNat)) (fun _ i => (intOf i + 1).toNat)
  case atStart => exact ⟨31, by omega, by omega, rfl, rfl⟩
  case round =>
    obtain ⟨x, hx1, hx2, rfl, rfl⟩ := hrel
    by_cases hneg : x = -1
    · subst hneg
      go_wp2
      go_ret
      exact ⟨rfl, Gr.alloc (Gr.refl _) _ _⟩
    · obtain ⟨k, rfl⟩ := Int.eq_ofNat_of_zero_le (show 0 ≤ x by omega)
      have hk : k ≤ 31 := by omega
      have hfk := hf k
      have hat := arrV_at f 32 k (by omega)
      rw [if_pos (show k < 32 by omega)] at hat
      generalize hn : numB f ((k : Int) + 1).toNat (31 - (k : Int)).toNat = n
      have HN := hide hn
      have hf' : Hid (∀ i, f i ≤ 1) := hf
      clear hn hf
      go_wp2
      exact ⟨⟨(k : Int) - 1, by omega, by omega, rfl, of_step f k n hf' hk HN.out⟩, by simp [intOf]⟩

/-- of a world that has grown: a block that holds 32 digits, the first k of them those of f -/
def Dig (g : Nat) (f : Nat → Nat) (k : Nat) (w wr : World) : Prop := Gr w wr ∧ wr.heap[g]? = some (.cells (arrV f k) 44 (0, 0)) ∧ w.heap.size ≤ g
theorem dig_cell {g : Nat} {f : Nat → Nat} {k : Nat} {w wr : World} (h : Dig g f k w wr) (j : Nat) (hj : j < 32) : ∃ v, wr.cell? ⟨g, j, none⟩ = some (.int .i64 v) := by
  refine ⟨_, (cell_of_row wr g j _ _ _ h.2.1).trans (arrV_at f k j hj)⟩
theorem dig_frozen {g : Nat} {f : Nat → Nat} {k : Nat} {w wr : World} (h : Dig g f k w wr) (j : Nat) : wr.frozen? ⟨g, j, none⟩ = false := frozen_of_row wr g j _ _ h.2.1
theorem dig_set {g : Nat} {f : Nat → Nat} {k : Nat} {w wr : World} (h : Dig g f k w wr) (hk : k < 32) {v : Int} (hv : v = f k) : Dig g f (k + 1) w (wr.setCell ⟨g, k, none⟩ (.int .i64 v)) := by
  subst hv
  refine ⟨h.1.setCell h.2.2 _, ?_, h.2.2⟩
  rw [heap_setCell_same wr g k _ _ _ h.2.1, arrV_set f k hk]
theorem dig_keep {g : Nat} {f : Nat → Nat} {k : Nat} {w wr : World} (h : Dig g f k w wr) (hk : k < 32) (hv : f k = 0) : Dig g f (k + 1) w wr := by
  refine ⟨h.1, ?_, h.2.2⟩
  have e : arrV f (k + 1) = arrV f k := by
    unfold arrV
    congr 2
    funext i
    by_cases e2 : i < k
    · rw [if_pos e2, if_pos (by omega)]
    · by_cases e3 : i = k
      · subst e3; rw [if_pos (by omega), if_neg (by omega), hv]
      · rw [if_neg e2, if_neg (by omega)]
  rw [e]
  exact h.2.1
theorem dig_start (f : Nat → Nat) (w : World) : Dig w.heap.size f 0 w (w.alloc (.cells (arrV f 0) 44)) :=
  ⟨Gr.alloc (Gr.refl _) _ _, heap_alloc_new w _, Nat.le_refl _⟩

theorem num_i64 {x y : Int} (h : x = y) : Value.int .i64 x = .int .i64 y := by rw [h]
theorem num_u32 {x y : Int} (h : x = y) : Value.int .u32 x = .int .u32 y := by rw [h]
theorem carry_step (a b k : Nat) : ((bitN a k : Int) + bitN b k + carryF a b k) / 2 = (carryF a b (k + 1) : Nat) := by
  show _ = (((bitN a k + bitN b k + carryF a b k) / 2 : Nat) : Int)
  omega
theorem sum_step (a b k : Nat) : ((bitN a k : Int) + bitN b k + carryF a b k) % 2 = (addF a b k : Nat) := by
  show _ = (((bitN a k + bitN b k + carryF a b k) % 2 : Nat) : Int)
  omega

set_option maxHeartbeats 1000000 in
theorem add_ref (a b : Nat) (ha : a < 4294967296) (hb : b < 4294967296) (w : World) :
    Calls Try.prog 18 #[.int .u32 a, .int .u32 b] w fun e w' => e = .returned (.int .u32 ((a + b) % 4294967296 : Nat)) ∧ Gr w w' := by
  have hstart := dig_start (addF a b) w
  rw [arrV_zero] at hstart
  have HS := hide hstart
  clear hstart
  go_enter Try.func18, Try.ntmps18
  go_wp2
  go_loopw [6, 7] (fun c i wr => ∃ k : Nat, k ≤ 32 ∧ i = .int .i64 k ∧ c = .int .i64 (carryF a b k) ∧ Dig w.heap.size (addF a b) k w wr) (fun _ i _ => 32 - (intOf i).toNat)
  case atStart => exact ⟨0, by omega, rfl, rfl, HS.out⟩
  case round =>
    obtain ⟨k, hk, rfl, rfl, hd⟩ := hrel
    have hc := carryF_le a b k
    have ha1 := bitN_le a k
    have hb1 := bitN_le b k
    by_cases hlt : k < 32
    · obtain ⟨v, hv⟩ := dig_cell hd k hlt
      have hfz := dig_frozen hd k
      have HD := hide hd
      clear hd
      go_wp2_with (go_at_call 17; refine (bit_calls _ _ (by assumption) (by omega) (by omega) _).mono ?_; rw [Int.toNat_natCast]; rintro e w1 ⟨rfl, rfl⟩)
      exact ⟨⟨k + 1, by omega, by go_num, num_i64 (carry_step a b k), dig_set HD.out hlt (sum_step a b k)⟩, by simp [intOf]; omega⟩
    · obtain rfl : k = 32 := by omega
      have hrow := hd.2.1
      have hg := hd.1
      have hi : (Try.prog.info? 44).map (·.size) = some (arrV (addF a b) 32).size := by rw [arrV_size]; kernel_rfl
      clear hd
      go_wp2_with (first | (refine wpList_load_row rfl 44 _ rfl w.heap.size rfl 44 (arrV (addF a b) 32) (0, 0) _ hrow Try.underlying44 rfl hi ?_) | (go_at_call 20; refine (of_calls _ (addF_le a b) _).mono ?_; rintro e w1 ⟨rfl, hg1⟩))
      go_ret
      exact ⟨ret1 (by rw [add_word a b ha hb]), grown_trans hg hg1⟩
end Go.Proofs.Ytijfdgkicfllaaa
