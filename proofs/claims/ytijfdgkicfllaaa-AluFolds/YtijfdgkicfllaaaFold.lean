/-
  For every operation, any first word and any words of a slice: the program's Fold answers what the operation makes of them, one behind the other, and true; of another number 0, false. Conditions: words are below 2^32; of the slice's length no more than that it is at most 200.
-/
import Derived.Test.YtijfdgkicfllaaaRef3
namespace Go.Proofs.Ytijfdgkicfllaaa
open Go.ChangeShapes Go.WideShapes Go.ChangeAt Go.RowKit
set_option linter.unusedVariables false

/-- an operation, with one word behind the other -/
def foldN (op : Int) (first : Nat) (z : Nat → Nat) : Nat → Nat
  | 0 => first
  | k + 1 => doF op (foldN op first z k) (z k)
theorem foldN_lt (op : Int) (first : Nat) (z : Nat → Nat) (hf : first < 4294967296) (hz : ∀ i, z i < 4294967296) : ∀ k, foldN op first z k < 4294967296
  | 0 => hf
  | k + 1 => doF_lt op _ _ (foldN_lt op first z hf hz k) (hz k)

/-- what is told of a slice of words: it has none, or its cells hold the words z -/
def Row (w : World) (a : Option Addr) (len : Nat) (z : Nat → Nat) : Prop :=
  len = 0 ∨ ∃ b off, a = some ⟨b, off, none⟩ ∧ ∀ i, i < len → w.cell? ⟨b, off + i, none⟩ = some (.int .u32 (z i))
theorem row_at {w w' : World} {a : Option Addr} {len : Nat} {z : Nat → Nat} (h : Row w a len z) (g : Gr w w') {k : Nat} (hk : k < len) : ∃ b off, a = some ⟨b, off, none⟩ ∧ w'.cell? ⟨b, off + k, none⟩ = some (.int .u32 (z k)) := by
  rcases h with h0 | ⟨b, off, h1, h2⟩
  · omega
  · have hc := h2 k hk
    exact ⟨b, off, h1, (g.2.cell (p := ⟨b, off + k, none⟩) (block_lt_of_cell hc)).trans hc⟩
theorem row_later {w w' : World} {a : Option Addr} {len : Nat} {z : Nat → Nat} (h : Row w a len z) (g : Gr w w') : Row w' a len z := by
  rcases h with h0 | ⟨b, off, h1, h2⟩
  · exact .inl h0
  · exact .inr ⟨b, off, h1, fun i hi => (g.2.cell (p := ⟨b, off + i, none⟩) (block_lt_of_cell (h2 i hi))).trans (h2 i hi)⟩

set_option maxHeartbeats 400000 in
theorem word_add (a b : Nat) (ha : a < 4294967296) (hb : b < 4294967296) (w : World) :
    Calls Try.prog 23 #[.int .u32 a, .int .u32 b] w fun e w' => e = .returned (.int .u32 (doF 3 a b)) ∧ w' = w := by
  go_enter Try.func23, Try.ntmps23
  go_wp2
  go_ret
  exact ⟨ret1 (by simp [doF]), rfl⟩

set_option maxHeartbeats 400000 in
theorem word_sub (a b : Nat) (ha : a < 4294967296) (hb : b < 4294967296) (w : World) :
    Calls Try.prog 24 #[.int .u32 a, .int .u32 b] w fun e w' => e = .returned (.int .u32 (doF 4 a b)) ∧ w' = w := by
  go_enter Try.func24, Try.ntmps24
  go_wp2
  go_ret
  exact ⟨ret1 (by simp [doF]; omega), rfl⟩

set_option maxHeartbeats 400000 in
theorem word_mul (a b : Nat) (ha : a < 4294967296) (hb : b < 4294967296) (w : World) :
    Calls Try.prog 25 #[.int .u32 a, .int .u32 b] w fun e w' => e = .returned (.int .u32 (doF 5 a b)) ∧ w' = w := by
  go_enter Try.func25, Try.ntmps25
  go_wp2
  go_ret
  exact ⟨ret1 (by simp [doF]), rfl⟩

set_option maxHeartbeats 400000 in
theorem word_and (a b : Nat) (ha : a < 4294967296) (hb : b < 4294967296) (w : World) :
    Calls Try.prog 26 #[.int .u32 a, .int .u32 b] w fun e w' => e = .returned (.int .u32 (doF 6 a b)) ∧ w' = w := by
  go_enter Try.func26, Try.ntmps26
  go_wp2
  go_ret
  exact ⟨ret1 (by simp [doF]; exact u32_and_nat a b ha hb), rfl⟩

set_option maxHeartbeats 400000 in
theorem word_or (a b : Nat) (ha : a < 4294967296) (hb : b < 4294967296) (w : World) :
    Calls Try.prog 27 #[.int .u32 a, .int .u32 b] w fun e w' => e = .returned (.int .u32 (doF 7 a b)) ∧ w' = w := by
  go_enter Try.func27, Try.ntmps27
  go_wp2
  go_ret
  exact ⟨ret1 (by simp [doF]; exact u32_or_nat a b ha hb), rfl⟩

set_option maxHeartbeats 400000 in
theorem word_xor (a b : Nat) (ha : a < 4294967296) (hb : b < 4294967296) (w : World) :
    Calls Try.prog 28 #[.int .u32 a, .int .u32 b] w fun e w' => e = .returned (.int .u32 (doF 8 a b)) ∧ w' = w := by
  go_enter Try.func28, Try.ntmps28
  go_wp2
  go_ret
  exact ⟨ret1 (by simp [doF]; exact u32_xor_nat a b ha hb), rfl⟩

set_option maxHeartbeats 400000 in
theorem word_shl (a b : Nat) (ha : a < 4294967296) (hb : b < 4294967296) (w : World) :
    Calls Try.prog 29 #[.int .u32 a, .int .u32 b] w fun e w' => e = .returned (.int .u32 (doF 9 a b)) ∧ w' = w := by
  go_enter Try.func29, Try.ntmps29
  go_wp2
  go_ret
  exact ⟨ret1 (by simp [doF]), rfl⟩

set_option maxHeartbeats 400000 in
theorem word_shr (a b : Nat) (ha : a < 4294967296) (hb : b < 4294967296) (w : World) :
    Calls Try.prog 30 #[.int .u32 a, .int .u32 b] w fun e w' => e = .returned (.int .u32 (doF 10 a b)) ∧ w' = w := by
  go_enter Try.func30, Try.ntmps30
  go_wp2
  go_ret
  exact ⟨ret1 (by simp [doF]), rfl⟩

set_option maxHeartbeats 400000 in
theorem word_less (a b : Nat) (ha : a < 4294967296) (hb : b < 4294967296) (w : World) :
    Calls Try.prog 31 #[.int .u32 a, .int .u32 b] w fun e w' => e = .returned (.int .u32 (doF 11 a b)) ∧ w' = w := by
  by_cases h : a < b
  · have h0 : (a : Int) < b := by omega
    have hf : doF 11 a b = 1 := by simp [doF, h]
    go_enter Try.func31, Try.ntmps31
    go_wp2
    go_ret
    exact ⟨ret1 (by first | (rw [hf]; rfl) | rfl), rfl⟩
  · have h0 : ¬ ((a : Int) < b) := by omega
    have hf : doF 11 a b = 0 := by simp [doF, h]
    go_enter Try.func31, Try.ntmps31
    go_wp2
    go_ret
    exact ⟨ret1 (by first | (rw [hf]; rfl) | rfl), rfl⟩

set_option maxHeartbeats 400000 in
theorem word_same (a b : Nat) (ha : a < 4294967296) (hb : b < 4294967296) (w : World) :
    Calls Try.prog 32 #[.int .u32 a, .int .u32 b] w fun e w' => e = .returned (.int .u32 (doF 12 a b)) ∧ w' = w := by
  by_cases h : a = b
  · have h0 : ((a : Int) == b) = true := by simp [h]
    have hf : doF 12 a b = 1 := by simp [doF, h]
    go_enter Try.func32, Try.ntmps32
    go_wp2
    go_ret
    exact ⟨ret1 (by first | (rw [hf]; rfl) | rfl), rfl⟩
  · have h0 : ((a : Int) == b) = false := by simp; omega
    have hf : doF 12 a b = 0 := by simp [doF, h]
    go_enter Try.func32, Try.ntmps32
    go_wp2
    go_ret
    exact ⟨ret1 (by first | (rw [hf]; rfl) | rfl), rfl⟩

set_option maxHeartbeats 1000000 in
theorem fold_add (f : Nat) (a2 : Option Addr) (len cap : Nat) (z : Nat → Nat) (w : World) (hf : f < 4294967296) (hz : ∀ i, z i < 4294967296) (hrow : Row w a2 len z) (hl : len ≤ 200) :
    Calls Try.prog 14 #[.int .i64 3, .int .u32 f, .slice a2 len cap] w fun e w' => e = .returned (.tuple #[.int .u32 (foldN 3 f z len), .bool true]) ∧ Gr w w' := by
  have HR := hide hrow
  have HZ := hide hz
  clear hrow hz
  go_enter Try.func14, Try.ntmps14
  go_wp2_with (first | (go_at_call 11; refine (is_calls _ _).mono ?_; rintro e w' ⟨rfl, rfl⟩) | (go_at_call 16; refine (ops_calls _).mono ?_; rintro e w1 ⟨rfl, hg⟩))
  go_loopw [10, 12, 23] (fun s _ i wr => ∃ k : Nat, k ≤ len ∧ i = .int .i64 k ∧ s = .int .u32 (foldN 3 f z k) ∧ Gr w' wr) (fun _ _ i _ => len - (intOf i).toNat)
  case atStart => exact ⟨0, by omega, rfl, rfl, Gr.alloc hg _ _⟩
  case round =>
    obtain ⟨k, hk, rfl, rfl, hgr⟩ := hrel
    by_cases hlt : k < len
    · have hfk := foldN_lt 3 f z hf HZ.out k
      have hzk := HZ.out k
      obtain ⟨b, off, rfl, hc⟩ := row_at HR.out hgr hlt
      go_wp2_with (go_at_call 23; refine (word_add _ _ hfk hzk _).mono ?_; rintro e w2 ⟨rfl, rfl⟩)
      exact ⟨⟨k + 1, by omega, by go_num, rfl, hgr⟩, by simp [intOf]; omega⟩
    · obtain rfl : k = len := by omega
      go_wp2_with (fail)
      go_ret2
      exact ⟨rfl, hgr⟩

set_option maxHeartbeats 1000000 in
theorem fold_sub (f : Nat) (a2 : Option Addr) (len cap : Nat) (z : Nat → Nat) (w : World) (hf : f < 4294967296) (hz : ∀ i, z i < 4294967296) (hrow : Row w a2 len z) (hl : len ≤ 200) :
    Calls Try.prog 14 #[.int .i64 4, .int .u32 f, .slice a2 len cap] w fun e w' => e = .returned (.tuple #[.int .u32 (foldN 4 f z len), .bool true]) ∧ Gr w w' := by
  have HR := hide hrow
  have HZ := hide hz
  clear hrow hz
  go_enter Try.func14, Try.ntmps14
  go_wp2_with (first | (go_at_call 11; refine (is_calls _ _).mono ?_; rintro e w' ⟨rfl, rfl⟩) | (go_at_call 16; refine (ops_calls _).mono ?_; rintro e w1 ⟨rfl, hg⟩))
  go_loopw [10, 12, 23] (fun s _ i wr => ∃ k : Nat, k ≤ len ∧ i = .int .i64 k ∧ s = .int .u32 (foldN 4 f z k) ∧ Gr w' wr) (fun _ _ i _ => len - (intOf i).toNat)
  case atStart => exact ⟨0, by omega, rfl, rfl, Gr.alloc hg _ _⟩
  case round =>
    obtain ⟨k, hk, rfl, rfl, hgr⟩ := hrel
    by_cases hlt : k < len
    · have hfk := foldN_lt 4 f z hf HZ.out k
      have hzk := HZ.out k
      obtain ⟨b, off, rfl, hc⟩ := row_at HR.out hgr hlt
      go_wp2_with (go_at_call 24; refine (word_sub _ _ hfk hzk _).mono ?_; rintro e w2 ⟨rfl, rfl⟩)
      exact ⟨⟨k + 1, by omega, by go_num, rfl, hgr⟩, by simp [intOf]; omega⟩
    · obtain rfl : k = len := by omega
      go_wp2_with (fail)
      go_ret2
      exact ⟨rfl, hgr⟩

set_option maxHeartbeats 1000000 in
theorem fold_mul (f : Nat) (a2 : Option Addr) (len cap : Nat) (z : Nat → Nat) (w : World) (hf : f < 4294967296) (hz : ∀ i, z i < 4294967296) (hrow : Row w a2 len z) (hl : len ≤ 200) :
    Calls Try.prog 14 #[.int .i64 5, .int .u32 f, .slice a2 len cap] w fun e w' => e = .returned (.tuple #[.int .u32 (foldN 5 f z len), .bool true]) ∧ Gr w w' := by
  have HR := hide hrow
  have HZ := hide hz
  clear hrow hz
  go_enter Try.func14, Try.ntmps14
  go_wp2_with (first | (go_at_call 11; refine (is_calls _ _).mono ?_; rintro e w' ⟨rfl, rfl⟩) | (go_at_call 16; refine (ops_calls _).mono ?_; rintro e w1 ⟨rfl, hg⟩))
  go_loopw [10, 12, 23] (fun s _ i wr => ∃ k : Nat, k ≤ len ∧ i = .int .i64 k ∧ s = .int .u32 (foldN 5 f z k) ∧ Gr w' wr) (fun _ _ i _ => len - (intOf i).toNat)
  case atStart => exact ⟨0, by omega, rfl, rfl, Gr.alloc hg _ _⟩
  case round =>
    obtain ⟨k, hk, rfl, rfl, hgr⟩ := hrel
    by_cases hlt : k < len
    · have hfk := foldN_lt 5 f z hf HZ.out k
      have hzk := HZ.out k
      obtain ⟨b, off, rfl, hc⟩ := row_at HR.out hgr hlt
      go_wp2_with (go_at_call 25; refine (word_mul _ _ hfk hzk _).mono ?_; rintro e w2 ⟨rfl, rfl⟩)
      exact ⟨⟨k + 1, by omega, by go_num, rfl, hgr⟩, by simp [intOf]; omega⟩
    · obtain rfl : k = len := by omega
      go_wp2_with (fail)
      go_ret2
      exact ⟨rfl, hgr⟩

set_option maxHeartbeats 1000000 in
theorem fold_and (f : Nat) (a2 : Option Addr) (len cap : Nat) (z : Nat → Nat) (w : World) (hf : f < 4294967296) (hz : ∀ i, z i < 4294967296) (hrow : Row w a2 len z) (hl : len ≤ 200) :
    Calls Try.prog 14 #[.int .i64 6, .int .u32 f, .slice a2 len cap] w fun e w' => e = .returned (.tuple #[.int .u32 (foldN 6 f z len), .bool true]) ∧ Gr w w' := by
  have HR := hide hrow
  have HZ := hide hz
  clear hrow hz
  go_enter Try.func14, Try.ntmps14
  go_wp2_with (first | (go_at_call 11; refine (is_calls _ _).mono ?_; rintro e w' ⟨rfl, rfl⟩) | (go_at_call 16; refine (ops_calls _).mono ?_; rintro e w1 ⟨rfl, hg⟩))
  go_loopw [10, 12, 23] (fun s _ i wr => ∃ k : Nat, k ≤ len ∧ i = .int .i64 k ∧ s = .int .u32 (foldN 6 f z k) ∧ Gr w' wr) (fun _ _ i _ => len - (intOf i).toNat)
  case atStart => exact ⟨0, by omega, rfl, rfl, Gr.alloc hg _ _⟩
  case round =>
    obtain ⟨k, hk, rfl, rfl, hgr⟩ := hrel
    by_cases hlt : k < len
    · have hfk := foldN_lt 6 f z hf HZ.out k
      have hzk := HZ.out k
      obtain ⟨b, off, rfl, hc⟩ := row_at HR.out hgr hlt
      go_wp2_with (go_at_call 26; refine (word_and _ _ hfk hzk _).mono ?_; rintro e w2 ⟨rfl, rfl⟩)
      exact ⟨⟨k + 1, by omega, by go_num, rfl, hgr⟩, by simp [intOf]; omega⟩
    · obtain rfl : k = len := by omega
      go_wp2_with (fail)
      go_ret2
      exact ⟨rfl, hgr⟩

set_option maxHeartbeats 1000000 in
theorem fold_or (f : Nat) (a2 : Option Addr) (len cap : Nat) (z : Nat → Nat) (w : World) (hf : f < 4294967296) (hz : ∀ i, z i < 4294967296) (hrow : Row w a2 len z) (hl : len ≤ 200) :
    Calls Try.prog 14 #[.int .i64 7, .int .u32 f, .slice a2 len cap] w fun e w' => e = .returned (.tuple #[.int .u32 (foldN 7 f z len), .bool true]) ∧ Gr w w' := by
  have HR := hide hrow
  have HZ := hide hz
  clear hrow hz
  go_enter Try.func14, Try.ntmps14
  go_wp2_with (first | (go_at_call 11; refine (is_calls _ _).mono ?_; rintro e w' ⟨rfl, rfl⟩) | (go_at_call 16; refine (ops_calls _).mono ?_; rintro e w1 ⟨rfl, hg⟩))
  go_loopw [10, 12, 23] (fun s _ i wr => ∃ k : Nat, k ≤ len ∧ i = .int .i64 k ∧ s = .int .u32 (foldN 7 f z k) ∧ Gr w' wr) (fun _ _ i _ => len - (intOf i).toNat)
  case atStart => exact ⟨0, by omega, rfl, rfl, Gr.alloc hg _ _⟩
  case round =>
    obtain ⟨k, hk, rfl, rfl, hgr⟩ := hrel
    by_cases hlt : k < len
    · have hfk := foldN_lt 7 f z hf HZ.out k
      have hzk := HZ.out k
      obtain ⟨b, off, rfl, hc⟩ := row_at HR.out hgr hlt
      go_wp2_with (go_at_call 27; refine (word_or _ _ hfk hzk _).mono ?_; rintro e w2 ⟨rfl, rfl⟩)
      exact ⟨⟨k + 1, by omega, by go_num, rfl, hgr⟩, by simp [intOf]; omega⟩
    · obtain rfl : k = len := by omega
      go_wp2_with (fail)
      go_ret2
      exact ⟨rfl, hgr⟩

set_option maxHeartbeats 1000000 in
theorem fold_xor (f : Nat) (a2 : Option Addr) (len cap : Nat) (z : Nat → Nat) (w : World) (hf : f < 4294967296) (hz : ∀ i, z i < 4294967296) (hrow : Row w a2 len z) (hl : len ≤ 200) :
    Calls Try.prog 14 #[.int .i64 8, .int .u32 f, .slice a2 len cap] w fun e w' => e = .returned (.tuple #[.int .u32 (foldN 8 f z len), .bool true]) ∧ Gr w w' := by
  have HR := hide hrow
  have HZ := hide hz
  clear hrow hz
  go_enter Try.func14, Try.ntmps14
  go_wp2_with (first | (go_at_call 11; refine (is_calls _ _).mono ?_; rintro e w' ⟨rfl, rfl⟩) | (go_at_call 16; refine (ops_calls _).mono ?_; rintro e w1 ⟨rfl, hg⟩))
  go_loopw [10, 12, 23] (fun s _ i wr => ∃ k : Nat, k ≤ len ∧ i = .int .i64 k ∧ s = .int .u32 (foldN 8 f z k) ∧ Gr w' wr) (fun _ _ i _ => len - (intOf i).toNat)
  case atStart => exact ⟨0, by omega, rfl, rfl, Gr.alloc hg _ _⟩
  case round =>
    obtain ⟨k, hk, rfl, rfl, hgr⟩ := hrel
    by_cases hlt : k < len
    · have hfk := foldN_lt 8 f z hf HZ.out k
      have hzk := HZ.out k
      obtain ⟨b, off, rfl, hc⟩ := row_at HR.out hgr hlt
      go_wp2_with (go_at_call 28; refine (word_xor _ _ hfk hzk _).mono ?_; rintro e w2 ⟨rfl, rfl⟩)
      exact ⟨⟨k + 1, by omega, by go_num, rfl, hgr⟩, by simp [intOf]; omega⟩
    · obtain rfl : k = len := by omega
      go_wp2_with (fail)
      go_ret2
      exact ⟨rfl, hgr⟩

set_option maxHeartbeats 1000000 in
theorem fold_shl (f : Nat) (a2 : Option Addr) (len cap : Nat) (z : Nat → Nat) (w : World) (hf : f < 4294967296) (hz : ∀ i, z i < 4294967296) (hrow : Row w a2 len z) (hl : len ≤ 200) :
    Calls Try.prog 14 #[.int .i64 9, .int .u32 f, .slice a2 len cap] w fun e w' => e = .returned (.tuple #[.int .u32 (foldN 9 f z len), .bool true]) ∧ Gr w w' := by
  have HR := hide hrow
  have HZ := hide hz
  clear hrow hz
  go_enter Try.func14, Try.ntmps14
  go_wp2_with (first | (go_at_call 11; refine (is_calls _ _).mono ?_; rintro e w' ⟨rfl, rfl⟩) | (go_at_call 16; refine (ops_calls _).mono ?_; rintro e w1 ⟨rfl, hg⟩))
  go_loopw [10, 12, 23] (fun s _ i wr => ∃ k : Nat, k ≤ len ∧ i = .int .i64 k ∧ s = .int .u32 (foldN 9 f z k) ∧ Gr w' wr) (fun _ _ i _ => len - (intOf i).toNat)
  case atStart => exact ⟨0, by omega, rfl, rfl, Gr.alloc hg _ _⟩
  case round =>
    obtain ⟨k, hk, rfl, rfl, hgr⟩ := hrel
    by_cases hlt : k < len
    · have hfk := foldN_lt 9 f z hf HZ.out k
      have hzk := HZ.out k
      obtain ⟨b, off, rfl, hc⟩ := row_at HR.out hgr hlt
      go_wp2_with (go_at_call 29; refine (word_shl _ _ hfk hzk _).mono ?_; rintro e w2 ⟨rfl, rfl⟩)
      exact ⟨⟨k + 1, by omega, by go_num, rfl, hgr⟩, by simp [intOf]; omega⟩
    · obtain rfl : k = len := by omega
      go_wp2_with (fail)
      go_ret2
      exact ⟨rfl, hgr⟩

set_option maxHeartbeats 1000000 in
theorem fold_shr (f : Nat) (a2 : Option Addr) (len cap : Nat) (z : Nat → Nat) (w : World) (hf : f < 4294967296) (hz : ∀ i, z i < 4294967296) (hrow : Row w a2 len z) (hl : len ≤ 200) :
    Calls Try.prog 14 #[.int .i64 10, .int .u32 f, .slice a2 len cap] w fun e w' => e = .returned (.tuple #[.int .u32 (foldN 10 f z len), .bool true]) ∧ Gr w w' := by
  have HR := hide hrow
  have HZ := hide hz
  clear hrow hz
  go_enter Try.func14, Try.ntmps14
  go_wp2_with (first | (go_at_call 11; refine (is_calls _ _).mono ?_; rintro e w' ⟨rfl, rfl⟩) | (go_at_call 16; refine (ops_calls _).mono ?_; rintro e w1 ⟨rfl, hg⟩))
  go_loopw [10, 12, 23] (fun s _ i wr => ∃ k : Nat, k ≤ len ∧ i = .int .i64 k ∧ s = .int .u32 (foldN 10 f z k) ∧ Gr w' wr) (fun _ _ i _ => len - (intOf i).toNat)
  case atStart => exact ⟨0, by omega, rfl, rfl, Gr.alloc hg _ _⟩
  case round =>
    obtain ⟨k, hk, rfl, rfl, hgr⟩ := hrel
    by_cases hlt : k < len
    · have hfk := foldN_lt 10 f z hf HZ.out k
      have hzk := HZ.out k
      obtain ⟨b, off, rfl, hc⟩ := row_at HR.out hgr hlt
      go_wp2_with (go_at_call 30; refine (word_shr _ _ hfk hzk _).mono ?_; rintro e w2 ⟨rfl, rfl⟩)
      exact ⟨⟨k + 1, by omega, by go_num, rfl, hgr⟩, by simp [intOf]; omega⟩
    · obtain rfl : k = len := by omega
      go_wp2_with (fail)
      go_ret2
      exact ⟨rfl, hgr⟩

set_option maxHeartbeats 1000000 in
theorem fold_less (f : Nat) (a2 : Option Addr) (len cap : Nat) (z : Nat → Nat) (w : World) (hf : f < 4294967296) (hz : ∀ i, z i < 4294967296) (hrow : Row w a2 len z) (hl : len ≤ 200) :
    Calls Try.prog 14 #[.int .i64 11, .int .u32 f, .slice a2 len cap] w fun e w' => e = .returned (.tuple #[.int .u32 (foldN 11 f z len), .bool true]) ∧ Gr w w' := by
  have HR := hide hrow
  have HZ := hide hz
  clear hrow hz
  go_enter Try.func14, Try.ntmps14
  go_wp2_with (first | (go_at_call 11; refine (is_calls _ _).mono ?_; rintro e w' ⟨rfl, rfl⟩) | (go_at_call 16; refine (ops_calls _).mono ?_; rintro e w1 ⟨rfl, hg⟩))
  go_loopw [10, 12, 23] (fun s _ i wr => ∃ k : Nat, k ≤ len ∧ i = .int .i64 k ∧ s = .int .u32 (foldN 11 f z k) ∧ Gr w' wr) (fun _ _ i _ => len - (intOf i).toNat)
  case atStart => exact ⟨0, by omega, rfl, rfl, Gr.alloc hg _ _⟩
  case round =>
    obtain ⟨k, hk, rfl, rfl, hgr⟩ := hrel
    by_cases hlt : k < len
    · have hfk := foldN_lt 11 f z hf HZ.out k
      have hzk := HZ.out k
      obtain ⟨b, off, rfl, hc⟩ := row_at HR.out hgr hlt
      go_wp2_with (go_at_call 31; refine (word_less _ _ hfk hzk _).mono ?_; rintro e w2 ⟨rfl, rfl⟩)
      exact ⟨⟨k + 1, by omega, by go_num, rfl, hgr⟩, by simp [intOf]; omega⟩
    · obtain rfl : k = len := by omega
      go_wp2_with (fail)
      go_ret2
      exact ⟨rfl, hgr⟩

set_option maxHeartbeats 1000000 in
theorem fold_same (f : Nat) (a2 : Option Addr) (len cap : Nat) (z : Nat → Nat) (w : World) (hf : f < 4294967296) (hz : ∀ i, z i < 4294967296) (hrow : Row w a2 len z) (hl : len ≤ 200) :
    Calls Try.prog 14 #[.int .i64 12, .int .u32 f, .slice a2 len cap] w fun e w' => e = .returned (.tuple #[.int .u32 (foldN 12 f z len), .bool true]) ∧ Gr w w' := by
  have HR := hide hrow
  have HZ := hide hz
  clear hrow hz
  go_enter Try.func14, Try.ntmps14
  go_wp2_with (first | (go_at_call 11; refine (is_calls _ _).mono ?_; rintro e w' ⟨rfl, rfl⟩) | (go_at_call 16; refine (ops_calls _).mono ?_; rintro e w1 ⟨rfl, hg⟩))
  go_loopw [10, 12, 23] (fun s _ i wr => ∃ k : Nat, k ≤ len ∧ i = .int .i64 k ∧ s = .int .u32 (foldN 12 f z k) ∧ Gr w' wr) (fun _ _ i _ => len - (intOf i).toNat)
  case atStart => exact ⟨0, by omega, rfl, rfl, Gr.alloc hg _ _⟩
  case round =>
    obtain ⟨k, hk, rfl, rfl, hgr⟩ := hrel
    by_cases hlt : k < len
    · have hfk := foldN_lt 12 f z hf HZ.out k
      have hzk := HZ.out k
      obtain ⟨b, off, rfl, hc⟩ := row_at HR.out hgr hlt
      go_wp2_with (go_at_call 32; refine (word_same _ _ hfk hzk _).mono ?_; rintro e w2 ⟨rfl, rfl⟩)
      exact ⟨⟨k + 1, by omega, by go_num, rfl, hgr⟩, by simp [intOf]; omega⟩
    · obtain rfl : k = len := by omega
      go_wp2_with (fail)
      go_ret2
      exact ⟨rfl, hgr⟩

theorem fold_yes (op : Int) (f : Nat) (a2 : Option Addr) (len cap : Nat) (z : Nat → Nat) (w : World) (h : 3 ≤ op) (h' : op ≤ 12) (hf : f < 4294967296) (hz : ∀ i, z i < 4294967296) (hrow : Row w a2 len z) (hl : len ≤ 200) :
    Calls Try.prog 14 #[.int .i64 op, .int .u32 f, .slice a2 len cap] w fun e w' => e = .returned (.tuple #[.int .u32 (foldN op f z len), .bool true]) ∧ Gr w w' := by
  have hc : op = 3 ∨ op = 4 ∨ op = 5 ∨ op = 6 ∨ op = 7 ∨ op = 8 ∨ op = 9 ∨ op = 10 ∨ op = 11 ∨ op = 12 := by omega
  rcases hc with rfl | rfl | rfl | rfl | rfl | rfl | rfl | rfl | rfl | rfl
  · exact fold_add f a2 len cap z w hf hz hrow hl
  · exact fold_sub f a2 len cap z w hf hz hrow hl
  · exact fold_mul f a2 len cap z w hf hz hrow hl
  · exact fold_and f a2 len cap z w hf hz hrow hl
  · exact fold_or f a2 len cap z w hf hz hrow hl
  · exact fold_xor f a2 len cap z w hf hz hrow hl
  · exact fold_shl f a2 len cap z w hf hz hrow hl
  · exact fold_shr f a2 len cap z w hf hz hrow hl
  · exact fold_less f a2 len cap z w hf hz hrow hl
  · exact fold_same f a2 len cap z w hf hz hrow hl

set_option maxHeartbeats 400000 in
theorem fold_no (op : Int) (f : Int) (a2 : Option Addr) (len cap : Nat) (h : op < 3 ∨ 12 < op) (w : World) :
    Calls Try.prog 14 #[.int .i64 op, .int .u32 f, .slice a2 len cap] w fun e w' => e = .returned (.tuple #[.int .u32 0, .bool false]) ∧ w' = w := by
  have hb : (decide (3 ≤ op) && decide (op ≤ 12)) = false := by simp; omega
  go_enter Try.func14, Try.ntmps14
  go_wp2_with (first | (go_at_call 11; refine (is_calls _ _).mono ?_; rw [hb]; rintro e w' ⟨rfl, rfl⟩))
  go_ret2
  exact ⟨rfl, rfl⟩
end Go.Proofs.Ytijfdgkicfllaaa
