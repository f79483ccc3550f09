/-
  For any reader that the call's caller made, over any bytes: what its methods number, field and word answer and leave. No condition.
-/
import Derived.Test.YthooopcoemdphaaDoorTake
import Derived.Laws.DeepBits32
import Derived.Laws.BitsAllLaws
namespace Go.Proofs.YthooopcoemdphaaDoor
open Go.ChangeShapes Go.WideShapes Go.ChangeAt Go.RowKit
set_option linter.unusedVariables false

/-- the number that n bytes from place i on make, the lowest first -/
def leAt (L : List Int) : Nat → Nat → Int
  | _, 0 => 0
  | i, n + 1 => L.getD i 0 + 256 * leAt L (i + 1) n
theorem leAt_snoc (L : List Int) (i n : Nat) : leAt L i (n + 1) = leAt L i n + L.getD (i + n) 0 * 256 ^ n := by
  induction n generalizing i with
  | zero => simp [leAt]
  | succ n ih =>
    rw [show leAt L i (n + 1 + 1) = L.getD i 0 + 256 * leAt L (i + 1) (n + 1) from rfl, ih, show leAt L i (n + 1) = L.getD i 0 + 256 * leAt L (i + 1) n from rfl, show i + 1 + n = i + (n + 1) by omega, Int.pow_succ, Int.mul_add, Int.add_assoc]
    congr 2
    rw [Int.mul_comm 256, Int.mul_assoc]
abbrev isBytes (L : List Int) : Prop := ∀ x ∈ L, 0 ≤ x ∧ x ≤ 255
theorem getD_byte {L : List Int} (h : isBytes L) (i : Nat) : 0 ≤ L.getD i 0 ∧ L.getD i 0 ≤ 255 := by
  by_cases hi : i < L.length
  · rw [List.getD_eq_getElem?_getD, List.getElem?_eq_getElem hi]
    exact h _ (List.getElem_mem hi)
  · rw [List.getD_eq_getElem?_getD, List.getElem?_eq_none (by omega)]
    simp
theorem leAt_bounds {L : List Int} (h : isBytes L) (i n : Nat) : 0 ≤ leAt L i n ∧ leAt L i n < 256 ^ n := by
  induction n generalizing i with
  | zero => simp [leAt]
  | succ n ih =>
    have := ih (i + 1)
    have := getD_byte h i
    rw [show leAt L i (n + 1) = L.getD i 0 + 256 * leAt L (i + 1) n from rfl, Int.pow_succ]
    omega
theorem leAt_take (L : List Int) (i n m : Nat) (h : i + n ≤ m) : leAt (L.take m) i n = leAt L i n := by
  induction n generalizing i with
  | zero => rfl
  | succ n ih =>
    rw [show leAt (L.take m) i (n + 1) = (L.take m).getD i 0 + 256 * leAt (L.take m) (i + 1) n from rfl, ih (i + 1) (by omega)]
    show _ = L.getD i 0 + 256 * leAt L (i + 1) n
    congr 1
    rw [List.getD_eq_getElem?_getD, List.getD_eq_getElem?_getD, List.getElem?_take, if_pos (by omega)]
theorem leAt_drop (L : List Int) (i n m : Nat) : leAt (L.drop m) i n = leAt L (m + i) n := by
  induction n generalizing i with
  | zero => rfl
  | succ n ih =>
    show (L.drop m).getD i 0 + 256 * leAt (L.drop m) (i + 1) n = L.getD (m + i) 0 + 256 * leAt L (m + i + 1) n
    rw [ih, List.getD_eq_getElem?_getD, List.getD_eq_getElem?_getD, List.getElem?_drop]
    rfl

theorem or_step (m x : Int) (k : Nat) (hk : k < 4) (m0 : 0 ≤ m) (m1 : m < 256 ^ k) (x0 : 0 ≤ x) (x1 : x ≤ 255) : bits .or .u32 m (x * 2 ^ (8 * k) % 4294967296) = m + x * 256 ^ k := by
  obtain ⟨M, rfl⟩ := Int.eq_ofNat_of_zero_le m0
  obtain ⟨X, rfl⟩ := Int.eq_ofNat_of_zero_le x0
  have go : ∀ p : Nat, p ≤ 24 → M < 2 ^ p → X * 2 ^ p < 4294967296 → M < 4294967296 → bits .or .u32 (M : Int) ((X * 2 ^ p : Nat) : Int) = (M : Int) + ((X * 2 ^ p : Nat) : Int) := by
    intro p hp h1 h2 h3
    rw [u32_or_nat M (X * 2 ^ p) h3 h2, Nat.or_comm, Nat.mul_comm, ← Nat.two_pow_add_eq_or_of_lt h1]
    omega
  have fin : ∀ q : Nat, q = 2 ^ (8 * k) → (256 : Int) ^ k = (q : Int) → (M : Int) + (X : Int) * 256 ^ k = (M : Int) + ((X * q : Nat) : Int) := by
    intro q _ h2
    rw [h2]
    simp
  rcases (show k = 0 ∨ k = 1 ∨ k = 2 ∨ k = 3 by omega) with rfl | rfl | rfl | rfl
  · rw [fin (2 ^ 0) rfl rfl, ← go 0 (by omega) (by have := m1; simp at this; omega) (by omega) (by have := m1; simp at this; omega)]
    congr 1
    simp
    omega
  · rw [fin (2 ^ 8) rfl rfl, ← go 8 (by omega) (by have := m1; simp at this; omega) (by omega) (by have := m1; simp at this; omega)]
    congr 1
    simp
    omega
  · rw [fin (2 ^ 16) rfl rfl, ← go 16 (by omega) (by have := m1; simp at this; omega) (by omega) (by have := m1; simp at this; omega)]
    congr 1
    simp
    omega
  · rw [fin (2 ^ 24) rfl rfl, ← go 24 (by omega) (by have := m1; simp at this; omega) (by omega) (by have := m1; simp at this; omega)]
    congr 1
    simp
    omega

set_option maxHeartbeats 1000000 in
theorem num_ok (r n : Nat) (L : List Int) (w : World) (hr : Rd w r L false) (hn0 : 1 ≤ n) (hn : n ≤ 4) (h : n ≤ L.length) (hb : isBytes L) :
    Calls Tryd.prog 30 #[.pointer (some ⟨r, 0, none⟩), .int .i64 n] w fun e w' => e = .returned (.int .u32 (leAt L 0 n)) ∧ Rd w' r (L.drop n) false ∧ Wr r w w' := by
  have HR := hide hr
  clear hr
  go_enter Tryd.func30, Tryd.ntmps30
  go_wp2_with (go_at_call 16; refine (take_ok r n L _ HR.out hn0 hn h).mono ?_; rintro e w1 ⟨a, c, rfl, hB, hR, hW⟩)
  have HB := hide hB
  have H1 := hide hR
  have H2 := hide hW
  clear hB hR hW
  go_loop [5, 12] (fun m i => ∃ k : Nat, k ≤ n ∧ i = .int .i64 k ∧ m = .int .u32 (leAt L 0 k)) (fun _ i => n - (intOf i).toNat)
  case atStart => exact ⟨0, by omega, rfl, rfl⟩
  case round =>
    obtain ⟨k, hk, rfl, rfl⟩ := hrel
    by_cases hlt : k < n
    · have hbd := leAt_bounds hb 0 k
      have hby := getD_byte hb k
      have hsn : Hid (leAt L 0 (k + 1) = leAt L 0 k + L.getD k 0 * 256 ^ k) := by
        have := leAt_snoc L 0 k
        rw [Nat.zero_add] at this
        exact this
      obtain ⟨b, off, rfl, hc⟩ : ∃ b off, a = some ⟨b, off, none⟩ ∧ w1.cell? ⟨b, off + k, none⟩ = some (.int .u8 (L.getD k 0)) := by
        rcases HB.out with h0 | ⟨b, off, ha, hc⟩
        · have := congrArg List.length h0; rw [List.length_take, List.length_nil] at this; omega
        · refine ⟨b, off, ha, hc k _ ?_⟩
          rw [List.getElem?_take, if_pos hlt, List.getElem?_eq_getElem (by omega), List.getD_eq_getElem?_getD, List.getElem?_eq_getElem (by omega)]
          rfl
      generalize leAt L 0 k = m at hbd hsn ⊢
      generalize L.getD k 0 = x at hby hc hsn
      obtain ⟨hm0, hm1⟩ := hbd
      obtain ⟨hx0, hx1⟩ := hby
      go_wp2
      exact ⟨⟨k + 1, by omega, by go_num, by rw [or_step m x k (by omega) hm0 hm1 hx0 hx1, hsn.out]⟩, by simp [intOf]; omega⟩
    · obtain rfl : k = n := by omega
      go_wp2
      go_ret
      exact ⟨rfl, H1.out, H2.out⟩
set_option maxHeartbeats 1000000 in
theorem num_short (r n : Nat) (L : List Int) (s : Bool) (w : World) (hr : Rd w r L s) (hn : n ≤ 4) (h : s = true ∨ L.length < n) :
    Calls Tryd.prog 30 #[.pointer (some ⟨r, 0, none⟩), .int .i64 n] w fun e w' => e = .returned (.int .u32 0) ∧ Rd w' r L true ∧ Wr r w w' := by
  have HR := hide hr
  have HH := hide h
  clear hr h
  go_enter Tryd.func30, Tryd.ntmps30
  go_wp2_with (go_at_call 16; refine (take_short r n L s _ HR.out hn HH.out).mono ?_; rintro e w1 ⟨rfl, hR, hW⟩)
  have H1 := hide hR
  have H2 := hide hW
  clear hR hW
  go_loop [5, 12] (fun m i => i = .int .i64 0 ∧ m = .int .u32 0) (fun _ i => 0)
  case atStart => exact ⟨rfl, rfl⟩
  case round =>
    obtain ⟨rfl, rfl⟩ := hrel
    go_wp2
    go_ret
    exact ⟨rfl, H1.out, H2.out⟩

/-- what is read of a number of n bytes: the number, what is left, whether more was asked for -/
def numV (n : Nat) (L : List Int) (s : Bool) : Int := if s = true ∨ L.length < n then 0 else leAt L 0 n
def numL (n : Nat) (L : List Int) (s : Bool) : List Int := if s = true ∨ L.length < n then L else L.drop n
def numS (n : Nat) (L : List Int) (s : Bool) : Bool := s || decide (L.length < n)
theorem num_calls (r n : Nat) (L : List Int) (s : Bool) (w : World) (hr : Rd w r L s) (hn0 : 1 ≤ n) (hn : n ≤ 4) (hb : isBytes L) :
    Calls Tryd.prog 30 #[.pointer (some ⟨r, 0, none⟩), .int .i64 n] w fun e w' => e = .returned (.int .u32 (numV n L s)) ∧ Rd w' r (numL n L s) (numS n L s) ∧ Wr r w w' := by
  by_cases h : s = true ∨ L.length < n
  · have e : numS n L s = true := by rcases h with h | h <;> simp [numS, h]
    unfold numV numL
    rw [if_pos h, if_pos h, e]
    exact num_short r n L s w hr hn h
  · have hs : s = false := by cases s <;> simp_all
    subst hs
    have e : numS n L false = false := by simp [numS]; omega
    unfold numV numL
    rw [if_neg h, if_neg h, e]
    exact num_ok r n L w hr hn0 hn (by omega) hb
theorem numV_bounds (n : Nat) (L : List Int) (s : Bool) (h : isBytes L) : 0 ≤ numV n L s ∧ numV n L s < 256 ^ n := by
  unfold numV
  split
  · exact ⟨by omega, Int.pow_pos (by omega)⟩
  · exact leAt_bounds h 0 n
theorem numL_bytes {n : Nat} {L : List Int} {s : Bool} (h : isBytes L) : isBytes (numL n L s) := by
  unfold numL
  split
  · exact h
  · exact fun x hx => h x (List.mem_of_mem_drop hx)

theorem field_calls (r : Nat) (L : List Int) (s : Bool) (w : World) (hr : Rd w r L s) (hb : isBytes L) :
    Calls Tryd.prog 24 #[.pointer (some ⟨r, 0, none⟩)] w fun e w' => e = .returned (.int .i64 (numV 1 L s)) ∧ Rd w' r (numL 1 L s) (numS 1 L s) ∧ Wr r w w' := by
  have HR := hide hr
  clear hr
  obtain ⟨h0, h1⟩ := numV_bounds 1 L s hb
  go_enter Tryd.func24, Tryd.ntmps24
  go_wp2_with (go_at_call 30; refine (num_calls r 1 L s _ HR.out (by omega) (by omega) hb).mono ?_; rintro e w1 ⟨rfl, hR, hW⟩)
  go_ret
  exact ⟨rfl, hR, hW⟩
theorem word_calls (r : Nat) (L : List Int) (s : Bool) (w : World) (hr : Rd w r L s) (hb : isBytes L) :
    Calls Tryd.prog 32 #[.pointer (some ⟨r, 0, none⟩)] w fun e w' => e = .returned (.int .u32 (numV 4 L s)) ∧ Rd w' r (numL 4 L s) (numS 4 L s) ∧ Wr r w w' := by
  have HR := hide hr
  clear hr
  go_enter Tryd.func32, Tryd.ntmps32
  go_wp2_with (go_at_call 30; refine (num_calls r 4 L s _ HR.out (by omega) (by omega) hb).mono ?_; rintro e w1 ⟨rfl, hR, hW⟩)
  go_ret
  exact ⟨rfl, hR, hW⟩
end Go.Proofs.YthooopcoemdphaaDoor
