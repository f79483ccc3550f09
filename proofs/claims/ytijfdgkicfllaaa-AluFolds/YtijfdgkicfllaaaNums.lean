/-
  Plain numbers alone, no program: a word is the sum of its 32 bits; what is done bit by bit (sums with what is carried, minus, moves, products, order, and, or, xor) comes to what is done with the numbers. Conditions: each stands in its theorem.
-/
import Derived.WalkKit
namespace Go.Proofs.Ytijfdgkicfllaaa
set_option linter.unusedVariables false

/-- the number whose digits are f j, f (j + 1), .. (c of them), the lowest first -/
def numB (f : Nat → Nat) : Nat → Nat → Nat
  | _, 0 => 0
  | j, c + 1 => f j + 2 * numB f (j + 1) c
/-- the digit of a number -/
def bitN (a i : Nat) : Nat := a / 2 ^ i % 2

theorem bitN_le (a i : Nat) : bitN a i ≤ 1 := by unfold bitN; omega

theorem numB_snoc (f : Nat → Nat) : ∀ (c j : Nat), numB f j (c + 1) = numB f j c + 2 ^ c * f (j + c)
  | 0, j => by simp [numB]
  | c + 1, j => by
    have h := numB_snoc f c (j + 1)
    show f j + 2 * numB f (j + 1) (c + 1) = (f j + 2 * numB f (j + 1) c) + 2 ^ (c + 1) * f (j + (c + 1))
    rw [h, Nat.pow_succ, show j + 1 + c = j + (c + 1) by omega]
    rw [Nat.mul_add, Nat.mul_comm (2 ^ c) 2, Nat.mul_assoc]
    omega

theorem numB_lt (f : Nat → Nat) (hf : ∀ i, f i ≤ 1) : ∀ (c j : Nat), numB f j c < 2 ^ c
  | 0, j => by simp [numB]
  | c + 1, j => by
    have h := numB_lt f hf c (j + 1)
    have := hf j
    show f j + 2 * numB f (j + 1) c < 2 ^ (c + 1)
    rw [Nat.pow_succ]
    omega

theorem numB_congr (f g : Nat → Nat) : ∀ (c j : Nat), (∀ i, j ≤ i → i < j + c → f i = g i) → numB f j c = numB g j c
  | 0, j, _ => rfl
  | c + 1, j, h => by
    show f j + 2 * numB f (j + 1) c = g j + 2 * numB g (j + 1) c
    rw [h j (by omega) (by omega), numB_congr f g c (j + 1) (fun i a b => h i (by omega) (by omega))]

theorem numB_bits (a : Nat) : ∀ k, numB (bitN a) 0 k = a % 2 ^ k
  | 0 => by simp [numB, Nat.mod_one]
  | k + 1 => by
    rw [numB_snoc, numB_bits a k, Nat.mod_pow_succ, Nat.zero_add]
    rfl

theorem numB_word (a : Nat) (h : a < 4294967296) : numB (bitN a) 0 32 = a := by
  rw [numB_bits]
  exact Nat.mod_eq_of_lt (by omega)

/-! ### sums, with what is carried -/
def carryF (a b : Nat) : Nat → Nat
  | 0 => 0
  | k + 1 => (bitN a k + bitN b k + carryF a b k) / 2
def addF (a b k : Nat) : Nat := (bitN a k + bitN b k + carryF a b k) % 2
theorem carryF_le (a b : Nat) : ∀ k, carryF a b k ≤ 1
  | 0 => by simp [carryF]
  | k + 1 => by
    have h := carryF_le a b k
    have := bitN_le a k
    have := bitN_le b k
    show (bitN a k + bitN b k + carryF a b k) / 2 ≤ 1
    omega
theorem addF_le (a b k : Nat) : addF a b k ≤ 1 := by unfold addF; omega
theorem add_inv (a b : Nat) : ∀ k, numB (addF a b) 0 k + 2 ^ k * carryF a b k = a % 2 ^ k + b % 2 ^ k
  | 0 => by simp [numB, carryF, Nat.mod_one]
  | k + 1 => by
    have h := add_inv a b k
    rw [numB_snoc, Nat.mod_pow_succ, Nat.mod_pow_succ, Nat.zero_add, Nat.pow_succ]
    have e1 : a / 2 ^ k % 2 = bitN a k := rfl
    have e2 : b / 2 ^ k % 2 = bitN b k := rfl
    have e3 : addF a b k = (bitN a k + bitN b k + carryF a b k) % 2 := rfl
    have e4 : carryF a b (k + 1) = (bitN a k + bitN b k + carryF a b k) / 2 := rfl
    rw [e1, e2, e3, e4]
    have e5 : (bitN a k + bitN b k + carryF a b k) = (bitN a k + bitN b k + carryF a b k) % 2 + 2 * ((bitN a k + bitN b k + carryF a b k) / 2) := by omega
    have e6 := congrArg (fun x => 2 ^ k * x) e5
    simp only [Nat.mul_add] at e6 ⊢
    rw [Nat.mul_assoc]
    omega
theorem add_word (a b : Nat) (ha : a < 4294967296) (hb : b < 4294967296) : numB (addF a b) 0 32 = (a + b) % 4294967296 := by
  have h := add_inv a b 32
  have hl := numB_lt (addF a b) (addF_le a b) 32 0
  rw [Nat.mod_eq_of_lt (show a < 2 ^ 32 by omega), Nat.mod_eq_of_lt (show b < 2 ^ 32 by omega)] at h
  omega

/-! ### minus -/
theorem not_inv (n : Nat) : ∀ (c j : Nat), numB (fun i => 1 - bitN n i) j c + numB (bitN n) j c = 2 ^ c - 1
  | 0, j => by simp [numB]
  | c + 1, j => by
    have h := not_inv n c (j + 1)
    have hb := bitN_le n j
    have hp : 0 < 2 ^ c := Nat.pow_pos (by omega)
    show (1 - bitN n j) + 2 * numB (fun i => 1 - bitN n i) (j + 1) c + (bitN n j + 2 * numB (bitN n) (j + 1) c) = 2 ^ (c + 1) - 1
    rw [Nat.pow_succ]
    omega
theorem not_word (n : Nat) (h : n < 4294967296) : numB (fun i => 1 - bitN n i) 0 32 = 4294967295 - n := by
  have h1 := not_inv n 32 0
  rw [numB_word n h] at h1
  omega

/-! ### moves -/
theorem bit_up (n s i : Nat) : bitN (n * 2 ^ s) i = if s ≤ i then bitN n (i - s) else 0 := by
  unfold bitN
  split
  · rename_i h
    rw [show 2 ^ i = 2 ^ (i - s) * 2 ^ s by rw [← Nat.pow_add]; congr 1; omega, Nat.mul_div_mul_right _ _ (Nat.pow_pos (by omega))]
  · rename_i h
    rw [show 2 ^ s = 2 ^ (s - i - 1) * 2 * 2 ^ i by rw [← Nat.pow_succ, ← Nat.pow_add]; congr 1; omega, ← Nat.mul_assoc, Nat.mul_div_cancel _ (Nat.pow_pos (by omega)), ← Nat.mul_assoc]
    omega
theorem bit_down (n s i : Nat) (h : n < 4294967296) : bitN (n / 2 ^ s) i = if i + s < 32 then bitN n (i + s) else 0 := by
  unfold bitN
  rw [Nat.div_div_eq_div_mul, ← Nat.pow_add, Nat.add_comm s i]
  split
  · rfl
  · rename_i h'
    have hp : (2 : Nat) ^ 32 ≤ 2 ^ (i + s) := Nat.pow_le_pow_right (by omega) (by omega)
    rw [Nat.div_eq_of_lt (by omega)]
/-- a word's bits, moved up by so many places (down, below 0) -/
def moveF (n : Nat) (by_ : Int) (i : Nat) : Nat := if 0 ≤ (i : Int) - by_ ∧ (i : Int) - by_ < 32 then bitN n ((i : Int) - by_).toNat else 0
theorem moveF_le (n : Nat) (by_ : Int) (i : Nat) : moveF n by_ i ≤ 1 := by
  unfold moveF
  split
  · exact bitN_le _ _
  · omega
theorem up_word (n s : Nat) : numB (moveF n (s : Int)) 0 32 = n * 2 ^ s % 4294967296 := by
  have h := numB_bits (n * 2 ^ s) 32
  rw [numB_congr (moveF n (s : Int)) (bitN (n * 2 ^ s)) 32 0, h]
  intro i _ hi
  rw [bit_up]
  unfold moveF
  split
  · rename_i hc
    rw [if_pos (by omega)]
    exact congrArg (bitN n) (by omega)
  · rw [if_neg (by omega)]
theorem down_word (n s : Nat) (hn : n < 4294967296) : numB (moveF n (-(s : Int))) 0 32 = n / 2 ^ s := by
  have hd : n / 2 ^ s ≤ n := Nat.div_le_self _ _
  have h := numB_word (n / 2 ^ s) (by omega)
  rw [numB_congr (moveF n (-(s : Int))) (bitN (n / 2 ^ s)) 32 0, h]
  intro i _ hi
  rw [bit_down n s i hn]
  unfold moveF
  split
  · rename_i hc
    rw [if_pos (by omega)]
    exact congrArg (bitN n) (by omega)
  · rw [if_neg (by omega)]

/-! ### products -/
def mulF (a b k : Nat) : Nat := a * (b % 2 ^ k) % 4294967296
theorem mul_zero' (a b : Nat) : mulF a b 0 = 0 := by unfold mulF; simp [Nat.mod_one]
theorem mul_one' (a b k : Nat) (h : bitN b k = 1) : (mulF a b k + a * 2 ^ k % 4294967296) % 4294967296 = mulF a b (k + 1) := by
  unfold mulF
  rw [Nat.mod_pow_succ, show b / 2 ^ k % 2 = 1 from h, Nat.mul_one, Nat.mul_add, ← Nat.add_mod]
theorem mul_none (a b k : Nat) (h : bitN b k ≠ 1) : mulF a b k = mulF a b (k + 1) := by
  have hb := bitN_le b k
  unfold mulF
  rw [Nat.mod_pow_succ, show b / 2 ^ k % 2 = 0 from (by show bitN b k = 0; omega), Nat.mul_zero, Nat.add_zero]
theorem mul_word (a b : Nat) (hb : b < 4294967296) : mulF a b 32 = a * b % 4294967296 := by
  unfold mulF
  rw [Nat.mod_eq_of_lt (show b < 2 ^ 32 by omega)]

/-! ### order -/
theorem less_same (a b i : Nat) (h : a / 2 ^ (i + 1) = b / 2 ^ (i + 1)) (e : bitN a i = bitN b i) : a / 2 ^ i = b / 2 ^ i := by
  have h1 : a / 2 ^ (i + 1) = a / 2 ^ i / 2 := by rw [Nat.pow_succ, Nat.div_div_eq_div_mul]
  have h2 : b / 2 ^ (i + 1) = b / 2 ^ i / 2 := by rw [Nat.pow_succ, Nat.div_div_eq_div_mul]
  have e1 : a / 2 ^ i % 2 = b / 2 ^ i % 2 := e
  rw [h1, h2] at h
  omega
theorem less_here (a b i : Nat) (h : a / 2 ^ (i + 1) = b / 2 ^ (i + 1)) (e : bitN a i ≠ bitN b i) : bitN b i = if a < b then 1 else 0 := by
  have h1 : a / 2 ^ (i + 1) = a / 2 ^ i / 2 := by rw [Nat.pow_succ, Nat.div_div_eq_div_mul]
  have h2 : b / 2 ^ (i + 1) = b / 2 ^ i / 2 := by rw [Nat.pow_succ, Nat.div_div_eq_div_mul]
  have e1 : ¬ a / 2 ^ i % 2 = b / 2 ^ i % 2 := e
  have eb : bitN b i = b / 2 ^ i % 2 := rfl
  rw [h1, h2] at h
  split
  · rename_i hlt
    have : a / 2 ^ i ≤ b / 2 ^ i := Nat.div_le_div_right (by omega)
    omega
  · rename_i hlt
    have : b / 2 ^ i ≤ a / 2 ^ i := Nat.div_le_div_right (by omega)
    omega

/-! ### and, or, xor -/
theorem bitN_test (a i : Nat) : bitN a i = (a.testBit i).toNat := by
  unfold bitN
  rw [Nat.testBit_eq_decide_div_mod_eq]
  by_cases h : a / 2 ^ i % 2 = 1
  · simp [h]
  · have : a / 2 ^ i % 2 = 0 := by omega
    simp [this]
theorem and_bit (a b i : Nat) : (bitN a i + bitN b i) / 2 = bitN (a &&& b) i := by
  rw [bitN_test, bitN_test, bitN_test, Nat.testBit_and]
  cases a.testBit i <;> cases b.testBit i <;> rfl
theorem or_bit' (a b i : Nat) : (bitN a i + bitN b i + 1) / 2 = bitN (a ||| b) i := by
  rw [bitN_test, bitN_test, bitN_test, Nat.testBit_or]
  cases a.testBit i <;> cases b.testBit i <;> rfl
theorem xor_bit (a b i : Nat) : (bitN a i + bitN b i) % 2 = bitN (a ^^^ b) i := by
  rw [bitN_test, bitN_test, bitN_test, Nat.testBit_xor]
  cases a.testBit i <;> cases b.testBit i <;> rfl
end Go.Proofs.Ytijfdgkicfllaaa
