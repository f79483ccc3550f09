/-
  For any reader that the call's caller made, over any bytes: what its method take answers and leaves. No condition but that from one to four bytes are taken.
-/
import Derived.Test.YthbenfnanhpcoaaGreatDoorZtbs
import Derived.Laws.DeepBits32
import Derived.Laws.BitsAllLaws
namespace Go.Proofs.YthbenfnanhpcoaaGreatDoor.Cd
open Go.ChangeShapes Go.WideShapes Go.ChangeAt Go.RowKit
set_option linter.unusedVariables false
set_option maxRecDepth 20000

/-- a reader lies in a block of its own: what is left, and whether more was asked for -/
def Rd (w : World) (r : Nat) (L : List Int) (s : Bool) : Prop :=
  ∃ a cap, w.cell? ⟨r, 0, none⟩ = some (.slice a L.length cap) ∧ w.cell? ⟨r, 1, none⟩ = some (.bool s) ∧ w.frozen? ⟨r, 0, none⟩ = false ∧ w.frozen? ⟨r, 1, none⟩ = false ∧ L.length ≤ cap ∧ cap ≤ maxLen ∧
    (L = [] ∨ ∃ b off, a = some ⟨b, off, none⟩ ∧ b < r ∧ ∀ j x, L[j]? = some x → w.cell? ⟨b, off + j, none⟩ = some (.int .u8 x))
/-- new blocks, and writes to the reader's block alone -/
def Wr (r : Nat) (w w' : World) : Prop := w.grownBy w' (some r)
theorem Wr.refl (r : Nat) (w : World) : Wr r w w := World.grownBy.refl w _
theorem Wr.trans {r : Nat} {a b c : World} (h : Wr r a b) (k : Wr r b c) : Wr r a c :=
  ⟨k.os.trans h.os, k.tape.trans h.tape, k.output.trans h.output, Nat.le_trans h.size k.size, fun i hi hne => (k.block i (Nat.lt_of_lt_of_le hi h.size) hne).trans (h.block i hi hne)⟩
theorem Wr.of_gr {r : Nat} {w w' : World} (h : Gr w w') : Wr r w w' := ⟨h.os, h.tape, h.output, h.size, fun k hk _ => h.block k hk⟩
theorem Wr.setCell {r : Nat} {a w : World} (h : Wr r a w) (o : Nat) (u : Value) : Wr r a (w.setCell ⟨r, o, none⟩ u) :=
  h.trans ⟨rfl, rfl, rfl, by simp [World.setCell], fun k hk hne => Below.heap_setCell _ _ _ _ (fun e => hne (by rw [e]))⟩
theorem Wr.cell {r : Nat} {w w' : World} (h : Wr r w w') {a : Addr} {v : Value} (hne : a.block ≠ r) (hc : w.cell? a = some v) : w'.cell? a = some v := World.grownBy.cell h hc (by simpa using hne)
theorem Rd.later {w w' : World} {r : Nat} {L : List Int} {s : Bool} (h : Rd w r L s) (g : Gr w w') : Rd w' r L s := by
  obtain ⟨a, cap, h0, h1, h2, h3, h4, h5, h6⟩ := h
  have hlt := World.block_lt_of_cell? w _ h0
  refine ⟨a, cap, cell_later g h0, cell_later g h1, (Below.frozen g (p := ⟨r, 0, none⟩) hlt).trans h2, (Below.frozen g (p := ⟨r, 1, none⟩) hlt).trans h3, h4, h5, ?_⟩
  rcases h6 with h6 | ⟨b, off, ha, hb, h6⟩
  · exact .inl h6
  · exact .inr ⟨b, off, ha, hb, fun j x hx => cell_later g (h6 j x hx)⟩

theorem set_same {w : World} {a : Addr} {v u : Value} (h : w.cell? a = some u) : (w.setCell a v).cell? a = some v := World.cell?_setCell_same w a v h
theorem set_other {w : World} {a b : Addr} {v : Value} (h : a ≠ b) : (w.setCell a v).cell? b = w.cell? b := World.cell?_setCell_other w a b v h
theorem Rd.set0 {w : World} {r : Nat} {s : Bool} {v0 : Value} (h0 : w.cell? ⟨r, 0, none⟩ = some v0) (h1 : w.cell? ⟨r, 1, none⟩ = some (.bool s)) (h2 : w.frozen? ⟨r, 0, none⟩ = false) (h3 : w.frozen? ⟨r, 1, none⟩ = false) (a : Option Addr) (M : List Int) (cap : Nat) (hl : M.length ≤ cap) (hm : cap ≤ maxLen)
    (hM : M = [] ∨ ∃ b off, a = some ⟨b, off, none⟩ ∧ b < r ∧ ∀ j x, M[j]? = some x → w.cell? ⟨b, off + j, none⟩ = some (.int .u8 x)) : Rd (w.setCell ⟨r, 0, none⟩ (.slice a M.length cap)) r M s := by
  refine ⟨a, cap, set_same h0, (set_other (by simp)).trans h1, by simpa using h2, by simpa using h3, hl, hm, ?_⟩
  rcases hM with hM | ⟨b, off, ha, hb, h⟩
  · exact .inl hM
  · exact .inr ⟨b, off, ha, hb, fun j x hx => (set_other (by simp <;> omega)).trans (h j x hx)⟩
theorem Rd.set1 {w : World} {r : Nat} {L : List Int} {s : Bool} (h : Rd w r L s) (t : Bool) : Rd (w.setCell ⟨r, 1, none⟩ (.bool t)) r L t := by
  obtain ⟨a, cap, h0, h1, h2, h3, h4, h5, h6⟩ := h
  refine ⟨a, cap, (set_other (by simp)).trans h0, set_same h1, by simpa using h2, by simpa using h3, h4, h5, ?_⟩
  rcases h6 with h6 | ⟨b, off, ha, hb, h⟩
  · exact .inl h6
  · exact .inr ⟨b, off, ha, hb, fun j x hx => (set_other (by simp <;> omega)).trans (h j x hx)⟩

theorem Rd.above {w : World} {r : Nat} {L : List Int} {s : Bool} (h : Rd w r L s) {g o : Nat} (hg : r < g) (v : Value) : Rd (w.setCell ⟨g, o, none⟩ v) r L s := by
  obtain ⟨a, cap, h0, h1, h2, h3, h4, h5, h6⟩ := h
  refine ⟨a, cap, (set_other (by simp <;> omega)).trans h0, (set_other (by simp <;> omega)).trans h1, by simpa using h2, by simpa using h3, h4, h5, ?_⟩
  rcases h6 with h6 | ⟨b, off, ha, hb, h⟩
  · exact .inl h6
  · exact .inr ⟨b, off, ha, hb, fun j x hx => (set_other (by simp <;> omega)).trans (h j x hx)⟩
theorem Wr.above {r : Nat} {a w : World} (h : Wr r a w) {g : Nat} (hg : a.heap.size ≤ g) (o : Nat) (u : Value) : Wr r a (w.setCell ⟨g, o, none⟩ u) :=
  ⟨h.os, h.tape, h.output, by simpa [World.setCell] using h.size, fun k hk hne => (Below.heap_setCell _ _ _ _ (by show k ≠ g; omega)).trans (h.block k hk hne)⟩

set_option maxHeartbeats 1000000 in
theorem take_short (r : Nat) (n : Nat) (L : List Int) (s : Bool) (w : World) (hr : Rd w r L s) (hn : n ≤ 4) (h : s = true ∨ L.length < n) :
    Calls Tryz.prog 29 #[.pointer (some ⟨r, 0, none⟩), .int .i64 n] w fun e w' => e = .returned (.slice none 0 0) ∧ Rd w' r L true ∧ Wr r w w' := by
  have HR := hide hr
  obtain ⟨a, cap, h0, h1, h2, h3, h4, h5, h6⟩ := hr
  have H6 := hide h6
  clear h6
  unfold maxLen at h5
  by_cases hl : L.length < n
  · go_enter Tryz.func29, Tryz.ntmps29
    go_wp2
    go_ret
    exact ⟨rfl, HR.out.set1 true, (Wr.refl r w).setCell 1 _⟩
  · obtain rfl : s = true := by simpa [hl] using h
    go_enter Tryz.func29, Tryz.ntmps29
    go_wp2
    go_ret
    exact ⟨rfl, HR.out, Wr.refl r w⟩

/-- what take leaves where there is enough -/
def TakeP (r n : Nat) (L : List Int) (w : World) (e : Ending) (w' : World) : Prop := ∃ a c, e = .returned (.slice a n c) ∧ BytesAt w' a (L.take n) ∧ Rd w' r (L.drop n) false ∧ Wr r w w'

set_option maxHeartbeats 1000000 in
theorem take_ok (r : Nat) (n : Nat) (L : List Int) (w : World) (hr : Rd w r L false) (hn0 : 1 ≤ n) (hn : n ≤ 4) (h : n ≤ L.length) :
    Calls Tryz.prog 29 #[.pointer (some ⟨r, 0, none⟩), .int .i64 n] w (TakeP r n L w) := by
  obtain ⟨a, cap, h0, h1, h2, h3, h4, h5, h6⟩ := hr
  obtain ⟨b, off, rfl, hb, hc⟩ : ∃ b off, a = some ⟨b, off, none⟩ ∧ b < r ∧ ∀ j x, L[j]? = some x → w.cell? ⟨b, off + j, none⟩ = some (.int .u8 x) := by
    rcases h6 with h6 | h6
    · subst h6; simp at h; omega
    · exact h6
  have HC := hide hc
  clear h6 hc
  unfold maxLen at h5
  go_enter Tryz.func29, Tryz.ntmps29
  go_wp2
  all_goals
    go_ret
    refine ⟨_, _, rfl, .inr ⟨b, off, rfl, fun j x hx => ?_⟩, ?_, (Wr.refl r w).setCell 0 _⟩
    · refine (set_other (by simp <;> omega)).trans (HC.out j x ?_)
      rw [List.getElem?_take] at hx
      split at hx
      · exact hx
      · cases hx
  · have e : L.drop n = [] := List.eq_nil_of_length_eq_zero (by simp; omega)
    have hl : L.length - n = (L.drop n).length := by simp
    rw [hl]
    exact Rd.set0 h0 h1 h2 h3 _ _ _ (by simp; omega) (by unfold maxLen; omega) (.inl e)
  · have hl : L.length - n = (L.drop n).length := by simp
    rw [hl]
    refine Rd.set0 h0 h1 h2 h3 _ _ _ (by simp; omega) (by unfold maxLen; omega) (.inr ⟨b, off + n, rfl, hb, fun j x hx => ?_⟩)
    rw [List.getElem?_drop] at hx
    have := HC.out _ _ hx
    rw [← Nat.add_assoc] at this
    exact this
end Go.Proofs.YthbenfnanhpcoaaGreatDoor.Cd

namespace Go.Proofs.YthbenfnanhpcoaaGreatDoor.Cd
open Go.ChangeShapes Go.WideShapes Go.ChangeAt Go.RowKit
set_option linter.unusedVariables false
set_option maxRecDepth 20000

/-- the number that n bytes from place i on make, the lowest first -/
def leAt (L : List Int) : Nat → Nat → Int
  | _, 0 => 0
  | i, n + 1 => L.getD i 0 + 256 * leAt L (i + 1) n
theorem leAt_snoc (L : List Int) (i n : Nat) : leAt L i (n + 1) = leAt L i n + L.getD (i + n) 0 * 256 ^ n := by
  induction n generalizing i with
  | zero => simp [leAt]
  | succ n ih =>
    rw [show leAt L i (n + 1 + 1) = L.getD i 0 + 256 * leAt L (i + 1) (n + 1) from rfl, ih, show leAt L i (n + 1) = L.getD i 0 + 256 * leAt L (i + 1) n from rfl, show i + 1 + n = i + (n + 1) by omega, Int.pow_succ, Int.mul_add, Int.add_assoc]
    congr 2
    rw [Int.mul_comm 256, Int.mul_assoc]
abbrev isBytes (L : List Int) : Prop := ∀ x ∈ L, 0 ≤ x ∧ x ≤ 255
theorem getD_byte {L : List Int} (h : isBytes L) (i : Nat) : 0 ≤ L.getD i 0 ∧ L.getD i 0 ≤ 255 := by
  by_cases hi : i < L.length
  · rw [List.getD_eq_getElem?_getD, List.getElem?_eq_getElem hi]
    exact h _ (List.getElem_mem hi)
  · rw [List.getD_eq_getElem?_getD, List.getElem?_eq_none (by omega)]
    simp
theorem leAt_bounds {L : List Int} (h : isBytes L) (i n : Nat) : 0 ≤ leAt L i n ∧ leAt L i n < 256 ^ n := by
  induction n generalizing i with
  | zero => simp [leAt]
  | succ n ih =>
    have := ih (i + 1)
    have := getD_byte h i
    rw [show leAt L i (n + 1) = L.getD i 0 + 256 * leAt L (i + 1) n from rfl, Int.pow_succ]
    omega
theorem leAt_take (L : List Int) (i n m : Nat) (h : i + n ≤ m) : leAt (L.take m) i n = leAt L i n := by
  induction n generalizing i with
  | zero => rfl
  | succ n ih =>
    rw [show leAt (L.take m) i (n + 1) = (L.take m).getD i 0 + 256 * leAt (L.take m) (i + 1) n from rfl, ih (i + 1) (by omega)]
    show _ = L.getD i 0 + 256 * leAt L (i + 1) n
    congr 1
    rw [List.getD_eq_getElem?_getD, List.getD_eq_getElem?_getD, List.getElem?_take, if_pos (by omega)]
theorem leAt_drop (L : List Int) (i n m : Nat) : leAt (L.drop m) i n = leAt L (m + i) n := by
  induction n generalizing i with
  | zero => rfl
  | succ n ih =>
    show (L.drop m).getD i 0 + 256 * leAt (L.drop m) (i + 1) n = L.getD (m + i) 0 + 256 * leAt L (m + i + 1) n
    rw [ih, List.getD_eq_getElem?_getD, List.getD_eq_getElem?_getD, List.getElem?_drop]
    rfl

theorem or_step (m x : Int) (k : Nat) (hk : k < 4) (m0 : 0 ≤ m) (m1 : m < 256 ^ k) (x0 : 0 ≤ x) (x1 : x ≤ 255) : bits .or .u32 m (x * 2 ^ (8 * k) % 4294967296) = m + x * 256 ^ k := by
  obtain ⟨M, rfl⟩ := Int.eq_ofNat_of_zero_le m0
  obtain ⟨X, rfl⟩ := Int.eq_ofNat_of_zero_le x0
  have go : ∀ p : Nat, p ≤ 24 → M < 2 ^ p → X * 2 ^ p < 4294967296 → M < 4294967296 → bits .or .u32 (M : Int) ((X * 2 ^ p : Nat) : Int) = (M : Int) + ((X * 2 ^ p : Nat) : Int) := by
    intro p hp h1 h2 h3
    rw [u32_or_nat M (X * 2 ^ p) h3 h2, Nat.or_comm, Nat.mul_comm, ← Nat.two_pow_add_eq_or_of_lt h1]
    omega
  have fin : ∀ q : Nat, q = 2 ^ (8 * k) → (256 : Int) ^ k = (q : Int) → (M : Int) + (X : Int) * 256 ^ k = (M : Int) + ((X * q : Nat) : Int) := by
    intro q _ h2
    rw [h2]
    simp
  rcases (show k = 0 ∨ k = 1 ∨ k = 2 ∨ k = 3 by omega) with rfl | rfl | rfl | rfl
  · rw [fin (2 ^ 0) rfl rfl, ← go 0 (by omega) (by have := m1; simp at this; omega) (by omega) (by have := m1; simp at this; omega)]
    congr 1
    simp
    omega
  · rw [fin (2 ^ 8) rfl rfl, ← go 8 (by omega) (by have := m1; simp at this; omega) (by omega) (by have := m1; simp at this; omega)]
    congr 1
    simp
    omega
  · rw [fin (2 ^ 16) rfl rfl, ← go 16 (by omega) (by have := m1; simp at this; omega) (by omega) (by have := m1; simp at this; omega)]
    congr 1
    simp
    omega
  · rw [fin (2 ^ 24) rfl rfl, ← go 24 (by omega) (by have := m1; simp at this; omega) (by omega) (by have := m1; simp at this; omega)]
    congr 1
    simp
    omega

set_option maxHeartbeats 1000000 in
theorem num_ok (r n : Nat) (L : List Int) (w : World) (hr : Rd w r L false) (hn0 : 1 ≤ n) (hn : n ≤ 4) (h : n ≤ L.length) (hb : isBytes L) :
    Calls Tryz.prog 69 #[.pointer (some ⟨r, 0, none⟩), .int .i64 n] w fun e w' => e = .returned (.int .u32 (leAt L 0 n)) ∧ Rd w' r (L.drop n) false ∧ Wr r w w' := by
  have HR := hide hr
  clear hr
  go_enter Tryz.func69, Tryz.ntmps69
  go_wp2_with (go_at_call 29; refine (take_ok r n L _ HR.out hn0 hn h).mono ?_; rintro e w1 ⟨a, c, rfl, hB, hR, hW⟩)
  have HB := hide hB
  have H1 := hide hR
  have H2 := hide hW
  clear hB hR hW
  go_loop [5, 12] (fun m i => ∃ k : Nat, k ≤ n ∧ i = .int .i64 k ∧ m = .int .u32 (leAt L 0 k)) (fun _ i => n - (intOf i).toNat)
  case atStart => exact ⟨0, by omega, rfl, rfl⟩
  case round =>
    obtain ⟨k, hk, rfl, rfl⟩ := hrel
    by_cases hlt : k < n
    · have hbd := leAt_bounds hb 0 k
      have hby := getD_byte hb k
      have hsn : Hid (leAt L 0 (k + 1) = leAt L 0 k + L.getD k 0 * 256 ^ k) := by
        have := leAt_snoc L 0 k
        rw [Nat.zero_add] at this
        exact this
      obtain ⟨b, off, rfl, hc⟩ : ∃ b off, a = some ⟨b, off, none⟩ ∧ w1.cell? ⟨b, off + k, none⟩ = some (.int .u8 (L.getD k 0)) := by
        rcases HB.out with h0 | ⟨b, off, ha, hc⟩
        · have := congrArg List.length h0; rw [List.length_take, List.length_nil] at this; omega
        · refine ⟨b, off, ha, hc k _ ?_⟩
          rw [List.getElem?_take, if_pos hlt, List.getElem?_eq_getElem (by omega), List.getD_eq_getElem?_getD, List.getElem?_eq_getElem (by omega)]
          rfl
      generalize leAt L 0 k = m at hbd hsn ⊢
      generalize L.getD k 0 = x at hby hc hsn
      obtain ⟨hm0, hm1⟩ := hbd
      obtain ⟨hx0, hx1⟩ := hby
      go_wp2
      exact ⟨⟨k + 1, by omega, by go_num, by rw [or_step m x k (by omega) hm0 hm1 hx0 hx1, hsn.out]⟩, by simp [intOf]; omega⟩
    · obtain rfl : k = n := by omega
      go_wp2
      go_ret
      exact ⟨rfl, H1.out, H2.out⟩
set_option maxHeartbeats 1000000 in
theorem num_short (r n : Nat) (L : List Int) (s : Bool) (w : World) (hr : Rd w r L s) (hn : n ≤ 4) (h : s = true ∨ L.length < n) :
    Calls Tryz.prog 69 #[.pointer (some ⟨r, 0, none⟩), .int .i64 n] w fun e w' => e = .returned (.int .u32 0) ∧ Rd w' r L true ∧ Wr r w w' := by
  have HR := hide hr
  have HH := hide h
  clear hr h
  go_enter Tryz.func69, Tryz.ntmps69
  go_wp2_with (go_at_call 29; refine (take_short r n L s _ HR.out hn HH.out).mono ?_; rintro e w1 ⟨rfl, hR, hW⟩)
  have H1 := hide hR
  have H2 := hide hW
  clear hR hW
  go_loop [5, 12] (fun m i => i = .int .i64 0 ∧ m = .int .u32 0) (fun _ i => 0)
  case atStart => exact ⟨rfl, rfl⟩
  case round =>
    obtain ⟨rfl, rfl⟩ := hrel
    go_wp2
    go_ret
    exact ⟨rfl, H1.out, H2.out⟩

/-- what is read of a number of n bytes: the number, what is left, whether more was asked for -/
def numV (n : Nat) (L : List Int) (s : Bool) : Int := if s = true ∨ L.length < n then 0 else leAt L 0 n
def numL (n : Nat) (L : List Int) (s : Bool) : List Int := if s = true ∨ L.length < n then L else L.drop n
def numS (n : Nat) (L : List Int) (s : Bool) : Bool := s || decide (L.length < n)
theorem num_calls (r n : Nat) (L : List Int) (s : Bool) (w : World) (hr : Rd w r L s) (hn0 : 1 ≤ n) (hn : n ≤ 4) (hb : isBytes L) :
    Calls Tryz.prog 69 #[.pointer (some ⟨r, 0, none⟩), .int .i64 n] w fun e w' => e = .returned (.int .u32 (numV n L s)) ∧ Rd w' r (numL n L s) (numS n L s) ∧ Wr r w w' := by
  by_cases h : s = true ∨ L.length < n
  · have e : numS n L s = true := by rcases h with h | h <;> simp [numS, h]
    unfold numV numL
    rw [if_pos h, if_pos h, e]
    exact num_short r n L s w hr hn h
  · have hs : s = false := by cases s <;> simp_all
    subst hs
    have e : numS n L false = false := by simp [numS]; omega
    unfold numV numL
    rw [if_neg h, if_neg h, e]
    exact num_ok r n L w hr hn0 hn (by omega) hb
theorem numV_bounds (n : Nat) (L : List Int) (s : Bool) (h : isBytes L) : 0 ≤ numV n L s ∧ numV n L s < 256 ^ n := by
  unfold numV
  split
  · exact ⟨by omega, Int.pow_pos (by omega)⟩
  · exact leAt_bounds h 0 n
theorem numL_bytes {n : Nat} {L : List Int} {s : Bool} (h : isBytes L) : isBytes (numL n L s) := by
  unfold numL
  split
  · exact h
  · exact fun x hx => h x (List.mem_of_mem_drop hx)

theorem field_calls (r : Nat) (L : List Int) (s : Bool) (w : World) (hr : Rd w r L s) (hb : isBytes L) :
    Calls Tryz.prog 50 #[.pointer (some ⟨r, 0, none⟩)] w fun e w' => e = .returned (.int .i64 (numV 1 L s)) ∧ Rd w' r (numL 1 L s) (numS 1 L s) ∧ Wr r w w' := by
  have HR := hide hr
  clear hr
  obtain ⟨h0, h1⟩ := numV_bounds 1 L s hb
  go_enter Tryz.func50, Tryz.ntmps50
  go_wp2_with (go_at_call 69; refine (num_calls r 1 L s _ HR.out (by omega) (by omega) hb).mono ?_; rintro e w1 ⟨rfl, hR, hW⟩)
  go_ret
  exact ⟨rfl, hR, hW⟩
theorem word_calls (r : Nat) (L : List Int) (s : Bool) (w : World) (hr : Rd w r L s) (hb : isBytes L) :
    Calls Tryz.prog 71 #[.pointer (some ⟨r, 0, none⟩)] w fun e w' => e = .returned (.int .u32 (numV 4 L s)) ∧ Rd w' r (numL 4 L s) (numS 4 L s) ∧ Wr r w w' := by
  have HR := hide hr
  clear hr
  go_enter Tryz.func71, Tryz.ntmps71
  go_wp2_with (go_at_call 69; refine (num_calls r 4 L s _ HR.out (by omega) (by omega) hb).mono ?_; rintro e w1 ⟨rfl, hR, hW⟩)
  go_ret
  exact ⟨rfl, hR, hW⟩
end Go.Proofs.YthbenfnanhpcoaaGreatDoor.Cd
