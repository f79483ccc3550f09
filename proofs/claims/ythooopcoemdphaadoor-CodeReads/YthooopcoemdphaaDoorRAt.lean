/-
  For any bytes and any place at which so many of them stand: the reference's 'at' answers the number that they make. Conditions: one to four bytes; at most 2^40 of them in all.
-/
import Derived.Test.YthooopcoemdphaaDoorPure
namespace Go.Proofs.YthooopcoemdphaaDoor
open Go.ChangeShapes Go.WideShapes Go.ChangeAt Go.RowKit Go.Deep
set_option linter.unusedVariables false

theorem pow_le_4 {j : Nat} (h : j ≤ 4) : (256 : Int) ^ j ≤ 4294967296 := by
  rcases (show j = 0 ∨ j = 1 ∨ j = 2 ∨ j = 3 ∨ j = 4 by omega) with rfl | rfl | rfl | rfl | rfl <;> decide

set_option maxHeartbeats 1000000 in
theorem rat_calls (a : Option Addr) (L : List Int) (cap i size : Nat) (w : World) (hb : isBytes L) (hB : BytesAt w a L) (hs : size ≤ 4) (hi : i + size ≤ L.length) (hl : L.length ≤ 1099511627776) :
    Calls Tryd.prog 19 #[.slice a L.length cap, .int .i64 i, .int .i64 size] w fun e w' => e = .returned (.int .i64 (leAt L i size)) ∧ w' = w := by
  have HB := hide hB
  clear hB
  go_enter Tryd.func19, Tryd.ntmps19
  go_wp2
  go_loop [7, 8] (fun n x => ∃ j : Nat, j ≤ size ∧ x = .int .i64 ((size : Int) - 1 - j) ∧ n = .int .i64 (leAt L (i + size - j) j)) (fun _ x => (intOf x + 1).toNat)
  case atStart => exact ⟨0, by omega, by simp, rfl⟩
  case round =>
    obtain ⟨j, hj, rfl, rfl⟩ := hrel
    by_cases hlt : j < size
    · have hbd := leAt_bounds hb (i + size - j) j
      have hp := pow_le_4 (show j ≤ 4 by omega)
      obtain ⟨q, hq⟩ : ∃ q : Nat, i + size - (j + 1) = q := ⟨_, rfl⟩
      have hby := getD_byte hb q
      have EX : Hid (leAt L q (j + 1) = L.getD q 0 + 256 * leAt L (i + size - j) j) := by
        show L.getD q 0 + 256 * leAt L (q + 1) j = _
        rw [show q + 1 = i + size - j by omega]
      obtain ⟨b, off, rfl, hc⟩ : ∃ b off, a = some ⟨b, off, none⟩ ∧ w.cell? ⟨b, off + q, none⟩ = some (.int .u8 (L.getD q 0)) := by
        rcases HB.out with h0 | ⟨b, off, ha, hc⟩
        · rw [h0] at hi; simp at hi; omega
        · exact ⟨b, off, ha, hc q _ (by rw [List.getD_eq_getElem?_getD, List.getElem?_eq_getElem (by omega)]; rfl)⟩
      generalize leAt L (i + size - j) j = m at hbd EX ⊢
      generalize L.getD q 0 = y at hby EX hc
      obtain ⟨m0, m1⟩ := hbd
      obtain ⟨y0, y1⟩ := hby
      have hidx : (i : Int) + ((size : Int) - 1 - j) = q := by omega
      have hm2 : m < 4294967296 := by omega
      have hqL : q < L.length := by omega
      clear hp m1
      go_wp2
      exact ⟨⟨j + 1, by omega, congrArg (Value.int .i64) (by omega), by rw [hq, EX.out]; exact congrArg (Value.int .i64) (by omega)⟩, by simp [intOf]; omega⟩
    · obtain rfl : j = size := by omega
      have e0 : i + j - j = i := by omega
      go_wp2
      go_ret
      exact ⟨by simp, rfl⟩
end Go.Proofs.YthooopcoemdphaaDoor
