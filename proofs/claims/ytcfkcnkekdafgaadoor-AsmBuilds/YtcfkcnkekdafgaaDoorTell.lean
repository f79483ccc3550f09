/-
  For any world: what the assembler's small tellers answer: a register, a number in decimal digits. Memory grows alone. FormatUint is told where the table of powers of ten is laid.
-/
import Derived.Test.YtcfkcnkekdafgaaDoorDigs
import Derived.Lib.AppendIntMem
namespace Go.Proofs.YtcfkcnkekdafgaaDoor
open Go.ChangeShapes Go.WideShapes Go.ChangeAt Go.RowKit Go.Lib Go.Sort
set_option linter.unusedVariables false

/-- the library's digits are the reference's -/
theorem dec_dig : ∀ (f n : Nat), 0 < f → n < 10 ^ f → Lib.decDigits n = digF f n
  | 0, n, h, _ => by omega
  | f + 1, n, _, h => by
    rw [digF, Lib.decDigits]
    by_cases h1 : n < 10
    · rw [dif_pos h1, if_pos h1]; rfl
    · rw [dif_neg h1, if_neg h1]
      have h2 : 0 < f := by
        rcases Nat.eq_zero_or_pos f with h3 | h3
        · subst h3; simp at h; omega
        · exact h3
      have h3 : n / 10 < 10 ^ f := by rw [Nat.div_lt_iff_lt_mul (by omega)]; rw [Nat.pow_succ] at h; omega
      rw [dec_dig f (n / 10) h2 h3]; rfl

end Go.Proofs.YtcfkcnkekdafgaaDoor
