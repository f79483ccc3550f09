/-
  For any line in memory whose fields are right for the word, in any world in which the table of powers of ten is laid: what the teller of each word answers, and that each is entered when called by its value.
-/
import Derived.Test.YtcfkcnkekdafgaaDoorTela
import Derived.Test.YtcfkcnkekdafgaaDoorLof
namespace Go.Proofs.YtcfkcnkekdafgaaDoor
open Go.ChangeShapes Go.WideShapes Go.ChangeAt Go.RowKit Go.Lib
set_option linter.unusedVariables false

/-- what the teller of a word answers -/
def tellW (x a b c k : Nat) : Bs :=
  if x = 0 then [114] ++ digF 11 a else if x = 1 then [114] ++ digF 11 b else if x = 2 then [114] ++ digF 11 c else if x = 3 then digF 11 k else if x = 4 then [64] ++ digF 11 k
  else if b = 8 then [91] ++ digF 11 k ++ [93] else [91] ++ ([114] ++ digF 11 b) ++ [43] ++ digF 11 k ++ [93]
/-- the fields that the word tells are right -/
def TellOk (x a b c k : Nat) : Prop := (x = 0 → a < 8) ∧ (x = 1 → b < 8) ∧ (x = 2 → c < 8) ∧ (x = 5 → b ≤ 8) ∧ k < 4294967296
theorem tellW_len (x a b c k : Nat) : (tellW x a b c k).length ≤ 30 := by
  have h1 := digF_len 11 a
  have h2 := digF_len 11 b
  have h3 := digF_len 11 c
  have h4 := digF_len 11 k
  unfold tellW
  repeat' split
  all_goals (simp; omega)
theorem tell_run (x : Nat) (hx : x < 6) (args : Array Value) (w : World) : (callFunc (tellF x) args).run Tryd.prog w = .ok (.enter (tellF x) args) w := by
  match x, hx with
  | 0, _ => simp [tellF, go_sem]
  | 1, _ => simp [tellF, go_sem]
  | 2, _ => simp [tellF, go_sem]
  | 3, _ => simp [tellF, go_sem]
  | 4, _ => simp [tellF, go_sem]
  | 5, _ => simp [tellF, go_sem]
end Go.Proofs.YtcfkcnkekdafgaaDoor
