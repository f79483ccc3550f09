/-
  For each kind of instruction: asm.words answers the takers and the tellers of its words, in order. No condition.
-/
import Derived.Test.YtcfkcnkekdafgaaDoorWordA
import Derived.Test.YtcfkcnkekdafgaaDoorWordB
namespace Go.Proofs.YtcfkcnkekdafgaaDoor
open Go.ChangeShapes Go.WideShapes Go.ChangeAt Go.RowKit
set_option linter.unusedVariables false
theorem words_calls (n : Nat) (hn : n < 28) (w : World) : Calls Tryd.prog 41 #[.int .i64 n] w (WordsP n w) := by
  match n, hn with
  | 0, _ => exact words_0 w
  | 1, _ => exact words_1 w
  | 2, _ => exact words_2 w
  | 3, _ => exact words_3 w
  | 4, _ => exact words_4 w
  | 5, _ => exact words_5 w
  | 6, _ => exact words_6 w
  | 7, _ => exact words_7 w
  | 8, _ => exact words_8 w
  | 9, _ => exact words_9 w
  | 10, _ => exact words_10 w
  | 11, _ => exact words_11 w
  | 12, _ => exact words_12 w
  | 13, _ => exact words_13 w
  | 14, _ => exact words_14 w
  | 15, _ => exact words_15 w
  | 16, _ => exact words_16 w
  | 17, _ => exact words_17 w
  | 18, _ => exact words_18 w
  | 19, _ => exact words_19 w
  | 20, _ => exact words_20 w
  | 21, _ => exact words_21 w
  | 22, _ => exact words_22 w
  | 23, _ => exact words_23 w
  | 24, _ => exact words_24 w
  | 25, _ => exact words_25 w
  | 26, _ => exact words_26 w
  | 27, _ => exact words_27 w
  | n + 28, h => exact absurd h (by omega)
end Go.Proofs.YtcfkcnkekdafgaaDoor
