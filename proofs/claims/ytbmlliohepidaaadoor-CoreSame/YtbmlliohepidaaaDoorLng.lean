/-
  What In.long answers of any input.
-/
import Derived.Test.YtbmlliohepidaaaDoorInp
namespace Go.Proofs.YtbmlliohepidaaaDoor
open Go.ChangeShapes Go.WideShapes Go.ChangeAt Go.RowKit

/-- is the input longer than is looked at? -/
def longB (d : InD) : Bool := decide (300 < (d.code.length : Int)) || decide (300 < (d.buf.length : Int)) || decide (300 < (d.mem.length : Int)) || decide (7 < (d.asl.length : Int))
def LongP (d : InD) (w : World) (o : Ending) (u : World) : Prop := o = .returned (.bool (longB d)) ∧ Gr w u

theorem long_calls (d : InD) (w : World) (h : InAt d w) : Calls Tryd.prog 10 #[.agg (inC d)] w (LongP d w) := by
  have hz := h.ok
  have gg := (Gr.refl w).alloc (inC d) 31
  have hi := Has.new w (inC d) 31
  clear h
  go_enter Tryd.func10, Tryd.ntmps10
  have c10 := hi.cell (inC_10 hz)
  have c11 := hi.cell (inC_11 hz)
  have c12 := hi.cell (inC_12 hz)
  have c14 := hi.cell (inC_14 hz)
  go_wp2_with (fail)
  all_goals clear hi c10 c11 c12 c14
  all_goals (refine bodyPost_ret (v := .bool (longB d)) ?_ rfl ⟨rfl, gg⟩; simp [results, Tryd.results10, go_sem, longB]; try simp_all)
end Go.Proofs.YtbmlliohepidaaaDoor
