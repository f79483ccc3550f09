/-
  The parser's deferred closure: of a frame that gave up by an errno it lays the errno into the result; of a frame that returns it turns nothing. No condition.
-/
import Derived.Test.YtcfkcnkekdafgaaDoorPname
import Derived.Defers
import Derived.Recover
namespace Go.Proofs.YtcfkcnkekdafgaaDoor
open Go.ChangeShapes Go.WideShapes Go.ChangeAt Go.RowKit
set_option linter.unusedVariables false

theorem assert_same {P : Program} {w : World} {t xT : TypeId} {v : Value} {q : IntKind} (hu : P.underlying t = some (.int q)) : (Instr.typeAssert (.iface t v) xT t true).run P w = .ok (.tuple #[v, .bool true]) w := by
  simp [Instr.typeAssert, run_underlying hu]
theorem catch_idle (p : Addr) (w : World) :
    CallsD Tryd.prog 28 #[.pointer (some p)] .returning w fun e u' w' => e = .returned (.tuple #[]) ∧ u' = .returning ∧ w' = w := by
  refine callsD_of_wpS Tryd.func28 rfl fun c₀ cs hu => ?_
  apply wpS_seq
  apply wpS_region
  simp [wpOpsS, go_sem, recoverD, hu, Tryd.ntmps28, Exit.thenS]
  refine wpS_of_wp ?_
  go_wp2
  cases c₀
  simp_all [bodyPostS, results, Tryd.results28]
set_option maxRecDepth 20000 in
theorem catch_gone (p : Addr) (x n : Int) (w : World) (hc : w.cell? p = some (.int .i64 x)) (hz : w.frozen? p = false) :
    CallsD Tryd.prog 28 #[.pointer (some p)] (.panicking [{ v := .iface 32 (.int .i64 n), recovered := false }]) w fun e u' w' =>
      e = .returned (.tuple #[]) ∧ u' = .panicking [{ v := .iface 32 (.int .i64 n), recovered := true }] ∧ w' = w.setCell p (.int .i64 n) := by
  have hta : (Instr.typeAssert (.iface 32 (.int .i64 n)) 20 32 true).run Tryd.prog w = .ok (.tuple #[.int .i64 n, .bool true]) w := assert_same Tryd.underlying32
  refine callsD_of_wpS Tryd.func28 rfl fun c₀ cs hu => ?_
  apply wpS_seq
  apply wpS_region
  simp [wpOpsS, go_sem, recoverD, hu, Tryd.ntmps28, Exit.thenS]
  refine wpS_of_wp ?_
  change Code.wp _ _ _ ⟨#[.pointer (some p), undef, undef, undef, .iface 32 (.int .i64 n), undef, undef, undef, undef, undef, undef], []⟩ w
  go_wp2
  simp [bodyPostS, results, Tryd.results28]
end Go.Proofs.YtcfkcnkekdafgaaDoor
