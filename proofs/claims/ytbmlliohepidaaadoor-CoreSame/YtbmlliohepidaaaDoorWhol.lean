/-
  What whole answers: the port, as it was. No condition but that the port's functions are such, and have room.
-/
import Derived.Test.YtbmlliohepidaaaDoorFrm
namespace Go.Proofs.YtbmlliohepidaaaDoor
open Go.ChangeShapes Go.WideShapes Go.ChangeAt Go.RowKit
set_option linter.unusedVariables false

/-- the cells of the zero port -/
abbrev port0 : Array Value := #[.int .i64 0, .nilFunc, .nilFunc, .nilFunc, .nilFunc, .nilFunc, .nilFunc, .nilFunc, .nilFunc, .nilFunc, .nilFunc]
/-- a port is written whole -/
theorem store_port {ops : Array Oper} {rest : List Oper} {op : Oper} {a : Act} {w : World} {Q : Exit → Act → World → Prop} (hgd : op.guard = none) (x y : Operand) (ho : op.op = .store 51 x y)
    (g : Nat) (hx : a.eval x = .pointer (some ⟨g, 0, none⟩)) (z : Int) (f : Fns) (hy : a.eval y = .agg (portA z f)) (C : Array Value) (hg : Has w g C 51) (hC : C.size = 11)
    (h : wpList Tryd.prog ops Q rest (a.put op.dst undef) (w.setRow g (portA z f))) : wpList Tryd.prog ops Q (op :: rest) a w :=
  wpList_store_row hgd 51 x y ho g (portA z f) hx hy 51 C hg infoP11 (by rw [hC]; rfl) (by simp [Value.oneCell']) h
theorem results_port {fn : Func} {p : Tmp} (h : fn.results = #[.cell p 51]) (tmps : Array Value) (w : World) (g : Nat) (z : Int) (f : Fns) (hp : tmps.getD p undef = .pointer (some ⟨g, 0, none⟩)) (hg : Has w g (portA z f) 51) :
    (results fn tmps).run Tryd.prog w = .ok (.agg (portA z f)) w :=
  results_cell_row h tmps w g 51 (portA z f) (0, 0) _ hp hg Tryd.underlying51 rfl infoP11

set_option maxRecDepth 20000 in
set_option maxHeartbeats 1000000 in
theorem whole_calls (z : Int) (f : Fns) (w : World) : Calls Tryd.prog 28 #[.agg (portA z f)] w fun e w' => e = .returned (.agg (portA z f)) ∧ Gr w w' := by
  obtain ⟨f1, c1, f2, c2, f3, c3, f4, c4, f5, c5, f6, c6, f7, c7, f8, c8, f9, c9, f10, c10⟩ := f
  have e1 : ∀ w, (binOp .eql 45 (.func (.func f1) #[] c1) .nilFunc).run Tryd.prog w = .ok (.bool false) w := fun w => by kernel_rfl
  have e2 : ∀ w, (binOp .eql 32 (.func (.func f2) #[] c2) .nilFunc).run Tryd.prog w = .ok (.bool false) w := fun w => by kernel_rfl
  have e3 : ∀ w, (binOp .eql 46 (.func (.func f3) #[] c3) .nilFunc).run Tryd.prog w = .ok (.bool false) w := fun w => by kernel_rfl
  have e4 : ∀ w, (binOp .eql 32 (.func (.func f4) #[] c4) .nilFunc).run Tryd.prog w = .ok (.bool false) w := fun w => by kernel_rfl
  have e5 : ∀ w, (binOp .eql 1 (.func (.func f5) #[] c5) .nilFunc).run Tryd.prog w = .ok (.bool false) w := fun w => by kernel_rfl
  have e6 : ∀ w, (binOp .eql 47 (.func (.func f6) #[] c6) .nilFunc).run Tryd.prog w = .ok (.bool false) w := fun w => by kernel_rfl
  have e7 : ∀ w, (binOp .eql 48 (.func (.func f7) #[] c7) .nilFunc).run Tryd.prog w = .ok (.bool false) w := fun w => by kernel_rfl
  have e8 : ∀ w, (binOp .eql 47 (.func (.func f8) #[] c8) .nilFunc).run Tryd.prog w = .ok (.bool false) w := fun w => by kernel_rfl
  have e9 : ∀ w, (binOp .eql 1 (.func (.func f9) #[] c9) .nilFunc).run Tryd.prog w = .ok (.bool false) w := fun w => by kernel_rfl
  have e10 : ∀ w, (binOp .eql 49 (.func (.func f10) #[] c10) .nilFunc).run Tryd.prog w = .ok (.bool false) w := fun w => by kernel_rfl
  have b0 := (Has.new w (portA z ⟨f1, c1, f2, c2, f3, c3, f4, c4, f5, c5, f6, c6, f7, c7, f8, c8, f9, c9, f10, c10⟩) 51).alloc port0 51
  have b1 := Has.new (w.alloc (.cells (portA z ⟨f1, c1, f2, c2, f3, c3, f4, c4, f5, c5, f6, c6, f7, c7, f8, c8, f9, c9, f10, c10⟩) 51)) port0 51
  rw [size1] at b1
  have FG := hide ((((Gr.refl w).alloc (portA z ⟨f1, c1, f2, c2, f3, c3, f4, c4, f5, c5, f6, c6, f7, c7, f8, c8, f9, c9, f10, c10⟩) 51).alloc port0 51).setRow (g := w.heap.size + 1) (by omega) (portA z ⟨f1, c1, f2, c2, f3, c3, f4, c4, f5, c5, f6, c6, f7, c7, f8, c8, f9, c9, f10, c10⟩))
  have FB := hide (b1.row (portA z ⟨f1, c1, f2, c2, f3, c3, f4, c4, f5, c5, f6, c6, f7, c7, f8, c8, f9, c9, f10, c10⟩))
  go_enter Tryd.func28, Tryd.ntmps28
  go_wp2_with (first
    | (refine load_port rfl _ rfl w.heap.size rfl z ⟨f1, c1, f2, c2, f3, c3, f4, c4, f5, c5, f6, c6, f7, c7, f8, c8, f9, c9, f10, c10⟩ b0 ?_)
    | (refine store_port rfl _ _ rfl (w.heap.size + 1) rfl z ⟨f1, c1, f2, c2, f3, c3, f4, c4, f5, c5, f6, c6, f7, c7, f8, c8, f9, c9, f10, c10⟩ rfl port0 b1 rfl ?_))
  exact bodyPost_ret (results_port rfl _ _ (w.heap.size + 1) z ⟨f1, c1, f2, c2, f3, c3, f4, c4, f5, c5, f6, c6, f7, c7, f8, c8, f9, c9, f10, c10⟩ rfl FB.out) rfl ⟨rfl, FG.out⟩
end Go.Proofs.YtbmlliohepidaaaDoor
