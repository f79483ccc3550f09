/-
  For any world in which the program's table of kinds lies as its text lays it: what its cells hold, said by plain lists; and that it lies so in every later world. No condition but that.
-/
import Derived.Test.YthbenfnanhpcoaaGreatDoorRows
import Derived.WalkKit
import Derived.Below
import Derived.ProofKit
import Derived.OpenShut
import Derived.WalkSpells
import Derived.WalkLawsBesides
import Derived.MakeChecks
import Derived.LaidMore
import Derived.FnData
namespace Go.Proofs.YthbenfnanhpcoaaGreatDoor
open Go.ChangeShapes Go.WideShapes Go.ChangeAt Go.RowKit
set_option linter.unusedVariables false

/-- the world has new blocks alone -/
def Gr (w w' : World) : Prop := Below w.heap.size w w'
theorem Gr.refl (w : World) : Gr w w := Below.refl _ w
theorem Gr.alloc {w w' : World} (h : Gr w w') (c : Array Value) (t : TypeId) : Gr w (w'.alloc (.cells c t)) := Below.alloc h h.size _
theorem Gr.setCell {w w' : World} (h : Gr w w') {a : Addr} (ha : w.heap.size ≤ a.block) (v : Value) : Gr w (w'.setCell a v) := Below.setCell h ha v
theorem Gr.drew {w w' : World} (h : Gr w w') : Gr w w'.drew := Below.drew h
theorem Gr.trans {a b c : World} (h : Gr a b) (k : Gr b c) : Gr a c := Below.trans h (Below.mono k h.size)
theorem hide {p : Prop} (h : p) : Hid p := h

def useA : List Int := [0, 1, 1, 1, 1, 1, 1, 1, 1, 1, 1, 1, 1, 0, 1, 1, 1, 1, 0, 1, 1, 1, 1, 1, 1, 0, 0, 1]
def useB : List Int := [0, 0, 1, 1, 1, 1, 1, 1, 1, 1, 1, 1, 1, 0, 0, 0, 2, 2, 0, 2, 2, 2, 0, 2, 2, 0, 0, 0]
def useC : List Int := [0, 0, 0, 1, 1, 1, 1, 1, 1, 1, 1, 1, 1, 0, 0, 0, 0, 0, 0, 0, 0, 1, 0, 0, 0, 0, 0, 0]
def useK : List Int := [0, 3, 0, 0, 0, 0, 0, 0, 0, 0, 0, 0, 0, 4, 4, 4, 3, 3, 0, 3, 3, 3, 0, 3, 3, 0, 0, 3]
def drL : List Bool := [false, false, false, false, false, false, false, false, false, false, false, false, false, false, false, false, false, false, true, true, true, true, false, true, true, true, false, false]

def kA (n : Nat) : Int := useA.getD n 0
def kB (n : Nat) : Int := useB.getD n 0
def kC (n : Nat) : Int := useC.getD n 0
def kK (n : Nat) : Int := useK.getD n 0
def kD (n : Nat) : Bool := drL.getD n false

/-- the table lies in the world -/
structure Laid (w : World) : Prop where
  kd : ∀ n, n < 28 → w.cell? ⟨0, n * 5, none⟩ = some (.int .i64 (kA n)) ∧ w.cell? ⟨0, n * 5 + 1, none⟩ = some (.int .i64 (kB n)) ∧ w.cell? ⟨0, n * 5 + 2, none⟩ = some (.int .i64 (kC n)) ∧ w.cell? ⟨0, n * 5 + 3, none⟩ = some (.int .i64 (kK n)) ∧ w.cell? ⟨0, n * 5 + 4, none⟩ = some (.bool (kD n))

theorem Laid.lt {w : World} (h : Laid w) : 0 < w.heap.size := World.block_lt_of_cell? w _ (h.kd 0 (by omega)).1

theorem Laid.later {w w' : World} (h : Laid w) (g : Gr w w') : Laid w' := by
  have hlt := h.lt
  refine ⟨fun n hn => ?_⟩
  obtain ⟨h0, h1, h2, h3, h4⟩ := h.kd n hn
  have c : ∀ o, w'.cell? ⟨0, o, none⟩ = w.cell? ⟨0, o, none⟩ := fun o => Below.cell g (show 0 < w.heap.size by omega)
  exact ⟨(c _).trans h0, (c _).trans h1, (c _).trans h2, (c _).trans h3, (c _).trans h4⟩

theorem gKinds : Tryz.prog.globalNamed "deadlatch/isa.kinds" = some 0 := by kernel_rfl
theorem tKinds : (Tryz.prog.globals[0]?).map (·.type) = some 158 := by kernel_rfl
theorem cellsK : Tryz.prog.cellsOf 157 = 5 := by kernel_rfl
theorem cellsA : Tryz.prog.cellsOf 158 = 140 := by kernel_rfl
theorem cellsU : Tryz.prog.cellsOf 155 = 1 := by kernel_rfl
theorem cellsB : Tryz.prog.cellsOf 4 = 1 := by kernel_rfl

abbrev laid2 : List (String × DataW Unit) := [("deadlatch/isa.kinds", Rows.laid_deadlatch_isa_kinds)]

theorem take1 {α : Type} {l : List α} {i : Nat} {x : α} (h : (l.drop i).take 1 = [x]) : l[i]? = some x := by
  have := congrArg (fun l => l[0]?) h
  simpa using this

def kindD (n : Nat) : DataW Unit := .agg [.lit (.int .i64 (kA n)), .lit (.int .i64 (kB n)), .lit (.int .i64 (kC n)), .lit (.int .i64 (kK n)), .lit (.bool (kD n))]

set_option maxRecDepth 20000 in
theorem kinds_of {W : World} {f : Nat} {cs : Array Value} {p : List MemPlace} (h : DataW.trod (fun _ => ()) Tryz.prog W 0 (fun _ => true) false f 158 cs.toList = some (Rows.laid_deadlatch_isa_kinds, p)) (n : Nat) (hn : n < 28) :
    cs[n * 5]? = some (.int .i64 (kA n)) ∧ cs[n * 5 + 1]? = some (.int .i64 (kB n)) ∧ cs[n * 5 + 2]? = some (.int .i64 (kC n)) ∧ cs[n * 5 + 3]? = some (.int .i64 (kK n)) ∧ cs[n * 5 + 4]? = some (.bool (kD n)) := by
  obtain ⟨xs, m, rfl, hx, hl, hxn, hel⟩ := DataW.trod_array Tryz.underlying158 h
  have hd : (Rows.laid_deadlatch_isa_kinds : DataW Unit) = .agg ((List.range 28).map kindD) := rfl
  rw [hd] at hx
  simp only [Prod.mk.injEq, DataW.agg.injEq] at hx
  have he := hel n hn
  rw [List.getElem?_eq_getElem (by omega), cellsK] at he
  obtain ⟨ys, m2, rfl, hy, hl2, hyn, hf⟩ := DataW.trod_struct Tryz.underlying157 he
  have e4 : (xs.map (·.1))[n]? = some (xs[n]'(by omega)).1 := by
    rw [List.getElem?_map, List.getElem?_eq_getElem (by omega)]; rfl
  rw [← hx.1, List.getElem?_map, List.getElem?_range hn] at e4
  simp only [Option.map_some, Option.some.injEq] at e4
  rw [hy] at e4
  match ys, hyn, hf, e4 with
  | [y0, y1, y2, y3, y4], _, hf, e4 =>
    simp only [kindD, List.map_cons, List.map_nil, DataW.agg.injEq, List.cons.injEq] at e4
    obtain ⟨q0, q1, q2, q3, q4, _⟩ := e4
    have f0 := hf 0 _ rfl
    have f1 := hf 1 _ rfl
    have f2 := hf 2 _ rfl
    have f3 := hf 3 _ rfl
    have f4 := hf 4 _ rfl
    simp only [List.getElem?_cons_zero, List.getElem?_cons_succ] at f0 f1 f2 f3 f4
    obtain ⟨k0, a0, b0, _⟩ := DataW.trod_int Tryz.underlying155 f0
    obtain ⟨k1, a1, b1, _⟩ := DataW.trod_int Tryz.underlying155 f1
    obtain ⟨k2, a2, b2, _⟩ := DataW.trod_int Tryz.underlying155 f2
    obtain ⟨k3, a3, b3, _⟩ := DataW.trod_int Tryz.underlying155 f3
    obtain ⟨k4, a4, b4⟩ := DataW.trod_bool Tryz.underlying4 f4
    have t0 := take1 a0
    have t1 := take1 a1
    have t2 := take1 a2
    have t3 := take1 a3
    have t4 := take1 a4
    rw [b0] at q0; rw [b1] at q1; rw [b2] at q2; rw [b3] at q3; rw [b4] at q4
    simp only [DataW.lit.injEq, Lit.int.injEq, Lit.bool.injEq, true_and] at q0 q1 q2 q3 q4
    rw [q0, q1, q2, q3, q4]
    simp [List.getElem?_drop] at t0 t1 t2 t3 t4
    exact ⟨t0, t1, t2, t3, t4⟩

theorem of_laid {W : World} (h : laidMetH Tryz.prog laid2 W) : Laid W := by
  rw [MakeChecks.laidMetH_plain _ _ _ (by kernel_rfl)] at h
  obtain ⟨ps, ⟨g1, t1, cs1, f1, p1, q1, hg1, ht1, hv1, hd1, _, _⟩, _, _⟩ := h
  obtain rfl := Option.some.inj (gKinds.symm.trans hg1)
  obtain rfl := Option.some.inj (tKinds.symm.trans ht1)
  refine ⟨fun n hn => ?_⟩
  have e := kinds_of hd1 n hn
  have c := World.var?_cell hg1 hv1
  simp only [c]
  exact e

/-- the table lies so in the world that the program's own start leaves -/
theorem door_met (os : Os) (args : Array Value) : laidMetH Tryz.prog laid2 ((World.doorLaid Tryz.prog 400 os).forCall (fun _ _ => 0) ⟨#[], args, []⟩).memory :=
  laidMetH_of_parts3 (fuel := 8) (laidMet_of_run' 8 (by kernel_rfl) (by kernel_rfl)) (by kernel_rfl) (by kernel_rfl)
end Go.Proofs.YthbenfnanhpcoaaGreatDoor
