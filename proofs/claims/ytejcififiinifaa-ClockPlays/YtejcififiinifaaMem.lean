/-
  Blocks of a world, known whole; worlds that keep all but some blocks. No condition but what each law names.
-/
import Derived.Test.YtejcififiinifaaBase
import Derived.Deep.MidRow
import Derived.Laws.Rows
import Derived.Deep.RegionHeld3
import Derived.Deep.WholeRow
import Derived.BigQuiet
import Derived.Deep.QuietTactic
import Derived.Test.YtejcififiinifaaLate
namespace Go.Proofs.Ytejcififiinifaa
open Go.ChangeShapes Go.WideShapes Go.ChangeAt Go.RowKit
set_option linter.unusedVariables false

theorem ret_int {k : IntKind} {a b : Int} (h : a = b) : Ending.returned (.int k a) = .returned (.int k b) := by rw [h]
/-- the block g has these cells -/
def Has (w : World) (g : Nat) (C : Array Value) (t : TypeId) : Prop := w.heap[g]? = some (.cells C t (0, 0))
theorem Has.of {w : World} {g : Nat} {C D : Array Value} {t : TypeId} (h : Has w g C t) (e : C = D) : Has w g D t := by rw [← e]; exact h
theorem Has.lt {w : World} {g : Nat} {C : Array Value} {t : TypeId} (h : Has w g C t) : g < w.heap.size := (Array.getElem?_eq_some_iff.1 h).1
theorem Has.later {w w' : World} {g : Nat} {C : Array Value} {t : TypeId} (h : Has w g C t) (k : Gr w w') : Has w' g C t := (k.block g h.lt).trans h
theorem Has.new (w : World) (C : Array Value) (t : TypeId) : Has (w.alloc (.cells C t)) w.heap.size C t := by show (w.heap.push _)[w.heap.size]? = _; simp
theorem Has.alloc {w : World} {g : Nat} {C : Array Value} {t : TypeId} (h : Has w g C t) (D : Array Value) (u : TypeId) : Has (w.alloc (.cells D u)) g C t := h.later ((Gr.refl w).alloc D u)
theorem Has.cell {w : World} {g : Nat} {C : Array Value} {t : TypeId} (h : Has w g C t) {o : Nat} {v : Value} (hv : C[o]? = some v) : w.cell? ⟨g, o, none⟩ = some v := (cell_of_row w g o C t (0, 0) h).trans hv
theorem Has.free {w : World} {g : Nat} {C : Array Value} {t : TypeId} (h : Has w g C t) (o : Nat) : w.frozen? ⟨g, o, none⟩ = false := frozen_of_row w g o C t h
theorem Has.drew {w : World} {g : Nat} {C : Array Value} {t : TypeId} (h : Has w g C t) : Has w.drew g C t := h
theorem Has.drewN {w : World} {g : Nat} {C : Array Value} {t : TypeId} (h : Has w g C t) (n : Nat) : Has (w.drewN n) g C t := h
theorem Gr.drewN {w w' : World} (h : Gr w w') (n : Nat) : Gr w (w'.drewN n) := ⟨h.os, h.tape, h.output, h.size, h.block⟩
theorem Has.apart {w : World} {g k : Nat} {C D : Array Value} {t u : TypeId} (h : Has w g C t) (h' : Has w k D u) (ht : t ≠ u) : g ≠ k := by
  rintro rfl
  have e := Option.some.inj (h.symm.trans h')
  injection e with _ e2 _
  exact ht e2
theorem Gr.undrew {w w' : World} (h : Gr w.drew w') : Gr w w' := ⟨h.os, h.tape, h.output, h.size, h.block⟩
theorem Has.set {w : World} {g : Nat} {C : Array Value} {t : TypeId} (h : Has w g C t) (o : Nat) (v : Value) : Has (w.setCell ⟨g, o, none⟩ v) g (C.setIfInBounds o v) t := heap_setCell_same w g o C t v h
theorem Has.aside {w : World} {g k : Nat} {C : Array Value} {t : TypeId} (h : Has w g C t) (hk : g ≠ k) (o : Nat) (v : Value) : Has (w.setCell ⟨k, o, none⟩ v) g C t := (Below.heap_setCell w ⟨k, o, none⟩ v g hk).trans h
theorem Has.row {w : World} {g : Nat} {C : Array Value} {t : TypeId} (h : Has w g C t) (D : Array Value) : Has (w.setRow g D) g D t := setRow_heap w g C D t (0, 0) h
theorem Has.rowAside {w : World} {g k : Nat} {C : Array Value} {t : TypeId} (h : Has w g C t) (hk : g ≠ k) (D : Array Value) : Has (w.setRow k D) g C t := (setRow_other w k g D hk).trans h
theorem Gr.setRow {w w' : World} (h : Gr w w') {g : Nat} (hg : w.heap.size ≤ g) (D : Array Value) : Gr w (w'.setRow g D) :=
  ⟨h.os, h.tape, h.output, by rw [size_setRow]; exact h.size, fun k hk => (setRow_other w' g k D (by omega)).trans (h.block k hk)⟩

theorem ret_true {b : Bool} (h : b = true) : Ending.returned (.bool b) = .returned (.bool true) := by rw [h]
theorem Has.there {w : World} {g : Nat} {C : Array Value} {t : TypeId} (h : Has w g C t) (o n : Nat) (hn : o + n ≤ C.size) : w.there g o n := by
  intro j hj
  refine ⟨?_, h.free _⟩
  rw [h.cell (o := o + j) (Array.getElem?_eq_getElem (by omega))]
  rfl
/-- the world keeps all but some blocks, and has new ones -/
structure Kp (e : List Nat) (w w' : World) : Prop where
  os : w'.os = w.os
  tape : w'.tape = w.tape
  output : w'.output = w.output
  size : w.heap.size ≤ w'.heap.size
  block : ∀ k, k < w.heap.size → k ∉ e → w'.heap[k]? = w.heap[k]?
theorem Gr.kp {w w' : World} (h : Gr w w') (e : List Nat) : Kp e w w' := ⟨h.os, h.tape, h.output, h.size, fun k hk _ => h.block k hk⟩
theorem Kp.refl (e : List Nat) (w : World) : Kp e w w := (Gr.refl w).kp e
/-- one behind the other; what is not kept is named, or new -/
theorem Kp.trans {e d f : List Nat} {a b c : World} (h : Kp e a b) (k : Kp d b c) (h1 : ∀ x ∈ e, x ∈ f) (h2 : ∀ x ∈ d, x ∈ f ∨ a.heap.size ≤ x) : Kp f a c :=
  ⟨k.os.trans h.os, k.tape.trans h.tape, k.output.trans h.output, Nat.le_trans h.size k.size, fun x hx hf =>
    (k.block x (Nat.lt_of_lt_of_le hx h.size) (fun q => (h2 x q).elim hf (fun h3 => absurd h3 (Nat.not_le.2 hx)))).trans (h.block x hx (fun q => hf (h1 x q)))⟩
theorem Kp.gr {e : List Nat} {w0 w w' : World} (h : Gr w0 w) (k : Kp e w w') (h2 : ∀ x ∈ e, w0.heap.size ≤ x) : Gr w0 w' :=
  ⟨k.os.trans h.os, k.tape.trans h.tape, k.output.trans h.output, Nat.le_trans h.size k.size, fun x hx =>
    (k.block x (Nat.lt_of_lt_of_le hx h.size) (fun q => by have := h2 x q; omega)).trans (h.block x hx)⟩
theorem Has.kept {w w' : World} {g : Nat} {C : Array Value} {t : TypeId} {e : List Nat} (h : Has w g C t) (k : Kp e w w') (hg : g ∉ e) : Has w' g C t := (k.block g h.lt hg).trans h
theorem Kp.setRow (w : World) (g : Nat) (D : Array Value) : Kp [g] w (w.setRow g D) :=
  ⟨rfl, rfl, rfl, by rw [size_setRow]; exact Nat.le_refl _, fun k hk hg => setRow_other w g k D (by simpa using hg)⟩
theorem Kp.setCell (w : World) (g o : Nat) (v : Value) : Kp [g] w (w.setCell ⟨g, o, none⟩ v) :=
  have h : Below 0 w (w.setCell ⟨g, o, none⟩ v) := Below.setCell (Below.refl 0 w) (Nat.zero_le _) v
  ⟨h.os, h.tape, h.output, h.size, fun k hk hg => Below.heap_setCell w ⟨g, o, none⟩ v k (by simpa using hg)⟩
end Go.Proofs.Ytejcififiinifaa
