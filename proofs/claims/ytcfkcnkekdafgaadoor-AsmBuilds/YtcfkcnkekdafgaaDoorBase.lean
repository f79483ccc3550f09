/-
  For any world in which the program's tables lie as its text lays them: what their cells hold, said by plain lists; and that they lie so in every later world. No condition but that.
-/
import Derived.Test.YtcfkcnkekdafgaaDoorTabs
import Derived.Test.YtcfkcnkekdafgaaDoorRows
import Derived.WalkKit
import Derived.Below
import Derived.ProofKit
import Derived.OpenShut
import Derived.WalkSpells
import Derived.WalkLawsBesides
import Derived.MakeChecks
import Derived.LaidMore
import Derived.FnData
import Derived.Laws.Rows
import Derived.Deep.MidRow
namespace Go.Proofs.YtcfkcnkekdafgaaDoor
open Go.ChangeShapes Go.WideShapes Go.ChangeAt Go.RowKit
set_option linter.unusedVariables false

/-- the world has new blocks alone -/
def Gr (w w' : World) : Prop := Below w.heap.size w w'
theorem Gr.refl (w : World) : Gr w w := Below.refl _ w
theorem Gr.alloc {w w' : World} (h : Gr w w') (c : Array Value) (t : TypeId) : Gr w (w'.alloc (.cells c t)) := Below.alloc h h.size _
theorem Gr.allocO {w w' : World} (h : Gr w w') (o : Obj) : Gr w (w'.alloc o) := Below.alloc h h.size _
theorem Gr.setCell {w w' : World} (h : Gr w w') {a : Addr} (ha : w.heap.size ≤ a.block) (v : Value) : Gr w (w'.setCell a v) := Below.setCell h ha v
theorem Gr.drew {w w' : World} (h : Gr w w') : Gr w w'.drew := Below.drew h
theorem Gr.drewN {w w' : World} (h : Gr w w') (n : Nat) : Gr w (w'.drewN n) := ⟨h.os, h.tape, h.output, h.size, h.block⟩
theorem Gr.trans {a b c : World} (h : Gr a b) (k : Gr b c) : Gr a c := Below.trans h (Below.mono k h.size)
theorem hide {p : Prop} (h : p) : Hid p := h

/-- the tables lie in the world -/
structure Laid (w : World) : Prop where
  kd : ∀ n, n < 28 → w.cell? ⟨0, n * 5, none⟩ = some (.int .i64 (kA n)) ∧ w.cell? ⟨0, n * 5 + 1, none⟩ = some (.int .i64 (kB n)) ∧ w.cell? ⟨0, n * 5 + 2, none⟩ = some (.int .i64 (kC n)) ∧ w.cell? ⟨0, n * 5 + 3, none⟩ = some (.int .i64 (kK n)) ∧ w.cell? ⟨0, n * 5 + 4, none⟩ = some (.bool (kD n))
  nm : ∃ t fr, w.heap[1]? = some (.cells nameV t fr)
  ml : ∃ m, w.cell? ⟨2, 0, none⟩ = some (.int .i64 m)
  es : ∃ t p, w.cell? ⟨5, 0, none⟩ = some (.iface t p)
  er : ∃ t p, w.cell? ⟨6, 0, none⟩ = some (.iface t p)

theorem Laid.lt {w : World} (h : Laid w) : 6 < w.heap.size := by
  obtain ⟨t, p, e⟩ := h.er
  exact World.block_lt_of_cell? w _ e

theorem Laid.keep {w w' : World} (h : Laid w) (g : ∀ k, k ≤ 6 → w'.heap[k]? = w.heap[k]?) : Laid w' := by
  have c : ∀ k o, k ≤ 6 → w'.cell? ⟨k, o, none⟩ = w.cell? ⟨k, o, none⟩ := fun k o hk => by simp [World.cell?, g k hk]
  refine ⟨fun n hn => ?_, ?_, ?_, ?_, ?_⟩
  · obtain ⟨h0, h1, h2, h3, h4⟩ := h.kd n hn
    exact ⟨(c _ _ (by omega)).trans h0, (c _ _ (by omega)).trans h1, (c _ _ (by omega)).trans h2, (c _ _ (by omega)).trans h3, (c _ _ (by omega)).trans h4⟩
  · obtain ⟨t, fr, e⟩ := h.nm
    exact ⟨t, fr, (g 1 (by omega)).trans e⟩
  · obtain ⟨m, e⟩ := h.ml
    exact ⟨m, (c _ _ (by omega)).trans e⟩
  · obtain ⟨t, p, e⟩ := h.es
    exact ⟨t, p, (c _ _ (by omega)).trans e⟩
  · obtain ⟨t, p, e⟩ := h.er
    exact ⟨t, p, (c _ _ (by omega)).trans e⟩
theorem Laid.later {w w' : World} (h : Laid w) (g : Gr w w') : Laid w' := h.keep fun k hk => g.block k (by have := h.lt; omega)
end Go.Proofs.YtcfkcnkekdafgaaDoor
