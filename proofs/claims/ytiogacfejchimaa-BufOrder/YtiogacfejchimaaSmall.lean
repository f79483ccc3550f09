/-
  What Len, Full and place answer of any cells that are a buffer. No condition but that.
-/
import Derived.Test.YtiogacfejchimaaRing
namespace Go.Proofs.Ytiogacfejchimaa
open Go.ChangeShapes Go.WideShapes Go.ChangeAt Go.RowKit
set_option linter.unusedVariables false

/-- the world has new blocks alone -/
def Gr (w w' : World) : Prop := Below w.heap.size w w'
theorem Gr.refl (w : World) : Gr w w := Below.refl _ w
theorem Gr.alloc {w w' : World} (h : Gr w w') (c : Array Value) (t : TypeId) : Gr w (w'.alloc (.cells c t)) := Below.alloc h h.size _
theorem Gr.setCell {w w' : World} (h : Gr w w') {a : Addr} (ha : w.heap.size ≤ a.block) (v : Value) : Gr w (w'.setCell a v) := Below.setCell h ha v
theorem Gr.drew {w w' : World} (h : Gr w w') : Gr w w'.drew := Below.drew h
theorem Gr.trans {a b c : World} (h : Gr a b) (k : Gr b c) : Gr a c := Below.trans h (Below.mono k h.size)
theorem hide {p : Prop} (h : p) : Hid p := h
theorem ret_int {k : IntKind} {a b : Int} (h : a = b) : Ending.returned (.int k a) = .returned (.int k b) := by rw [h]

set_option maxHeartbeats 400000 in
theorem len_calls {C : Array Value} {room : Nat} {l : List Ent} (h : IsB C room l) (w : World) :
    Calls Try.prog 9 #[.agg C] w fun e w' => e = .returned (.int .i64 l.length) ∧ Gr w w' := by
  obtain ⟨r, first, hi⟩ := h
  have hc : C[34]? = some (.int .i64 l.length) := by rw [hi.cells]; exact bufC_count hi.ring _ _ _
  clear hi
  go_enter Try.func9, Try.ntmps9
  go_wp2
  go_ret
  exact ⟨rfl, (Gr.refl _).alloc _ _⟩

/-- as many as the room? -/
def fullB (l : List Ent) (room : Nat) : Bool := ((l.length : Int) == (room : Int))

set_option maxHeartbeats 400000 in
theorem full_calls {C : Array Value} {room : Nat} {l : List Ent} (h : IsB C room l) (w : World) :
    Calls Try.prog 10 #[.agg C] w fun e w' => e = .returned (.bool (fullB l room)) ∧ Gr w w' := by
  obtain ⟨r, first, hi⟩ := h
  have hc : C[34]? = some (.int .i64 l.length) := by rw [hi.cells]; exact bufC_count hi.ring _ _ _
  have hr : C[32]? = some (.int .i64 room) := by rw [hi.cells]; exact bufC_room hi.ring _ _ _
  clear hi
  go_enter Try.func10, Try.ntmps10
  go_wp2
  go_ret
  exact ⟨rfl, (Gr.refl _).alloc _ _⟩

set_option maxHeartbeats 400000 in
theorem place_calls {C : Array Value} {first : Nat} (hc : C[33]? = some (.int .i64 first)) (hf : first < 16) (n : Nat) (hn : n ≤ 16) (w : World) :
    Calls Try.prog 19 #[.agg C, .int .i64 n] w fun e w' => e = .returned (.int .i64 ((first + n) % 16 : Nat)) ∧ Gr w w' := by
  go_enter Try.func19, Try.ntmps19
  go_wp2
  go_ret
  exact ⟨ret_int (by omega), (Gr.refl _).alloc _ _⟩
end Go.Proofs.Ytiogacfejchimaa
