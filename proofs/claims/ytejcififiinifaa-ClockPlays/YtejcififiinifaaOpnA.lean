/-
  What came in, said of plain functions: an array of eight numbers of 32 bits. No condition.
-/
import Derived.Test.YtejcififiinifaaClk
import Derived.WalkKit
import Derived.ProofKit
import Derived.OpenShut
import Derived.ShutString
import Derived.ChangeOld
import Derived.Below
namespace Go.Proofs.Ytejcififiinifaa
open Go.ChangeShapes Go.WideShapes Go.ChangeAt Go.RowKit
set_option linter.unusedVariables false
set_option maxRecDepth 20000

theorem cells_word : Try.prog.cellsOf 22 = 1 := by kernel_rfl
theorem cells_arr : Try.prog.cellsOf 23 = 8 := by kernel_rfl
theorem list_8 {α : Type} {l : List α} (h : l.length = 8) : ∃ a b c d e f g i, l = [a, b, c, d, e, f, g, i] := by
  match l, h with
  | [a, b, c, d, e, f, g, i], _ => exact ⟨a, b, c, d, e, f, g, i, rfl⟩
/-- what eight numbers are, said of their places -/
def eightF (a b c d e f g i : Int) : Nat → Int := fun k => if k = 0 then a else if k = 1 then b else if k = 2 then c else if k = 3 then d else if k = 4 then e else if k = 5 then f else if k = 6 then g else i

section
variable {H : Type} {enc : TypeId × Value → H} {w : World} {held : Bool} {base : Nat}

theorem trod_arr {n : Nat} {cs : List Value} {x : DataW H × List MemPlace} (h : DataW.trod enc Try.prog w 0 (fun _ => true) held n 23 cs = some x) : ∃ f, cs = (ckC f).toList ∧ CkOk f := by
  obtain ⟨ys, m, _, _, hl, hyn, hel⟩ := DataW.trod_array Try.underlying23 h
  rw [cells_arr] at hl
  obtain ⟨d0, d1, d2, d3, d4, d5, d6, d7, rfl⟩ := list_8 hl
  have each : ∀ (i : Nat) (v : Value), i < 8 → [d0, d1, d2, d3, d4, d5, d6, d7][i]? = some v → ∃ k : Int, v = .int .u32 k ∧ 0 ≤ k ∧ k < 4294967296 := by
    intro i v hi hv
    have he := hel i hi
    rw [List.getElem?_eq_getElem (by omega), cells_word, Nat.mul_one] at he
    obtain ⟨k, ek, _, wk⟩ := DataW.trod_int Try.underlying22 he
    have hb := bounds_u32 wk
    have := congrArg (fun l => l[0]?) ek
    simp only [List.getElem?_take, List.getElem?_drop, Nat.add_zero, Nat.zero_lt_one, if_true] at this
    rw [hv] at this
    exact ⟨k, by simpa using this, hb.1, by omega⟩
  obtain ⟨k0, rfl, u0⟩ := each 0 d0 (by omega) rfl
  obtain ⟨k1, rfl, u1⟩ := each 1 d1 (by omega) rfl
  obtain ⟨k2, rfl, u2⟩ := each 2 d2 (by omega) rfl
  obtain ⟨k3, rfl, u3⟩ := each 3 d3 (by omega) rfl
  obtain ⟨k4, rfl, u4⟩ := each 4 d4 (by omega) rfl
  obtain ⟨k5, rfl, u5⟩ := each 5 d5 (by omega) rfl
  obtain ⟨k6, rfl, u6⟩ := each 6 d6 (by omega) rfl
  obtain ⟨k7, rfl, u7⟩ := each 7 d7 (by omega) rfl
  refine ⟨eightF k0 k1 k2 k3 k4 k5 k6 k7, rfl, fun i hi => ?_⟩
  rcases lt8 hi with rfl | rfl | rfl | rfl | rfl | rfl | rfl | rfl
  · exact u0
  · exact u1
  · exact u2
  · exact u3
  · exact u4
  · exact u5
  · exact u6
  · exact u7

theorem open_arr {v : Value} {d : DataW H} {p : List MemPlace} (ho : Value.okWide Try.prog w .any base 23 v) (h : DataW.Trod enc Try.prog w 0 (fun _ => true) held 23 v d p) : ∃ f, v = .agg (ckC f) ∧ CkOk f := by
  obtain ⟨cs, rfl⟩ : ∃ cs, v = .agg cs := by
    cases v <;> first
      | exact ⟨_, rfl⟩
      | (simp [Value.okWide, Try.underlying23] at ho)
  obtain ⟨fuel, hf⟩ := h
  obtain ⟨f, e, hk⟩ := trod_arr hf
  refine ⟨f, ?_, hk⟩
  obtain ⟨l⟩ := cs
  have e' : l = (ckC f).toList := e
  rw [e']
end
end Go.Proofs.Ytejcififiinifaa
