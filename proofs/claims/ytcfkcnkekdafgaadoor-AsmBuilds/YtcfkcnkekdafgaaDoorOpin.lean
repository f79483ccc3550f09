/-
  What a slice of instructions that came in holds, said of cells and plain lists; the table of powers of ten lies as the rows of this seat say. No condition.
-/
import Derived.Test.YtcfkcnkekdafgaaDoorSam
import Derived.Test.YtcfkcnkekdafgaaDoorLai
import Derived.Test.YtcfkcnkekdafgaaDoorTela
import Derived.Deep.Slices
import Derived.Deep.MidRow
import Derived.Lib.LaidTab
namespace Go.Proofs.YtcfkcnkekdafgaaDoor
open Go.ChangeShapes Go.WideShapes Go.ChangeAt Go.RowKit Go.Deep
set_option linter.unusedVariables false

theorem cellsI : Tryd.prog.cellsOf 28 = 5 := by kernel_rfl
section
variable {H : Type} {enc : TypeId × Value → H} {w : World} {sp : Nat → Bool} {held : Bool}

theorem list5 {α : Type} {l : List α} (h : l.length = 5) : ∃ a b c d e, l = [a, b, c, d, e] := by
  match l, h with
  | [a, b, c, d, e], _ => exact ⟨a, b, c, d, e, rfl⟩

set_option maxRecDepth 10000 in
theorem open_ins {n : Nat} {cs : List Value} {x : DataW H × List MemPlace} (h : DataW.trod enc Tryd.prog w 0 sp held n 28 cs = some x) : ∃ i : Ins, cs = i.vals ∧ i.ok := by
  obtain ⟨xs, m, rfl, _, hl, hlen, hf⟩ := DataW.trod_struct Tryd.underlying28 h
  rw [cellsI] at hl
  obtain ⟨c0, c1, c2, c3, c4, rfl⟩ := list5 hl
  obtain ⟨x0, x1, x2, x3, x4, rfl⟩ := list5 hlen
  obtain ⟨n0, e0, _, _⟩ := DataW.trod_int Tryd.underlying3 (hf 0 _ rfl)
  obtain ⟨n1, e1, _, _⟩ := DataW.trod_int Tryd.underlying3 (hf 1 _ rfl)
  obtain ⟨n2, e2, _, _⟩ := DataW.trod_int Tryd.underlying3 (hf 2 _ rfl)
  obtain ⟨n3, e3, _, _⟩ := DataW.trod_int Tryd.underlying3 (hf 3 _ rfl)
  obtain ⟨n4, e4, _, w4⟩ := DataW.trod_int Tryd.underlying26 (hf 4 _ rfl)
  have q0 : [c0] = [Value.int .i64 n0] := e0
  have q1 : [c1] = [Value.int .i64 n1] := e1
  have q2 : [c2] = [Value.int .i64 n2] := e2
  have q3 : [c3] = [Value.int .i64 n3] := e3
  have q4 : [c4] = [Value.int .u32 n4] := e4
  simp only [List.cons.injEq, and_true] at q0 q1 q2 q3 q4
  subst q0 q1 q2 q3 q4
  have := bounds_u32 w4
  exact ⟨⟨n0, n1, n2, n3, n4⟩, rfl, this.1, by show n4 < 4294967296; omega⟩

theorem addr_add (b o : Nat) (n : Nat) : (⟨b, o, none⟩ : Addr).add n = ⟨b, o + n, none⟩ := Addr.add_mid b o n

theorem open_code {n : Nat} {v : Value} {x : DataW H × List MemPlace} (h : DataW.trod enc Tryd.prog w 0 (fun _ => true) held n 22 [v] = some x) :
    ∃ l : List Ins, CodeAt w v l ∧ (∀ i ∈ l, i.ok) ∧ l.length ≤ maxLen := by
  rcases open_slice Tryd.underlying22 h with ⟨h0, _⟩ | ⟨a, len, cap, m, n', D, Pl, hcs, _, hl, hm, hmm, _, hx⟩
  · simp at h0
    exact ⟨[], ⟨none, 0, h0, .inl rfl⟩, fun i hi => (by cases hi), Nat.zero_le _⟩
  · simp at hcs hmm
    subst hmm
    rw [cellsI] at hx
    have each : ∀ i, i < len → ∃ f : Ins, w.cells? 0 (a.add (i * 5)) 5 = some f.vals ∧ f.ok := by
      intro i hi
      obtain ⟨cs', h1, h2⟩ := hx i (by omega)
      obtain ⟨f, rfl, hf⟩ := open_ins h2
      exact ⟨f, h1, hf⟩
    have inh : Inhabited Ins := ⟨ins0⟩
    obtain ⟨f, hf⟩ := choose_lt each
    refine ⟨(List.range len).map f, ⟨some a, _, by simpa using hcs, ?_⟩, ?_, by simpa using Nat.le_trans hl hm⟩
    · by_cases h0 : len = 0
      · subst h0; exact .inl rfl
      right
      obtain ⟨b, off, spot⟩ := a
      have hs : spot = none := by
        obtain ⟨_, _, hc⟩ := World.cells?_some (hf 0 (by omega)).1
        have := hc 0 (by omega)
        have := World.cell?_spot (this.trans rfl)
        simpa [Addr.add] using this
      subst hs
      refine ⟨b, off, rfl, fun j i hi => ?_⟩
      have hj : j < len := by
        have := (List.getElem?_eq_some_iff.1 hi).1
        simpa using this
      have e : f j = i := by simpa [hj] using hi
      subst e
      obtain ⟨_, _, hc⟩ := World.cells?_some (hf j hj).1
      simp only [addr_add] at hc
      exact ⟨(hc 0 (by omega)).trans rfl, (hc 1 (by omega)).trans rfl, (hc 2 (by omega)).trans rfl, (hc 3 (by omega)).trans rfl, (hc 4 (by omega)).trans rfl⟩
    · intro i hi
      obtain ⟨j, hj, rfl⟩ := List.mem_map.1 hi
      exact (hf j (by simpa using hj)).2
end

theorem powData : (Rows.laid_internal_strconv_uint64pow10 : DataW Unit) = Lib.tabData .u64 Lib.pow10Tab := by kernel_rfl
theorem pow_of {W : World} (h : laidMetH Tryd.prog laid9 W) : Pow W := by
  rw [MakeChecks.laidMetH_plain _ _ _ (by kernel_rfl)] at h
  have h4 := h.tail.tail.tail.tail
  rw [powData] at h4
  exact Lib.tabIs_of_head (g := 7) (t := 133) (e := 110) (n := 20) (by kernel_rfl) (by kernel_rfl) Tryd.underlying133 Tryd.underlying110 (by kernel_rfl) (by kernel_rfl) h4
end Go.Proofs.YtcfkcnkekdafgaaDoor
