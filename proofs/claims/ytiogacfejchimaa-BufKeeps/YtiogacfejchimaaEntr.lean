/-
  Slices of entries in a world, and what Entries answers of any cells that are a buffer. No condition but that.
-/
import Derived.Test.YtiogacfejchimaaStep
namespace Go.Proofs.Ytiogacfejchimaa
open Go.ChangeShapes Go.WideShapes Go.ChangeAt Go.RowKit
set_option linter.unusedVariables false

/-- a slice of entries: none, or their cells from an address on -/
def EntsAt (w : World) (a : Option Addr) (l : List Ent) : Prop :=
  l = [] ∨ ∃ b off, a = some ⟨b, off, none⟩ ∧ ∀ i, i < l.length → w.cell? ⟨b, off + i * 2, none⟩ = some (.int .i64 (l.getD i ent0).a) ∧ w.cell? ⟨b, off + i * 2 + 1, none⟩ = some (.int .u32 (l.getD i ent0).v)
theorem EntsAt.later {w w' : World} {a : Option Addr} {l : List Ent} (h : EntsAt w a l) (g : Gr w w') : EntsAt w' a l := by
  rcases h with h | ⟨b, off, ha, h⟩
  · exact .inl h
  · refine .inr ⟨b, off, ha, fun i hi => ?_⟩
    obtain ⟨h1, h2⟩ := h i hi
    exact ⟨(Below.cell g (p := ⟨b, _, none⟩) (block_lt_of_cell h1)).trans h1, (Below.cell g (p := ⟨b, _, none⟩) (block_lt_of_cell h2)).trans h2⟩
theorem EntsAt.get {w : World} {a : Option Addr} {l : List Ent} (h : EntsAt w a l) {i : Nat} (hi : i < l.length) :
    ∃ b off, a = some ⟨b, off, none⟩ ∧ w.cell? ⟨b, off + i * 2, none⟩ = some (.int .i64 (l.getD i ent0).a) ∧ w.cell? ⟨b, off + i * 2 + 1, none⟩ = some (.int .u32 (l.getD i ent0).v) := by
  rcases h with h | ⟨b, off, ha, h⟩
  · subst h; simp at hi
  · exact ⟨b, off, ha, h i hi⟩

theorem flatC_a (l : List Ent) (i : Nat) (hi : i < l.length) : (flat l).toArray[i * 2]? = some (.int .i64 (l.getD i ent0).a) := by
  rw [List.getElem?_toArray, flat_a, List.getD_eq_getElem?_getD, List.getElem?_eq_getElem hi]; rfl
theorem flatC_v (l : List Ent) (i : Nat) (hi : i < l.length) : (flat l).toArray[i * 2 + 1]? = some (.int .u32 (l.getD i ent0).v) := by
  rw [List.getElem?_toArray, flat_v, List.getD_eq_getElem?_getD, List.getElem?_eq_getElem hi]; rfl
theorem flatC_size (l : List Ent) : (flat l).toArray.size = l.length * 2 := by simp [flat_length]
theorem Has.ents {w : World} {g : Nat} {l : List Ent} {t : TypeId} (h : Has w g (flat l).toArray t) : EntsAt w (some ⟨g, 0, none⟩) l :=
  .inr ⟨g, 0, rfl, fun i hi => by rw [Nat.zero_add]; exact ⟨h.cell (flatC_a l i hi), h.cell (flatC_v l i hi)⟩⟩
theorem Has.setFlat {w : World} {g : Nat} {t : TypeId} {l : List Ent} (h : Has w g (flat l).toArray t) (i : Nat) (x : Ent) :
    Has (w.setCells g (i * 2) [.int .i64 x.a, .int .u32 x.v]) g (flat (l.set i x)).toArray t := by
  have := (h.set (i * 2) (.int .i64 x.a)).set (i * 2 + 1) (.int .u32 x.v)
  rw [List.setIfInBounds_toArray, List.setIfInBounds_toArray, ← flat_set] at this
  exact this

abbrev zeroE : Value := .agg #[.int .i64 0, .int .u32 0]
theorem infoE3 : (Try.prog.info? 26).map (fun i => (i.zero, i.size, i.bytes)) = some (some zeroE, 2, 16) := by kernel_rfl
theorem flat_rep : ∀ n : Nat, (madeCells zeroE.cells (n * 2)) = (flat (List.replicate n ent0)).toArray := by
  intro n
  apply Array.ext_getElem?
  intro i
  rcases Nat.lt_or_ge i (n * 2) with h | h
  · have e : i = i / 2 * 2 + i % 2 := by omega
    have hi : i / 2 < n := by omega
    rcases (by omega : i % 2 = 0 ∨ i % 2 = 1) with h2 | h2
    · have e2 : i = i / 2 * 2 := by omega
      rw [e2, flatC_a _ _ (by simpa using hi)]
      have e3 : (List.replicate n ent0).getD (i / 2) ent0 = ent0 := by simp [List.getD_eq_getElem?_getD, hi]
      rw [e3]
      have : i / 2 * 2 < n * 2 := by omega
      simp [madeCells, this, Value.cells, ent0]
    · have e2 : i = i / 2 * 2 + 1 := by omega
      rw [e2, flatC_v _ _ (by simpa using hi)]
      have e3 : (List.replicate n ent0).getD (i / 2) ent0 = ent0 := by simp [List.getD_eq_getElem?_getD, hi]
      rw [e3]
      have : i / 2 * 2 + 1 < n * 2 := by omega
      have m : (i / 2 * 2 + 1) % 2 = 1 := by omega
      simp [madeCells, this, Value.cells, ent0, m]
  · rw [Array.getElem?_eq_none (by simpa [size_madeCells] using h), Array.getElem?_eq_none (by simpa [flat_length] using h)]
theorem make_ents (n : Nat) (h : n ≤ 5000) (w : World) : (Instr.makeSlice 34 (.int .i64 n) (.int .i64 n)).run Try.prog w = .ok (.slice (some ⟨w.heap.size, 0, none⟩) n n) (w.alloc (.cells (flat (List.replicate n ent0)).toArray 26)) := by
  obtain ⟨i, h1, h2, h3, h4⟩ := info_parts infoE3
  have := run_make (P := Try.prog) w 34 26 i zeroE Try.underlying34 h1 h2 .i64 .i64 n n (by omega) (Int.le_refl _) (by rw [h4]; omega) (by omega)
  rw [h3] at this
  rw [← flat_rep]
  simpa using this
end Go.Proofs.Ytiogacfejchimaa
