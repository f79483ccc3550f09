/-
  For any line, in any world: what the reference's Read answers. Conditions: lines of at most 2^31 bytes.
-/
import Derived.Test.YtcfkcnkekdafgaaDoorRefr
import Derived.Laws.Rows
namespace Go.Proofs.YtcfkcnkekdafgaaDoor
open Go.ChangeShapes Go.WideShapes Go.ChangeAt Go.RowKit
set_option linter.unusedVariables false

def RReadP (t : Bs) (w : World) (e : Ending) (w' : World) : Prop := Gr w w' ∧ match readL t with
  | some p => e = .returned (.tuple #[.agg p.1.vals.toArray, strV p.2, .int .i64 1])
  | none => ∃ (x : Ins) (y : Value), e = .returned (.tuple #[.agg x.vals.toArray, y, .int .i64 0])
/-- strings lie at the head of a row -/
def WRow (w : World) (b : Nat) (ls : List Bs) : Prop := ∃ cur, w.heap[b]? = some (.cells cur 9) ∧ cur.toList.take ls.length = strsV ls
theorem WRow.cell {w : World} {b : Nat} {ls : List Bs} (h : WRow w b ls) {j : Nat} {s : Bs} (hj : ls[j]? = some s) : w.cell? ⟨b, j, none⟩ = some (strV s) := by
  obtain ⟨cur, hc, ht⟩ := h
  rw [row_cell hc j]
  have hlt := (List.getElem?_eq_some_iff.mp hj).1
  have h1 : (cur.toList.take ls.length)[j]? = some (strV s) := by rw [ht]; simp [strsV, hj]
  rw [List.getElem?_take, if_pos hlt] at h1
  simpa using h1
theorem WRow.later {w w' : World} {b : Nat} {ls : List Bs} (h : WRow w b ls) (g : Gr w w') : WRow w' b ls := by
  obtain ⟨cur, hc, ht⟩ := h
  exact ⟨cur, (g.block b (heap_lt hc)).trans hc, ht⟩
theorem WRow.wr {w w' : World} {b r : Nat} {ls : List Bs} (h : WRow w b ls) (g : Wr r w w') (hne : b ≠ r) : WRow w' b ls := by
  obtain ⟨cur, hc, ht⟩ := h
  exact ⟨cur, (g.block b (heap_lt hc) (by simp; exact fun e => hne e)).trans hc, ht⟩
theorem own_rows {w : World} {B : Nat} {v : Value} {ls : List Bs} (h : w.ownsRow B 9 1 v ls.length (strsV ls)) (hne : ls ≠ []) : ∃ b c, v = .slice (some ⟨b, 0, none⟩) ls.length c ∧ B ≤ b ∧ WRow w b ls := by
  rcases h.2 with ⟨_, hn⟩ | ⟨q, cap, cur, hv, hb, hq, _, _, _, ht⟩
  · exact absurd (List.length_eq_zero_iff.mp hn) hne
  · exact ⟨q, cap, hv, hb, cur, hq, by rw [Nat.mul_one] at ht; exact ht⟩

theorem five {w : World} {g : Nat} {i : Ins} (h : w.heap[g]? = some (.cells i.vals.toArray 28)) : w.cell? ⟨g, 0, none⟩ = some (.int .i64 i.op) ∧ w.cell? ⟨g, 1, none⟩ = some (.int .i64 i.a) ∧ w.cell? ⟨g, 2, none⟩ = some (.int .i64 i.b) ∧ w.cell? ⟨g, 3, none⟩ = some (.int .i64 i.c) ∧ w.cell? ⟨g, 4, none⟩ = some (.int .u32 i.k) := by
  simp [World.cell?, h]
theorem five_set {w : World} {g : Nat} {i : Ins} (j : Ins) (h : w.heap[g]? = some (.cells i.vals.toArray 28)) :
    (((((w.setCell ⟨g, 0, none⟩ (.int .i64 j.op)).setCell ⟨g, 1, none⟩ (.int .i64 j.a)).setCell ⟨g, 2, none⟩ (.int .i64 j.b)).setCell ⟨g, 3, none⟩ (.int .i64 j.c)).setCell ⟨g, 4, none⟩ (.int .u32 j.k)).heap[g]? = some (.cells j.vals.toArray 28) :=
  row_set (row_set (row_set (row_set (row_set h 0 _) 1 _) 2 _) 3 _) 4 _
theorem five_gr {w w2 : World} {g : Nat} (h : Gr w w2) (hg : w.heap.size ≤ g) (a b c d e : Value) : Gr w (((((w2.setCell ⟨g, 0, none⟩ a).setCell ⟨g, 1, none⟩ b).setCell ⟨g, 2, none⟩ c).setCell ⟨g, 3, none⟩ d).setCell ⟨g, 4, none⟩ e) :=
  ((((h.setCell hg _).setCell hg _).setCell hg _).setCell hg _).setCell hg _
theorem results_read {fn : Func} {p q r : Tmp} (h : fn.results = #[.cell p 28, .tmp q, .tmp r]) (tmps : Array Value) (w : World) (g : Nat) (i : Ins)
    (hp : tmps.getD p undef = .pointer (some ⟨g, 0, none⟩)) (hg : w.heap[g]? = some (.cells i.vals.toArray 28)) :
    (results fn tmps).run Tryd.prog w = .ok (.tuple #[.agg i.vals.toArray, tmps.getD q undef, tmps.getD r undef]) w := by
  have hp' : tmps[p]?.getD undef = .pointer (some ⟨g, 0, none⟩) := by simpa using hp
  simp [results, h, hp', asAddr, run_loadVar_row w g 28 28 i.vals.toArray (0, 0) _ hg Tryd.underlying28 rfl (by kernel_rfl)]
end Go.Proofs.YtcfkcnkekdafgaaDoor
