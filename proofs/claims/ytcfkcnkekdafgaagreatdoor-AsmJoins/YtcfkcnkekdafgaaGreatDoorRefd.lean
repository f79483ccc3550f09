/-
  For any line, in any world: what the reference's Read answers. Conditions: lines of at most 2^31 bytes.
-/
import Derived.Test.YtcfkcnkekdafgaaGreatDoorRefr
import Derived.Laws.Rows
namespace Go.Proofs.YtcfkcnkekdafgaaGreatDoor
open Go.ChangeShapes Go.WideShapes Go.ChangeAt Go.RowKit
set_option linter.unusedVariables false

def RReadP (t : Bs) (w : World) (e : Ending) (w' : World) : Prop := Gr w w' ∧ match readL t with
  | some p => e = .returned (.tuple #[.agg p.1.vals.toArray, strV p.2, .int .i64 1])
  | none => ∃ (x : Ins) (y : Value), e = .returned (.tuple #[.agg x.vals.toArray, y, .int .i64 0])
/-- strings lie at the head of a row -/
def WRow (w : World) (b : Nat) (ls : List Bs) : Prop := ∃ cur, w.heap[b]? = some (.cells cur 9) ∧ cur.toList.take ls.length = strsV ls
theorem WRow.cell {w : World} {b : Nat} {ls : List Bs} (h : WRow w b ls) {j : Nat} {s : Bs} (hj : ls[j]? = some s) : w.cell? ⟨b, j, none⟩ = some (strV s) := by
  obtain ⟨cur, hc, ht⟩ := h
  rw [row_cell hc j]
  have hlt := (List.getElem?_eq_some_iff.mp hj).1
  have h1 : (cur.toList.take ls.length)[j]? = some (strV s) := by rw [ht]; simp [strsV, hj]
  rw [List.getElem?_take, if_pos hlt] at h1
  simpa using h1
theorem WRow.later {w w' : World} {b : Nat} {ls : List Bs} (h : WRow w b ls) (g : Gr w w') : WRow w' b ls := by
  obtain ⟨cur, hc, ht⟩ := h
  exact ⟨cur, (g.block b (heap_lt hc)).trans hc, ht⟩
theorem WRow.wr {w w' : World} {b r : Nat} {ls : List Bs} (h : WRow w b ls) (g : Wr r w w') (hne : b ≠ r) : WRow w' b ls := by
  obtain ⟨cur, hc, ht⟩ := h
  exact ⟨cur, (g.block b (heap_lt hc) (by simp; exact fun e => hne e)).trans hc, ht⟩
theorem own_rows {w : World} {B : Nat} {v : Value} {ls : List Bs} (h : w.ownsRow B 9 1 v ls.length (strsV ls)) (hne : ls ≠ []) : ∃ b c, v = .slice (some ⟨b, 0, none⟩) ls.length c ∧ B ≤ b ∧ WRow w b ls := by
  rcases h.2 with ⟨_, hn⟩ | ⟨q, cap, cur, hv, hb, hq, _, _, _, ht⟩
  · exact absurd (List.length_eq_zero_iff.mp hn) hne
  · exact ⟨q, cap, hv, hb, cur, hq, by rw [Nat.mul_one] at ht; exact ht⟩

theorem five {w : World} {g : Nat} {i : Ins} (h : w.heap[g]? = some (.cells i.vals.toArray 36)) : w.cell? ⟨g, 0, none⟩ = some (.int .i64 i.op) ∧ w.cell? ⟨g, 1, none⟩ = some (.int .i64 i.a) ∧ w.cell? ⟨g, 2, none⟩ = some (.int .i64 i.b) ∧ w.cell? ⟨g, 3, none⟩ = some (.int .i64 i.c) ∧ w.cell? ⟨g, 4, none⟩ = some (.int .u32 i.k) := by
  simp [World.cell?, h]
theorem five_set {w : World} {g : Nat} {i : Ins} (j : Ins) (h : w.heap[g]? = some (.cells i.vals.toArray 36)) :
    (((((w.setCell ⟨g, 0, none⟩ (.int .i64 j.op)).setCell ⟨g, 1, none⟩ (.int .i64 j.a)).setCell ⟨g, 2, none⟩ (.int .i64 j.b)).setCell ⟨g, 3, none⟩ (.int .i64 j.c)).setCell ⟨g, 4, none⟩ (.int .u32 j.k)).heap[g]? = some (.cells j.vals.toArray 36) :=
  row_set (row_set (row_set (row_set (row_set h 0 _) 1 _) 2 _) 3 _) 4 _
theorem five_gr {w w2 : World} {g : Nat} (h : Gr w w2) (hg : w.heap.size ≤ g) (a b c d e : Value) : Gr w (((((w2.setCell ⟨g, 0, none⟩ a).setCell ⟨g, 1, none⟩ b).setCell ⟨g, 2, none⟩ c).setCell ⟨g, 3, none⟩ d).setCell ⟨g, 4, none⟩ e) :=
  ((((h.setCell hg _).setCell hg _).setCell hg _).setCell hg _).setCell hg _
theorem results_read {fn : Func} {p q r : Tmp} (h : fn.results = #[.cell p 36, .tmp q, .tmp r]) (tmps : Array Value) (w : World) (g : Nat) (i : Ins)
    (hp : tmps.getD p undef = .pointer (some ⟨g, 0, none⟩)) (hg : w.heap[g]? = some (.cells i.vals.toArray 36)) :
    (results fn tmps).run Tryz.prog w = .ok (.tuple #[.agg i.vals.toArray, tmps.getD q undef, tmps.getD r undef]) w := by
  have hp' : tmps[p]?.getD undef = .pointer (some ⟨g, 0, none⟩) := by simpa using hp
  simp [results, h, hp', asAddr, run_loadVar_row w g 36 36 i.vals.toArray (0, 0) _ hg Tryz.underlying36 rfl (by kernel_rfl)]
set_option maxRecDepth 20000 in
set_option maxHeartbeats 2000000 in
theorem rread_no (t : ByteArray) (w : World) (hs : t.size ≤ 2147483648) (hop : opNo ⟨((parts 32 t.data.toList).headD []).toArray⟩ < 0) :
    Calls Tryz.prog 30 #[.string t] w (RReadP t.data.toList w) := by
  have HR : Hid (readL t.data.toList = none) := by
    refine hide ?_
    rw [readL_ref, if_pos hop]
  have HQ := hide (rsplit_calls t 32 (w.alloc (.cells ins0.vals.toArray 36)) hs)
  have HL := hide (parts_len 32 t.data.toList)
  have hsz := size_list t
  cases hp : parts 32 t.data.toList with
  | nil => exact absurd hp (parts_ne _ _)
  | cons x xs =>
  rw [hp] at hop HQ HL
  have hop : opNo ⟨x.toArray⟩ < 0 := hop
  clear hp
  have hgA := hide ((Gr.refl w).alloc ins0.vals.toArray 36)
  have A0 : Hid ((w.alloc (.cells ins0.vals.toArray 36)).heap[w.heap.size]? = some (.cells ins0.vals.toArray 36)) := heap_alloc_new w _
  go_enter Tryz.func30, Tryz.ntmps30
  go_wp2_with (fail)
  refine HQ.out.mono ?_
  rintro e w1 ⟨v, rfl, hown, hg1⟩
  obtain ⟨b, c, rfl, hb, hrows⟩ := own_rows hown (by simp)
  have hc0 := hrows.cell (j := 0) (s := x) rfl
  have A1 : Hid (w1.heap[w.heap.size]? = some (.cells ins0.vals.toArray 36)) := (hg1.block _ (heap_lt A0.out)).trans A0.out
  have G1 := hide (hgA.out.trans hg1)
  have hlen : 0 < (x :: xs).length := by simp
  generalize (x :: xs).length = n at HL hlen
  clear hown hrows hg1 A0 hgA HQ
  go_wp2_with (fail)
  refine (rop_calls _ _).mono ?_
  rintro e w2 ⟨rfl, hg2⟩
  have G2 := hide (G1.out.trans hg2)
  have A2 : Hid (w2.heap[w.heap.size]? = some (.cells ins0.vals.toArray 36)) := (hg2.block _ (heap_lt A1.out)).trans A1.out
  generalize opNo ⟨x.toArray⟩ = op at hop
  clear hg2 G1 A1 hc0
  obtain ⟨q0, q1, q2, q3, q4⟩ := five A2.out
  have z0 := row_frozen A2.out 0
  have z1 := row_frozen A2.out 1
  have z2 := row_frozen A2.out 2
  have z3 := row_frozen A2.out 3
  have z4 := row_frozen A2.out 4
  have hlt := heap_lt A2.out
  have HA := A2
  clear A2
  go_wp2_with (fail)
  try simp only [Exit.inBlock, Exit.then]
  have F : ((((((w2.setCell ⟨w.heap.size, 0, none⟩ (.int .i64 op)).setCell ⟨w.heap.size, 1, none⟩ (.int .i64 0)).setCell ⟨w.heap.size, 2, none⟩ (.int .i64 0)).setCell ⟨w.heap.size, 3, none⟩ (.int .i64 0)).setCell ⟨w.heap.size, 4, none⟩ (.int .u32 0)).alloc (.cells #[.int .i64 op, .int .i64 0, .int .i64 0, .int .i64 0, .int .u32 0] 36)).heap[w.heap.size]? = some (.cells (Ins.mk op 0 0 0 0).vals.toArray 36) := by
    have h := five_set ⟨op, 0, 0, 0, 0⟩ HA.out
    rw [heap_alloc_old _ _ (heap_lt h)]
    exact h
  refine bodyPost_ret (results_read rfl _ _ w.heap.size ⟨op, 0, 0, 0, 0⟩ rfl F) rfl ?_
  refine ⟨(five_gr G2.out (Nat.le_refl _) _ _ _ _ _).alloc _ _, ?_⟩
  rw [HR.out]
  exact ⟨_, _, rfl⟩
end Go.Proofs.YtcfkcnkekdafgaaGreatDoor
