/-
  For any bytes: code.Get answers ErrShort of fewer than eight, else the instruction of the first eight. No condition.
-/
import Derived.Test.YthooopcoemdphaaMade
namespace Go.Proofs.Ythooopcoemdphaa
open Go.ChangeShapes Go.WideShapes Go.ChangeAt Go.RowKit
set_option linter.unusedVariables false

def GetP (L : List Int) (w : World) (e : Ending) (w' : World) : Prop :=
  Gr w w' ∧ (L.length < 8 ∧ e = .returned (.tuple #[insV 0 0 0 0 0, .int .i64 2]) ∨ 8 ≤ L.length ∧ e = .returned (.tuple #[insV (L.getD 0 0) (L.getD 1 0) (L.getD 2 0) (L.getD 3 0) (leAt L 4 4), .int .i64 0]))

set_option maxHeartbeats 2000000 in
theorem get_calls (a : Option Addr) (L : List Int) (cap : Nat) (w : World) (hb : isBytes L) (h : BytesAt w a L) (hl : L.length ≤ cap) (hm : cap ≤ maxLen) :
    Calls Try.prog 8 #[.slice a L.length cap] w (GetP L w) := by
  have hg0 := (Gr.refl w).alloc ins0V 24
  have R0 := hide (rd_made (w.alloc (.cells ins0V 24)) a L cap (h.later hg0) hl hm)
  have hg1 := hg0.alloc #[.slice a L.length cap, .bool false] 38
  have B0 : Hid (((w.alloc (.cells ins0V 24)).alloc (.cells #[.slice a L.length cap, .bool false] 38)).heap[w.heap.size]? = some (.cells ins0V 24)) := (heap_alloc_old (w.alloc (.cells ins0V 24)) _ (by simp)).trans (heap_alloc_new w _)
  have hsz : (w.alloc (.cells ins0V 24)).heap.size = w.heap.size + 1 := by simp
  rw [hsz] at R0
  clear h hl hm hg0 hsz
  go_enter Try.func8, Try.ntmps8
  go_wp2_with (fail)
  generalize (w.alloc (.cells ins0V 24)).alloc (.cells #[.slice a L.length cap, .bool false] 38) = w1 at R0 B0 hg1 ⊢
  refine (instr_calls _ L false w1 R0.out hb).mono ?_
  rintro e w2 ⟨op, x, y, z, k, L', s', rfl, R2, W2, hb2, hle2, hk, hfin⟩
  have G2 := hide (Wr.gr hg1 (Nat.le_succ _) W2)
  have row := W2.row (by omega) B0.out
  obtain ⟨a2, cap2, c0, c1, z0, z1, _⟩ := R2
  have r1 : w.heap.size + 1 < w2.heap.size := World.block_lt_of_cell? w2 _ c1
  have row := (heap_alloc_old w2 (.cells #[.int .i64 op, .int .i64 x, .int .i64 y, .int .i64 z, .int .u32 k] 24) (by omega : w.heap.size < w2.heap.size)).trans row
  have c1' := cell_later ((Gr.refl w2).alloc #[.int .i64 op, .int .i64 x, .int .i64 y, .int .i64 z, .int .u32 k] 24) c1
  have q0 := row_cell row 0
  have q1 := row_cell row 1
  have q2 := row_cell row 2
  have q3 := row_cell row 3
  have q4 := row_cell row 4
  have f0 := row_frozen row 0
  have f1 := row_frozen row 1
  have f2 := row_frozen row 2
  have f3 := row_frozen row 3
  have f4 := row_frozen row 4
  have HF := hide hfin
  clear W2 row hfin c0 z0 z1
  cases s'
  · go_wp2_with (fail)
    refine bodyPost_ret (v := .tuple #[insV op x y z k, .int .i64 0]) (by simp [results, Try.results8, go_sem, q0, q1, q2, q3, q4]) rfl ?_
    have hN : w.heap.size ≤ w.heap.size := Nat.le_refl _
    rcases HF.out with ⟨h, _⟩ | ⟨_, _, h8, _, e0, e1, e2, e3, e4⟩
    · cases h
    · exact ⟨((((((G2.out.alloc _ _).setCell hN _).setCell hN _).setCell hN _).setCell hN _).setCell hN _), .inr ⟨h8, by rw [← e0, ← e1, ← e2, ← e3, ← e4]⟩⟩
  · go_wp2_with (fail)
    refine bodyPost_ret (v := .tuple #[insV 0 0 0 0 0, .int .i64 2]) (by simp [results, Try.results8, go_sem, q0, q1, q2, q3, q4]) rfl ?_
    have hN : w.heap.size ≤ w.heap.size := Nat.le_refl _
    rcases HF.out with ⟨_, h⟩ | ⟨h, _⟩
    · exact ⟨((((((G2.out.alloc _ _).setCell hN _).setCell hN _).setCell hN _).setCell hN _).setCell hN _), .inl ⟨by simpa using h, rfl⟩⟩
    · cases h
end Go.Proofs.Ythooopcoemdphaa
