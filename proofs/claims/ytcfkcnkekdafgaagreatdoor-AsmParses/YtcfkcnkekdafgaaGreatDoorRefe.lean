/-
  For any line, in any world: what the reference's Read answers, where its first word is a kind's name but the number of its words is wrong. Conditions: lines of at most 2^31 bytes.
-/
import Derived.Test.YtcfkcnkekdafgaaGreatDoorRefd
namespace Go.Proofs.YtcfkcnkekdafgaaGreatDoor
open Go.ChangeShapes Go.WideShapes Go.ChangeAt Go.RowKit
set_option linter.unusedVariables false

theorem memNo_le (s : ByteArray) : 0 ≤ memNo s ∧ memNo s ≤ 1 := by
  unfold memNo
  split <;> omega
set_option maxRecDepth 20000 in
set_option maxHeartbeats 2000000 in
theorem rread_len (t : ByteArray) (w : World) (hs : t.size ≤ 2147483648) (x : Bs) (xs : List Bs) (HP : Hid (parts 32 t.data.toList = x :: xs)) (op : Int) (hop : ¬ op < 0) (HO : Hid (opNo ⟨x.toArray⟩ = op)) (m : Int) (HM : Hid (memNo (fB op) = m))
    (hl : ¬ ((x :: xs).length : Int) = (fB op).size + 1 - m) :
    Calls Tryz.prog 30 #[.string t] w (RReadP t.data.toList w) := by
  have HR : Hid (readL t.data.toList = none) := by
    refine hide ?_
    rw [readL_ref, HP.out]
    show (if opNo ⟨x.toArray⟩ < 0 then none else if ((x :: xs).length : Int) = (fB (opNo ⟨x.toArray⟩)).size + 1 - memNo (fB (opNo ⟨x.toArray⟩)) then _ else none) = none
    rw [HO.out, if_neg hop, HM.out, if_neg hl]
  have HQ := hide (rsplit_calls t 32 (w.alloc (.cells ins0.vals.toArray 36)) hs)
  have HL := hide (parts_len 32 t.data.toList)
  have hsz := size_list t
  rw [HP.out] at HQ HL
  have hgA := hide ((Gr.refl w).alloc ins0.vals.toArray 36)
  have A0 : Hid ((w.alloc (.cells ins0.vals.toArray 36)).heap[w.heap.size]? = some (.cells ins0.vals.toArray 36)) := heap_alloc_new w _
  have hm := memNo_le (fB op)
  rw [HM.out] at hm
  have hfs := fB_small op
  have hfz := hide (show (fB op).size ≤ 2147483648 by omega)
  go_enter Tryz.func30, Tryz.ntmps30
  go_wp2_with (fail)
  refine HQ.out.mono ?_
  rintro e w1 ⟨v, rfl, hown, hg1⟩
  obtain ⟨b, c, rfl, hb, hrows⟩ := own_rows hown (by simp)
  have hc0 := hrows.cell (j := 0) (s := x) rfl
  have A1 : Hid (w1.heap[w.heap.size]? = some (.cells ins0.vals.toArray 36)) := (hg1.block _ (heap_lt A0.out)).trans A0.out
  have G1 := hide (hgA.out.trans hg1)
  have hlen : 0 < (x :: xs).length := by simp
  generalize (x :: xs).length = n at HL hlen hl
  have hq : ((n : Int) != (fB op).size + 1 - m) = true := by simpa using hl
  clear hown hrows hg1 A0 hgA HQ hl
  go_wp2_with (fail)
  refine (rop_calls _ _).mono ?_
  rw [HO.out]
  rintro e w2 ⟨rfl, hg2⟩
  have G2 := hide (G1.out.trans hg2)
  have A2 : Hid (w2.heap[w.heap.size]? = some (.cells ins0.vals.toArray 36)) := (hg2.block _ (heap_lt A1.out)).trans A1.out
  clear hg2 G1 A1 hc0
  go_wp2_with (fail)
  refine (refname_calls _ _).mono ?_
  rintro e w3 ⟨rfl, hg3⟩
  have G3 := hide ((G2.out.alloc #[.int .i64 op, .int .i64 0, .int .i64 0, .int .i64 0, .int .u32 0] 36).trans hg3)
  have A3 : Hid (w3.heap[w.heap.size]? = some (.cells ins0.vals.toArray 36)) := (((Gr.refl w2).alloc _ _).trans hg3).block _ (heap_lt A2.out) |>.trans A2.out
  have C3 : Hid (w3.heap[w2.heap.size]? = some (.cells (Ins.mk op 0 0 0 0).vals.toArray 36)) := (hg3.block _ (heap_lt (heap_alloc_new w2 _))).trans (heap_alloc_new w2 _)
  obtain ⟨q0, q1, q2, q3, q4⟩ := five A3.out
  obtain ⟨p0, p1, p2, p3, p4⟩ := five C3.out
  have z0 := row_frozen A3.out 0
  have z1 := row_frozen A3.out 1
  have z2 := row_frozen A3.out 2
  have z3 := row_frozen A3.out 3
  have z4 := row_frozen A3.out 4
  have hlt := heap_lt A2.out
  clear A2 hg3 G2
  go_wp2_with (go_at_call 49; refine (rmem_calls _ _ hfz.out).mono ?_; rw [HM.out]; rintro e w4 ⟨rfl, rfl⟩)
  try simp only [Exit.inBlock, Exit.then]
  refine bodyPost_ret (results_read rfl _ _ w.heap.size ⟨op, 0, 0, 0, 0⟩ rfl (five_set ⟨op, 0, 0, 0, 0⟩ A3.out)) rfl ?_
  refine ⟨five_gr G3.out (Nat.le_refl _) _ _ _ _ _, ?_⟩
  rw [HR.out]
  exact ⟨_, _, rfl⟩
end Go.Proofs.YtcfkcnkekdafgaaGreatDoor
