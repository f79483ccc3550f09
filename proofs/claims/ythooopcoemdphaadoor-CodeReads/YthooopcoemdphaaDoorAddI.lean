/-
  For any instruction whose four fields are from 0 to 255, and any slice that the call's caller made: code.addInstr adds its eight bytes; code.Put answers them, and of any other instruction ErrArg. Conditions: the slice has at most 2^39 bytes; K is from 0 to 2^32 - 1.
-/
import Derived.Test.YthooopcoemdphaaDoorAddN
import Derived.Deep.RegionWith
namespace Go.Proofs.YthooopcoemdphaaDoor
open Go.ChangeShapes Go.WideShapes Go.ChangeAt Go.RowKit Go.Deep
set_option linter.unusedVariables false

/-- an instruction's bytes -/
def insB (op a b c k : Int) : List Int := [op, a, b, c] ++ leB k 4
theorem insB_len (op a b c k : Int) : (insB op a b c k).length = 8 := by simp [insB, leB_len]
theorem leB_one (n : Int) (h0 : 0 ≤ n) (h : n ≤ 255) : leB n 1 = [n] := by
  show [n % 256] = [n]
  rw [Int.emod_eq_of_lt h0 (by omega)]

/-- an instruction lies in a block of its own -/
def IBox (g : Nat) (op a b c k : Int) (w : World) : Prop := w.heap[g]? = some (.cells #[.int .i64 op, .int .i64 a, .int .i64 b, .int .i64 c, .int .u32 k] 47)
theorem IBox.later {g : Nat} {op a b c k : Int} {w w' : World} {B : Nat} (h : IBox g op a b c k w) (hk : Kept 5 B w w') : IBox g op a b c k w' := by
  have hlt : g < w.heap.size := by
    rcases Nat.lt_or_ge g w.heap.size with h' | h'
    · exact h'
    · unfold IBox at h; rw [Array.getElem?_eq_none h'] at h; cases h
  unfold IBox
  rw [hk.block g hlt (.inr (fun cur fr e => by unfold IBox at h; rw [h] at e; cases e))]
  exact h
theorem IBox.fresh (op a b c k : Int) (w : World) : IBox w.heap.size op a b c k (w.alloc (.cells #[.int .i64 op, .int .i64 a, .int .i64 b, .int .i64 c, .int .u32 k] 47)) := heap_alloc_new w _
theorem IBox.cells {g : Nat} {op a b c k : Int} {w : World} (h : IBox g op a b c k w) : w.cell? ⟨g, 0, none⟩ = some (.int .i64 op) ∧ w.cell? ⟨g, 1, none⟩ = some (.int .i64 a) ∧ w.cell? ⟨g, 2, none⟩ = some (.int .i64 b) ∧ w.cell? ⟨g, 3, none⟩ = some (.int .i64 c) ∧ w.cell? ⟨g, 4, none⟩ = some (.int .u32 k) := by
  unfold IBox at h
  simp [World.cell?, h]

theorem index4 (w : World) (j : Nat) (op a b c x : Int) (h : [op, a, b, c][j]? = some x) : (Instr.index 60 (.agg #[.int .i64 op, .int .i64 a, .int .i64 b, .int .i64 c]) (.int .i64 j)).run Tryd.prog w = .ok (.int .i64 x) w := by
  have hj : j < 4 := by
    rcases Nat.lt_or_ge j 4 with h' | h'
    · exact h'
    · rw [List.getElem?_eq_none (by simpa using h')] at h; cases h
  have hs : (sizeOf 3).run Tryd.prog w = .ok 1 w := by kernel_rfl
  have hg : (isAgg 3).run Tryd.prog w = .ok false w := by kernel_rfl
  have hat : (#[Value.int .i64 op, .int .i64 a, .int .i64 b, .int .i64 c])[j]? = some (.int .i64 x) := by
    have : ([op, a, b, c].map (Value.int .i64))[j]? = some (.int .i64 x) := by rw [List.getElem?_map, h]; rfl
    simpa using this
  have hp : (part 3 #[Value.int .i64 op, .int .i64 a, .int .i64 b, .int .i64 c] j).run Tryd.prog w = .ok (.int .i64 x) w := by
    simp only [part, Sem.run_bind, hg, Result.andThen_ok]
    simp [hat]
  have h2 : ¬ 4 ≤ j := by omega
  simp [Instr.index, asIntOf, run_underlying Tryd.underlying60, hs, hp, h2]

set_option maxHeartbeats 2000000 in
theorem addi_calls (v : Value) (xs : List Int) (op a b c k : Int) (B : Nat) (w : World) (o0 : 0 ≤ op) (o1 : op ≤ 255) (a0 : 0 ≤ a) (a1 : a ≤ 255) (b0 : 0 ≤ b) (b1 : b ≤ 255) (c0 : 0 ≤ c) (c1 : c ≤ 255) (k0 : 0 ≤ k) (k1 : k < 4294967296)
    (hl : xs.length ≤ 549755813888) (hB : B ≤ w.heap.size) (ho : Own w B v xs) :
    Calls Tryd.prog 21 #[v, insV op a b c k] w fun e w' => ∃ v', e = .returned v' ∧ Own w' B v' (xs ++ insB op a b c k) ∧ Kept 5 B w w' := by
  have hg0 := (Gr.refl w).alloc #[.int .i64 op, .int .i64 a, .int .i64 b, .int .i64 c, .int .u32 k] 47
  have HB := hide (IBox.fresh op a b c k w)
  have HO := hide (ho.lift hg0)
  clear ho
  have hsz : w.heap.size < (w.alloc (.cells #[.int .i64 op, .int .i64 a, .int .i64 b, .int .i64 c, .int .u32 k] 47)).heap.size := by simp
  go_enter Tryd.func21, Tryd.ntmps21
  go_wp2
  generalize w.alloc (.cells #[.int .i64 op, .int .i64 a, .int .i64 b, .int .i64 c, .int .u32 k] 47) = w1 at hg0 HB HO hsz ⊢
  go_loopw [0, 16] (fun s i wr => ∃ j : Nat, j ≤ 4 ∧ i = .int .i64 j ∧ Hid (Own wr B s (xs ++ [op, a, b, c].take j)) ∧ Hid (Kept 5 B w1 wr)) (fun _ i _ => 4 - (intOf i).toNat)
  case atStart => exact ⟨0, by omega, rfl, (by simpa using HO.out : Own w1 B v _), Kept.refl _ _ _⟩
  case round =>
    obtain ⟨j, hj, rfl, hown, hkp⟩ := hrel
    have hz := hkp.out.size
    by_cases hlt : j < 4
    · obtain ⟨x, hx, h0, h1⟩ : ∃ x, [op, a, b, c][j]? = some x ∧ 0 ≤ x ∧ x ≤ 255 := by
        match j, hlt with
        | 0, _ => exact ⟨op, rfl, o0, o1⟩
        | 1, _ => exact ⟨a, rfl, a0, a1⟩
        | 2, _ => exact ⟨b, rfl, b0, b1⟩
        | 3, _ => exact ⟨c, rfl, c0, c1⟩
      have hat := index4 wr j op a b c x hx
      have HX : Hid (xs ++ [op, a, b, c].take j ++ leB x 1 = xs ++ [op, a, b, c].take (j + 1)) := by
        show _ = _
        rw [leB_one x h0 h1, List.append_assoc]
        congr 1
        rw [List.take_add_one, hx]
        rfl
      have hlt' : (j : Int) < 4 := by omega
      have hl1 : (xs ++ [op, a, b, c].take j).length ≤ 1099511627776 := by simp; omega
      clear hx
      go_wp2_with (go_at_call 20; refine (addn_calls _ _ _ 1 B _ h0 (by omega) (by omega) hl1 (by omega) hown.out).mono ?_; rintro e w2 ⟨v', rfl, ho2, hk2⟩)
      exact ⟨⟨j + 1, by omega, by go_num, HX.out ▸ ho2, hkp.out.trans hk2⟩, by simp [intOf]; omega⟩
    · obtain rfl : j = 4 := by omega
      obtain ⟨q0, q1, q2, q3, q4⟩ := (HB.out.later hkp.out).cells
      have hl1 : (xs ++ [op, a, b, c].take 4).length ≤ 1099511627776 := by simp; omega
      go_wp2_with (go_at_call 20; refine (addn_calls _ _ _ 4 B _ k0 k1 (by omega) hl1 (by omega) hown.out).mono ?_; rintro e w2 ⟨v', rfl, ho2, hk2⟩)
      go_ret
      refine ⟨_, rfl, ?_, (Kept.of_gr hg0).trans (hkp.out.trans hk2)⟩
      have e : xs ++ [op, a, b, c].take 4 ++ leB k 4 = xs ++ insB op a b c k := by simp [insB]
      exact e ▸ ho2
end Go.Proofs.YthooopcoemdphaaDoor
