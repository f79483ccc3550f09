/-
  'append(b, c...)' of bytes onto a slice that the call made: what it leaves. A law on worlds; conditions: together at most 2^40 bytes.
-/
import Derived.Test.YthooopcoemdphaaDoorAwake
import Derived.Laws.AppendOwnNone
namespace Go.Proofs.YthooopcoemdphaaDoor
open Go.ChangeShapes Go.WideShapes Go.ChangeAt Go.RowKit
set_option linter.unusedVariables false

theorem wpList_app {w : World} {ops : Array Oper} {rest : List Oper} {o : Oper} {a : Act} {Q : Exit → Act → World → Prop} (hgd : o.guard = none) (s x : Operand)
    (ho : o.op = .call { callee := .builtin .append, args := #[s, x], argTypes := #[22, 22] }) (B : Nat) (v : Value) (xs : List Int) (hs : a.eval s = v) (hown : Own w B v xs)
    (ao : Option Addr) (L : List Int) (n c : Nat) (hx : a.eval x = .slice ao n c) (hn : L.length = n) (hnil : ao = none → c = 0 ∧ L = []) (hB : BytesAt w ao L) (hl : xs.length + L.length ≤ 1099511627776) (hbase : B ≤ w.heap.size)
    (h : ∀ v' w', Own w' B v' (xs ++ L) → Kept 5 B w w' → wpList Tryd.prog ops Q rest (a.put o.dst v') w') : wpList Tryd.prog ops Q (o :: rest) a w := by
  obtain ⟨i0, hi, hz0, hz1, hz2⟩ := info_parts info5
  subst hn
  cases ao with
  | none =>
    obtain ⟨rfl, rfl⟩ := hnil rfl
    refine wpList_append_own_none hgd s x 22 ho B 5 i0 1 Tryd.underlying22 hi v xs.length _ hs hown hx ?_
    exact h v w (by simpa using hown) (Kept.refl _ _ _)
  | some ad =>
    refine wpList_append_own w hgd s x 22 ho B 5 i0 (.int .u8 0) 1 1 Tryd.underlying22 hi hz0 hz1 hz2 rfl (by decide) v xs.length _ hs hown ad L.length c (L.map (Value.int .u8)) hx (by simp) ?_ (bytes_one L) (by unfold maxLen; omega) (by omega) hbase ?_
    · intro j u hj
      rw [List.getElem?_map] at hj
      rcases hB with rfl | ⟨b, off, ha, hc⟩
      · simp at hj
      · obtain rfl := Option.some.inj ha
        cases hx' : L[j]? with
        | none => rw [hx'] at hj; simp at hj
        | some y =>
          rw [hx'] at hj
          simp at hj
          subst hj
          rw [Addr.add_mid]
          exact hc j y hx'
    · intro v' w' ho' hg _
      refine h v' w' ?_ (Kept.grown hown hg)
      unfold Own
      rw [List.length_append, List.map_append]
      exact ho'
theorem bytes_lit (w : World) (L : List Int) : BytesAt (w.alloc (.cells (L.map (Value.int .u8)).toArray 5)) (some ⟨w.heap.size, 0, none⟩) L := by
  refine .inr ⟨w.heap.size, 0, rfl, fun j x hx => ?_⟩
  have hn : (w.alloc (.cells (L.map (Value.int .u8)).toArray 5)).heap[w.heap.size]? = some (.cells (L.map (Value.int .u8)).toArray 5) := heap_alloc_new w _
  exact (row_cell hn (0 + j)).trans (by simp [hx])
end Go.Proofs.YthooopcoemdphaaDoor
