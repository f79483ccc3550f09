/-
  For any number of 32 bits and any slice of bytes that has no room left: code.addNumber adds the number's lowest byte. Conditions: the slice has at most 2^40 bytes, and one at least.
-/
import Derived.Test.YthooopcoemdphaaDoorKeep
import Derived.Lib.SlBytesConst
namespace Go.Proofs.YthooopcoemdphaaDoor
open Go.ChangeShapes Go.WideShapes Go.ChangeAt Go.RowKit Go.Deep
set_option linter.unusedVariables false

set_option maxHeartbeats 1000000 in
theorem addn_full (b off : Nat) (xs : List Int) (n : Int) (w : World) (h0 : 0 ≤ n) (hn : n < 4294967296) (hB : ∀ j x, xs[j]? = some x → w.cell? ⟨b, off + j, none⟩ = some (.int .u8 x)) (hl : xs.length ≤ 1099511627776) :
    Calls Tryd.prog 20 #[.slice (some ⟨b, off, none⟩) xs.length xs.length, .int .u32 n, .int .i64 1] w fun e w' => ∃ v', e = .returned v' ∧ Own w' w.heap.size v' (xs ++ [n % 256]) ∧ Gr w w' := by
  obtain ⟨i0, hi, hz0, hz1, hz2⟩ := info_parts info5
  have HB := hide hB
  clear hB
  go_enter Tryd.func20, Tryd.ntmps20
  go_wp2
  go_loopw [0, 1, 8] (fun s m i wr => (i = .int .i64 0 ∧ m = .int .u32 n ∧ s = .slice (some ⟨b, off, none⟩) xs.length xs.length ∧ wr = w) ∨ (i = .int .i64 1 ∧ (∃ q, m = .int .u32 q) ∧ Hid (Own wr w.heap.size s (xs ++ [n % 256])) ∧ Hid (Gr w wr))) (fun _ _ i _ => 1 - (intOf i).toNat)
  case atStart => exact .inl ⟨rfl, rfl, rfl, rfl⟩
  case round =>
    rcases hrel with ⟨rfl, rfl, rfl, rfl⟩ | ⟨rfl, ⟨q, rfl⟩, hO, hG⟩
    · have C1 : Hid (∀ c, some (⟨b, off, none⟩ : Addr) = some c → ∀ j u, (xs.map (Value.int .u8))[j]? = some u → (wr.alloc (.cells #[.int .u8 (n % 256)] 5)).cell? (c.add j) = some u) := by
        intro c hc j u hu
        obtain rfl := Option.some.inj hc
        rw [List.getElem?_map] at hu
        cases hx : xs[j]? with
        | none => rw [hx] at hu; simp at hu
        | some y =>
          rw [hx] at hu
          simp at hu
          subst hu
          rw [Addr.add_mid]
          exact cell_later ((Gr.refl wr).alloc _ _) (HB.out j y hx)
      have C2 : Hid (∀ (j : Nat) (u : Value), [Value.int .u8 (n % 256)][j]? = some u → (wr.alloc (.cells #[.int .u8 (n % 256)] 5)).cell? ((⟨wr.heap.size, 0, none⟩ : Addr).add j) = some u) := by
        intro j u hj
        have hrow : (wr.alloc (.cells #[.int .u8 (n % 256)] 5)).heap[wr.heap.size]? = some (.cells #[.int .u8 (n % 256)] 5) := heap_alloc_new wr _
        rw [Addr.add_mid, row_cell hrow]
        simpa using hj
      go_wp2_with (at_builtin; refine wpList_append_grows _ rfl _ _ 22 rfl 5 i0 (.int .u8 0) 1 1 Tryd.underlying22 hi hz0 hz1 hz2 rfl (by decide) (some ⟨b, off, none⟩) xs.length xs.length (xs.map (Value.int .u8)) rfl (fun h => by cases h) (by simp) C1.out ⟨wr.heap.size, 0, none⟩ 1 1 [.int .u8 (n % 256)] rfl rfl C2.out (bytes_one [n % 256]) (by omega) (by unfold maxLen; omega) (by omega) ?_)
      intro v' w1 hown' hgrow
      have O1 : Hid (Own w1 wr.heap.size v' (xs ++ [n % 256])) := by
        have := own_mono hown' (show wr.heap.size ≤ _ by simp)
        show w1.ownsRow _ _ _ _ _ _
        simpa using this
      have G1 : Hid (Gr wr w1) := (Below.alloc (Below.refl _ wr) (Nat.le_refl _) _).grown hgrow (by simp) (fun k hk => by cases hk)
      clear hown' hgrow C1 C2
      go_wp2
      go_roundw
      case rel => exact .inr ⟨by go_num, ⟨_, rfl⟩, O1, G1⟩
      case measure => simp [intOf]
    · go_wp2
      go_ret
      exact ⟨_, rfl, hO.out, hG.out⟩
end Go.Proofs.YthooopcoemdphaaDoor
