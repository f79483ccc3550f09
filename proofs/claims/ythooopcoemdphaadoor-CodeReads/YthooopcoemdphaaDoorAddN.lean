/-
  For any number of 32 bits and any slice that the call's caller made: code.addNumber adds the number's lowest bytes, so many (at most four). Conditions: the slice has at most 2^40 bytes.
-/
import Derived.Test.YthooopcoemdphaaDoorBytes
namespace Go.Proofs.YthooopcoemdphaaDoor
open Go.ChangeShapes Go.WideShapes Go.ChangeAt Go.RowKit
set_option linter.unusedVariables false

set_option maxHeartbeats 1000000 in
theorem addn_calls (v : Value) (xs : List Int) (n : Int) (size B : Nat) (w : World) (h0 : 0 ≤ n) (hn : n < 4294967296) (hs : size ≤ 4) (hl : xs.length ≤ 1099511627776) (hB : B ≤ w.heap.size) (ho : Own w B v xs) :
    Calls Tryd.prog 20 #[v, .int .u32 n, .int .i64 size] w fun e w' => ∃ v', e = .returned v' ∧ Own w' B v' (xs ++ leB n size) ∧ Kept 5 B w w' := by
  obtain ⟨i0, hi, hz0, hz1, hz2⟩ := info_parts info5
  have HO := hide ho
  clear ho
  go_enter Tryd.func20, Tryd.ntmps20
  go_wp2
  go_loopw [0, 1, 8] (fun b m i wr => ∃ k : Nat, k ≤ size ∧ i = .int .i64 k ∧ m = .int .u32 (n / 256 ^ k) ∧ Own wr B b (xs ++ leB n k) ∧ Kept 5 B w wr) (fun _ _ i _ => size - (intOf i).toNat)
  case atStart => exact ⟨0, by omega, rfl, by simp, by simpa [leB] using HO.out, Kept.refl _ _ _⟩
  case round =>
    obtain ⟨k, hk, rfl, rfl, hown, hkp⟩ := hrel
    have hbd := div_pow_bounds n k h0 hn
    generalize hm : n / 256 ^ k = m at hbd
    have HM := hide hm
    clear hm
    obtain ⟨hm0, hm1⟩ := hbd
    by_cases hlt : k < size
    · have hon := hide (World.ownsRow.alloc hown (.cells #[.int .u8 (m % 256)] 5))
      have hsz := hkp.size
      have hlen : (xs ++ leB n k).length = xs.length + k := by simp [leB_len]
      clear hown
      go_wp2_with (at_builtin; refine wpList_append_own _ rfl _ _ 22 rfl B 5 i0 (.int .u8 0) 1 1 Tryd.underlying22 hi hz0 hz1 hz2 rfl (by decide) _ _ _ rfl hon.out ⟨wr.heap.size, 0, none⟩ 1 1 [.int .u8 (m % 256)] rfl rfl ?c1 ?c2 ?c3 ?c4 ?c5 ?_)
      case c1 =>
        intro j u hj
        match j, hj with
        | 0, hj => simp at hj; subst hj; simp [Addr.add]
      case c2 => intro u hu; simp at hu; subst hu; rfl
      case c3 => rw [hlen]; unfold maxLen; omega
      case c4 => rw [hlen]; omega
      case c5 => simp; omega
      · intro v' w1 hown' hgrow _
        have hk1 : Kept 5 B w w1 := hkp.trans ((Kept.of_gr ((Gr.refl wr).alloc _ _)).trans (Kept.grown hon.out hgrow))
        have ho1 : Own w1 B v' (xs ++ leB n (k + 1)) := by
          unfold Own
          rw [leB_snoc, HM.out]
          simpa [List.append_assoc, Nat.add_assoc, leB_len] using hown'
        clear hown' hgrow hon
        have hq : n / 256 ^ (k + 1) = m / 256 := by rw [div_pow, HM.out]
        go_wp2
        go_roundw
        case rel => exact ⟨k + 1, by omega, by go_num, by rw [hq], ho1, hk1⟩
        case measure => simp [intOf]; omega
    · obtain rfl : k = size := by omega
      go_wp2
      go_ret
      exact ⟨_, rfl, hown, hkp⟩
end Go.Proofs.YthooopcoemdphaaDoor
