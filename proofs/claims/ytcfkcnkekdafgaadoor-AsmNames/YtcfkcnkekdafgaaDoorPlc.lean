/-
  For any name of at most 2^31 bytes and any number below 10^10, in any world: the law's place answers the name, an x, and the number's digits. Memory grows alone.
-/
import Derived.Test.YtcfkcnkekdafgaaDoorNms
import Derived.Test.YtcfkcnkekdafgaaDoorDigs
namespace Go.Proofs.YtcfkcnkekdafgaaDoor
open Go.ChangeShapes Go.WideShapes Go.ChangeAt Go.RowKit
set_option linter.unusedVariables false

theorem dig_step (m : Nat) (h : 9 < m) (hm : m < 10000000000) : digF 11 m = digF 11 (m / 10) ++ [digD (m % 10)] := by
  rw [digF_more 10 (m / 10) (by omega) (by omega)]
  conv => lhs; rw [digF]
  rw [if_neg (by omega)]
theorem dig_last (m : Nat) (h : m ≤ 9) : digF 11 m = [digD m] := by
  rw [digF, if_pos (by omega)]
theorem conv_byte (n : Nat) (h : n < 10) (w : World) (c : Int) (hc : c = 48 + (n : Int)) :
    (convert 52 9 (.slice (some ⟨w.heap.size, 0, none⟩) 1 1)).run Tryd.prog (w.alloc (.cells #[.int .u8 c] 5)) = .ok (.string ⟨[digD n].toArray⟩) (w.alloc (.cells #[.int .u8 c] 5)) := by
  subst hc
  exact run_convert_bytes_back (P := Tryd.prog) (w.alloc (.cells #[.int .u8 (48 + (n : Int))] 5)) 52 9 5 ⟨w.heap.size, 0, none⟩ 1 [digD n] Tryd.underlying52 Tryd.underlying5 Tryd.underlying9 (by
    intro j hj
    obtain rfl : j = 0 := by simp at hj; exact hj
    rw [Addr.add_mid]
    simp [u8_dig n h])

set_option maxRecDepth 100000 in
set_option maxHeartbeats 1000000 in
theorem place_calls (name : Bs) (hl : name.length ≤ 2147483648) (n : Nat) (hn : n < 10000000000) (w : World) :
    Calls Tryd.prog 8 #[.string ⟨name.toArray⟩, .int .i64 n] w fun e w' => e = .returned (.string ⟨(nmP name n).toArray⟩) ∧ Gr w w' := by
  have hsz : (⟨name.toArray⟩ : ByteArray).size ≤ 2147483648 := by rw [size_mk]; exact hl
  go_enter Tryd.func8, Tryd.ntmps8
  go_wp2_with (fail)
  go_loopw [1, 5] (fun i s wr => ∃ (m : Nat) (S : Bs), i = .int .i64 m ∧ s = .string ⟨S.toArray⟩ ∧ m < 10000000000 ∧ Hid (digF 11 n = digF 11 m ++ S) ∧ Gr w wr) (fun i _ _ => (intOf i).toNat)
  case atStart => exact ⟨n, [], rfl, rfl, hn, by show _ = _; simp, Gr.refl w⟩
  case round =>
    obtain ⟨m, S, rfl, rfl, hm, HD, gr⟩ := hrel
    have hlen : S.length ≤ 11 := by
      have := congrArg List.length HD.out
      rw [List.length_append] at this
      have := digF_len 11 n
      omega
    have hS : (⟨S.toArray⟩ : ByteArray).size ≤ 11 := by rw [size_mk]; exact hlen
    have hB : ∀ b : UInt8, (⟨[b].toArray⟩ : ByteArray).size = 1 := fun b => rfl
    by_cases h9 : 9 < m
    · have h9' : (9 : Int) < m := by omega
      have HC := hide (fun c hc => conv_byte (m % 10) (by omega) wr c hc)
      have HS := hide (dig_step m h9 hm)
      go_wp2_with (first | (refine step_conv rfl (some 15) rfl 52 9 (.tmp 14) rfl (.slice (some ⟨wr.heap.size, 0, none⟩) 1 1) rfl (.string ⟨[digD (m % 10)].toArray⟩) (HC.out _ (by omega)) ?_))
      exact ⟨⟨m / 10, [digD (m % 10)] ++ S, by go_num, by rw [← cat_mk], by omega, by show _ = _; rw [HD.out, HS.out]; simp, gr.alloc _ _⟩, by simp [intOf]; omega⟩
    · have h9' : ¬ (9 : Int) < m := by omega
      have HC := hide (fun c hc => conv_byte m (by omega) wr c hc)
      have HS := hide (dig_last m (by omega))
      go_wp2_with (first | (refine step_conv rfl (some 24) rfl 52 9 (.tmp 23) rfl (.slice (some ⟨wr.heap.size, 0, none⟩) 1 1) rfl (.string ⟨[digD m].toArray⟩) (HC.out _ (by omega)) ?_))
      go_ret
      refine ⟨ret_str ?_, gr.alloc _ _⟩
      unfold nmP
      rw [HD.out, HS.out]
      show (((⟨name.toArray⟩ : ByteArray) ++ ⟨[120].toArray⟩) ++ ⟨[digD m].toArray⟩) ++ ⟨S.toArray⟩ = _
      rw [cat_mk, cat_mk, cat_mk]
      simp
end Go.Proofs.YtcfkcnkekdafgaaDoor
