/-
  Of at most 10000 bytes deadlatchlaw07.PickReads answers true. No condition but that the slice's cells hold them.
-/
import Derived.Test.YtokbbjpnahpeaaaRd
namespace Go.Proofs.Ytokbbjpnahpeaaa
open Go.ChangeShapes Go.WideShapes Go.ChangeAt Go.RowKit
set_option linter.unusedVariables false

set_option maxHeartbeats 1000000 in
theorem reads_few (a : Option Addr) (ca : Nat) (l : List Nat) (hl : l.length ≤ 10000) (w : World) (ha : BytesAt w a l) :
    Calls Try.prog 4 #[.slice a l.length ca] w fun e w' => e = .returned (.bool true) ∧ Gr w w' := by
  have HA := hide ha
  have hli : (l.length : Int) ≤ 10000 := by omega
  clear ha
  go_enter Try.func4, Try.ntmps4
  go_wp2_with (fail)
  refine (awake_calls _).mono ?_
  rintro e w1 ⟨rfl, g1⟩
  go_wp2_with (fail)
  refine (read_calls a ca l hl _ (HA.out.later g1)).mono ?_
  rintro e w2 ⟨G, ⟨rfl, g2⟩, hG⟩
  have gr2 := g1.trans g2
  have HG := hide hG
  clear hG g1 g2
  go_wp2_with (fail)
  go_loopw [4] (fun s4 wr => ∃ k : Nat, k ≤ l.length ∧ s4 = .int .i64 k ∧ Gr w2 wr) (fun s4 _ => l.length - (intOf s4).toNat)
  case atStart => exact ⟨0, by omega, rfl, Gr.refl _⟩
  case round =>
    obtain ⟨k, hk, rfl, gr⟩ := hrel
    by_cases hlt : k < l.length
    · have hlt' : (k : Int) < l.length := by omega
      obtain ⟨b, o, rfl, hb, c1⟩ := ((HA.out.later gr2).later gr).get hlt
      have hR := HG.out.later gr
      have k1 := hR.cell (flatPC_a _ k (by rw [readL_len]; exact hlt))
      have k2 := hR.cell (flatPC_v _ k (by rw [readL_len]; exact hlt))
      rw [readL_get l k hlt] at k1 k2
      generalize l.getD k 0 = x at hb c1 k1 k2
      rw [show (ofP x).1 = (x : Int) / 8 % 3 by unfold ofP; simp only; omega] at k1
      rw [show (ofP x).2 = (x : Int) % 8 by unfold ofP; simp only; omega] at k2
      have hbi : (x : Int) < 256 := by omega
      clear hR
      go_wp2_with (fail)
      go_quiet (fail)
      go_wp2_with (fail)
      exact ⟨⟨k + 1, by omega, by go_num, gr.drewN nq⟩, by simp [intOf]; omega⟩
    · obtain rfl : k = l.length := by omega
      go_wp2_with (fail)
      go_ret
      exact ⟨rfl, gr2.trans gr⟩
end Go.Proofs.Ytokbbjpnahpeaaa
