/-
  Of at most 400 bytes as wishes deadlatchlaw07.PickTrue answers true. No condition but that the slice's cells hold them, and that the numbers are of their kinds.
-/
import Derived.Test.YtokbbjpnahpeaaaEvw
import Derived.Test.YtokbbjpnahpeaaaRd
import Derived.Test.YtokbbjpnahpeaaaFai
namespace Go.Proofs.Ytokbbjpnahpeaaa
open Go.ChangeShapes Go.WideShapes Go.ChangeAt Go.RowKit
set_option linter.unusedVariables false

theorem wrap_id (n : Int) (h : -9223372036854775808 ≤ n) (h2 : n ≤ 9223372036854775807) : IntKind.i64.wrap n = n := by
  rw [IntKind.wrap_i64]
  omega
theorem num_parts (th nn : Nat) : ∃ r N : Nat, (th : Int) % 8 = r ∧ (th : Int).tmod 8 = r ∧ r < 8 ∧ (nn : Int) % 1000 = N ∧ (nn : Int).tmod 1000 = N ∧ N < 1000 :=
  ⟨th % 8, nn % 1000, by omega, by rw [Int.tmod_eq_emod_of_nonneg (by omega)]; omega, by omega, by omega, by rw [Int.tmod_eq_emod_of_nonneg (by omega)]; omega, by omega⟩

set_option maxRecDepth 20000 in
set_option maxHeartbeats 1000000 in
theorem true_few (a : Option Addr) (ca : Nat) (l : List Nat) (hl : l.length ≤ 400) (th : Nat) (hth : th < 256) (mo : Nat) (hmo : mo < 256) (nn : Nat) (hnn : nn < 65536) (w : World) (ha : BytesAt w a l) :
    Calls Try.prog 7 #[.slice a l.length ca, .int .u8 th, .int .u8 mo, .int .u16 nn] w fun e w' => e = .returned (.bool true) ∧ Gr w w' := by
  have HA := hide ha
  have hli : (l.length : Int) ≤ 400 := by omega
  have h1 : (th : Int) < 256 := by omega
  have h2 : (mo : Int) < 256 := by omega
  have HCV : Hid (IntKind.i64.wrap (nn : Int) = (nn : Int)) := wrap_id _ (by omega) (by omega)
  obtain ⟨r, N, q1, q2, q3, q4, q5, q6⟩ := num_parts th nn
  obtain ⟨T, hT⟩ : ∃ T : Nat, T = 1 + r := ⟨_, rfl⟩
  have hT2 : 1 + (r : Int) = T := by omega
  have hT8 : (T : Int) ≤ 8 := by omega
  have hT1 : 1 ≤ (T : Int) := by omega
  obtain ⟨W, hW⟩ : ∃ W : Nat, W = 4 * T + mo := ⟨_, rfl⟩
  have hW2 : 4 * (T : Int) + mo = W := by omega
  have hW3 : (W : Int) ≤ 300 := by omega
  have HT8 := hide (show 1 ≤ T ∧ T ≤ 8 ∧ 4 * T ≤ W ∧ r < 8 ∧ N < 1000 by omega)
  have HN := hide (show (N : Int) < 1000 by omega)
  have Q4 := hide q4
  have Q5 := hide q5
  clear ha hT hW q3 q6 hth hmo hnn q4 q5
  go_enter Try.func7, Try.ntmps7
  go_wp2_with (fail)
  refine (awake_calls _).mono ?_
  rintro e w1 ⟨rfl, g1⟩
  go_wp2_with (fail)
  refine (read_calls a ca l (by omega) _ (HA.out.later g1)).mono ?_
  rintro e w2 ⟨G, ⟨rfl, g2⟩, hG⟩
  have gr2 := g1.trans g2
  have HG := hide hG
  clear hG g1 g2
  have hcv := HCV.out
  have q4 := Q4.out
  have q5 := Q5.out
  go_wp2_with (fail)
  have EV := even_calls (some ⟨G, 0, none⟩) l.length (readL l) (by rw [readL_len]; exact hl) T HT8.out.1 HT8.out.2.1 (W : Int) (by have := HT8.out; omega) (by omega) N (by have := HT8.out; omega) w2 HG.out.picks
  rw [readL_len] at EV
  refine EV.mono ?_
  clear EV
  rintro e w3 ⟨G2, ⟨rfl, g3⟩, hG2⟩
  have gr3 := gr2.trans g3
  have HG2 := hide hG2
  have FR := hide (ev_fair (readL l) T W HT8.out.1 HT8.out.2.1 HT8.out.2.2.1 N)
  have F := fair_calls (some ⟨G2, 0, none⟩) N (evL (readL l) T W N) (by rw [evL_len]; have := HT8.out; omega) (T : Int) (W : Int) (by omega) w3 HG2.out.picks
  rw [fairB_true FR.out, evL_len] at F
  have HF := hide F
  clear F hG2 g3
  go_wp2_with (fail)
  refine HF.out.mono ?_
  rintro e w4 ⟨rfl, g4⟩
  go_wp2_with (fail)
  go_ret
  exact ⟨rfl, gr3.trans g4⟩
end Go.Proofs.Ytokbbjpnahpeaaa
