/-
  Of at most 400 bytes as wishes deadlatchlaw07.PickWide answers true. No condition but that the slice's cells hold them, and that the numbers are of their kinds.
-/
import Derived.Test.YtokbbjpnahpeaaaTruW
namespace Go.Proofs.Ytokbbjpnahpeaaa
open Go.ChangeShapes Go.WideShapes Go.ChangeAt Go.RowKit
set_option linter.unusedVariables false

/-- what is left of a number by another, as a number -/
theorem rest_of (x m : Nat) (hm : 0 < m) : ∃ r : Nat, (x : Int) % (m : Int) = r ∧ (x : Int).tmod (m : Int) = r ∧ r < m :=
  ⟨x % m, (Int.natCast_emod _ _).symm, by rw [Int.tmod_eq_emod_of_nonneg (by omega)]; exact (Int.natCast_emod _ _).symm, Nat.mod_lt _ hm⟩

/-- what is so ahead of the three questions -/
structure WideN (T W mo A Q N : Nat) : Prop where
  t1 : 1 ≤ T
  t8 : T ≤ 8
  w : 4 * T ≤ W
  w9 : W ≤ 100
  m : mo < 256
  a : A ≤ N
  q : A + Q ≤ N
  n : N < 500

/-- the piece of the script from A on -/
theorem piece_at {w : World} {G N A Q c : Nat} {L : List Pk} (h : PicksAt w (some ⟨G, 0, none⟩) L) (hL : L.length = N) (hA : A + Q ≤ N) : ((L.drop A).take Q).length = Q ∧ PicksAt w (some ⟨G, A * 2, none⟩) ((L.drop A).take Q) := by
  refine ⟨by rw [List.length_take, List.length_drop]; omega, ?_⟩
  have := (h.drop A).take Q
  rw [Nat.zero_add] at this
  exact this

set_option maxRecDepth 20000 in
set_option maxHeartbeats 1000000 in
theorem wide_few (a : Option Addr) (ca : Nat) (l : List Nat) (hl : l.length ≤ 400) (th : Nat) (hth : th < 256) (mo : Nat) (hmo : mo < 256) (nn : Nat) (hnn : nn < 65536) (fr : Nat) (hfr : fr < 65536) (to : Nat) (hto : to < 65536) (w : World) (ha : BytesAt w a l) :
    Calls Try.prog 8 #[.slice a l.length ca, .int .u8 th, .int .u8 mo, .int .u16 nn, .int .u16 fr, .int .u16 to] w fun e w' => e = .returned (.bool true) ∧ Gr w w' := by
  have HA := hide ha
  have hli : (l.length : Int) ≤ 400 := by omega
  have h1 : (th : Int) < 256 := by omega
  have h2 : (mo : Int) < 256 := by omega
  have HCV : Hid (IntKind.i64.wrap (nn : Int) = (nn : Int)) := wrap_id _ (by omega) (by omega)
  have HCF : Hid (IntKind.i64.wrap (fr : Int) = (fr : Int)) := wrap_id _ (by omega) (by omega)
  have HCT : Hid (IntKind.i64.wrap (to : Int) = (to : Int)) := wrap_id _ (by omega) (by omega)
  obtain ⟨r, q1, q2, q3⟩ := rest_of th 8 (by omega)
  obtain ⟨m16, p1, p2, p3⟩ := rest_of mo 16 (by omega)
  obtain ⟨N, n1, n2, n3⟩ := rest_of nn 500 (by omega)
  obtain ⟨A, a1, a2, a3⟩ := rest_of fr (N + 1) (by omega)
  obtain ⟨Q, b1, b2, b3⟩ := rest_of to (N - A + 1) (by omega)
  rw [show ((N + 1 : Nat) : Int) = (N : Int) + 1 by omega] at a1 a2
  rw [show ((N - A + 1 : Nat) : Int) = (N : Int) - A + 1 by omega] at b1 b2
  obtain ⟨T, hT⟩ : ∃ T : Nat, T = 1 + r := ⟨_, rfl⟩
  have hT2 : 1 + (r : Int) = T := by omega
  have hT8 : (T : Int) ≤ 8 := by omega
  have hT1 : 1 ≤ (T : Int) := by omega
  obtain ⟨W, hW⟩ : ∃ W : Nat, W = 4 * T + m16 := ⟨_, rfl⟩
  have hW2 : 4 * (T : Int) + m16 = W := by omega
  have hW3 : (W : Int) ≤ 100 := by omega
  have WN := hide (show WideN T W mo A Q N from ⟨by omega, by omega, by omega, by omega, hmo, by omega, by omega, n3⟩)
  have N1 := hide (show (nn : Int) % 500 = N from n1)
  have N2 := hide (show (nn : Int).tmod 500 = N from n2)
  have A1 := hide a1
  have A2 := hide a2
  have B1 := hide b1
  have B2 := hide b2
  have q1' : (th : Int) % 8 = r := q1
  have q2' : (th : Int).tmod 8 = r := q2
  have p1' : (mo : Int) % 16 = m16 := p1
  have p2' : (mo : Int).tmod 16 = m16 := p2
  clear ha hT hW q3 p3 n3 a3 b3 hth hmo hnn hfr hto q1 q2 p1 p2 n1 n2 a1 a2 b1 b2
  go_enter Try.func8, Try.ntmps8
  go_wp2_with (fail)
  refine (awake_calls _).mono ?_
  rintro e w1 ⟨rfl, g1⟩
  go_wp2_with (fail)
  refine (read_calls a ca l (by omega) _ (HA.out.later g1)).mono ?_
  rintro e w2 ⟨G, ⟨rfl, g2⟩, hG⟩
  have gr2 := g1.trans g2
  have HG := hide hG
  clear hG g1 g2 q1' q2' p1' p2' h1 hT2 hW2
  have hcv := HCV.out
  have q4 := N1.out
  have q5 := N2.out
  go_wp2_with (fail)
  have EV := even_calls (some ⟨G, 0, none⟩) l.length (readL l) (by rw [readL_len]; exact hl) T WN.out.t1 WN.out.t8 (W : Int) (by have := WN.out.w; omega) (by omega) N (by have := WN.out.n; omega) w2 HG.out.picks
  rw [readL_len] at EV
  refine EV.mono ?_
  clear EV hcv q4 q5
  rintro e w3 ⟨G2, ⟨rfl, g3⟩, hG2⟩
  have gr3 := gr2.trans g3
  have HG2 := hide hG2
  have FR := hide (ev_fair (readL l) T W WN.out.t1 WN.out.t8 WN.out.w N)
  have LL := hide (evL_len (readL l) T W N)
  generalize evL (readL l) T W N = L at HG2 FR LL
  have hAN : (A : Int) ≤ N := by have := WN.out.a; omega
  have hQN : (A : Int) + Q ≤ N := by have := WN.out.q; omega
  have hNN : (N : Int) < 500 := by have := WN.out.n; omega
  have F1 := fair_calls (some ⟨G2, 0, none⟩) N L (by rw [LL.out]; omega) (T : Int) ((W : Int) + mo) (by omega) w3 HG2.out.picks
  rw [fairB_true (FR.out.wide (by omega)), LL.out] at F1
  have HF1 := hide F1
  have hcf := HCF.out
  have hct := HCT.out
  have a1 := A1.out
  have a2 := A2.out
  have b1 := B1.out
  have b2 := B2.out
  clear F1 hG2 g3
  go_wp2_with (fail)
  refine HF1.out.mono ?_
  rintro e w4 ⟨rfl, g4⟩
  have P4 := HG2.out.picks.later g4
  have PC := hide (piece_at (c := 0) P4 LL.out WN.out.q)
  have FP := hide (fairB_true (FR.out.piece A Q))
  have P4' := hide P4
  clear P4 a1 a2 b1 b2 hcf hct
  have HF3 : Hid (∀ w5, Gr w4 w5 → 2 ≤ T → Calls Try.prog 13 #[.slice (some ⟨G2, 0, none⟩) N N, .int .i64 ((T : Int) - 1), .int .i64 W] w5 fun e w' => e = .returned (.bool true) ∧ Gr w5 w') := fun w5 g5 h2T => by
    have F3 := fair_calls (some ⟨G2, 0, none⟩) N L (by rw [LL.out]; omega) ((T : Int) - 1) (W : Int) (by omega) w5 (P4'.out.later g5)
    rw [fairB_true (FR.out.fewer (by omega)), LL.out] at F3
    exact F3
  by_cases hcap : A = N
  · have hQ0 : Q = 0 := by have := WN.out.q; omega
    subst hcap hQ0
    have F2 := fair_calls (some ⟨G2, 0, none⟩) 0 ((L.drop A).take 0) (by rw [PC.out.1]; omega) (T : Int) (W : Int) (by omega) w4 (.inl (by simp))
    rw [FP.out, PC.out.1] at F2
    have HF2 := hide F2
    clear F2
    go_wp2_with (fail)
    refine HF2.out.mono ?_
    rintro e w5 ⟨rfl, g5⟩
    by_cases h1T : T = 1
    · have hb : ((T : Int) == 1) = true := by simp; omega
      go_wp2_with (fail)
      go_ret
      exact ⟨rfl, (gr3.trans g4).trans g5⟩
    · have hb : ((T : Int) == 1) = false := by simp; omega
      go_wp2_with (fail)
      refine (HF3.out _ g5 (by have := WN.out.t1; omega)).mono ?_
      rintro e w6 ⟨rfl, g6⟩
      go_wp2_with (fail)
      go_ret
      exact ⟨rfl, ((gr3.trans g4).trans g5).trans g6⟩
  · have hcap' : (A : Int) < N := by omega
    have F2 := fair_calls (some ⟨G2, A * 2, none⟩) (N - A) ((L.drop A).take Q) (by rw [PC.out.1]; have := WN.out; omega) (T : Int) (W : Int) (by omega) w4 PC.out.2
    rw [FP.out, PC.out.1] at F2
    have HF2 := hide F2
    clear F2
    go_wp2_with (fail)
    refine HF2.out.mono ?_
    rintro e w5 ⟨rfl, g5⟩
    by_cases h1T : T = 1
    · have hb : ((T : Int) == 1) = true := by simp; omega
      go_wp2_with (fail)
      go_ret
      exact ⟨rfl, (gr3.trans g4).trans g5⟩
    · have hb : ((T : Int) == 1) = false := by simp; omega
      go_wp2_with (fail)
      refine (HF3.out _ g5 (by have := WN.out.t1; omega)).mono ?_
      rintro e w6 ⟨rfl, g6⟩
      go_wp2_with (fail)
      go_ret
      exact ⟨rfl, ((gr3.trans g4).trans g5).trans g6⟩
end Go.Proofs.Ytokbbjpnahpeaaa
