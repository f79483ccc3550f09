/-
  KernApart's walk: of any two addresses and any number it answers true. No condition.
-/
import Derived.Test.YtlcjobgnjmhokaaAwake
import Derived.Test.YtlcjobgnjmhokaaAll
namespace Go.Proofs.Ytlcjobgnjmhokaa
open Go.ChangeShapes Go.WideShapes Go.ChangeAt Go.RowKit
set_option linter.unusedVariables false

/-- eight threads, at two addresses in turn -/
def eight (a b : Int) : List Ent := [⟨0, a⟩, ⟨1, b⟩, ⟨2, a⟩, ⟨3, b⟩, ⟨4, a⟩, ⟨5, b⟩, ⟨6, a⟩, ⟨7, b⟩]
def turn (a b : Int) (k : Nat) : Int := if k % 2 = 1 then b else a
theorem eight_step (a b : Int) (k : Nat) (h : k < 8) : sleepE k ((eight a b).take k) = 0 ∧ sleepL k (turn a b k) ((eight a b).take k) = (eight a b).take (k + 1) := by
  rcases (by omega : k = 0 ∨ k = 1 ∨ k = 2 ∨ k = 3 ∨ k = 4 ∨ k = 5 ∨ k = 6 ∨ k = 7) with rfl | rfl | rfl | rfl | rfl | rfl | rfl | rfl <;> exact ⟨rfl, rfl⟩
/-- how many odd ones sleep at an address -/
def odd1 (b : Int) (x : Ent) : Bool := (x.a.tmod 2 == 1) && (x.v == b)
def odds (b : Int) (l : List Ent) : Nat := (l.filter (odd1 b)).length
theorem apart_facts (a b : Int) (h : a ≠ b) (n : Nat) : ((siftS (stW a) (nxW a) n (eight a b)).out.length = min n 4 ∧ ∀ x ∈ (siftS (stW a) (nxW a) n (eight a b)).out, Int.tmod x 2 = 0) ∧ ((siftS (stW a) (nxW a) n (eight a b)).left.length = 8 - min n 4 ∧ odds b (siftS (stW a) (nxW a) n (eight a b)).left = 4) := by
  have h' : (b == a) = false := by simpa using Ne.symm h
  have h'' : (a == b) = false := by simpa using h
  rcases Nat.lt_or_ge n 4 with hn | hn
  · rcases (by omega : n = 0 ∨ n = 1 ∨ n = 2 ∨ n = 3) with rfl | rfl | rfl | rfl <;>
      simp [siftS, sift1, stW, nxW, eight, h', h'', odds, odd1]
  · obtain ⟨m, rfl⟩ := Nat.exists_eq_add_of_le' hn
    simp [siftS, sift1, stW, nxW, eight, h', odds, odd1]

theorem odds_snoc (b : Int) (l : List Ent) (x : Ent) : odds b (l ++ [x]) = odds b l + if odd1 b x then 1 else 0 := by
  unfold odds
  rw [List.filter_append, List.length_append]
  by_cases h : odd1 b x = true
  · simp [h]
  · simp [h]
theorem odds_le (b : Int) (l : List Ent) : odds b l ≤ l.length := List.length_filter_le _ _

set_option maxHeartbeats 4000000 in
theorem apart_walk (a b : Int) (hab : a ≠ b) (m : Nat) (hm : m < 4294967296) (w : World) :
    Calls Try.prog 5 #[.int .i64 a, .int .i64 b, .int .u32 (m : Int)] w fun e w' => e = .returned (.bool true) ∧ Gr w w' := by
  have hab' : (a == b) = false := by simpa using hab
  have HAB := hide hab
  clear hab
  go_enter Try.func5, Try.ntmps5
  go_wp2_with (first
    | (go_at_call 7; refine (awake_calls _).mono ?_; rintro e w1 ⟨rfl, g1⟩))
  have k2 := K.new w1
  have g2 := g1.alloc zeroC 28
  have hn : w.heap.size ≤ w1.heap.size := g1.size
  change Code.wp _ _ _ _ (w1.alloc (.cells zeroC 28))
  generalize w1.alloc (.cells zeroC 28) = w2 at k2 g2 ⊢
  generalize w1.heap.size = n at k2 hn ⊢
  clear g1
  go_loopw [8] (fun i wr => ∃ k : Nat, k ≤ 8 ∧ i = .int .i64 k ∧ (K wr n ((eight a b).take k) ∧ Hid (Ok ((eight a b).take k)) ∧ Gr w wr)) (fun i _ => 8 - (intOf i).toNat)
  case atStart => exact ⟨0, by omega, rfl, k2, ok_nil, g2⟩
  case round =>
    clear k2 g2
    obtain ⟨k, hk, rfl, hK, hO, gr⟩ := hrel
    by_cases hlt : k < 8
    · have hlt' : (k : Int) < 8 := by omega
      obtain ⟨s1, s2⟩ := eight_step a b k hlt
      have S1 := hide s1
      have S2 := hide s2
      have HK := hide hK
      have HT : Hid (Ok ((eight a b).take (k + 1))) := by have := hO.out.sleep k (turn a b k); rw [s2] at this; exact this
      clear s1 s2 hK
      by_cases h2 : k % 2 = 1
      · have HU : Hid (turn a b k = b) := by show turn a b k = b; simp [turn, h2]
        have hmod : (((k : Int).tmod 2) == 1) = true := by rw [show (k : Int).tmod 2 = ((k % 2 : Nat) : Int) from rfl, h2]; rfl
        have SZ := S2.out
        rw [HU.out] at SZ
        replace SZ := hide SZ
        go_wp2_with (fail)
        refine (sleep_calls HK.out hO.out k b).mono ?_
        rintro e w3 ⟨⟨rfl, p3⟩, k3⟩
        rw [SZ.out] at k3
        rw [S1.out]
        have gr3 := p3.gr gr (by simpa using hn)
        go_wp2_with (fail)
        exact ⟨⟨k + 1, by omega, by go_num, k3, HT, gr3⟩, by simp [intOf]; omega⟩
      · have HU : Hid (turn a b k = a) := by show turn a b k = a; simp [turn, h2]
        have hmod : (((k : Int).tmod 2) == 1) = false := by rw [show (k : Int).tmod 2 = ((k % 2 : Nat) : Int) from rfl, show k % 2 = 0 by omega]; rfl
        have SZ := S2.out
        rw [HU.out] at SZ
        replace SZ := hide SZ
        go_wp2_with (fail)
        refine (sleep_calls HK.out hO.out k a).mono ?_
        rintro e w3 ⟨⟨rfl, p3⟩, k3⟩
        rw [SZ.out] at k3
        rw [S1.out]
        have gr3 := p3.gr gr (by simpa using hn)
        go_wp2_with (fail)
        exact ⟨⟨k + 1, by omega, by go_num, k3, HT, gr3⟩, by simp [intOf]; omega⟩
    · obtain rfl : k = 8 := by omega
      clear hk hlt hO
      rw [show (eight a b).take 8 = eight a b from rfl] at hK
      have HK := hide hK
      clear hK
      go_wp2_with (fail)
      refine (all_calls HK.out).mono ?_
      rintro e w3 ⟨⟨rfl, g3⟩, h3⟩
      rw [show (eight a b).length = 8 from rfl]
      have hlb := h3.lt
      have hne : n ≠ wr.heap.size := by have := HK.out.lt; omega
      have hsz : (flat (eight a b)).toArray.size = 16 := rfl
      have K3 := hide (HK.out.later g3)
      have gr3 := gr.trans g3
      have hlw : w.heap.size ≤ wr.heap.size := gr.size
      generalize (flat (eight a b)).toArray = D3 at h3 hsz
      generalize wr.heap.size = lb at h3 hlb hne hlw ⊢
      clear gr g3 HK
      go_wp2_with (fail)
      go_loopw [11] (fun i wr => ∃ k : Nat, k ≤ 8 ∧ i = .int .i64 k ∧ (K wr n (eight a b) ∧ (∃ D, Has wr lb D 25 ∧ D.size = 16) ∧ Gr w wr)) (fun i _ => 8 - (intOf i).toNat)
      case atStart => exact ⟨0, by omega, rfl, K3.out, ⟨D3, h3, hsz⟩, gr3⟩
      case round =>
        clear K3 gr3 h3 hsz hlb
        obtain ⟨k, hk, rfl, hK, ⟨D, hD, hs⟩, gr⟩ := hrel
        by_cases hlt : k < 8
        · have hlt' : (k : Int) < 8 := by omega
          have c1 := hD.cell (o := k * 2) (v := D[k * 2]'(by omega)) (Array.getElem?_eq_getElem (by omega))
          have f1 := hD.free (k * 2)
          have HK := hide hK
          have HD := hide hD
          clear hK hD
          go_wp2_with (fail)
          exact ⟨⟨k + 1, by omega, by go_num, HK.out.kept (Kp.setCell _ lb _ _) (by simpa using hne), ⟨_, HD.out.set _ _, by simpa using hs⟩, gr.setCell hlw _⟩, by simp [intOf]; omega⟩
        · obtain rfl : k = 8 := by omega
          have HK := hide hK
          clear hK hD hs hk hlt
          go_wp2_with (fail)
          refine (wake_calls HK.out a m hm).mono ?_
          rintro e w4 ⟨v4, ⟨rfl, p4⟩, o4, k4⟩
          obtain ⟨⟨q1, q2⟩, q3, q4⟩ := apart_facts a b HAB.out m
          have gr4 := p4.gr gr (by simpa using hn)
          obtain ⟨a5, c5, rfl, n5, hz, -⟩ := o4.at
          generalize (siftS (stW a) (nxW a) m (eight a b)).out = out at q1 q2 n5
          generalize (siftS (stW a) (nxW a) m (eight a b)).left = lf at q3 q4 k4
          have K4 := hide k4
          have N5 := hide n5
          have Q1 := hide q1
          have Q2 := hide q2
          have Q3 := hide q3
          have Q4 := hide q4
          have ho8 : out.length ≤ 4 := by omega
          have hl8 : lf.length ≤ 8 := by omega
          clear q1 q2 q3 q4 n5 k4 o4 p4 HK gr
          go_wp2_with (fail)
          go_loopw [13] (fun i wr => ∃ k : Nat, k ≤ out.length ∧ i = .int .i64 k ∧ wr = w4) (fun i _ => out.length - (intOf i).toNat)
          case atStart => exact ⟨0, by omega, rfl, rfl⟩
          case round =>
            obtain ⟨k, hk, rfl, rfl⟩ := hrel
            by_cases hlt : k < out.length
            · have hlt' : (k : Int) < out.length := by omega
              obtain ⟨b5, off5, rfl, c1⟩ := N5.out.get hlt
              have hev := Q2.out (out.getD k 0) (by rw [List.getD_eq_getElem?_getD, List.getElem?_eq_getElem hlt]; exact List.getElem_mem _)
              generalize out.getD k 0 = x at c1 hev
              go_wp2_with (fail)
              exact ⟨⟨k + 1, by omega, by go_num, trivial⟩, by simp [intOf]; omega⟩
            · obtain rfl : k = out.length := by omega
              clear hk hlt
              go_wp2_with (fail)
              refine (all_calls K4.out).mono ?_
              rintro e w5 ⟨⟨rfl, g5⟩, h5⟩
              have gr5 := gr4.trans g5
              have H5 := hide h5.ents
              generalize wr.heap.size = lb2 at H5 ⊢
              clear h5 g5
              go_wp2_with (fail)
              go_loopw [15, 16] (fun c i wr => ∃ k : Nat, k ≤ lf.length ∧ i = .int .i64 k ∧ (c = .int .i64 (odds b (lf.take k) : Int)) ∧ wr = w5) (fun _ i _ => lf.length - (intOf i).toNat)
              case atStart => exact ⟨0, by omega, rfl, rfl, rfl⟩
              case round =>
                obtain ⟨k, hk, rfl, rfl, rfl⟩ := hrel
                by_cases hlt : k < lf.length
                · have hlt' : (k : Int) < lf.length := by omega
                  obtain ⟨b6, off6, e6, c1, c2⟩ := H5.out.get hlt
                  cases e6
                  simp only [Nat.zero_add] at c1 c2
                  have HS : Hid (odds b (lf.take (k + 1)) = odds b (lf.take k) + if odd1 b (lf.getD k ent0) then 1 else 0) := by
                    show _ = _
                    rw [← odds_snoc, List.take_succ_eq_append_getElem hlt, List.getD_eq_getElem?_getD, List.getElem?_eq_getElem hlt]; rfl
                  have hcl := odds_le b (lf.take k)
                  rw [List.length_take] at hcl
                  generalize lf.getD k ent0 = x at c1 c2 HS
                  generalize odds b (lf.take k) = c at HS hcl ⊢
                  by_cases h1 : x.a.tmod 2 = 1
                  · have h1' : (x.a.tmod 2 == 1) = true := by simpa using h1
                    by_cases h2 : x.v = b
                    · have h2' : (x.v == b) = true := by simpa using h2
                      have HO : Hid (odd1 b x = true) := by show odd1 b x = true; simp [odd1, h1, h2]
                      clear h1 h2
                      go_wp2_with (fail)
                      exact ⟨⟨k + 1, by omega, by go_num, by rw [HS.out, HO.out]; simp, trivial⟩, by simp [intOf]; omega⟩
                    · have h2' : (x.v == b) = false := by simpa using h2
                      have HO : Hid (odd1 b x = false) := by show odd1 b x = false; simp [odd1, h2]
                      clear h1 h2
                      go_wp2_with (fail)
                      exact ⟨⟨k + 1, by omega, by go_num, by rw [HS.out, HO.out]; simp, trivial⟩, by simp [intOf]; omega⟩
                  · have h1' : (x.a.tmod 2 == 1) = false := by simpa using h1
                    have HO : Hid (odd1 b x = false) := by show odd1 b x = false; simp [odd1, h1]
                    clear h1
                    go_wp2_with (fail)
                    exact ⟨⟨k + 1, by omega, by go_num, by rw [HS.out, HO.out]; simp, trivial⟩, by simp [intOf]; omega⟩
                · obtain rfl : k = lf.length := by omega
                  rw [List.take_length, Q4.out]
                  have e1 := Q1.out
                  have e3 := Q3.out
                  generalize out.length = O at e1 ho8 ⊢
                  generalize lf.length = L at e3 hl8 ⊢
                  subst e1 e3
                  clear hk hlt
                  go_wp2_with (fail)
                  all_goals
                    go_ret
                    exact ⟨ret_true (by simp; omega), gr5⟩
end Go.Proofs.Ytlcjobgnjmhokaa
