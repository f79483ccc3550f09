/-
  What trace.Calls answers of any events: the document's calls. No condition but that the slice's cells hold the events.
-/
import Derived.Test.YtfhplbmgjgfihaaCofW
import Derived.Test.YtfhplbmgjgfihaaSrt
import Derived.Test.YtfhplbmgjgfihaaCPur
namespace Go.Proofs.Ytfhplbmgjgfihaa
open Go.ChangeShapes Go.WideShapes Go.ChangeAt Go.RowKit
set_option linter.unusedVariables false
set_option maxRecDepth 20000

/-- calls that are answered: a row, and their inner places -/
def ClsP (w : World) (qs : List Ca) (r : Ending) (w' : World) : Prop :=
  ∃ (ks : List Cl) (a : Option Addr) (c : Nat), ((r = .returned (.slice a ks.length c) ∧ RowAt w' a (flatOf clL ks)) ∧ ((∀ k ∈ ks, NumsO w' w.heap.size (slI k) k.q.inner) ∧ ks.map (·.q) = qs)) ∧ Gr w w'

def upto (l : List Ev) (hl : ∀ x ∈ l, EvOk x) (n : Nat) : List Ca := (List.range n).flatMap fun (t : Nat) => (callsR (t : Int) (plc t 0 l hl)).reverse
theorem upto_succ (l : List Ev) (hl : ∀ x ∈ l, EvOk x) (n : Nat) : upto l hl (n + 1) = upto l hl n ++ (callsR (n : Int) (plc n 0 l hl)).reverse := by
  unfold upto
  rw [List.range_succ, List.flatMap_append, List.flatMap_cons, List.flatMap_nil, List.append_nil]
theorem upto_len (l : List Ev) (hl : ∀ x ∈ l, EvOk x) : ∀ n, (upto l hl n).length ≤ n * l.length
  | 0 => by simp [upto]
  | n + 1 => by
    have h1 := upto_len l hl n
    have h2 := callsR_len n (plc n 0 l hl)
    have h3 := plc_len n 0 l hl
    rw [upto_succ, List.length_append, List.length_reverse, Nat.add_mul, Nat.one_mul]
    omega

set_option maxHeartbeats 2000000 in
theorem calls_calls (a : Option Addr) (c : Nat) (l : List Ev) (hl : ∀ x ∈ l, EvOk x) (hn : l.length ≤ 900) (w : World) (h : RowAt w a (flatOf evL l)) :
    Calls Try.prog 17 #[.slice a l.length c] w (ClsP w (refF 0 l)) := by
  have inh : Inhabited Cl := ⟨cl0⟩
  have HH := hide h
  have HC : Hid (∀ (u : World) (t : Int), Gr w u → Calls Try.prog 20 #[.slice a l.length c, .int .i64 t] u (CallsP u (callsR t (plc t 0 l hl)).reverse)) := fun u t g => callsOf_calls a c l hl hn t u (h.later g)
  have HL := hide (upto_len l hl)
  have g0 := Gr.refl w
  clear h
  go_enter Try.func17, Try.ntmps17
  go_wp2_with (fail)
  go_loopw [3, 5] (fun v u wr => ∃ (k : Nat) (cs : List Cl), k ≤ 8 ∧ u = .int .i64 k ∧ ClsO wr w.heap.size v cs ∧ (∀ k ∈ cs, NumsO wr w.heap.size (slI k) k.q.inner) ∧ Hid (cs.map (·.q) = upto l hl k) ∧ Gr w wr) (fun _ u _ => 8 - (intOf u).toNat)
  case atStart => exact ⟨0, [], by omega, rfl, own_nil _ _ _ _, (fun k h => absurd h List.not_mem_nil), rfl, g0⟩
  case round =>
    clear g0
    obtain ⟨k, cs, hk, rfl, hs, hi, hq, g⟩ := hrel
    have hcl : cs.length ≤ 7200 := by
      have h1 := HL.out k
      rw [← hq.out, List.length_map] at h1
      have h2 : k * l.length ≤ 8 * 900 := Nat.mul_le_mul hk hn
      omega
    obtain ⟨va, vc, rfl, hrow, hnil, -, -⟩ := own_at hs
    by_cases hlt : k < 8
    · have hlt' : (k : Int) < 8 := by omega
      have HI := hide hi
      have HQ := hide (upto_succ l hl k)
      clear hi
      go_wp2_with (fail)
      refine (HC.out _ _ g).mono ?_
      rintro e W1 ⟨cs1, v1, ⟨⟨rfl, hs1⟩, hi1, hq1⟩, g1⟩
      obtain ⟨wa, wc, rfl, hrow1, hnil1, -, -⟩ := own_at hs1
      have hc1 : cs1.length ≤ 900 := by
        have h1 := callsR_len k (plc k 0 l hl)
        have h2 := plc_len k 0 l hl
        have h3 := congrArg List.length hq1
        rw [List.length_map, List.length_reverse] at h3
        omega
      have hs2 := own_later hs g1
      obtain ⟨v', W2, hr, ho, hg, hob⟩ := app_recs (T := 38) (ty := 38) clL_len clL_one Try.underlying38 infoCl rfl (by omega) (by omega) hs2 wa wc cs1 hrow1 (fun h => ⟨hnil1 h, by
        rcases hs1.2 with ⟨z, h0⟩ | ⟨g, cap, cur, z, -⟩
        · exact List.length_eq_zero_iff.1 h0
        · subst h; cases z⟩) (by omega) (Nat.le_trans g.size g1.size)
      have HR := hide hr
      have g2 : Gr w W2 := grown_gr (g.trans g1) hs2 hg (Nat.le_refl _)
      have hkeep : ∀ d : Cl, NumsO W1 w.heap.size (slI d) d.q.inner → NumsO W2 w.heap.size (slI d) d.q.inner := fun d hd => own_kept hd (Kp.grown hg) (fun y h1 h2 => by
        obtain ⟨D, hD⟩ := own_has hs2 h2
        obtain ⟨E, hE⟩ := own_has hd (mem_ob.2 h1)
        exact hE.apart hD (by decide) rfl)
      have HK := hide hkeep
      have HO := hide ho
      have hz := g.size
      clear hr ho hg hob hs2 hrow1 hkeep hrow
      go_wp2_with (first
        | (refine step_app rfl (some 12) rfl _ _ _ rfl (.slice va cs.length vc) (.slice wa cs1.length wc) rfl rfl v' W2 (by exact HR.out) ?_))
      refine ⟨⟨k + 1, cs ++ cs1, by omega, by go_num, HO.out, ?_, ?_, g2⟩, by simp [intOf]; omega⟩
      · intro d hd
        rcases List.mem_append.1 hd with hd | hd
        · exact HK.out d (own_later (HI.out d hd) g1)
        · exact HK.out d (own_lower (hi1 d hd) hz)
      · show (cs ++ cs1).map (·.q) = _
        rw [HQ.out, List.map_append, hq.out, hq1]
    · obtain rfl : k = 8 := by omega
      have HI := hide hi
      have HS := hide hs
      have hsort := sort_calls hs (by omega)
      have HSO := hide hsort
      have GG := hide g
      clear hi hs hrow g hsort
      go_wp2_with (go_at_call 21; refine HSO.out.mono ?_; rintro e W2 ⟨rfl, ⟨ks, hks, hp, hpw⟩, hK⟩)
      go_ret
      have hg : Gr w W2 := hK.gr GG.out (fun y hy => (own_ltb HS.out (mem_ob.1 hy)).1)
      refine ⟨ks, va, vc, ⟨⟨by rw [hp.length_eq]; rfl, hks⟩, fun d hd => own_kept (HI.out d (hp.mem_iff.1 hd)) hK (fun y h1 h2 => by
        obtain ⟨D, hD⟩ := own_has HS.out h2
        obtain ⟨E, hE⟩ := own_has (HI.out d (hp.mem_iff.1 hd)) (mem_ob.2 h1)
        exact hE.apart hD (by decide) rfl), ?_⟩, hg⟩
      refine sorted_ref l hl _ ?_ ?_
      · have q := hp.map (·.q)
        rw [hq.out] at q
        exact q
      · exact List.pairwise_map.2 (hpw.imp fun h => by omega)
end Go.Proofs.Ytfhplbmgjgfihaa
