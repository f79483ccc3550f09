/-
  KernRouses' walk: of any threads, any address and any thread it answers true. No condition but that the slice's cells hold the threads.
-/
import Derived.Test.YtlcjobgnjmhokaaAwake
import Derived.Test.YtlcjobgnjmhokaaAll
namespace Go.Proofs.Ytlcjobgnjmhokaa
open Go.ChangeShapes Go.WideShapes Go.ChangeAt Go.RowKit
set_option linter.unusedVariables false

theorem rouseL_mem {who : Int} {l : List Ent} {x : Ent} (h : x ∈ rouseL who l) : x.a ≠ who := by
  have := (List.mem_filter.1 h).2
  simpa using this
theorem idx_all {who : Int} : ∀ {l : List Ent}, (∀ x ∈ l, x.a ≠ who) → idx who l = l.length
  | [], _ => rfl
  | x :: l, h => by
    have h1 := h x (by simp)
    have h2 := idx_all (l := l) (fun y hy => h y (by simp [hy]))
    simp [idx, h1, h2]
theorem idx_roused (who : Int) (l : List Ent) : idx who (rouseL who l) = (rouseL who l).length := idx_all fun x hx => rouseL_mem hx
theorem rouse_twice (who : Int) (l : List Ent) : rouseL who (rouseL who l) = rouseL who l := by simp [rouseL]
theorem rouse_take (who : Int) (l : List Ent) (k : Nat) (h : k < l.length) :
    rouseL who (l.take (k + 1)) = if (l.getD k ent0).a = who then rouseL who (l.take k) else rouseL who (l.take k) ++ [l.getD k ent0] := by
  have e : l.take (k + 1) = l.take k ++ [l.getD k ent0] := by
    rw [List.take_succ_eq_append_getElem h, List.getD_eq_getElem?_getD, List.getElem?_eq_getElem h]; rfl
  rw [e]
  unfold rouseL
  rw [List.filter_append]
  generalize l.getD k ent0 = x
  by_cases hx : x.a = who
  · simp [hx]
  · simp [hx]
theorem rouse_get (who : Int) (l : List Ent) (k : Nat) (h : k < l.length) (hx : (l.getD k ent0).a ≠ who) :
    (rouseL who (l.take k)).length < (rouseL who l).length ∧ (rouseL who l).getD (rouseL who (l.take k)).length ent0 = l.getD k ent0 := by
  have e : l = l.take k ++ (l.getD k ent0 :: l.drop (k + 1)) := by
    rw [← drop_get l k h, List.take_append_drop]
  have e2 : rouseL who l = rouseL who (l.take k) ++ (l.getD k ent0 :: rouseL who (l.drop (k + 1))) := by
    conv => lhs; rw [e]
    unfold rouseL
    rw [List.filter_append, List.filter_cons, if_pos (by simpa using hx)]
  rw [e2]
  generalize l.getD k ent0 = x
  constructor
  · simp
  · simp [List.getD_eq_getElem?_getD]

set_option maxHeartbeats 4000000 in
theorem rouses_few (ad : Option Addr) (cap : Nat) (l : List Int) (hl : l.length ≤ 300) (addr who : Int) (w : World) (he : NumsAt w ad l) :
    Calls Try.prog 6 #[.slice ad l.length cap, .int .i64 addr, .int .i64 who] w fun e w' => e = .returned (.bool true) ∧ Gr w w' := by
  have HE := hide he
  clear he
  have hl' : ¬ (300 : Int) < l.length := by omega
  go_enter Try.func6, Try.ntmps6
  go_wp2_with (first
    | (go_at_call 7; refine (awake_calls _).mono ?_; rintro e w1 ⟨rfl, g1⟩))
  have k2 := K.new w1
  have g2 := g1.alloc zeroC 28
  have hn : w.heap.size ≤ w1.heap.size := g1.size
  change Code.wp _ _ _ _ (w1.alloc (.cells zeroC 28))
  generalize w1.alloc (.cells zeroC 28) = w2 at k2 g2 ⊢
  generalize w1.heap.size = n at k2 hn ⊢
  clear g1
  go_loopw [8] (fun i wr => ∃ k : Nat, k ≤ l.length ∧ i = .int .i64 k ∧ ∃ q, (K wr n q ∧ Hid (Ok q) ∧ Gr w wr)) (fun i _ => l.length - (intOf i).toNat)
  case atStart => exact ⟨0, by omega, rfl, [], k2, ok_nil, g2⟩
  case round =>
    clear k2 g2
    obtain ⟨k, hk, rfl, q, hK, hO, gr⟩ := hrel
    have HK := hide hK
    clear hK
    by_cases hlt : k < l.length
    · have hlt' : (k : Int) < l.length := by omega
      obtain ⟨b, off, rfl, c1⟩ := (HE.out.later gr).get hlt
      generalize l.getD k 0 = x at c1
      go_wp2_with (fail)
      refine (sleep_calls HK.out hO.out x _).mono ?_
      rintro e w3 ⟨⟨rfl, p3⟩, k3⟩
      have gr3 := p3.gr gr (by simpa using hn)
      have HO := hide (hO.out.sleep x)
      have K3 := hide k3
      clear k3 c1
      go_wp2_with (fail)
      exact ⟨⟨k + 1, by omega, by go_num, _, K3.out, HO.out _, gr3⟩, by simp [intOf]; omega⟩
    · obtain rfl : k = l.length := by omega
      clear hk hlt hO
      go_wp2_with (fail)
      refine (all_calls HK.out).mono ?_
      rintro e w3 ⟨⟨rfl, g3⟩, h3⟩
      have K3 := hide (HK.out.later g3)
      have H3 := hide h3
      have hne : n ≠ wr.heap.size := by have := HK.out.lt; omega
      have gr3 := gr.trans g3
      have HL := hide HK.out.len
      generalize wr.heap.size = lb at H3 hne ⊢
      clear HK h3 g3 gr
      go_wp2_with (fail)
      refine (asleep_calls K3.out who).mono ?_
      rintro e w4 ⟨rfl, g4⟩
      have K4 := hide (K3.out.later g4)
      have H4 := hide (H3.out.later g4)
      have gr4 := gr3.trans g4
      have HF : Hid (∃ v, asleepV (findK who q) = .tuple #[.int .i64 v, .bool (decide (idx who q < q.length))]) := by
        show ∃ v, _
        rw [findK_idx]
        by_cases h : idx who q < q.length
        · exact ⟨(q.getD (idx who q) ent0).v, by rw [if_pos h, decide_eq_true h]; rfl⟩
        · exact ⟨0, by rw [if_neg h, decide_eq_false h]; rfl⟩
      obtain ⟨fv, fe⟩ := HF.out
      rw [fe]
      clear fe HF K3 H3 gr3 g4
      go_wp2_with (fail)
      refine (rouse_calls K4.out who).mono ?_
      rintro e w5 ⟨⟨rfl, p5⟩, k5⟩
      have K5 := hide k5
      have H5 := hide (H4.out.kept p5 (by simpa using Ne.symm hne))
      have gr5 := p5.gr gr4 (by simpa using hn)
      have HZ : Hid (decide (idx who (rouseL who q) < (rouseL who q).length) = false) := by
        show decide _ = false
        rw [idx_roused]
        simp
      generalize decide (idx who q < q.length) = slept
      clear k5 p5 K4 H4 gr4
      have hbb : (slept == slept) = true := by simp
      go_wp2_with (fail)
      refine (rouse_calls K5.out who).mono ?_
      rintro e w6 ⟨⟨rfl, p6⟩, k6⟩
      rw [HZ.out]
      rw [rouse_twice] at k6
      have K6 := hide k6
      have H6 := hide (H5.out.kept p6 (by simpa using Ne.symm hne))
      have gr6 := p6.gr gr5 (by simpa using hn)
      clear k6 p6 K5 H5 gr5 HZ
      go_wp2_with (fail)
      refine (all_calls K6.out).mono ?_
      rintro e w7 ⟨⟨rfl, g7⟩, h7⟩
      have K7 := hide (K6.out.later g7)
      have H7 := hide (H6.out.later g7).ents
      have N7 := hide h7.ents
      have gr7 := gr6.trans g7
      generalize w6.heap.size = nb at N7 ⊢
      clear K6 H6 gr6 g7 h7
      go_wp2_with (fail)
      go_loopw [13, 14] (fun c i wr => ∃ k : Nat, k ≤ q.length ∧ i = .int .i64 k ∧ c = .int .i64 ((rouseL who (q.take k)).length : Int) ∧ Gr w7 wr) (fun _ i _ => q.length - (intOf i).toNat)
      case atStart => exact ⟨0, by omega, rfl, rfl, Gr.refl _⟩
      case round =>
        obtain ⟨k, hk, rfl, rfl, gr⟩ := hrel
        have hq8 := HL.out
        have hrl : (rouseL who (q.take k)).length ≤ 8 := by
          have := List.length_filter_le (fun x : Ent => !(x.a == who)) (q.take k)
          rw [List.length_take] at this
          unfold rouseL
          omega
        by_cases hlt : k < q.length
        · have hlt' : (k : Int) < q.length := by omega
          obtain ⟨b1, o1, e1, c1, c2⟩ := (H7.out.later gr).get hlt
          cases e1
          have HT := hide (rouse_take who q k hlt)
          have HG := hide (rouse_get who q k hlt)
          simp only [Nat.zero_add] at c1 c2
          by_cases hx : (q.getD k ent0).a = who
          · have HT2 : Hid (rouseL who (q.take (k + 1)) = rouseL who (q.take k)) := by have := HT.out; rw [if_pos hx] at this; exact this
            clear HT HG
            generalize q.getD k ent0 = x at c1 c2 hx
            subst hx
            have HL1 : Hid ((rouseL x.a (q.take (k + 1))).length = (rouseL x.a (q.take k)).length) := by show _ = _; rw [HT2.out]
            clear HT2
            generalize (rouseL x.a (q.take k)).length = c at hrl HL1 ⊢
            go_wp2_with (fail)
            exact ⟨⟨k + 1, by omega, by go_num, by rw [HL1.out], gr⟩, by simp [intOf]; omega⟩
          · have HT2 : Hid (rouseL who (q.take (k + 1)) = rouseL who (q.take k) ++ [q.getD k ent0]) := by have := HT.out; rw [if_neg hx] at this; exact this
            obtain ⟨hl1, hg1⟩ := HG.out hx
            obtain ⟨b2, o2, e2, d1, d2⟩ := (N7.out.later gr).get hl1
            rw [hg1] at d1 d2
            cases e2
            have HG1 := hide hg1
            clear HT HG hg1
            have hx' : ((q.getD k ent0).a == who) = false := by simpa using hx
            have HL1 : Hid ((rouseL who (q.take (k + 1))).length = (rouseL who (q.take k)).length + 1) := by show _ = _; rw [HT2.out]; simp
            have hl2 : ((rouseL who (q.take k)).length : Int) < ((rouseL who q).length : Int) := by omega
            clear HT2 HG1
            generalize q.getD k ent0 = x at c1 c2 d1 d2 hx'
            generalize (rouseL who (q.take k)).length = c at hrl hl1 hl2 d1 d2 HL1 ⊢
            simp only [Nat.zero_add] at d1 d2
            clear hx
            go_wp2_with (fail)
            go_quiet (fail)
            go_wp2_with (fail)
            exact ⟨⟨k + 1, by omega, by go_num, by rw [HL1.out]; simp, gr.drewN nq⟩, by simp [intOf]; omega⟩
        · obtain rfl : k = q.length := by omega
          rw [List.take_length]
          have HF : Hid (asleepV (findK who (rouseL who q)) = .tuple #[.int .i64 0, .bool false]) := by
            show asleepV _ = _
            rw [findK_idx, idx_roused, if_neg (Nat.lt_irrefl _)]
            rfl
          rw [List.take_length] at hrl
          have K8 := hide (K7.out.later gr)
          clear hk hlt
          go_wp2_with (fail)
          refine (asleep_calls K8.out who).mono ?_
          rintro e w8 ⟨rfl, g8⟩
          rw [HF.out]
          go_wp2_with (fail)
          go_ret
          exact ⟨rfl, gr7.trans (gr.trans g8)⟩
end Go.Proofs.Ytlcjobgnjmhokaa
