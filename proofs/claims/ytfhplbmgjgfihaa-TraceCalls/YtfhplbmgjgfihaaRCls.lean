/-
  The document's calls, of any events. No condition but that the slice's cells hold the events.
-/
import Derived.Test.YtfhplbmgjgfihaaROne
import Derived.Test.YtfhplbmgjgfihaaClsW
namespace Go.Proofs.Ytfhplbmgjgfihaa
open Go.ChangeShapes Go.WideShapes Go.ChangeAt Go.RowKit
set_option linter.unusedVariables false
set_option maxRecDepth 20000

abbrev RlsO (w : World) (base : Nat) (v : Value) (l : List Cl) : Prop := w.ownsRow base 44 6 v l.length (flatOf clL l)
theorem refF_cons (i : Nat) (x : Ev) (r : List Ev) : refF i (x :: r) = if beg8 x = true then oneF (begE x i) (i + 1) r :: refF (i + 1) r else refF (i + 1) r := by
  conv => lhs; unfold refF

set_option maxHeartbeats 4000000 in
theorem rcalls_calls (a : Option Addr) (c : Nat) (l : List Ev) (hl : ∀ x ∈ l, EvOk x) (hn : l.length ≤ 900) (w : World) (h : RowAt w a (flatOf evL l)) :
    Calls Try.prog 18 #[.slice a l.length c] w (ClsP w (refF 0 l)) := by
  have HH := hide h
  have HC : Hid (∀ (u : World) (i : Nat), i < l.length → Gr w u → Calls Try.prog 24 #[.slice a l.length c, .int .i64 i] u (OneP u (oneF (begE (l.getD i ev0) i) (i + 1) (l.drop (i + 1))))) := fun u i hi g => one_calls a c l hl hn i hi u (h.later g)
  have g0 := Gr.refl w
  clear h
  go_enter Try.func18, Try.ntmps18
  go_wp2_with (fail)
  go_loopw [3, 4] (fun v u wr => ∃ (j : Nat) (cs : List Cl), j ≤ l.length ∧ u = .int .i64 j ∧ RlsO wr w.heap.size v cs ∧ (∀ k ∈ cs, NumsO wr w.heap.size (slI k) k.q.inner) ∧ Hid (cs.map (·.q) ++ refF j (l.drop j) = refF 0 l) ∧ cs.length ≤ j ∧ Gr w wr) (fun _ u _ => l.length - (intOf u).toNat)
  case atStart => exact ⟨0, [], by omega, rfl, own_nil _ _ _ _, (fun k h => absurd h List.not_mem_nil), rfl, Nat.le_refl _, g0⟩
  case round =>
    clear g0
    obtain ⟨j, cs, hj, rfl, hs, hi, hq, hcl, g⟩ := hrel
    have HI := hide hi
    clear hi
    by_cases hlt : j < l.length
    · have hlt' : (j : Int) < l.length := by omega
      obtain ⟨x, hx, hok⟩ : ∃ x, l.getD j ev0 = x ∧ EvOk x := ⟨_, rfl, hl _ (mem_getD hlt ev0)⟩
      have rw1 := HH.out.later g
      obtain ⟨b, off, had, -⟩ := rw1.get (by rw [flatOf_length evL_len]; omega)
      subst had
      have c0 := rw1.cell evL_len hlt ev0 0 (by omega)
      have c1 := rw1.cell evL_len hlt ev0 1 (by omega)
      have c6 := rw1.cell evL_len hlt ev0 6 (by omega)
      have HC1 := HC.out wr j hlt g
      rw [hx] at c0 c1 c6 HC1
      simp only [evL, List.getElem?_cons_zero, List.getElem?_cons_succ, Nat.add_zero, ← Nat.add_assoc] at c0 c1 c6
      have hq' := hq.out
      rw [drop_getD hlt, hx, refF_cons] at hq'
      have HC2 := hide HC1
      have HQ := hide hq'
      clear rw1 hq hx HC HC1 hq'
      obtain ⟨hk1, hk2⟩ := hok
      by_cases h8 : beg8 x = true
      · have HQ1 := HQ.out
        rw [if_pos h8] at HQ1
        have h8' := h8
        simp only [beg8, Bool.and_eq_true, decide_eq_true_eq, beq_iff_eq] at h8'
        obtain ⟨⟨⟨h7, h2⟩, hp⟩, hw8⟩ := h8'
        have h7' : (x.kind == 7) = true := by simpa using h7
        have h2' : (x.k % 2 == 0) = true := by simpa using h2
        have HQ2 := hide HQ1
        clear h7 h2 h8 HQ HQ1
        obtain ⟨va, vc, rfl, -⟩ := own_at hs
        go_wp2_with (fail)
        refine HC2.out.mono ?_
        rintro e w1 ⟨d, ⟨rfl, hd⟩, hdq, g1⟩
        have hs1 := own_later hs g1
        obtain ⟨v', w2, hra, ho, hg, hob⟩ := app_rec (T := 40) (ty := 40) clL_len clL_one Try.underlying40 infoR rfl (by omega) (by omega) hs1 d (clA d) rfl (by omega) (Nat.le_trans g.size g1.size)
        obtain ⟨M, hM⟩ : ∃ M, (cs ++ [d]).length = M := ⟨_, rfl⟩
        rw [hM] at ho
        have HM := hide hM
        clear hM
        obtain ⟨wa, wc, rfl, -⟩ := own_at ho
        have HRA := hide hra
        have g2 : Gr w w2 := grown_gr ((g.trans g1).alloc (clA d) 44) (own_later hs1 ((Gr.refl w1).alloc (clA d) 44)) hg (Nat.le_refl _)
        have hkeep : ∀ k : Cl, NumsO w1 w.heap.size (slI k) k.q.inner → NumsO w2 w.heap.size (slI k) k.q.inner := fun k hk => own_kept (own_later hk ((Gr.refl w1).alloc (clA d) 44)) (Kp.grown hg) (fun y h1 h2 => by
          obtain ⟨D, hD⟩ := own_has hs1 h2
          obtain ⟨E, hE⟩ := own_has hk (mem_ob.2 h1)
          exact hE.apart hD (by decide) rfl)
        have HK := hide hkeep
        have HO := hide ho
        have HD := hide hd
        have HDQ := hide hdq
        have hz := g.size
        clear hra ho hg hob hs1 hkeep hd hdq
        go_wp2_with (first
          | (refine step_app rfl (some 47) rfl _ _ _ rfl (.slice va cs.length vc) (.slice (some ⟨w1.heap.size, 0, none⟩) 1 1) rfl rfl (.slice wa M wc) w2 (by exact HRA.out) ?_))
        refine ⟨⟨j + 1, cs ++ [d], by omega, by go_num, ?_, ?_, ?_, by rw [List.length_append, List.length_cons, List.length_nil]; omega, g2⟩, by simp [intOf]; omega⟩
        · show World.ownsRow _ _ _ _ _ (cs ++ [d]).length _
          rw [HM.out]; exact HO.out
        · intro k hk
          rcases List.mem_append.1 hk with hk | hk
          · exact HK.out k (own_later (HI.out k hk) g1)
          · rw [List.mem_singleton.1 hk]
            exact HK.out d (own_lower HD.out hz)
        · show (cs ++ [d]).map (·.q) ++ _ = _
          rw [← HQ2.out, List.map_append, List.map_cons, List.map_nil, HDQ.out, List.append_assoc]
          rfl
      · have HQ1 := HQ.out
        rw [if_neg h8] at HQ1
        have HQ2 := hide HQ1
        clear HQ1 HQ
        by_cases h7 : x.kind = 7
        · have h7' : (x.kind == 7) = true := by simpa using h7
          by_cases h2 : x.k % 2 = 0
          · have h2' : (x.k % 2 == 0) = true := by simpa using h2
            have hn8 : x.who < 0 ∨ 8 ≤ x.who := by
              simp [beg8, h7, h2] at h8
              omega
            clear h7 h2 h8
            rcases hn8 with h | h
            · have hp : ¬ 0 ≤ x.who := by omega
              go_wp2_with (fail)
              exact ⟨⟨j + 1, cs, by omega, by go_num, hs, HI.out, HQ2.out, by omega, g⟩, by simp [intOf]; omega⟩
            · have hp : 0 ≤ x.who := by omega
              have hp2 : ¬ x.who < 8 := by omega
              go_wp2_with (fail)
              exact ⟨⟨j + 1, cs, by omega, by go_num, hs, HI.out, HQ2.out, by omega, g⟩, by simp [intOf]; omega⟩
          · have h2' : (x.k % 2 == 0) = false := by simpa using h2
            clear h7 h2 h8
            go_wp2_with (fail)
            exact ⟨⟨j + 1, cs, by omega, by go_num, hs, HI.out, HQ2.out, by omega, g⟩, by simp [intOf]; omega⟩
        · have h7' : (x.kind == 7) = false := by simpa using h7
          clear h7 h8
          go_wp2_with (fail)
          exact ⟨⟨j + 1, cs, by omega, by go_num, hs, HI.out, HQ2.out, by omega, g⟩, by simp [intOf]; omega⟩
    · obtain rfl : j = l.length := by omega
      have hqq := hq.out
      rw [List.drop_length] at hqq
      have HQ := hide (show cs.map (·.q) = refF 0 l by rw [← hqq]; simp [refF])
      clear hq hqq
      obtain ⟨va, vc, rfl, hrow, -⟩ := own_at hs
      have HR := hide hrow
      clear hrow
      go_wp2_with (fail)
      go_ret
      exact ⟨cs, va, vc, ⟨⟨rfl, HR.out⟩, HI.out, HQ.out⟩, g⟩
end Go.Proofs.Ytfhplbmgjgfihaa
