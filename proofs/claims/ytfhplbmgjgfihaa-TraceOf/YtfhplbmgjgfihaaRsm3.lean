/-
  A thread's places by the document; whether words are the same. No condition but that the slices' cells hold the events and the words.
-/
import Derived.Test.YtfhplbmgjgfihaaRsml
import Derived.Deep.CutRange
namespace Go.Proofs.Ytfhplbmgjgfihaa
open Go.ChangeShapes Go.WideShapes Go.ChangeAt Go.RowKit
set_option linter.unusedVariables false
set_option maxRecDepth 20000

/-- places of one's own that are answered -/
def NumsP (w : World) (l : List Int) (r : Ending) (w' : World) : Prop := ∃ v, (r = .returned v ∧ NumsO w' w.heap.size v l) ∧ Gr w w'
set_option maxHeartbeats 4000000 in
theorem rof_calls (a : Option Addr) (c : Nat) (l : List Ev) (hl : ∀ x ∈ l, EvOk x) (hn : l.length ≤ 900) (t : Int) (w : World) (h : RowAt w a (flatOf evL l)) :
    Calls Try.prog 14 #[.slice a l.length c, .int .i64 t] w (NumsP w (placF t l hl)) := by
  have HH := hide h
  have g0 := Gr.refl w
  clear h
  go_enter Try.func14, Try.ntmps14
  go_wp2_with (fail)
  go_loopw [5, 6] (fun v u wr => ∃ j : Nat, j ≤ l.length ∧ u = .int .i64 j ∧ NumsO wr w.heap.size v (placF t (l.take j) (fun x hx => hl x (List.mem_of_mem_take hx))) ∧ Gr w wr) (fun _ u _ => l.length - (intOf u).toNat)
  case atStart => exact ⟨0, by omega, rfl, own_nil _ _ _ _, g0⟩
  case round =>
    clear g0
    obtain ⟨j, hj, rfl, hs, g⟩ := hrel
    by_cases hlt : j < l.length
    · have hlt' : (j : Int) < l.length := by omega
      have rw1 := HH.out.later g
      obtain ⟨b, off, had, -⟩ := rw1.get (by rw [flatOf_length evL_len]; omega)
      subst had
      have c1 := rw1.cell evL_len hlt ev0 1 (by omega)
      have hT := take_snoc' hlt ev0
      obtain ⟨x, hx, hm⟩ : ∃ x, l.getD j ev0 = x ∧ EvOk x := ⟨_, rfl, hl _ (mem_getD hlt ev0)⟩
      rw [hx] at c1 hT
      simp only [evL, List.getElem?_cons_zero, List.getElem?_cons_succ, ← Nat.add_assoc] at c1
      have HT : Hid (∀ h, placF t (l.take (j + 1)) h = placF t (l.take j) (fun x hx => hl x (List.mem_of_mem_take hx)) ++ if x.who = t then [(j : Int)] else []) := by
        intro h
        have e := plc_snoc t 0 (l.take j) x (by rw [← hT]; exact h) (fun x hx => hl x (List.mem_of_mem_take hx)) hm
        rw [Nat.zero_add, List.length_take, Nat.min_eq_left hj] at e
        have e2 : plc t 0 (l.take (j + 1)) h = plc t 0 (l.take j ++ [x]) (by rw [← hT]; exact h) := by congr 1
        unfold placF
        rw [e2, e, List.map_append]
        split <;> rfl
      have hlen := plc_len t 0 (l.take j) (fun x hx => hl x (List.mem_of_mem_take hx))
      rw [List.length_take] at hlen
      have hlen' : (placF t (l.take j) (fun x hx => hl x (List.mem_of_mem_take hx))).length ≤ 900 := by unfold placF; rw [List.length_map]; omega
      clear hlen hT rw1 hx
      generalize placF t (l.take j) (fun x hx => hl x (List.mem_of_mem_take hx)) = o at hs HT hlen'
      obtain ⟨va, vc, rfl, -⟩ := own_at hs
      by_cases h1 : x.who = t
      · have h1' : (x.who == t) = true := by simpa using h1
        have HE : Hid (∀ h, placF t (l.take (j + 1)) h = o ++ [(j : Int)]) := fun h => by rw [HT.out h, if_pos h1]
        clear h1 HT
        obtain ⟨v', w2, hra, ho, hg, hob⟩ := app_rec (T := 28) (ty := 28) numL_len numL_one Try.underlying28 infoNum rfl (by omega) (by omega) hs (j : Int) #[.int .i64 j] rfl (by omega) g.size
        have HRA := hide hra
        have HO := hide ho
        have g2 := grown_gr (g.alloc #[.int .i64 j] 3) (own_later hs ((Gr.refl wr).alloc #[.int .i64 j] 3)) hg (Nat.le_refl _)
        clear hra ho hg hob
        go_wp2_with (first
          | (refine step_app rfl (some 23) rfl _ _ _ rfl (.slice va o.length vc) (.slice (some ⟨wr.heap.size, 0, none⟩) 1 1) rfl rfl v' w2 (by exact HRA.out) ?_))
        exact ⟨⟨j + 1, by omega, by go_num, by rw [HE.out]; exact HO.out, g2⟩, by simp [intOf]; omega⟩
      · have h1' : (x.who == t) = false := by simpa using h1
        have HE : Hid (∀ h, placF t (l.take (j + 1)) h = o) := fun h => by rw [HT.out h, if_neg h1, List.append_nil]
        clear h1 HT
        go_wp2_with (fail)
        exact ⟨⟨j + 1, by omega, by go_num, by rw [HE.out]; exact hs, g⟩, by simp [intOf]; omega⟩
    · obtain rfl : j = l.length := by omega
      have e : placF t (l.take l.length) (fun x hx => hl x (List.mem_of_mem_take hx)) = placF t l hl := by unfold placF; congr 2; exact List.take_length
      rw [e] at hs
      have HS := hide hs
      clear hs e
      go_wp2_with (fail)
      go_ret
      exact ⟨_, ⟨rfl, HS.out⟩, g⟩

/-- the same words -/
theorem words_same (a b : Option Addr) (c d : Nat) (l : List Int) (hn : l.length ≤ 100000) (w : World) (h : RowAt w a (flatOf wordL l)) (k : RowAt w b (flatOf wordL l)) :
    Calls Try.prog 9 #[.slice a l.length c, .slice b l.length d] w fun e w' => e = .returned (.bool true) ∧ Gr w w' := by
  have HA := hide h
  have HB := hide k
  have g0 := Gr.refl w
  clear h k
  go_enter Try.func9, Try.ntmps9
  go_wp2_with (fail)
  go_loopw [5] (fun u wr => ∃ j : Nat, j ≤ l.length ∧ u = .int .i64 j ∧ Gr w wr) (fun u _ => l.length - (intOf u).toNat)
  case atStart => exact ⟨0, by omega, rfl, g0⟩
  case round =>
    clear g0
    obtain ⟨j, hj, rfl, g⟩ := hrel
    by_cases hlt : j < l.length
    · have hlt' : (j : Int) < l.length := by omega
      have ha := HA.out.later g.drew
      have hb := HB.out.later g.drew
      obtain ⟨ba, oa, hra, -⟩ := ha.get (by rw [flatOf_length wordL_len]; omega)
      obtain ⟨bb, ob', hrb, -⟩ := hb.get (by rw [flatOf_length wordL_len]; omega)
      subst hra hrb
      have ca := ha.cell wordL_len hlt 0 0 (by omega)
      have cb := hb.cell wordL_len hlt 0 0 (by omega)
      generalize l.getD j 0 = x at ca cb
      simp only [wordL, List.getElem?_cons_zero, Nat.add_zero, Nat.mul_one] at ca cb
      have hj2 : ¬ (j : Int) < 0 := by omega
      clear ha hb
      go_wp2_with (fail)
      refine begin_late 9 [] (fun w' => w' = wr.drew) (by kernel_rfl) rfl ?_
      have hH : wr.drew = wr.drew := rfl
      refine AnyL.takeP 0 (some 17) (.slice (some ⟨ba, oa, none⟩) l.length c) rfl rfl (by kernel_rfl) (by kernel_rfl) (by kernel_rfl) (by kernel_rfl) (fun _ _ _ h => h) (by kernel_rfl) (fun w' => by go_simp) (fun _ => hH) ?_
      simp only [Act.put, List.setIfInBounds_toArray, List.set_cons_zero, List.set_cons_succ]
      refine AnyL.takeP 1 (some 18) (.int .i64 j) rfl rfl (by kernel_rfl) (by kernel_rfl) (by kernel_rfl) (by kernel_rfl) (fun _ _ _ h => h) (by kernel_rfl) (fun w' => by go_simp) (fun _ => hH) ?_
      simp only [Act.put, List.setIfInBounds_toArray, List.set_cons_zero, List.set_cons_succ]
      refine AnyL.takeP 2 (some 19) (.pointer (some ⟨ba, oa + j, none⟩)) rfl rfl (by kernel_rfl) (by kernel_rfl) (by kernel_rfl) (by kernel_rfl) (fun _ _ _ h => h) (by kernel_rfl) (fun w' => by go_simp) (fun _ => hH) ?_
      simp only [Act.put, List.setIfInBounds_toArray, List.set_cons_zero, List.set_cons_succ]
      refine AnyL.take 3 (some 20) (.int .u32 x) rfl rfl (by kernel_rfl) (by kernel_rfl) (by kernel_rfl) (by kernel_rfl) (fun _ _ _ h => h) (yields_held _ (by kernel_rfl) (fun w' hw' => by subst hw'; go_simp)) hH ?_
      simp only [Act.put, List.setIfInBounds_toArray, List.set_cons_zero, List.set_cons_succ]
      refine AnyL.takeP 4 (some 21) (.slice (some ⟨bb, ob', none⟩) l.length d) rfl rfl (by kernel_rfl) (by kernel_rfl) (by kernel_rfl) (by kernel_rfl) (fun _ _ _ h => h) (by kernel_rfl) (fun w' => by go_simp) (fun _ => hH) ?_
      simp only [Act.put, List.setIfInBounds_toArray, List.set_cons_zero, List.set_cons_succ]
      refine AnyL.takeP 5 (some 22) (.int .i64 j) rfl rfl (by kernel_rfl) (by kernel_rfl) (by kernel_rfl) (by kernel_rfl) (fun _ _ _ h => h) (by kernel_rfl) (fun w' => by go_simp) (fun _ => hH) ?_
      simp only [Act.put, List.setIfInBounds_toArray, List.set_cons_zero, List.set_cons_succ]
      refine AnyL.takeP 6 (some 23) (.pointer (some ⟨bb, ob' + j, none⟩)) rfl rfl (by kernel_rfl) (by kernel_rfl) (by kernel_rfl) (by kernel_rfl) (fun _ _ _ h => h) (by kernel_rfl) (fun w' => by go_simp) (fun _ => hH) ?_
      simp only [Act.put, List.setIfInBounds_toArray, List.set_cons_zero, List.set_cons_succ]
      refine AnyL.take 7 (some 24) (.int .u32 x) rfl rfl (by kernel_rfl) (by kernel_rfl) (by kernel_rfl) (by kernel_rfl) (fun _ _ _ h => h) (yields_held _ (by kernel_rfl) (fun w' hw' => by subst hw'; go_simp)) hH ?_
      simp only [Act.put, List.setIfInBounds_toArray, List.set_cons_zero, List.set_cons_succ]
      refine AnyL.takeP 8 (some 25) (.bool false) rfl rfl (by kernel_rfl) (by kernel_rfl) (by kernel_rfl) (by kernel_rfl) (fun _ _ _ h => h) (by kernel_rfl) (fun w' => by go_simp) (fun _ => hH) ?_
      simp only [Act.put, List.setIfInBounds_toArray, List.set_cons_zero, List.set_cons_succ]
      refine AnyL.done (by kernel_rfl) ?_
      clear ca cb hH
      go_wp2_with (fail)
      exact ⟨⟨j + 1, by omega, by go_num, g.drew⟩, by simp [intOf]; omega⟩
    · obtain rfl : j = l.length := by omega
      go_wp2_with (fail)
      go_ret
      exact ⟨rfl, g⟩
end Go.Proofs.Ytfhplbmgjgfihaa
