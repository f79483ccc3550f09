/-
  What a thread put out and which values a word got, by the document and by the program, a thread's places by the document, and whether words are the same. No condition but that the slices' cells hold the events and the words.
-/
import Derived.Test.YtfhplbmgjgfihaaCPur
import Derived.Test.YtfhplbmgjgfihaaOutW
import Derived.Deep.QuietTactic
import Derived.BigQuiet
namespace Go.Proofs.Ytfhplbmgjgfihaa
open Go.ChangeShapes Go.WideShapes Go.ChangeAt Go.RowKit
set_option linter.unusedVariables false
set_option maxRecDepth 20000

/-- what a thread put out -/
def outsF (t : Int) (l : List Ev) : List Int := (l.filter fun x => x.who == t && x.kind == 6).map fun x => x.value
theorem outsF_snoc (t : Int) (l : List Ev) (x : Ev) : outsF t (l ++ [x]) = if x.who = t ∧ x.kind = 6 then outsF t l ++ [x.value] else outsF t l := by
  by_cases h1 : x.who = t <;> by_cases h2 : x.kind = 6 <;> simp [outsF, h1, h2]
theorem outsF_len (t : Int) (l : List Ev) : (outsF t l).length ≤ l.length := by
  unfold outsF
  rw [List.length_map]
  exact List.length_filter_le _ _
theorem outs_same (t : Int) : ∀ (i : Nat) (l : List Ev) (hl : ∀ x ∈ l, EvOk x), outsI (plc t i l hl) = outsF t l
  | i, [], hl => rfl
  | i, x :: l, hl => by
    have ih := outs_same t (i + 1) l (fun y hy => hl y (List.mem_cons_of_mem _ hy))
    unfold plc
    by_cases h1 : x.who = t
    · rw [if_pos h1]
      by_cases h2 : x.kind = 6
      · simp only [outsI, outsF, List.filter_cons, h1, h2] at ih ⊢
        simp [ih]
      · simp only [outsI, outsF, List.filter_cons, h1] at ih ⊢
        simp [h2, ih]
    · rw [if_neg h1, ih]
      simp [outsF, h1]
/-- which values a word got -/
def valB (ad : Int) (x : Ev) : Bool := x.addr == ad && (x.kind == 3 || x.kind == 4 && x.ok)
def valsF (ad : Int) (l : List Ev) : List Int := (l.filter (valB ad)).map fun x => x.value
theorem valsF_snoc (ad : Int) (l : List Ev) (x : Ev) : valsF ad (l ++ [x]) = if valB ad x = true then valsF ad l ++ [x.value] else valsF ad l := by
  by_cases h : valB ad x = true <;> simp [valsF, h]
theorem valsF_len (ad : Int) (l : List Ev) : (valsF ad l).length ≤ l.length := by
  unfold valsF
  rw [List.length_map]
  exact List.length_filter_le _ _
/-- the places of a thread's events -/
def placF (t : Int) (l : List Ev) (hl : ∀ x ∈ l, EvOk x) : List Int := (plc t 0 l hl).map fun p => (p.pos : Int)

set_option maxHeartbeats 2000000 in
theorem routs_calls (a : Option Addr) (c : Nat) (l : List Ev) (hn : l.length ≤ 900) (t : Int) (w : World) (h : RowAt w a (flatOf evL l)) :
    Calls Try.prog 11 #[.slice a l.length c, .int .i64 t] w (WordsP w (outsF t l)) := by
  have HH := hide h
  have g0 := Gr.refl w
  clear h
  go_enter Try.func11, Try.ntmps11
  go_wp2_with (fail)
  go_loopw [5, 6] (fun v u wr => ∃ j : Nat, j ≤ l.length ∧ u = .int .i64 j ∧ WordsO wr w.heap.size v (outsF t (l.take j)) ∧ Gr w wr) (fun _ u _ => l.length - (intOf u).toNat)
  case atStart => exact ⟨0, by omega, rfl, own_nil _ _ _ _, g0⟩
  case round =>
    clear g0
    obtain ⟨j, hj, rfl, hs, g⟩ := hrel
    by_cases hlt : j < l.length
    · have hlt' : (j : Int) < l.length := by omega
      have rw1 := HH.out.later g
      obtain ⟨b, off, had, -⟩ := rw1.get (by rw [flatOf_length evL_len]; omega)
      subst had
      have c0 := rw1.cell evL_len hlt ev0 0 (by omega)
      have c1 := rw1.cell evL_len hlt ev0 1 (by omega)
      have c4 := rw1.cell evL_len hlt ev0 4 (by omega)
      have hT := take_snoc' hlt ev0
      generalize l.getD j ev0 = x at c0 c1 c4 hT
      simp only [evL, List.getElem?_cons_zero, List.getElem?_cons_succ, Nat.add_zero, ← Nat.add_assoc] at c0 c1 c4
      have HT := hide (show outsF t (l.take (j + 1)) = if x.who = t ∧ x.kind = 6 then outsF t (l.take j) ++ [x.value] else outsF t (l.take j) by rw [hT, outsF_snoc])
      have hlen := outsF_len t (l.take j)
      rw [List.length_take] at hlen
      have hlen' : (outsF t (l.take j)).length ≤ 900 := by omega
      clear hlen hT rw1
      generalize outsF t (l.take j) = o at hs HT hlen'
      obtain ⟨va, vc, rfl, -⟩ := own_at hs
      by_cases h1 : x.who = t
      · have h1' : (x.who == t) = true := by simpa using h1
        by_cases h6 : x.kind = 6
        · have h6' : (x.kind == 6) = true := by simpa using h6
          have HE := hide (HT.out.trans (if_pos ⟨h1, h6⟩))
          clear h1 h6 HT
          obtain ⟨v', w2, hra, ho, hg, hob⟩ := app_rec (T := 25) (ty := 25) wordL_len wordL_one Try.underlying25 infoWrd rfl (by omega) (by omega) hs x.value #[.int .u32 x.value] rfl (by omega) g.size
          have HRA := hide hra
          have HO := hide ho
          have g2 := grown_gr (g.alloc #[.int .u32 x.value] 33) (own_later hs ((Gr.refl wr).alloc #[.int .u32 x.value] 33)) hg (Nat.le_refl _)
          clear hra ho hg hob
          go_wp2_with (first
            | (refine step_app rfl (some 35) rfl _ _ _ rfl (.slice va o.length vc) (.slice (some ⟨wr.heap.size, 0, none⟩) 1 1) rfl rfl v' w2 (by exact HRA.out) ?_))
          exact ⟨⟨j + 1, by omega, by go_num, by rw [HE.out]; exact HO.out, g2⟩, by simp [intOf]; omega⟩
        · have h6' : (x.kind == 6) = false := by simpa using h6
          have HE := hide (HT.out.trans (if_neg (fun q => h6 q.2)))
          clear h1 h6 HT
          go_wp2_with (fail)
          exact ⟨⟨j + 1, by omega, by go_num, by rw [HE.out]; exact hs, g⟩, by simp [intOf]; omega⟩
      · have h1' : (x.who == t) = false := by simpa using h1
        have HE := hide (HT.out.trans (if_neg (fun q => h1 q.1)))
        clear h1 HT
        go_wp2_with (fail)
        exact ⟨⟨j + 1, by omega, by go_num, by rw [HE.out]; exact hs, g⟩, by simp [intOf]; omega⟩
    · obtain rfl : j = l.length := by omega
      rw [List.take_length] at hs
      have HS := hide hs
      clear hs
      go_wp2_with (fail)
      go_ret
      exact ⟨_, ⟨rfl, HS.out⟩, g⟩

theorem val_cases (x : Ev) (ad : Int) : ((x.addr == ad) = false ∧ valB ad x = false) ∨ (((x.addr == ad) = true ∧ (x.kind == 3) = false ∧ (x.kind == 4) = false) ∧ valB ad x = false) ∨ (((x.addr == ad) = true ∧ (x.kind == 3) = false ∧ (x.kind == 4) = true ∧ x.ok = false) ∧ valB ad x = false) ∨
    (((x.addr == ad) = true ∧ (x.kind == 3) = true) ∧ valB ad x = true) ∨ (((x.addr == ad) = true ∧ (x.kind == 3) = false ∧ (x.kind == 4) = true ∧ x.ok = true) ∧ valB ad x = true) := by
  unfold valB
  cases x.addr == ad <;> cases x.kind == 3 <;> cases x.kind == 4 <;> cases x.ok <;> simp

set_option maxHeartbeats 4000000 in
theorem rvals_calls (a : Option Addr) (c : Nat) (l : List Ev) (hn : l.length ≤ 900) (ad : Int) (w : World) (h : RowAt w a (flatOf evL l)) :
    Calls Try.prog 13 #[.slice a l.length c, .int .i64 ad] w (WordsP w (valsF ad l)) := by
  have HH := hide h
  have g0 := Gr.refl w
  clear h
  go_enter Try.func13, Try.ntmps13
  go_wp2_with (fail)
  go_loopw [5, 6] (fun v u wr => ∃ j : Nat, j ≤ l.length ∧ u = .int .i64 j ∧ WordsO wr w.heap.size v (valsF ad (l.take j)) ∧ Gr w wr) (fun _ u _ => l.length - (intOf u).toNat)
  case atStart => exact ⟨0, by omega, rfl, own_nil _ _ _ _, g0⟩
  case round =>
    clear g0
    obtain ⟨j, hj, rfl, hs, g⟩ := hrel
    by_cases hlt : j < l.length
    · have hlt' : (j : Int) < l.length := by omega
      have rw1 := HH.out.later g
      obtain ⟨b, off, had, -⟩ := rw1.get (by rw [flatOf_length evL_len]; omega)
      subst had
      have c0 := rw1.cell evL_len hlt ev0 0 (by omega)
      have c3 := rw1.cell evL_len hlt ev0 3 (by omega)
      have c4 := rw1.cell evL_len hlt ev0 4 (by omega)
      have c7 := rw1.cell evL_len hlt ev0 7 (by omega)
      have hT := take_snoc' hlt ev0
      generalize l.getD j ev0 = x at c0 c3 c4 c7 hT
      simp only [evL, List.getElem?_cons_zero, List.getElem?_cons_succ, Nat.add_zero, ← Nat.add_assoc] at c0 c3 c4 c7
      have HT := hide (show valsF ad (l.take (j + 1)) = if valB ad x = true then valsF ad (l.take j) ++ [x.value] else valsF ad (l.take j) by rw [hT, valsF_snoc])
      have hlen := valsF_len ad (l.take j)
      rw [List.length_take] at hlen
      have hlen' : (valsF ad (l.take j)).length ≤ 900 := by omega
      clear hlen hT rw1
      generalize valsF ad (l.take j) = o at hs HT hlen'
      obtain ⟨va, vc, rfl, -⟩ := own_at hs
      rcases val_cases x ad with ⟨h1, hv⟩ | ⟨⟨h1, h3, h4⟩, hv⟩ | ⟨⟨h1, h3, h4, hok⟩, hv⟩ | ⟨⟨h1, h3⟩, hv⟩ | ⟨⟨h1, h3, h4, hok⟩, hv⟩
      rotate_left 3
      all_goals try
        (have HE := hide (HT.out.trans (if_pos hv))
         clear hv HT
         obtain ⟨v', w2, hra, ho, hg, hob⟩ := app_rec (T := 25) (ty := 25) wordL_len wordL_one Try.underlying25 infoWrd rfl (by omega) (by omega) hs x.value #[.int .u32 x.value] rfl (by omega) g.size
         have HRA := hide hra
         have HO := hide ho
         have g2 := grown_gr (g.alloc #[.int .u32 x.value] 33) (own_later hs ((Gr.refl wr).alloc #[.int .u32 x.value] 33)) hg (Nat.le_refl _)
         clear hra ho hg hob
         go_wp2_with (first
           | (refine step_app rfl (some 50) rfl _ _ _ rfl (.slice va o.length vc) (.slice (some ⟨wr.heap.size, 0, none⟩) 1 1) rfl rfl v' w2 (by exact HRA.out) ?_))
         exact ⟨⟨j + 1, by omega, by go_num, by rw [HE.out]; exact HO.out, g2⟩, by simp [intOf]; omega⟩)
      all_goals
        (have HE := hide (HT.out.trans (if_neg (by rw [hv]; decide)))
         clear hv HT
         go_wp2_with (fail)
         exact ⟨⟨j + 1, by omega, by go_num, by rw [HE.out]; exact hs, g⟩, by simp [intOf]; omega⟩)
    · obtain rfl : j = l.length := by omega
      rw [List.take_length] at hs
      have HS := hide hs
      clear hs
      go_wp2_with (fail)
      go_ret
      exact ⟨_, ⟨rfl, HS.out⟩, g⟩
end Go.Proofs.Ytfhplbmgjgfihaa
