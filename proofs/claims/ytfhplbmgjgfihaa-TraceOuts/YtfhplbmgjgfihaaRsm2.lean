/-
  Which values a word got, by the program. No condition but that the slices' cells hold the events and the words.
-/
import Derived.Test.YtfhplbmgjgfihaaRsml
import Derived.Deep.CutRange
namespace Go.Proofs.Ytfhplbmgjgfihaa
open Go.ChangeShapes Go.WideShapes Go.ChangeAt Go.RowKit
set_option linter.unusedVariables false
set_option maxRecDepth 20000

set_option maxHeartbeats 4000000 in
theorem vals_calls (a : Option Addr) (c : Nat) (l : List Ev) (hn : l.length ≤ 900) (ad : Int) (w : World) (h : RowAt w a (flatOf evL l)) :
    Calls Try.prog 12 #[.slice a l.length c, .int .i64 ad] w (WordsP w (valsF ad l)) := by
  have HH := hide h
  have g0 := Gr.refl w
  clear h
  go_enter Try.func12, Try.ntmps12
  go_wp2_with (fail)
  go_loopw [5, 10] (fun v u wr => ∃ j : Nat, j ≤ l.length ∧ u = .int .i64 j ∧ WordsO wr w.heap.size v (valsF ad (l.take j)) ∧ Gr w wr) (fun _ u _ => l.length - (intOf u).toNat)
  case atStart => exact ⟨0, by omega, rfl, own_nil _ _ _ _, g0⟩
  case round =>
    clear g0
    obtain ⟨j, hj, rfl, hs, g⟩ := hrel
    by_cases hlt : j < l.length
    · have hlt' : (j : Int) < l.length := by omega
      have rw1 := HH.out.later g
      obtain ⟨b, off, had, -⟩ := rw1.get (by rw [flatOf_length evL_len]; omega)
      subst had
      have c0 := rw1.cell evL_len hlt ev0 0 (by omega)
      have c1 := rw1.cell evL_len hlt ev0 1 (by omega)
      have c2 := rw1.cell evL_len hlt ev0 2 (by omega)
      have c3 := rw1.cell evL_len hlt ev0 3 (by omega)
      have c4 := rw1.cell evL_len hlt ev0 4 (by omega)
      have c5 := rw1.cell evL_len hlt ev0 5 (by omega)
      have c6 := rw1.cell evL_len hlt ev0 6 (by omega)
      have c7 := rw1.cell evL_len hlt ev0 7 (by omega)
      have hT := take_snoc' hlt ev0
      generalize l.getD j ev0 = x at c0 c1 c2 c3 c4 c5 c6 c7 hT
      simp only [evL, List.getElem?_cons_zero, List.getElem?_cons_succ, Nat.add_zero, ← Nat.add_assoc] at c0 c1 c2 c3 c4 c5 c6 c7
      have HT := hide (show valsF ad (l.take (j + 1)) = if valB ad x = true then valsF ad (l.take j) ++ [x.value] else valsF ad (l.take j) by rw [hT, valsF_snoc])
      have hlen := valsF_len ad (l.take j)
      rw [List.length_take] at hlen
      have hlen' : (valsF ad (l.take j)).length ≤ 900 := by omega
      clear hlen hT rw1
      generalize valsF ad (l.take j) = o at hs HT hlen'
      obtain ⟨va, vc, rfl, -⟩ := own_at hs
      go_upto_region 5 with (fail)
      have he := Has.new wr (evA x) 35
      have g1 := g.alloc (evA x) 35
      have hs1 := own_later hs ((Gr.refl wr).alloc (evA x) 35)
      change Code.wp _ _ _ _ (wr.alloc (.cells (evA x) 35))
      clear c0 c1 c2 c3 c4 c5 c6 c7 hs g
      generalize wr.alloc (.cells (evA x) 35) = w1 at he g1 hs1 ⊢
      generalize wr.heap.size = eb at he ⊢
      have k0 := he.cell (o := 0) (v := .int .i64 x.kind) rfl
      have k3 := he.cell (o := 3) (v := .int .i64 x.addr) rfl
      have k4 := he.cell (o := 4) (v := .int .u32 x.value) rfl
      have k7 := he.cell (o := 7) (v := .bool x.ok) rfl
      clear he
      rcases val_cases x ad with ⟨h1, hv⟩ | ⟨⟨h1, h3, h4⟩, hv⟩ | ⟨⟨h1, h3, h4, hok⟩, hv⟩ | ⟨⟨h1, h3⟩, hv⟩ | ⟨⟨h1, h3, h4, hok⟩, hv⟩
      rotate_left 3
      all_goals try
        (have HE := hide (HT.out.trans (if_pos hv))
         clear hv HT
         obtain ⟨v', w2, hra, ho, hg, hob⟩ := app_rec (T := 25) (ty := 25) wordL_len wordL_one Try.underlying25 infoWrd rfl (by omega) (by omega) hs1 x.value #[.int .u32 x.value] rfl (by omega) g1.size
         have HRA := hide hra
         have HO := hide ho
         have g2 := grown_gr (g1.alloc #[.int .u32 x.value] 33) (own_later hs1 ((Gr.refl w1).alloc #[.int .u32 x.value] 33)) hg (Nat.le_refl _)
         clear hra ho hg hob
         go_wp2_with (first
           | (refine step_app rfl (some 36) rfl _ _ _ rfl (.slice va o.length vc) (.slice (some ⟨w1.heap.size, 0, none⟩) 1 1) rfl rfl v' w2 (by exact HRA.out) ?_))
         exact ⟨⟨j + 1, by omega, by go_num, by rw [HE.out]; exact HO.out, g2⟩, by simp [intOf]; omega⟩)
      all_goals
        (have HE := hide (HT.out.trans (if_neg (by rw [hv]; decide)))
         clear hv HT
         go_wp2_with (fail)
         exact ⟨⟨j + 1, by omega, by go_num, by rw [HE.out]; exact hs1, g1⟩, by simp [intOf]; omega⟩)
    · obtain rfl : j = l.length := by omega
      rw [List.take_length] at hs
      have HS := hide hs
      clear hs
      go_wp2_with (fail)
      go_ret
      exact ⟨_, ⟨rfl, HS.out⟩, g⟩

end Go.Proofs.Ytfhplbmgjgfihaa
