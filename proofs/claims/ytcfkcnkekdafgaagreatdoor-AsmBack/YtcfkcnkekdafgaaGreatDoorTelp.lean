/-
  For any line in memory whose fields are right, in any world in which the tables are laid: what (*line).tell answers. Memory grows alone.
-/
import Derived.Test.YtcfkcnkekdafgaaGreatDoorTelo
namespace Go.Proofs.YtcfkcnkekdafgaaGreatDoor
open Go.ChangeShapes Go.WideShapes Go.ChangeAt Go.RowKit
set_option linter.unusedVariables false

set_option maxRecDepth 100000 in
set_option maxHeartbeats 2000000 in
theorem tline_calls (g op a b c k : Nat) (t : ByteArray) (w : World) (hB : LinAt w g op a b c k t) (hn : op < 28) (ok : ∀ x ∈ wk op, TellOk x a b c k) (L : Laid w) (hp : Pow w) :
    Calls Tryz.prog 35 #[.pointer (some ⟨g, 0, none⟩)] w fun e w' => e = .returned (.string ⟨(Lib.join (toldL op a b c k (wk op)) [32]).toArray⟩) ∧ Gr w w' := by
  obtain ⟨i1, hi1, hz10, hz11, hz12⟩ := info_parts infoS
  have hk3 := wk_len ⟨op, hn⟩
  have hk6 := wk_lt ⟨op, hn⟩
  simp only at hk3 hk6
  have HSH := hide (told_short (a := a) (b := b) (c := c) (k := k) hn (wk op))
  have HNM : Hid (Value.string (nameB op) = strV (nameB op).data.toList) := by show _ = _; cases (nameB op); rfl
  have HTD : Hid (toldL op a b c k [] = [(nameB op).data.toList]) := rfl
  have HTS : Hid (∀ ks x, toldL op a b c k (ks ++ [x]) = toldL op a b c k ks ++ [tellW x a b c k]) := by intro ks x; simp [toldL]
  have HTL : Hid (∀ ks, (toldL op a b c k ks).length = ks.length + 1) := by intro ks; simp [toldL]
  have IN := hide (iname_calls op w L)
  generalize toldL op a b c k = T at *
  generalize nameB op = NM at *
  obtain ⟨b0, _, _, _, _, _⟩ := six hB
  have G0 := hide ((Gr.refl w).alloc #[.string NM] 9)
  have O0 : Hid ((w.alloc (.cells #[.string NM] 9)).ownsRow w.heap.size 9 1 (.slice (some ⟨w.heap.size, 0, none⟩) 1 1) 1 (strsV (T []))) := by
    show World.ownsRow _ _ _ _ _ _ _
    rw [HTD.out]
    exact ⟨rfl, .inr ⟨w.heap.size, 1, #[.string NM], rfl, Nat.le_refl _, heap_alloc_new w _, Nat.le_refl _, by decide, rfl, by simp [strsV, HNM.out]⟩⟩
  have HB := hide hB
  have HP := hide hp
  clear L hB hp
  go_enter Tryz.func35, Tryz.ntmps35
  go_wp2_with (fail)
  refine IN.out.mono ?_
  rintro e w1 ⟨rfl, h1⟩
  subst h1
  clear IN b0
  have b0 := (six (HB.out.later G0.out)).1
  go_wp2_with (fail)
  refine (words_calls op hn _).mono ?_
  rintro e w5 ⟨v, rfl, hv, hg5⟩
  have G5 := hide (G0.out.trans hg5)
  have O5 := hide (own_gr O0.out hg5)
  clear G0 O0 b0 hg5
  generalize hks : wk op = ks at *
  have HKS := hide hks
  clear hks
  rcases hv with ⟨rfl, rfl⟩ | ⟨q, rfl, HW⟩
  · have JC := hide (join_calls (T []) _ _ _ (by rw [HTL.out]; exact O5.out) (by rw [HTL.out]; simp) (by rw [HTL.out]; simp) (Nat.le_trans (join_len _ HSH.out) (by rw [HTL.out]; simp)))
    go_wp2_with (fail)
    refine wp_loop_rounds 1 ?_
    rw [rounds_succ]
    go_wp2_with (fail)
    refine JC.out.mono ?_
    rintro e w7 ⟨rfl, g7⟩
    go_wp2_with (fail)
    go_ret
    exact ⟨by rw [HKS.out]; rfl, G5.out.trans g7⟩
  · have HHW := hide HW
    clear HW
    go_wp2_with (fail)
    go_loopw [3, 20] (fun v i wr => ∃ j : Nat, j ≤ ks.length ∧ i = .int .i64 j ∧ Hid (wr.ownsRow w1.heap.size 9 1 v (j + 1) (strsV (T (ks.take j)))) ∧ Hid (wr.heap[q]? = some (.cells (wordsV ks).toArray 107)) ∧ Hid (Gr w1 wr)) (fun _ i _ => ks.length - (intOf i).toNat)
    case atStart => exact ⟨0, by omega, rfl, O5, HHW, G5⟩
    case round =>
      clear O5 HHW G5
      obtain ⟨j, hj, rfl, HO, HQ, HG⟩ := hrel
      obtain ⟨a0, c0, rfl⟩ := own_shape HO.out
      by_cases hlt : j < ks.length
      · obtain ⟨x, hx⟩ : ∃ x, ks[j]? = some x := ⟨_, List.getElem?_eq_getElem hlt⟩
        obtain ⟨y0, y1⟩ := words_cells HQ.out hx
        have hx6 := hk6 x (List.mem_of_getElem? hx)
        have hok := ok x (List.mem_of_getElem? hx)
        have hTT : Hid (T (ks.take (j + 1)) = T (ks.take j) ++ [tellW x a b c k]) := by
          show _ = _
          rw [List.take_add_one, hx]
          exact HTS.out _ _
        have hlt' : (j : Int) < ks.length := by omega
        have GA := (Gr.refl wr).alloc #[fnV (takeF x), fnV (tellF x)] 107
        have TC := hide (tell_calls x hx6 g op a b c k t _ (HB.out.later (HG.out.trans GA)) hok (HP.out.later (HG.out.trans GA)))
        have hcf := fun args w => tell_run x hx6 args w
        generalize takeF x = F at y0 GA TC
        generalize tellF x = F' at y1 GA TC hcf
        have HGA := hide GA
        clear hx hok GA
        go_wp2_with (fail)
        refine TC.out.mono ?_
        rintro e w6 ⟨rfl, g6⟩
        have G7 := hide (HGA.out.trans g6)
        generalize tellW x a b c k = tw at *
        have G8 := (Gr.refl w6).alloc #[.string ⟨tw.toArray⟩] 9
        have O8 : Hid ((w6.alloc (.cells #[.string ⟨tw.toArray⟩] 9)).ownsRow w1.heap.size 9 1 (.slice a0 (j + 1) c0) (j + 1) (strsV (T (ks.take j)))) := own_gr HO.out (G7.out.trans G8)
        have Q8 := hide (((G7.out.trans G8).block _ (heap_lt HQ.out)).trans HQ.out)
        have S8 : w1.heap.size ≤ (w6.alloc (.cells #[.string ⟨tw.toArray⟩] 9)).heap.size := (HG.out.trans (G7.out.trans G8)).size
        have HG8 := hide (HG.out.trans (G7.out.trans G8))
        have N8 := hide (lit_cells w6 [.string ⟨tw.toArray⟩] 9)
        have U8 : Hid (∀ u ∈ [Value.string ⟨tw.toArray⟩], u.oneCell' = true) := by intro u hu; simp at hu; subst hu; rfl
        clear G8 G7 HG HQ HO HGA TC g6 y0 y1 hcf
        go_wp2_with (at_builtin; refine wpList_append_own _ rfl (.tmp 24) (.tmp 29) 55 rfl w1.heap.size 9 i1 (.string ⟨#[]⟩) 1 16 Tryz.underlying55 hi1 hz10 hz11 hz12 rfl (by decide) _ (j + 1) _ rfl O8.out ⟨w6.heap.size, 0, none⟩ 1 1 [.string ⟨tw.toArray⟩] rfl rfl (N8.out) (U8.out) (by unfold maxLen; omega) (by omega) S8 ?_)
        intro v' w9 hown9 hgrow9 _
        have HG9 := hide (HG8.out.own O8.out hgrow9)
        have HQ9 := hide ((hgrow9.block q (heap_lt Q8.out) (own_ne O8.out Q8.out).symm).trans Q8.out)
        obtain ⟨a9, c9, rfl⟩ := own_shape hown9
        have OW : Hid (w9.ownsRow w1.heap.size 9 1 (.slice a9 (j + 1 + 1) c9) (j + 1 + 1) (strsV (T (ks.take (j + 1))))) := by
          show World.ownsRow _ _ _ _ _ _ _
          rw [hTT.out, strsV_snoc]
          exact hown9
        clear hown9 hgrow9 O8 N8 U8 HG8 S8 Q8
        go_wp2
        exact ⟨⟨j + 1, by omega, by go_num, OW, HQ9, HG9⟩, by simp [intOf]; omega⟩
      · obtain rfl : j = ks.length := by omega
        have hO := HO.out
        rw [List.take_length] at hO
        have JC := hide (join_calls (T ks) _ _ _ (by rw [HTL.out]; exact hO) (by rw [HTL.out]; simp) (by rw [HTL.out]; omega) (Nat.le_trans (join_len _ HSH.out) (by rw [HTL.out]; omega)))
        clear hO HO
        go_wp2_with (fail)
        refine JC.out.mono ?_
        rintro e w7 ⟨rfl, g7⟩
        go_wp2_with (fail)
        go_ret
        exact ⟨by rw [HKS.out]; rfl, HG.out.trans g7⟩
end Go.Proofs.YtcfkcnkekdafgaaGreatDoor
