/-
  For any code in memory, in any world in which the program's tables lie: deadlatchlaw04.AsmPrints returns true. Conditions: K is from 0 to 2^32 - 1 in each instruction.
-/
import Derived.Test.YtcfkcnkekdafgaaGreatDoorPrnw
import Derived.Test.YtcfkcnkekdafgaaGreatDoorRrig
import Derived.Test.YtcfkcnkekdafgaaGreatDoorAwak
namespace Go.Proofs.YtcfkcnkekdafgaaGreatDoor
open Go.ChangeShapes Go.WideShapes Go.ChangeAt Go.RowKit
set_option linter.unusedVariables false

set_option maxRecDepth 100000 in
set_option maxHeartbeats 4000000 in
theorem prints_walk (v : Value) (l : List Ins) (w : World) (hC : CodeAt w v l) (hok : ∀ i ∈ l, i.ok) (hl : l.length ≤ 9223372036854775807) (L : Laid w) (hp : Pow w) :
    Calls Tryz.prog 4 #[v] w fun e w' => e = .returned (.bool true) ∧ Gr w w' := by
  have AW := hide (awake_calls w L)
  have HC := hide hC
  have HL := hide L
  have HP := hide hp
  obtain ⟨a0, cap, rfl, hC⟩ := hC
  clear L hp hC
  by_cases h6 : 600 < l.length
  · have h6' : (600 : Int) < l.length := by omega
    go_enter Tryz.func4, Tryz.ntmps4
    go_wp2_with (fail)
    refine AW.out.mono ?_
    rintro e w1 ⟨rfl, g1⟩
    have A1 := hide (awake_calls w1 (HL.out.later g1))
    go_wp2_with (fail)
    refine A1.out.mono ?_
    rintro e w2 ⟨rfl, g2⟩
    go_wp2_with (fail)
    go_ret
    exact ⟨rfl, g1.trans g2⟩
  · have h6' : ¬ ((600 : Int) < l.length) := by omega
    have HPR : Hid (printR l = if l.all (rightsI l.length) then (textL l, 0) else ([], 3)) := by show _ = _; simp only [printR]; rw [if_neg (by omega)]
    go_enter Tryz.func4, Tryz.ntmps4
    go_wp2_with (fail)
    refine AW.out.mono ?_
    rintro e w1 ⟨rfl, g1⟩
    have PC := hide (print_calls _ l w1 (HC.out.gr g1) hok (by omega) (HL.out.later g1) (HP.out.later g1))
    generalize printR l = pr at *
    obtain ⟨S, E⟩ := pr
    go_wp2_with (fail)
    refine PC.out.mono ?_
    rintro e w2 ⟨rfl, g2⟩
    have G2 := hide (g1.trans g2)
    clear AW PC g1 g2
    go_wp2_with (fail)
    go_loopw [5, 6] (fun s i wr => ∃ j : Nat, j ≤ l.length ∧ s = .string ⟨(textL (l.take j)).toArray⟩ ∧ i = .int .i64 j ∧ Hid (∀ n i, n < j → l[n]? = some i → rightsI l.length i = true) ∧ Hid ((textL (l.take j)).length ≤ 125 * j) ∧ Hid (Gr w wr)) (fun _ i _ => l.length - (intOf i).toNat)
    case atStart => exact ⟨0, by omega, rfl, rfl, fun n i h => by omega, by show _ ≤ _; simp [textL], G2⟩
    case round =>
      clear G2
      obtain ⟨j, hj, rfl, rfl, HR, HT, HG⟩ := hrel
      by_cases hlt : j < l.length
      · obtain ⟨i, hi⟩ : ∃ i, l[j]? = some i := ⟨_, List.getElem?_eq_getElem hlt⟩
        obtain ⟨a1, cap1, hv, hC⟩ := HC.out
        cases hv
        rcases hC with h | ⟨b1, o1, ha1, h1⟩
        · rw [h] at hlt; simp at hlt
        obtain ⟨x0, x1, x2, x3, x4⟩ := h1 j i hi
        have x0 := cell_later HG.out x0
        have x1 := cell_later HG.out x1
        have x2 := cell_later HG.out x2
        have x3 := cell_later HG.out x3
        have x4 := cell_later HG.out x4
        have b0 : (j : Int) < l.length := by omega
        obtain ⟨k0, k1⟩ := hok i (List.mem_of_getElem? hi)
        have HI := hide hi
        clear hi h1
        subst ha1
        have RC := hide (refright_calls i.op i.a i.b i.c i.k l.length k0 k1 wr)
        go_wp2_with (fail)
        refine RC.out.mono ?_
        rintro e w6 ⟨rfl, g6⟩
        clear RC
        cases hr : rightB i.op i.a i.b i.c i.k l.length
        · have e1 : (S, E) = (([] : Bs), (3 : Int)) := by
            rw [HPR.out, if_neg]
            intro hall
            have := List.all_eq_true.1 hall i (List.mem_of_getElem? HI.out)
            rw [rightsI, hr] at this
            cases this
          cases e1
          go_wp2_with (fail)
          go_ret
          exact ⟨rfl, HG.out.trans g6⟩
        · obtain ⟨o, p, q, r, m, eo, ea, eb, ec, ek, ho, hp8, hq8, hr8, hm, hTk⟩ := right_tells hr k0 k1
          have lc := line_calls o p q r m (by omega) (by omega) (by omega) hm w6
          have hli : lineI i = lineF (fB o).data.toList p q r m (nameB o).data.toList := by
            unfold lineI
            rw [eo, ea, eb, ec, ek]
            rfl
          have hll : (lineI i).length ≤ 124 := by rw [hli, line_eq o p q r m ho]; exact line_len ho
          rw [← hli, ← eo, ← ea, ← eb, ← ec, ← ek] at lc
          have LC := hide lc
          have HTT : Hid (textL (l.take (j + 1)) = textL (l.take j) ++ lineI i ++ [10]) := by
            show _ = _
            rw [List.take_add_one, HI.out]
            exact text_snoc _ _
          have HR2 : Hid (∀ n i, n < j + 1 → l[n]? = some i → rightsI l.length i = true) := by
            intro n i' hn hi'
            rcases Nat.lt_or_ge n j with h | h
            · exact HR.out n i' h hi'
            · obtain rfl : n = j := by omega
              rw [HI.out] at hi'
              cases hi'
              exact hr
          have HT9 : Hid ((textL (l.take (j + 1))).length ≤ 125 * (j + 1)) := by
            show _ ≤ _
            have := HT.out
            rw [HTT.out, List.length_append, List.length_append]
            simp only [List.length_cons, List.length_nil]
            omega
          have x0 := cell_later g6 x0
          have x1 := cell_later g6 x1
          have x2 := cell_later g6 x2
          have x3 := cell_later g6 x3
          have x4 := cell_later g6 x4
          have G6 := hide (HG.out.trans g6)
          have ht := HT.out
          clear lc hli hTk eo ea eb ec ek hm ho hr HR HI HG g6 hp8 hq8 hr8
          generalize lineI i = li at *
          go_wp2_with (fail)
          refine LC.out.mono ?_
          rintro e w7 ⟨rfl, g7⟩
          have G7 := hide (G6.out.trans g7)
          have zl : (⟨li.toArray⟩ : ByteArray).size ≤ 124 := by rw [size_mk]; exact hll
          have zt : (⟨(textL (l.take j)).toArray⟩ : ByteArray).size ≤ 75000 := by rw [size_mk]; omega
          go_wp2_with (fail)
          exact ⟨⟨j + 1, by omega, by rw [HTT.out, ← cat_mk, ← cat_mk], by go_num, HR2, HT9, G7⟩, by simp [intOf]; omega⟩
      · obtain rfl : j = l.length := by omega
        have e1 : (S, E) = (textL l, (0 : Int)) := by
          rw [HPR.out, if_pos]
          rw [List.all_eq_true]
          intro i hi
          obtain ⟨n, hn, e⟩ := List.getElem_of_mem hi
          exact HR.out n i hn (by rw [List.getElem?_eq_getElem hn, e])
        cases e1
        rw [List.take_length]
        go_wp2_with (fail)
        go_ret
        exact ⟨by simp, HG.out⟩
end Go.Proofs.YtcfkcnkekdafgaaGreatDoor
