/-
  For any code in memory, in any world in which the program's tables lie: deadlatchlaw04.AsmBack returns true. Conditions: K is from 0 to 2^32 - 1 in each instruction.
-/
import Derived.Test.YtcfkcnkekdafgaaGreatDoorPrnw
import Derived.Test.YtcfkcnkekdafgaaGreatDoorBak
import Derived.Test.YtcfkcnkekdafgaaGreatDoorJoi
import Derived.Test.YtcfkcnkekdafgaaGreatDoorPrse
import Derived.Test.YtcfkcnkekdafgaaGreatDoorAwak
namespace Go.Proofs.YtcfkcnkekdafgaaGreatDoor
open Go.ChangeShapes Go.WideShapes Go.ChangeAt Go.RowKit
set_option linter.unusedVariables false

set_option maxRecDepth 100000 in
set_option maxHeartbeats 4000000 in
theorem back_walk (v : Value) (l : List Ins) (w : World) (hC : CodeAt w v l) (hok : ∀ i ∈ l, i.ok) (hl : l.length ≤ 9223372036854775807) (L : Laid w) (hp : Pow w) :
    Calls Tryz.prog 5 #[v] w fun e w' => e = .returned (.bool true) ∧ Gr w w' := by
  have AW := hide (awake_calls w L)
  have HC := hide hC
  have HL := hide L
  have HP := hide hp
  obtain ⟨a0, cap, rfl, hC⟩ := hC
  clear L hp hC
  by_cases h6 : 600 < l.length
  · have h6' : (600 : Int) < l.length := by omega
    go_enter Tryz.func5, Tryz.ntmps5
    go_wp2_with (fail)
    refine AW.out.mono ?_
    rintro e w1 ⟨rfl, g1⟩
    have A1 := hide (awake_calls w1 (HL.out.later g1))
    go_wp2_with (fail)
    refine A1.out.mono ?_
    rintro e w2 ⟨rfl, g2⟩
    go_wp2_with (fail)
    go_ret
    exact ⟨rfl, g1.trans g2⟩
  · have h6' : ¬ ((600 : Int) < l.length) := by omega
    have HPR : Hid (printR l = if l.all (rightsI l.length) then (textL l, 0) else ([], 3)) := by show _ = _; simp only [printR]; rw [if_neg (by omega)]
    cases hr : l.all (rightsI l.length)
    · have hpr := HPR.out
      rw [hr, if_neg (by simp)] at hpr
      have HPR2 := hide hpr
      go_enter Tryz.func5, Tryz.ntmps5
      go_wp2_with (fail)
      refine AW.out.mono ?_
      rintro e w1 ⟨rfl, g1⟩
      have pc := print_calls _ l w1 (HC.out.gr g1) hok (by omega) (HL.out.later g1) (HP.out.later g1)
      rw [HPR2.out] at pc
      have PC := hide pc
      clear pc hpr
      go_wp2_with (fail)
      refine PC.out.mono ?_
      rintro e w2 ⟨rfl, g2⟩
      clear PC
      go_wp2_with (fail)
      go_ret
      exact ⟨rfl, g1.trans g2⟩
    · have hpr := HPR.out
      rw [hr, if_pos rfl] at hpr
      have HPR2 := hide hpr
      have TL := hide (text_len l hr hok)
      have PT := hide (parse_text l (by omega) hr hok)
      generalize textL l = T at HPR2 TL PT
      clear hpr hr HPR
      have htl := TL.out
      have hsz : (⟨T.toArray⟩ : ByteArray).size = T.length := size_mk T
      by_cases h2 : 20000 < T.length
      · have h2' : (20000 : Int) < (T.length : Int) := by omega
        go_enter Tryz.func5, Tryz.ntmps5
        go_wp2_with (fail)
        refine AW.out.mono ?_
        rintro e w1 ⟨rfl, g1⟩
        have pc := print_calls _ l w1 (HC.out.gr g1) hok (by omega) (HL.out.later g1) (HP.out.later g1)
        rw [HPR2.out] at pc
        have PC := hide pc
        clear pc
        go_wp2_with (fail)
        refine PC.out.mono ?_
        rintro e w2 ⟨rfl, g2⟩
        clear PC
        go_wp2_with (fail)
        go_ret
        exact ⟨rfl, g1.trans g2⟩
      · have h2' : ¬ (20000 : Int) < (T.length : Int) := by omega
        have PT2 := hide (PT.out (by omega))
        clear PT
        go_enter Tryz.func5, Tryz.ntmps5
        go_wp2_with (fail)
        refine AW.out.mono ?_
        rintro e w1 ⟨rfl, g1⟩
        have pc := print_calls _ l w1 (HC.out.gr g1) hok (by omega) (HL.out.later g1) (HP.out.later g1)
        rw [HPR2.out] at pc
        have PC := hide pc
        clear pc
        go_wp2_with (fail)
        refine PC.out.mono ?_
        rintro e w2 ⟨rfl, g2⟩
        have G2 := hide (g1.trans g2)
        clear PC g1 g2
        have PA : Hid (Calls Tryz.prog 9 #[.string ⟨T.toArray⟩] w2 (ParseP T w2)) := parse_calls T w2 (HL.out.later G2.out)
        go_wp2_with (fail)
        refine PA.out.mono ?_
        rintro e w3 ⟨v1, rfl, ho1, g3⟩
        rw [PT2.out] at ho1 ⊢
        obtain ⟨a1, c1, rfl⟩ := own_shape ho1
        have SC := hide (same_calls _ _ l w3 (codeAt_own ho1) (HC.out.gr (G2.out.trans g3)) (by omega))
        clear ho1 PA
        go_wp2_with (fail)
        refine SC.out.mono ?_
        rintro e w4 ⟨rfl, g4⟩
        go_wp2_with (fail)
        go_ret
        exact ⟨rfl, G2.out.trans (g3.trans g4)⟩
end Go.Proofs.YtcfkcnkekdafgaaGreatDoor
