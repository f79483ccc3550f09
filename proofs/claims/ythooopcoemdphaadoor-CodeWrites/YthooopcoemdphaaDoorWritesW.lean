/-
  For any program in memory, in any world in which the program's table of kinds lies: the law CodeWrites answers true, and makes new blocks alone. No condition but that.
-/
import Derived.Test.YthooopcoemdphaaDoorRWrit
import Derived.Test.YthooopcoemdphaaDoorSmall
import Derived.Deep.RegionWith
namespace Go.Proofs.YthooopcoemdphaaDoor
open Go.ChangeShapes Go.WideShapes Go.ChangeAt Go.RowKit Go.Deep
set_option linter.unusedVariables false

set_option maxHeartbeats 2000000 in
theorem writes_walk (v : Value) (p : Pg) (w : World) (LD : Laid w) (h : ProgAt w v p) :
    Calls Tryd.prog 4 #[v] w fun e w' => e = .returned (.bool true) ∧ Gr w w' := by
  obtain ⟨a, cap, A, C, ma, mc, rfl, hC, hM⟩ := id h
  have hg0 := (Gr.refl w).alloc #[.slice a p.codes.length cap, .slice ma p.mem.length mc, .int .i64 p.room] 27
  have HB := hide (PBox.fresh a p.codes.length cap ma p.mem.length mc p.room w)
  have HP := hide (h.later hg0)
  have HL := hide (LD.later hg0)
  clear h LD hC hM
  go_enter Tryd.func4, Tryd.ntmps4
  go_wp2_with (fail)
  generalize w.alloc (.cells #[.slice a p.codes.length cap, .slice ma p.mem.length mc, .int .i64 p.room] 27) = w0 at hg0 HB HP HL ⊢
  refine (awake_calls w0).mono ?_
  rintro e w1 ⟨rfl, hg1⟩
  obtain ⟨b0, b1, b2⟩ := HB.out.later hg1
  go_wp2_with (fail)
  refine (small_calls _ p w1 (HP.out.later hg1)).mono ?_
  rintro e w2 ⟨⟨bb, rfl⟩, hg2⟩
  have G2 := hg1.trans hg2
  obtain ⟨b0, b1, b2⟩ := HB.out.later G2
  cases bb
  · go_wp2_with (fail)
    refine (awake_calls w2).mono ?_
    rintro e w3 ⟨rfl, hg3⟩
    go_wp2_with (fail)
    go_ret
    exact ⟨rfl, hg0.trans (G2.trans hg3)⟩
  · go_wp2_with (fail)
    refine (write_calls _ p w2 (HL.out.later G2) (HP.out.later G2)).mono ?_
    rintro e w3 ⟨hg3, ⟨hn, rfl⟩ | ⟨he, ok, v3, rfl, O3⟩⟩
    · have G3 := G2.trans hg3
      obtain ⟨b0, b1, b2⟩ := HB.out.later G3
      have hq : (p.err == 0) = false := by simpa using hn
      go_wp2_with (fail)
      refine (rcheck_pg _ p w3 (HP.out.later G3)).mono ?_
      rintro e w4 ⟨x4, y4, rfl, hg4⟩
      go_wp2_with (fail)
      go_ret
      exact ⟨rfl, hg0.trans (G3.trans hg4)⟩
    · have G3 := G2.trans hg3
      obtain ⟨b0, b1, b2⟩ := HB.out.later G3
      obtain ⟨a3, cap3, rfl, _, _, hB3⟩ := O3.bytes
      have B3 := hide hB3
      have OKp := hide ok
      clear O3 hB3 ok
      go_wp2_with (fail)
      refine (rcheck_pg _ p w3 (HP.out.later G3)).mono ?_
      rw [he]
      rintro e w4 ⟨x4, y4, rfl, hg4⟩
      have G4 := G3.trans hg4
      obtain ⟨b0, b1, b2⟩ := HB.out.later G4
      have hc1 := conv_bytes cap3 (B3.out.later (hg4.trans (Gr.refl w4).drew))
      generalize hS : strOfNums (writeB p) = S at hc1
      generalize hN : (writeB p).length = n3 at hc1 ⊢
      have RP : Hid (Calls Tryd.prog 14 #[progV a p.codes.length cap ma p.mem.length mc p.room] w4.drew fun e w' => ∃ a5 c5, e = .returned (.slice a5 n3 c5) ∧ Hid (Gr w4.drew w') ∧ (convert 22 9 (.slice a3 n3 cap3)).run Tryd.prog w' = .ok (.string S) w' ∧ (convert 22 9 (.slice a5 n3 c5)).run Tryd.prog w' = .ok (.string S) w') := by
        refine (rwrite_calls _ p w4.drew (HP.out.later (G4.trans (Gr.refl w4).drew)) OKp.out).mono ?_
        rintro e w' ⟨v5, rfl, hO, hG⟩
        obtain ⟨a5, c5, rfl, _, _, hB5⟩ := hO.bytes
        have e1 := conv_bytes cap3 (B3.out.later ((hg4.trans (Gr.refl w4).drew).trans hG))
        have e2 := conv_bytes c5 hB5
        rw [hS] at e1 e2
        rw [hN] at e1 e2 ⊢
        exact ⟨a5, c5, rfl, hG, e1, e2⟩
      clear hS hN
      go_wp2_with (fail)
      go_region_with (go_at_call 14; refine RP.out.mono ?_; rintro e w5 ⟨a5, c5, rfl, hg5, hc2, hc3⟩)
      all_goals
        go_wp2
        go_ret
        exact ⟨rfl, hg0.trans (G4.trans ((Gr.refl w4).drew.trans hg5.out))⟩
end Go.Proofs.YthooopcoemdphaaDoor
