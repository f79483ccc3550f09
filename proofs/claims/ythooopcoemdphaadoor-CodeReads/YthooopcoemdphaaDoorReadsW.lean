/-
  For any bytes, in any world in which the program's table of kinds lies: the law CodeReads answers true, and makes new blocks alone. No condition but that.
-/
import Derived.Test.YthooopcoemdphaaDoorRRead
import Derived.Test.YthooopcoemdphaaDoorRMain
namespace Go.Proofs.YthooopcoemdphaaDoor
open Go.ChangeShapes Go.WideShapes Go.ChangeAt Go.RowKit Go.Deep
set_option linter.unusedVariables false

theorem rread_calls (a : Option Addr) (L : List Int) (cap : Nat) (w : World) (hb : isBytes L) (h : BytesAt w a L) (h40 : L.length ≤ 1099511627776) :
    Calls Tryd.prog 9 #[.slice a L.length cap] w (ReadP L w) := by
  by_cases h3 : L.length < 3
  · exact rread_small a L cap w h3
  · obtain ⟨b, off, rfl, hc⟩ := byte_at h (by omega)
    by_cases hh : isHead L
    · by_cases h7 : L.length < 7
      · exact rread_seven b off L cap w hb hc (by omega) hh h7
      · exact rread_main b off L cap w hb hc h (by omega) hh h40
    · exact rread_head b off L cap w hb hc (by omega) hh

set_option maxHeartbeats 1000000 in
theorem reads_walk (a : Option Addr) (L : List Int) (cap : Nat) (w : World) (LD : Laid w) (hb : isBytes L) (h : BytesAt w a L) (hl : L.length ≤ cap) (hm : cap ≤ maxLen) :
    Calls Tryd.prog 3 #[.slice a L.length cap] w fun e w' => e = .returned (.bool true) ∧ Gr w w' := by
  have HB := hide h
  have HL := hide LD
  have hm' := hm
  unfold maxLen at hm'
  clear h LD
  by_cases hbig : 16000 < L.length
  · go_enter Tryd.func3, Tryd.ntmps3
    go_wp2_with (fail)
    refine (awake_calls w).mono ?_
    rintro e w1 ⟨rfl, hg1⟩
    go_wp2_with (fail)
    refine (awake_calls w1).mono ?_
    rintro e w2 ⟨rfl, hg2⟩
    go_wp2_with (fail)
    go_ret
    exact ⟨rfl, hg1.trans hg2⟩
  · go_enter Tryd.func3, Tryd.ntmps3
    go_wp2_with (fail)
    refine (awake_calls w).mono ?_
    rintro e w1 ⟨rfl, hg1⟩
    go_wp2_with (fail)
    refine (read_calls a L cap w1 (HL.out.later hg1) hb (HB.out.later hg1) hl hm (by omega)).mono ?_
    intro e w2 hR2
    unfold ReadP at hR2
    obtain ⟨v, rfl, hP, hg2⟩ := hR2
    generalize hrp : (readB L).1 = p at hP
    generalize hrn : (readB L).2.1 = rn
    generalize hre : (readB L).2.2 = re
    obtain ⟨pa, pcap, A, C, ma, mc, rfl, hC, hM⟩ := id hP
    have G2 := hg1.trans hg2
    have g3 := (Gr.refl w2).alloc #[.slice pa p.codes.length pcap, .slice ma p.mem.length mc, .int .i64 p.room] 27
    have hP3 := hide (hP.later g3)
    have HX := hide (PBox.fresh pa p.codes.length pcap ma p.mem.length mc p.room w2)
    have G3 := hide (G2.trans g3)
    have RC : Hid (∀ w', Gr w w' → Calls Tryd.prog 9 #[.slice a L.length cap] w' fun e w'' => ∃ v', e = .returned (.tuple #[v', .int .i64 rn, .int .i64 re]) ∧ ProgAt w'' v' p ∧ Gr w' w'') := by
      intro w' g
      refine (rread_calls a L cap w' hb (HB.out.later g) (by omega)).mono ?_
      intro e w'' hR
      unfold ReadP at hR
      rw [hrp, hrn, hre] at hR
      exact hR
    clear hP hC hM g3 hrp hrn hre
    go_wp2_with (fail)
    generalize w2.alloc (.cells #[.slice pa p.codes.length pcap, .slice ma p.mem.length mc, .int .i64 p.room] 27) = w3 at hP3 HX G3 ⊢
    refine (RC.out w3 G3.out).mono ?_
    rintro e w4 ⟨v', rfl, hP4, hg4⟩
    obtain ⟨pa', pcap', A', C', ma', mc', rfl, _, _⟩ := id hP4
    have g5 := (Gr.refl w4).alloc #[.slice pa' p.codes.length pcap', .slice ma' p.mem.length mc', .int .i64 p.room] 27
    have P5 := hide (hP4.later g5)
    have P3 := hide (hP3.out.later (hg4.trans g5))
    obtain ⟨b0, b1, b2⟩ := HX.out.later (hg4.trans g5)
    have SC := hide (same_calls _ _ p _ P3.out P5.out)
    have G5 := hide (G3.out.trans (hg4.trans g5))
    clear hP4 RC hg4 g5
    go_wp2_with (fail)
    refine SC.out.mono ?_
    rintro e w6 ⟨rfl, hg6⟩
    go_wp2_with (fail)
    go_ret
    exact ⟨rfl, G5.out.trans hg6⟩
end Go.Proofs.YthooopcoemdphaaDoor
