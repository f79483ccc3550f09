/-
  For any bytes, in any world in which the program's table of kinds lies: the law CodeAgain answers true, and makes new blocks alone. No condition but that.
-/
import Derived.Test.YthooopcoemdphaaDoorRead
import Derived.Test.YthooopcoemdphaaDoorWrit
namespace Go.Proofs.YthooopcoemdphaaDoor
open Go.ChangeShapes Go.WideShapes Go.ChangeAt Go.RowKit Go.Deep
set_option linter.unusedVariables false

/-- what is read is written as it was -/
theorem read_write {L : List Int} (hb : isBytes L) (h : (readB L).2.2 = 0) : (readB L).1.err = 0 ∧ writeB (readB L).1 = L := by
  unfold readB at h ⊢
  split at h
  · cases h
  · rename_i h3
    rw [if_neg h3]
    split at h
    · cases h
    · rename_i hh
      rw [if_neg hh]
      have hh' : isHead L := Decidable.byContradiction hh
      cases ht : tell L with
      | none => rw [ht] at h; cases h
      | some x =>
        obtain ⟨cs, q⟩ := x
        rw [ht] at h
        simp only at h ⊢
        split at h
        · cases h
        · rename_i hq
          rw [if_neg hq]
          split at h
          · rename_i he
            rw [if_pos he]
            obtain ⟨h1, h2⟩ := write_tell hb hh' cs q ht
            refine ⟨he, ?_⟩
            show writeB (pgOf L cs) = L
            rw [h2]
            exact List.take_of_length_le (by omega)
          · rename_i he
            exact absurd h he
/-- where the error is not 0 nothing is read -/
theorem read_none {L : List Int} (h : (readB L).2.2 ≠ 0) : (readB L).1 = pg0 := by
  unfold readB at h ⊢
  by_cases h3 : L.length < 3
  · rw [if_pos h3]
  · rw [if_neg h3] at h ⊢
    by_cases hh : isHead L
    · rw [if_neg (fun k => k hh)] at h ⊢
      cases ht : tell L with
      | none => rfl
      | some x =>
        obtain ⟨cs, q⟩ := x
        rw [ht] at h
        simp only at h ⊢
        by_cases hq : q < L.length
        · rw [if_pos hq]
        · rw [if_neg hq] at h ⊢
          by_cases he : (pgOf L cs).err = 0
          · rw [if_pos he] at h
            exact absurd rfl h
          · rw [if_neg he]
    · rw [if_pos hh]

set_option maxHeartbeats 1000000 in
theorem again_walk (a : Option Addr) (L : List Int) (cap : Nat) (w : World) (LD : Laid w) (hb : isBytes L) (h : BytesAt w a L) (hl : L.length ≤ cap) (hm : cap ≤ maxLen) :
    Calls Tryd.prog 6 #[.slice a L.length cap] w fun e w' => e = .returned (.bool true) ∧ Gr w w' := by
  have HB := hide h
  have HL := hide LD
  have hm' := hm
  unfold maxLen at hm'
  clear h LD
  by_cases hbig : 16000 < L.length
  · go_enter Tryd.func6, Tryd.ntmps6
    go_wp2_with (fail)
    refine (awake_calls w).mono ?_
    rintro e w1 ⟨rfl, hg1⟩
    go_wp2_with (fail)
    refine (awake_calls w1).mono ?_
    rintro e w2 ⟨rfl, hg2⟩
    go_wp2_with (fail)
    go_ret
    exact ⟨rfl, hg1.trans hg2⟩
  · go_enter Tryd.func6, Tryd.ntmps6
    go_wp2_with (fail)
    refine (awake_calls w).mono ?_
    rintro e w1 ⟨rfl, hg1⟩
    go_wp2_with (fail)
    refine (read_calls a L cap w1 (HL.out.later hg1) hb (HB.out.later hg1) hl hm (by omega)).mono ?_
    rintro e w2 ⟨v, rfl, hP, hg2⟩
    obtain ⟨pa, pcap, A, C, ma, mc, rfl, hC, hM⟩ := id hP
    have G2 := hg1.trans hg2
    have g3 := (Gr.refl w2).alloc #[.slice pa (readB L).1.codes.length pcap, .slice ma (readB L).1.mem.length mc, .int .i64 (readB L).1.room] 27
    have hP3 := hide (hP.later g3)
    have G3 := hide (G2.trans g3)
    clear hP hC hM g3
    cases he : ((readB L).2.2 == 0)
    · have hne : (readB L).2.2 ≠ 0 := by simpa using he
      have h0 : (readB L).1.codes.length = 0 := by rw [read_none hne]; rfl
      have G3' := G3.out
      rw [h0] at G3' ⊢
      have G4 := hide G3'
      clear h0 G3'
      go_wp2_with (fail)
      go_ret
      exact ⟨rfl, G4.out⟩
    · have hz : (readB L).2.2 = 0 := by simpa using he
      obtain ⟨hpe, hwb⟩ := read_write hb hz
      have L3 := hide (HL.out.later G3.out)
      have HW := hide hwb
      have HE := hide hpe
      clear hpe hwb
      generalize (readB L).2.2 = e2 at he ⊢
      generalize (readB L).2.1 = e1 at *
      go_wp2_with (fail)
      refine (write_calls _ _ _ L3.out hP3.out).mono ?_
      rintro e w4 ⟨hg4, ⟨hn, _⟩ | ⟨_, _, v4, rfl, hO⟩⟩
      · exact absurd HE.out hn
      · obtain ⟨a4, cap4, rfl, _, _, hB4⟩ := hO.bytes
        rw [HW.out] at hB4
        have hc1 := conv_bytes cap4 hB4
        have hc2 := conv_bytes cap (HB.out.later (G3.out.trans hg4))
        rw [HW.out]
        generalize strOfNums L = S at hc1 hc2
        clear hO hB4
        go_wp2_with (fail)
        go_ret
        exact ⟨rfl, G3.out.trans hg4⟩
end Go.Proofs.YthooopcoemdphaaDoor
