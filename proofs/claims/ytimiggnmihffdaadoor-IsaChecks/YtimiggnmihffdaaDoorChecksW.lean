/-
  For any program, in any world in which the program's tables lie and the codes lie: the law IsaChecks answers true, and makes new blocks alone. No condition but that.
-/
import Derived.Test.YtimiggnmihffdaaDoorCheck3
namespace Go.Proofs.YtimiggnmihffdaaDoor
open Go.ChangeShapes Go.WideShapes Go.ChangeAt Go.RowKit Go.Deep
set_option linter.unusedVariables false

set_option maxHeartbeats 2000000 in
theorem checks_walk (a : Option Addr) (len cap : Nat) (ma : Option Addr) (ml mc : Nat) (room : Int) (A : Nat → Option Addr) (L C : Nat → Nat) (F : Nat → Nat → Ins) (w : World) (LD : Laid w) (hr : CodeRow w a len A L C F) (hml : ml ≤ maxLen) :
    Calls Tryd.prog 5 #[progV a len cap ma ml mc room] w fun e w' => e = .returned (.bool true) ∧ Gr w w' := by
  have hg0 := Gr.alloc (Gr.refl w) #[.slice a len cap, .slice ma ml mc, .int .i64 room] 38
  have HB := hide (PBox.fresh a len cap ma ml mc room w)
  have HL := hide (LD.later hg0)
  have HR := hide (hr.later hg0)
  have HM := hide hml
  have hm := hr.1
  unfold maxLen at hm
  clear hr LD hml
  go_enter Tryd.func5, Tryd.ntmps5
  go_wp2
  generalize w.alloc (.cells #[.slice a len cap, .slice ma ml mc, .int .i64 room] 38) = w1 at hg0 HB HL HR ⊢
  obtain ⟨b0, b1, b2⟩ := id HB.out
  go_loop [3, 4] (fun n i => ∃ k m : Nat, k ≤ len ∧ m ≤ 10001 ∧ i = .int .i64 k ∧ n = .int .i64 m) (fun _ i => len - (intOf i).toNat)
  case atStart => exact ⟨0, 0, by omega, by omega, rfl, rfl⟩
  case round =>
    obtain ⟨k, m, hk, hm2, rfl, rfl⟩ := hrel
    by_cases hgo : k < len ∧ m ≤ 5000
    · obtain ⟨hlt, hm3⟩ := hgo
      obtain ⟨b, off, rfl, hc, hL⟩ : ∃ b off, a = some ⟨b, off, none⟩ ∧ w1.cell? ⟨b, off + k, none⟩ = some (.slice (A k) (L k) (C k)) ∧ L k ≤ maxLen := by
        rcases HR.out.2 with h0 | ⟨b, off, ha, hl⟩
        · omega
        · exact ⟨b, off, ha, (hl k hlt).1, (hl k hlt).2.1⟩
      unfold maxLen at hL
      go_wp2
      exact ⟨⟨k + 1, m + min (L k) 5001, by omega, by omega, by go_num, congrArg (Value.int .i64) (by split <;> omega)⟩, by simp [intOf]; omega⟩
    · by_cases h2 : m ≤ 5000
      · obtain rfl : k = len := by omega
        go_wp2_with (fail)
        refine (awake_calls _ HL.out).mono ?_
        rintro e w2 ⟨rfl, hg2⟩
        obtain ⟨b0, b1, b2⟩ := HB.out.later hg2
        go_wp2_with (fail)
        refine (pcheck_calls _ _ _ _ _ _ _ A L C F _ (HL.out.later hg2) (HR.out.later hg2) HM.out).mono ?_
        rintro e w3 ⟨rfl, hg3⟩
        obtain ⟨b0, b1, b2⟩ := HB.out.later (hg2.trans hg3)
        go_wp2_with (fail)
        refine (qcheck_calls _ _ _ _ _ _ _ A L C F _ (HR.out.later (hg2.trans hg3)) HM.out).mono ?_
        rintro e w4 ⟨rfl, hg4⟩
        go_wp2_with (fail)
        go_ret
        exact ⟨rfl, hg0.trans (hg2.trans (hg3.trans hg4))⟩
      · by_cases h1 : k < len
        all_goals
          go_wp2_with (fail)
          refine (awake_calls _ HL.out).mono ?_
          rintro e w2 ⟨rfl, hg2⟩
          go_wp2_with (fail)
          refine (awake_calls _ (HL.out.later hg2)).mono ?_
          rintro e w3 ⟨rfl, hg3⟩
          go_wp2_with (fail)
          go_ret
          exact ⟨rfl, hg0.trans (hg2.trans hg3)⟩
end Go.Proofs.YtimiggnmihffdaaDoor
