/-
  What done and Step do. No condition but that the port's functions are such, and have room.
-/
import Derived.Test.YtbmlliohepidaaaDoorEndd
import Derived.Test.YtbmlliohepidaaaDoorHeld
import Derived.Test.YtbmlliohepidaaaDoorDone
import Derived.Test.YtbmlliohepidaaaDoorDonA
import Derived.Test.YtbmlliohepidaaaDoorWhol
namespace Go.Proofs.YtbmlliohepidaaaDoor
open Go.ChangeShapes Go.WideShapes Go.ChangeAt Go.RowKit
set_option linter.unusedVariables false

theorem regs28 : ∀ n : Fin 28, (kA n = 0 ∨ kA n = 1) ∧ (kC n = 0 ∨ kC n = 1) ∧ ((n.val = 2 ∨ (3 ≤ n.val ∧ n.val ≤ 12)) → kB n = 1) := by decide +kernel
theorem fits_reg {u n : Int} (h : u = 0 ∨ u = 1) (hf : fitsB u n = true) : regB n = true := by
  rcases h with rfl | rfl
  · have : n = 0 := by simpa [fitsB] using hf
    subst this; rfl
  · simpa [fitsB] using hf
theorem right_regs {op a b c k n : Int} (h : rightB op a b c k n = true) : regB a = true ∧ regB c = true ∧ (op = 2 ∨ aluB op = true → regB b = true) := by
  simp only [rightB, Bool.and_eq_true] at h
  obtain ⟨h0, ⟨⟨h1, h2⟩, h3⟩, h4⟩ := h
  obtain ⟨m, rfl, hm⟩ := isB_nat h0
  obtain ⟨q1, q2, q3⟩ := regs28 ⟨m, hm⟩
  simp only [Int.toNat_natCast] at h1 h2 h3
  refine ⟨fits_reg q1 h1, fits_reg q2 h3, fun q => fits_reg (.inr (q3 ?_)) h2⟩
  show m = 2 ∨ (3 ≤ m ∧ m ≤ 12)
  rcases q with q | q
  · left; omega
  · right; simp [aluB] at q; omega

theorem done_does {S : Type} {I : List Nat → S → World → Prop} {M : Prt S} {f : Fns} (P : PortOk I M f) {t : Th} (ht : ThOk t) (hp : 0 ≤ t.pc) (hp' : t.pc < 4611686018427387904) (i : Ins) (hi : InsOk i) {n : Int} (hright : rightB i.op i.a i.b i.c i.k n = true) (s : S)
    (hm : askB i.op = true → addrM t i < M.size) (hr : i.op = 17 → M.room s = true) (hq : 600 ≤ M.fuel s) (w : World) :
    Does I s w 35 #[.agg (thC t), .agg (insA i), .agg (portA M.size f)] (.agg (thC (doneM M t i s).1)) (doneM M t i s).2 := by
  obtain ⟨ha, hc, hb⟩ := right_regs hright
  cases h0 : (i.op == 0)
  · cases hj : jumpB i.op
    · cases hk : askB i.op
      · cases hl : aluB i.op
        · exact done_alone P ht hp hp' i hi ha s h0 hj hk hl (fun q => hb (.inl q)) hq w
        · exact done_alu P ht hp hp' i h0 hj hk hl ha (hb (.inr hl)) hc s w
      · exact done_ask P ht hp hp' i hi ha s h0 hj hk hc (hm hk) hr hq w
    · exact done_jump P ht hp hp' i hi ha s h0 hj hq w
  · exact done_end P ht hp hp' i hi ha s (by simpa using h0) hq w
theorem doneM_ok {S : Type} {I : List Nat → S → World → Prop} {M : Prt S} {f : Fns} (P : PortOk I M f) {F : List Nat} {s : S} {w : World} (hI : I F s w) {t : Th} (ht : ThOk t) (i : Ins) (hi : InsOk i) : ThOk (doneM M t i s).1 := by
  unfold doneM
  split
  · exact ht.is 2
  split
  · exact ht.at _
  · unfold onM
    refine ThOk.at ?_ _
    split
    · exact askedM_ok P hI ht i
    split
    · exact ht.put _ _ (u32_doI _ _ _)
    · exact aloneM_ok M ht i hi s
end Go.Proofs.YtbmlliohepidaaaDoor
