/-
  What Step does, of any thread and any code. No condition but that the port's functions are such, and have room, and that the code is of words.
-/
import Derived.Test.YtbmlliohepidaaaDoorStp
import Derived.Test.YtbmlliohepidaaaDoorStpA
namespace Go.Proofs.YtbmlliohepidaaaDoor
open Go.ChangeShapes Go.WideShapes Go.ChangeAt Go.RowKit
set_option linter.unusedVariables false

theorem step_does {S : Type} {I : List Nat → S → World → Prop} {M : Prt S} {f : Fns} (P : PortOk I M f) {t : Th} (ht : ThOk t) (code : List Ins) (hi : ∀ i ∈ code, InsOk i) (hlen : code.length < 4611686018427387904) (ad : Option Addr) (cap : Nat) (s : S) (hq : 1000 ≤ M.fuel s) (w : World) (hrow : RowAt w ad (flatOf insL code)) :
    Does I s w 12 #[.agg (thC t), .slice ad code.length cap, .agg (portA M.size f)] (.agg (thC (stepM M t code s).1)) (stepM M t code s).2 := by
  cases hs : (t.st != 0)
  · cases h0 : (decide (t.pc < 0) || decide ((code.length : Int) ≤ t.pc))
    · have h1 : 0 ≤ t.pc ∧ t.pc < code.length := by
        rw [Bool.or_eq_false_iff, decide_eq_false_iff_not, decide_eq_false_iff_not] at h0
        omega
      obtain ⟨n, hn⟩ := Int.eq_ofNat_of_zero_le h1.1
      have hl : n < code.length := by omega
      refine step_at P ht code ad cap s hq w hrow hs n hn hl hlen ?_
      rw [List.getD_eq_getElem?_getD, List.getElem?_eq_getElem hl]
      exact hi _ (List.getElem_mem hl)
    · exact step_end P ht code ad cap hs h0 s hq w hrow
  · exact step_not P ht code ad cap hs s hq w hrow
/-- a thread's step leaves a thread -/
theorem stepM_ok {S : Type} {I : List Nat → S → World → Prop} {M : Prt S} {f : Fns} (P : PortOk I M f) {F : List Nat} {s : S} {w : World} (hI : I F s w) {t : Th} (ht : ThOk t) (code : List Ins) (hi : ∀ i ∈ code, InsOk i) : ThOk (stepM M t code s).1 := by
  unfold stepM
  split
  · exact ht
  split
  · exact ht.is 2
  · rename_i h1 h2
    have h3 : ¬ (t.pc < 0 ∨ (code.length : Int) ≤ t.pc) := by simpa using h2
    unfold atM
    split
    · exact ht.is 3
    split
    · exact ht
    · refine doneM_ok P hI ht _ ?_
      have hl : t.pc.toNat < code.length := by omega
      rw [List.getD_eq_getElem?_getD, List.getElem?_eq_getElem hl]
      exact hi _ (List.getElem_mem hl)
end Go.Proofs.YtbmlliohepidaaaDoor
