/-
  What isHeldUp does. No condition but that the port's functions are such, and have room.
-/
import Derived.Test.YtbmlliohepidaaaDoorFrm
namespace Go.Proofs.YtbmlliohepidaaaDoor
open Go.ChangeShapes Go.WideShapes Go.ChangeAt Go.RowKit
set_option linter.unusedVariables false

set_option maxRecDepth 20000 in
set_option maxHeartbeats 1000000 in
theorem held_does {S : Type} {I : List Nat → S → World → Prop} {M : Prt S} {f : Fns} (P : PortOk I M f) (i : Ins) (s : S) (hq : 200 ≤ M.fuel s) (w : World) :
    Does I s w 34 #[.agg (insA i), .agg (portA M.size f)] (.bool (heldM M i s)) s := by
  intro F hI
  obtain ⟨op, a, b, c, k⟩ := i
  have p := ((Pst.start P.inv hI).alloc P.inv (insA ⟨op, a, b, c, k⟩) 54).alloc P.inv (portA M.size f) 51
  have L := p.laid P.inv
  have HM : Hid (heldM M ⟨op, a, b, c, k⟩ s = if drainB op then !M.empty s else op == 17 && !M.room s) := rfl
  have HE := hide P.empty
  have HR := hide P.room
  have HQ := hide hq
  have HL := hide L
  have PP := hide p
  clear P hI hq p L
  cases hd : drainB op
  · by_cases h17 : op = 17
    · subst h17
      go_enter Tryd.func34, Tryd.ntmps34
      go_wp2_with (go_at_call 73; refine (drains_calls _ _ HL.out).mono ?_; rw [hd]; rintro e w1 ⟨rfl, rfl⟩)
      rw [(HR.out s w HQ.out).run, Oper.upon_enter]
      have hh := (HR.out s _ HQ.out).does.go PP.out
      rw [Array.empty_append] at hh
      refine hh.mono ?_
      rintro e u ⟨⟨rfl, k1⟩, p1⟩
      have P1 := hide p1
      clear k1 p1
      go_wp2_with (fail)
      go_ret
      exact ⟨by rw [HM.out]; simp [hd], P1.out.end⟩
    · have e17 : (op == 17) = false := by simp [h17]
      clear h17
      go_enter Tryd.func34, Tryd.ntmps34
      go_wp2_with (go_at_call 73; refine (drains_calls _ _ HL.out).mono ?_; rw [hd]; rintro e w1 ⟨rfl, rfl⟩)
      go_ret
      exact ⟨by rw [HM.out]; simp [hd, e17], PP.out.end⟩
  · go_enter Tryd.func34, Tryd.ntmps34
    go_wp2_with (go_at_call 73; refine (drains_calls _ _ HL.out).mono ?_; rw [hd]; rintro e w1 ⟨rfl, rfl⟩)
    rw [(HE.out s w HQ.out).run, Oper.upon_enter]
    have hh := (HE.out s _ HQ.out).does.go PP.out
    rw [Array.empty_append] at hh
    refine hh.mono ?_
    rintro e u ⟨⟨rfl, k1⟩, p1⟩
    have P1 := hide p1
    clear k1 p1
    go_wp2_with (fail)
    go_ret
    exact ⟨by rw [HM.out]; simp [hd], P1.out.end⟩
end Go.Proofs.YtbmlliohepidaaaDoor
