/-
  What ended and isHeldUp do. No condition but that the port's functions are such, and have room.
-/
import Derived.Test.YtbmlliohepidaaaDoorFrm
namespace Go.Proofs.YtbmlliohepidaaaDoor
open Go.ChangeShapes Go.WideShapes Go.ChangeAt Go.RowKit
set_option linter.unusedVariables false

set_option maxRecDepth 20000 in
set_option maxHeartbeats 1000000 in
theorem ended_does {S : Type} {I : List Nat → S → World → Prop} {M : Prt S} {f : Fns} (P : PortOk I M f) {t : Th} (ht : ThOk t) (st ev : Int) (s : S) (hq : 200 ≤ M.fuel s) (w : World) :
    Does I s w 29 #[.agg (thC t), .agg (portA M.size f), .int .i64 st, .int .i64 ev] (.agg (thC (endM M t s st ev).1)) (endM M t s st ev).2 := by
  intro F hI
  have fr := Fr3.start P.inv hI t M.size f
  have HN := hide P.note
  have HV := hide P.inv
  have HT := hide ht
  have HQ := hide hq
  have cp := thC_pc t
  clear P hI ht hq
  go_enter Tryd.func29, Tryd.ntmps29
  go_wp2_with (fail)
  rw [(HN.out s w (evt ev t.pc) HQ.out).run, Oper.upon_enter]
  refine ((HN.out s _ (evt ev t.pc) HQ.out).does.go fr.p).mono ?_
  rintro e u ⟨⟨rfl, k1⟩, p1⟩
  replace fr := fr.loc k1 p1
  clear k1 p1 cp
  have c9 := fr.b0.cell (thC_st HT.out)
  have f9 := fr.b0.free 9
  have fr1 := fr.set HV.out 9 (.int .i64 st) (thC_is HT.out st)
  have FR := hide (fr1.res HV.out (t.is st))
  go_wp2_with (first
    | (refine load_th rfl _ rfl w.heap.size rfl (t.is st) fr1.b0 (HT.out.is st) ?_)
    | (refine store_th rfl _ _ rfl (w.heap.size + 1 + 1) rfl (t.is st) rfl th0 fr1.b2 (HT.out.is st) th0_ok ?_))
  exact bodyPost_ret (results_th rfl _ _ (w.heap.size + 1 + 1) (t.is st) rfl FR.out.b2 (HT.out.is st)) rfl ⟨rfl, FR.out.p.end⟩
end Go.Proofs.YtbmlliohepidaaaDoor
