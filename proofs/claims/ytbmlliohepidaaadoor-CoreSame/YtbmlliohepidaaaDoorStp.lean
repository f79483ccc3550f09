/-
  What Step does where the thread is not running, or is at no place of its code. No condition but that the port's functions are such, and have room.
-/
import Derived.Test.YtbmlliohepidaaaDoorDonB
namespace Go.Proofs.YtbmlliohepidaaaDoor
open Go.ChangeShapes Go.WideShapes Go.ChangeAt Go.RowKit
set_option linter.unusedVariables false

set_option maxRecDepth 20000 in
set_option maxHeartbeats 2000000 in
theorem step_not {S : Type} {I : List Nat → S → World → Prop} {M : Prt S} {f : Fns} (P : PortOk I M f) {t : Th} (ht : ThOk t) (code : List Ins) (ad : Option Addr) (cap : Nat) (h0 : (t.st != 0) = true) (s : S) (hq : 1000 ≤ M.fuel s) (w : World) (hrow : RowAt w ad (flatOf insL code)) :
    Does I s w 12 #[.agg (thC t), .slice ad code.length cap, .agg (portA M.size f)] (.agg (thC (stepM M t code s).1)) (stepM M t code s).2 := by
  intro F hI
  have fr := Fr3.start P.inv hI t M.size f
  have HP := hide P
  have HV := hide P.inv
  have HT := hide ht
  have HQ := hide hq
  have HX : Hid (stepM M t code s = (t, s)) := by show _ = _; simp [stepM, h0]
  rw [HX.out]
  have c9 := thC_st ht
  have FR := hide (fr.res HV.out t)
  clear P hI ht hq HX hrow
  go_enter Tryd.func12, Tryd.ntmps12
  go_wp2_with (first
    | (refine load_th rfl _ rfl w.heap.size rfl t fr.b0 HT.out ?_)
    | (refine store_th rfl _ _ rfl (w.heap.size + 1 + 1) rfl t rfl th0 fr.b2 HT.out th0_ok ?_))
  exact bodyPost_ret (results_th rfl _ _ (w.heap.size + 1 + 1) t rfl FR.out.b2 HT.out) rfl ⟨rfl, FR.out.p.end⟩

set_option maxRecDepth 20000 in
set_option maxHeartbeats 2000000 in
theorem step_end {S : Type} {I : List Nat → S → World → Prop} {M : Prt S} {f : Fns} (P : PortOk I M f) {t : Th} (ht : ThOk t) (code : List Ins) (ad : Option Addr) (cap : Nat) (hs : (t.st != 0) = false) (h0 : (decide (t.pc < 0) || decide ((code.length : Int) ≤ t.pc)) = true) (s : S) (hq : 1000 ≤ M.fuel s) (w : World) (hrow : RowAt w ad (flatOf insL code)) :
    Does I s w 12 #[.agg (thC t), .slice ad code.length cap, .agg (portA M.size f)] (.agg (thC (stepM M t code s).1)) (stepM M t code s).2 := by
  intro F hI
  have fr := Fr3.start P.inv hI t M.size f
  have HP := hide P
  have HV := hide P.inv
  have HT := hide ht
  have HQ := hide hq
  have HX : Hid (stepM M t code s = endM M t s 2 12) := by show _ = _; simp only [stepM, hs, h0]; rfl
  have HD : Hid (∀ w, Does I s w 29 #[.agg (thC t), .agg (portA M.size f), .int .i64 2, .int .i64 12] (.agg (thC (endM M t s 2 12).1)) (endM M t s 2 12).2) := fun w => ended_does P ht 2 12 s (by omega) w
  have HO : Hid (ThOk (endM M t s 2 12).1) := ht.is 2
  rw [HX.out]
  generalize endM M t s 2 12 = r at HD HO ⊢
  have c9 := thC_st ht
  clear P hI ht hq HX hrow
  by_cases h1 : t.pc < 0
  · clear h0
    go_enter Tryd.func12, Tryd.ntmps12
    go_wp2_with (first
    | (refine load_port rfl _ rfl (w.heap.size + 1) rfl M.size f fr.b1 ?_)
    | (go_at_call 28; refine (whole_calls M.size f _).mono ?_; rintro e u1 ⟨rfl, g1⟩; replace fr := fr.gr HV.out g1; have fr2 := fr.port HV.out; have c0 := fr2.b0.cell (thC_pc t))
    | (refine store_port rfl _ _ rfl (w.heap.size + 1) rfl M.size f rfl _ fr.b1 rfl ?_)
    | (refine load_th rfl _ rfl w.heap.size rfl t fr2.b0 HT.out ?_)
    | (refine load_port rfl _ rfl (w.heap.size + 1) rfl M.size f fr2.b1 ?_)
    | (go_at_call 29; refine ((HD.out _).go fr2.p).mono ?_; rintro e u2 ⟨⟨rfl, k1⟩, p1⟩; have fr3 := fr2.loc k1 p1; clear k1 p1)
    | (refine store_th rfl _ _ rfl (w.heap.size + 1 + 1) rfl r.1 rfl th0 fr3.b2 HO.out th0_ok ?_))
    have FR := hide (fr3.res HV.out r.1)
    exact bodyPost_ret (results_th rfl _ _ (w.heap.size + 1 + 1) r.1 rfl FR.out.b2 HO.out) rfl ⟨rfl, FR.out.p.end⟩
  · have h2 : (code.length : Int) ≤ t.pc := by simpa [h1] using h0
    clear h0
    go_enter Tryd.func12, Tryd.ntmps12
    go_wp2_with (first
    | (refine load_port rfl _ rfl (w.heap.size + 1) rfl M.size f fr.b1 ?_)
    | (go_at_call 28; refine (whole_calls M.size f _).mono ?_; rintro e u1 ⟨rfl, g1⟩; replace fr := fr.gr HV.out g1; have fr2 := fr.port HV.out; have c0 := fr2.b0.cell (thC_pc t))
    | (refine store_port rfl _ _ rfl (w.heap.size + 1) rfl M.size f rfl _ fr.b1 rfl ?_)
    | (refine load_th rfl _ rfl w.heap.size rfl t fr2.b0 HT.out ?_)
    | (refine load_port rfl _ rfl (w.heap.size + 1) rfl M.size f fr2.b1 ?_)
    | (go_at_call 29; refine ((HD.out _).go fr2.p).mono ?_; rintro e u2 ⟨⟨rfl, k1⟩, p1⟩; have fr3 := fr2.loc k1 p1; clear k1 p1)
    | (refine store_th rfl _ _ rfl (w.heap.size + 1 + 1) rfl r.1 rfl th0 fr3.b2 HO.out th0_ok ?_))
    have FR := hide (fr3.res HV.out r.1)
    exact bodyPost_ret (results_th rfl _ _ (w.heap.size + 1 + 1) r.1 rfl FR.out.b2 HO.out) rfl ⟨rfl, FR.out.p.end⟩
end Go.Proofs.YtbmlliohepidaaaDoor
