/-
  What asked does. No condition but that the port's functions are such, and have room.
-/
import Derived.Test.YthbenfnanhpcoaaGreatDoorZtar
import Derived.Test.YthbenfnanhpcoaaGreatDoorZtas
namespace Go.Proofs.YthbenfnanhpcoaaGreatDoor.Mp
open Go.ChangeShapes Go.WideShapes Go.ChangeAt Go.RowKit
set_option linter.unusedVariables false
set_option maxRecDepth 20000

section
variable {S : Type} {I : List Nat → S → World → Prop} {M : Prt S} {f : Fns}
theorem loadedM_ok (P : PortOk I M f) {F : List Nat} {s : S} {w : World} (hI : I F s w) {t : Th} (ht : ThOk t) (i : Ins) (m : Int) : ThOk (loadedM M t i s m).1 := ht.put _ _ (P.loadU F s w m hI)
theorem swappedM_ok (P : PortOk I M f) {F : List Nat} {s : S} {w : World} (hI : I F s w) {t : Th} (ht : ThOk t) (i : Ins) (m : Int) : ThOk (swappedM M t i s m).1 := ht.put _ _ (P.loadU F s w m hI)
theorem wokeM_ok (P : PortOk I M f) {F : List Nat} {s : S} {w : World} (hI : I F s w) {t : Th} (ht : ThOk t) (i : Ins) (m : Int) : ThOk (wokeM M t i s m).1 := ht.put _ _ (P.wakeU F s w m _ hI)
theorem waitedM_ok {s : S} {t : Th} (ht : ThOk t) (i : Ins) (m : Int) : ThOk (waitedM M t i s m).1 := by
  unfold waitedM
  split
  · exact (ht.put _ 0 ⟨by decide, by decide⟩).is 1
  · exact ht.put _ 1 ⟨by decide, by decide⟩
theorem askedM_ok (P : PortOk I M f) {F : List Nat} {s : S} {w : World} (hI : I F s w) {t : Th} (ht : ThOk t) (i : Ins) : ThOk (askedM M t i s).1 := by
  unfold askedM
  split
  · exact loadedM_ok P hI ht _ _
  split
  · exact ht
  split
  · exact waitedM_ok ht _ _
  split
  · exact wokeM_ok P hI ht _ _
  · exact swappedM_ok P hI ht _ _
end
theorem askedM_pc {S : Type} (M : Prt S) (t : Th) (i : Ins) (s : S) : (askedM M t i s).1.pc = t.pc := by
  unfold askedM loadedM storedM waitedM wokeM swappedM
  split
  · rfl
  split
  · rfl
  split
  · split <;> rfl
  split <;> rfl

set_option maxHeartbeats 2000000 in
theorem asked_does {S : Type} {I : List Nat → S → World → Prop} {M : Prt S} {f : Fns} (P : PortOk I M f) {t : Th} (ht : ThOk t) (i : Ins) (hi : InsOk i) (ha : regB i.a = true) (hc : regB i.c = true) (h1 : addrM t i < M.size) (s : S) (hr : i.op = 17 → M.room s = true) (hq : 600 ≤ M.fuel s) (w : World) :
    Does I s w 134 #[.agg (thC t), .agg (insA i), .agg (portA M.size f)] (.agg (thC (askedM M t i s).1)) (askedM M t i s).2 := by
  intro F hI
  have fr := Fr4.start P.inv hI t i M.size f
  have HA := hide ha
  have HC := hide hc
  have HV := hide P.inv
  have HT := hide ht
  have hu := addr_u32 ht hi
  have hw := wrap_u32 hu
  have HM : Hid (askedM M t i s = if i.op = 16 then loadedM M t i s (addrM t i) else if i.op = 17 then storedM M t i s (addrM t i) else if i.op = 23 then waitedM M t i s (addrM t i)
    else if i.op = 24 then wokeM M t i s (addrM t i) else swappedM M t i s (addrM t i)) := rfl
  have HO := hide (askedM_ok P hI ht i)
  have D16 : Hid (∀ w, Does I s w 142 #[.agg (thC t), .agg (insA i), .agg (portA M.size f), .int .i64 (addrM t i)] (.agg (thC (loadedM M t i s (addrM t i)).1)) (loadedM M t i s (addrM t i)).2) := fun w => loaded_does P ht i ha _ hu.1 h1 s (by omega) w
  have D17 : Hid (i.op = 17 → ∀ w, Does I s w 143 #[.agg (thC t), .agg (insA i), .agg (portA M.size f), .int .i64 (addrM t i)] (.agg (thC (storedM M t i s (addrM t i)).1)) (storedM M t i s (addrM t i)).2) := fun e w => stored_does P ht i ha _ hu.1 h1 s (hr e) (by omega) w
  have D23 : Hid (∀ w, Does I s w 144 #[.agg (thC t), .agg (insA i), .agg (portA M.size f), .int .i64 (addrM t i)] (.agg (thC (waitedM M t i s (addrM t i)).1)) (waitedM M t i s (addrM t i)).2) := fun w => waited_does P ht i ha _ hu.1 h1 s hq w
  have D24 : Hid (∀ w, Does I s w 145 #[.agg (thC t), .agg (insA i), .agg (portA M.size f), .int .i64 (addrM t i)] (.agg (thC (wokeM M t i s (addrM t i)).1)) (wokeM M t i s (addrM t i)).2) := fun w => woke_does P ht i ha _ hu.1 h1 s (by omega) w
  have D19 : Hid (∀ w, Does I s w 146 #[.agg (thC t), .agg (insA i), .agg (portA M.size f), .int .i64 (addrM t i)] (.agg (thC (swappedM M t i s (addrM t i)).1)) (swappedM M t i s (addrM t i)).2) := fun w => swapped_does P ht i ha hc _ hu.1 h1 s hq w
  have HAD := hide (address_calls ht i)
  generalize askedM M t i s = r at HM HO ⊢
  generalize addrM t i = m at HM D16 D17 D23 D24 D19 HAD hw
  clear P hI ht hi ha hc h1 hr hq hu
  obtain ⟨op, a, b, c, k⟩ := i
  by_cases e16 : op = 16
  · subst e16
    have hr : r = loadedM M t ⟨16, a, b, c, k⟩ s m := by rw [HM.out]; rfl
    clear HM
    subst hr
    generalize loadedM M t ⟨16, a, b, c, k⟩ s m = r at HO D16 ⊢
    go_enter Tryz.func134, Tryz.ntmps134
    go_wp2_with (first
      | (refine load_th rfl _ rfl w.heap.size rfl t fr.b0 HT.out ?_)
      | (refine load_ins rfl _ rfl (w.heap.size + 1) rfl ⟨16, a, b, c, k⟩ fr.b1 ?_)
      | (refine load_port rfl _ rfl (w.heap.size + 1 + 1) rfl M.size f fr.b2 ?_)
      | (go_at_call 94; refine (HAD.out _).mono ?_; rintro e u1 ⟨rfl, g1⟩; replace fr := fr.gr HV.out g1; clear g1; have co := fr.b1.cell (o := 0) rfl)
      | (go_at_call 142; refine ((D16.out _).go fr.p).mono ?_; rintro e u2 ⟨⟨rfl, k1⟩, p1⟩; replace fr := fr.loc k1 p1; clear k1 p1 co)
      | (refine store_th rfl _ _ rfl (w.heap.size + 1 + 1 + 1) rfl r.1 rfl th0 fr.b3 HO.out th0_ok ?_))
    have FR := hide (fr.res HV.out r.1)
    exact bodyPost_ret (results_th rfl _ _ (w.heap.size + 1 + 1 + 1) r.1 rfl FR.out.b3 HO.out) rfl ⟨rfl, FR.out.p.end⟩
  by_cases e17 : op = 17
  · subst e17
    replace D17 := D17.out rfl
    have hr : r = storedM M t ⟨17, a, b, c, k⟩ s m := by rw [HM.out]; rfl
    clear HM
    subst hr
    generalize storedM M t ⟨17, a, b, c, k⟩ s m = r at HO D17 ⊢
    go_enter Tryz.func134, Tryz.ntmps134
    go_wp2_with (first
      | (refine load_th rfl _ rfl w.heap.size rfl t fr.b0 HT.out ?_)
      | (refine load_ins rfl _ rfl (w.heap.size + 1) rfl ⟨17, a, b, c, k⟩ fr.b1 ?_)
      | (refine load_port rfl _ rfl (w.heap.size + 1 + 1) rfl M.size f fr.b2 ?_)
      | (go_at_call 94; refine (HAD.out _).mono ?_; rintro e u1 ⟨rfl, g1⟩; replace fr := fr.gr HV.out g1; clear g1; have co := fr.b1.cell (o := 0) rfl)
      | (go_at_call 143; refine ((D17 _).go fr.p).mono ?_; rintro e u2 ⟨⟨rfl, k1⟩, p1⟩; replace fr := fr.loc k1 p1; clear k1 p1 co)
      | (refine store_th rfl _ _ rfl (w.heap.size + 1 + 1 + 1) rfl r.1 rfl th0 fr.b3 HO.out th0_ok ?_))
    have FR := hide (fr.res HV.out r.1)
    exact bodyPost_ret (results_th rfl _ _ (w.heap.size + 1 + 1 + 1) r.1 rfl FR.out.b3 HO.out) rfl ⟨rfl, FR.out.p.end⟩
  by_cases e23 : op = 23
  · subst e23
    have hr : r = waitedM M t ⟨23, a, b, c, k⟩ s m := by rw [HM.out]; rfl
    clear HM
    subst hr
    generalize waitedM M t ⟨23, a, b, c, k⟩ s m = r at HO D23 ⊢
    go_enter Tryz.func134, Tryz.ntmps134
    go_wp2_with (first
      | (refine load_th rfl _ rfl w.heap.size rfl t fr.b0 HT.out ?_)
      | (refine load_ins rfl _ rfl (w.heap.size + 1) rfl ⟨23, a, b, c, k⟩ fr.b1 ?_)
      | (refine load_port rfl _ rfl (w.heap.size + 1 + 1) rfl M.size f fr.b2 ?_)
      | (go_at_call 94; refine (HAD.out _).mono ?_; rintro e u1 ⟨rfl, g1⟩; replace fr := fr.gr HV.out g1; clear g1; have co := fr.b1.cell (o := 0) rfl)
      | (go_at_call 144; refine ((D23.out _).go fr.p).mono ?_; rintro e u2 ⟨⟨rfl, k1⟩, p1⟩; replace fr := fr.loc k1 p1; clear k1 p1 co)
      | (refine store_th rfl _ _ rfl (w.heap.size + 1 + 1 + 1) rfl r.1 rfl th0 fr.b3 HO.out th0_ok ?_))
    have FR := hide (fr.res HV.out r.1)
    exact bodyPost_ret (results_th rfl _ _ (w.heap.size + 1 + 1 + 1) r.1 rfl FR.out.b3 HO.out) rfl ⟨rfl, FR.out.p.end⟩
  by_cases e24 : op = 24
  · subst e24
    have hr : r = wokeM M t ⟨24, a, b, c, k⟩ s m := by rw [HM.out]; rfl
    clear HM
    subst hr
    generalize wokeM M t ⟨24, a, b, c, k⟩ s m = r at HO D24 ⊢
    go_enter Tryz.func134, Tryz.ntmps134
    go_wp2_with (first
      | (refine load_th rfl _ rfl w.heap.size rfl t fr.b0 HT.out ?_)
      | (refine load_ins rfl _ rfl (w.heap.size + 1) rfl ⟨24, a, b, c, k⟩ fr.b1 ?_)
      | (refine load_port rfl _ rfl (w.heap.size + 1 + 1) rfl M.size f fr.b2 ?_)
      | (go_at_call 94; refine (HAD.out _).mono ?_; rintro e u1 ⟨rfl, g1⟩; replace fr := fr.gr HV.out g1; clear g1; have co := fr.b1.cell (o := 0) rfl)
      | (go_at_call 145; refine ((D24.out _).go fr.p).mono ?_; rintro e u2 ⟨⟨rfl, k1⟩, p1⟩; replace fr := fr.loc k1 p1; clear k1 p1 co)
      | (refine store_th rfl _ _ rfl (w.heap.size + 1 + 1 + 1) rfl r.1 rfl th0 fr.b3 HO.out th0_ok ?_))
    have FR := hide (fr.res HV.out r.1)
    exact bodyPost_ret (results_th rfl _ _ (w.heap.size + 1 + 1 + 1) r.1 rfl FR.out.b3 HO.out) rfl ⟨rfl, FR.out.p.end⟩
  have q16 : (op == 16) = false := by simp [e16]
  have q17 : (op == 17) = false := by simp [e17]
  have q23 : (op == 23) = false := by simp [e23]
  have q24 : (op == 24) = false := by simp [e24]
  have hr : r = swappedM M t ⟨op, a, b, c, k⟩ s m := by rw [HM.out]; simp [e16, e17, e23, e24]
  clear HM e16 e17 e23 e24
  subst hr
  generalize swappedM M t ⟨op, a, b, c, k⟩ s m = r at HO D19 ⊢
  go_enter Tryz.func134, Tryz.ntmps134
  go_wp2_with (first
    | (refine load_th rfl _ rfl w.heap.size rfl t fr.b0 HT.out ?_)
    | (refine load_ins rfl _ rfl (w.heap.size + 1) rfl ⟨op, a, b, c, k⟩ fr.b1 ?_)
    | (refine load_port rfl _ rfl (w.heap.size + 1 + 1) rfl M.size f fr.b2 ?_)
    | (go_at_call 94; refine (HAD.out _).mono ?_; rintro e u1 ⟨rfl, g1⟩; replace fr := fr.gr HV.out g1; clear g1; have co := fr.b1.cell (o := 0) rfl)
    | (go_at_call 146; refine ((D19.out _).go fr.p).mono ?_; rintro e u2 ⟨⟨rfl, k1⟩, p1⟩; replace fr := fr.loc k1 p1; clear k1 p1 co)
    | (refine store_th rfl _ _ rfl (w.heap.size + 1 + 1 + 1) rfl r.1 rfl th0 fr.b3 HO.out th0_ok ?_))
  have FR := hide (fr.res HV.out r.1)
  exact bodyPost_ret (results_th rfl _ _ (w.heap.size + 1 + 1 + 1) r.1 rfl FR.out.b3 HO.out) rfl ⟨rfl, FR.out.p.end⟩
end Go.Proofs.YthbenfnanhpcoaaGreatDoor.Mp
