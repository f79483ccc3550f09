/-
  What swapped does. No condition but that the port's functions are such, and have room.
-/
import Derived.Test.YtfhplbmgjgfihaaGreatDoorZzah
import Derived.Test.YtfhplbmgjgfihaaGreatDoorZzai
import Derived.Test.YtfhplbmgjgfihaaGreatDoorZzaa
namespace Go.Proofs.YtfhplbmgjgfihaaGreatDoor.Mp
open Go.ChangeShapes Go.WideShapes Go.ChangeAt Go.RowKit
set_option linter.unusedVariables false
set_option maxRecDepth 20000
theorem insteadM_u32 {t : Th} (ht : ThOk t) (i : Ins) {v : Int} (hv : U32 v) : U32 (insteadM t i v).1 := by
  unfold insteadM
  split
  · exact u32_wrap _
  split
  · split
    · exact ht.reg _
    · exact hv
  · exact ht.reg _

set_option maxRecDepth 20000 in
set_option maxHeartbeats 1000000 in
theorem swapped_does {S : Type} {I : List Nat → S → World → Prop} {M : Prt S} {f : Fns} (P : PortOk I M f) {t : Th} (ht : ThOk t) (i : Ins) (ha : regB i.a = true) (hc : regB i.c = true) (m : Int) (h0 : 0 ≤ m) (h1 : m < M.size) (s : S) (hq : 600 ≤ M.fuel s) (w : World) :
    Does I s w 108 #[.agg (thC t), .agg (insA i), .agg (portA M.size f), .int .i64 m] (.agg (thC (swappedM M t i s m).1)) (swappedM M t i s m).2 := by
  intro F hI
  obtain ⟨op, a, b, c, k⟩ := i
  obtain ⟨n, rfl, hn⟩ := reg_nat ha
  have hn' : (n : Int) < 8 := by omega
  have fr := Fr4.start P.inv hI t ⟨op, n, b, c, k⟩ M.size f
  have HP := hide P
  have HV := hide P.inv
  have HT := hide ht
  have HQ := hide hq
  have H0 := hide h0
  have H1 := hide h1
  have HC := hide hc
  have HU := hide (P.loadU F s w m hI)
  have HF := hide (P.loadF s m)
  have HY := hide (insteadM_u32 ht (⟨op, n, b, c, k⟩ : Ins) (P.loadU F s w m hI))
  have HX : Hid (swappedM M t ⟨op, n, b, c, k⟩ s m = (t.put n (M.load s m), M.note (swapM M t ⟨op, n, b, c, k⟩ s m) ⟨4, 0, t.pc, m, (insteadM t ⟨op, n, b, c, k⟩ (M.load s m)).1, M.load s m, 0, (insteadM t ⟨op, n, b, c, k⟩ (M.load s m)).2⟩)) := rfl
  have HS : Hid (swapM M t ⟨op, n, b, c, k⟩ s m = if (insteadM t ⟨op, n, b, c, k⟩ (M.load s m)).2 then M.swapS (M.loadS s m) m (insteadM t ⟨op, n, b, c, k⟩ (M.load s m)).1 else M.loadS s m) := rfl
  clear P hI ht hq h0 h1 ha hc
  go_enter Tryz.func108, Tryz.ntmps108
  go_wp2_with (fail)
  rw [(HP.out.load s w m H0.out H1.out (by have := HQ.out; omega)).run, Oper.upon_enter]
  refine ((HP.out.load s _ m H0.out H1.out (by have := HQ.out; omega)).does.go fr.p).mono ?_
  rintro e u ⟨⟨rfl, k1⟩, p1⟩
  replace fr := fr.loc k1 p1
  clear k1 p1
  generalize M.load s m = v at HU HX HS HY ⊢
  have hin := inStead_calls HT.out ⟨op, n, b, c, k⟩ (by simp [regB]; omega) HC.out v u
  generalize insteadM t ⟨op, n, b, c, k⟩ v = q at hin HX HS HY
  generalize swapM M t ⟨op, n, b, c, k⟩ s m = s2 at HX HS
  obtain ⟨x, ok⟩ := q
  cases ok
  · have e2 : s2 = M.loadS s m := HS.out
    clear HS
    go_wp2_with (first
      | (refine load_th rfl _ rfl w.heap.size rfl t fr.b0 HT.out ?_)
      | (refine load_ins rfl _ rfl (w.heap.size + 1) rfl ⟨op, n, b, c, k⟩ fr.b1 ?_)
      | (go_at_call 110; refine hin.mono ?_; rintro e u1 ⟨rfl, g1⟩; have cp := (fr.b0.later g1).cell (thC_pc t); have c6 := (fr.b2.later g1).cell (o := 6) rfl; have c1 := (fr.b2.later g1).cell (o := 10) rfl))
    replace fr := fr.gr HV.out g1
    clear g1 hin
    subst e2
    have q2 : 200 ≤ M.fuel (M.loadS s m) := by have := HQ.out; have := HF.out; omega
    rw [(HP.out.note (M.loadS s m) w ⟨4, 0, t.pc, m, x, v, 0, false⟩ q2).run, Oper.upon_enter]
    refine ((HP.out.note (M.loadS s m) _ ⟨4, 0, t.pc, m, x, v, 0, false⟩ q2).does.go fr.p).mono ?_
    rintro e u2 ⟨⟨rfl, k1⟩, p1⟩
    replace fr := fr.loc k1 p1
    clear k1 p1 cp c1 q2
    have ci := fr.b1.cell (o := 1) rfl
    have cr := fr.b0.cell (thC_reg HT.out n hn)
    have frr := fr.b0.free (1 + n)
    have fr1 := fr.set HV.out (1 + n) (.int .u32 v) (thC_put HT.out n hn v)
    have ok1 := HT.out.put n v HU.out
    have FR := hide (fr1.res HV.out (t.put n v))
    go_wp2_with (first
      | (refine load_th rfl _ rfl w.heap.size rfl (t.put n v) fr1.b0 ok1 ?_)
      | (refine store_th rfl _ _ rfl (w.heap.size + 1 + 1 + 1) rfl (t.put n v) rfl th0 fr1.b3 ok1 th0_ok ?_))
    rw [HX.out]
    exact bodyPost_ret (results_th rfl _ _ (w.heap.size + 1 + 1 + 1) (t.put n v) rfl FR.out.b3 ok1) rfl ⟨rfl, FR.out.p.end⟩
  · have e2 : s2 = M.swapS (M.loadS s m) m x := HS.out
    clear HS
    go_wp2_with (first
      | (refine load_th rfl _ rfl w.heap.size rfl t fr.b0 HT.out ?_)
      | (refine load_ins rfl _ rfl (w.heap.size + 1) rfl ⟨op, n, b, c, k⟩ fr.b1 ?_)
      | (go_at_call 110; refine hin.mono ?_; rintro e u1 ⟨rfl, g1⟩; have cp := (fr.b0.later g1).cell (thC_pc t); have c6 := (fr.b2.later g1).cell (o := 6) rfl; have c1 := (fr.b2.later g1).cell (o := 10) rfl))
    replace fr := fr.gr HV.out g1
    clear g1 hin
    subst e2
    have HF2 := hide (HP.out.swapF (M.loadS s m) m x)
    have q1 : 200 ≤ M.fuel (M.loadS s m) := by have := HQ.out; have := HF.out; omega
    rw [(HP.out.swap (M.loadS s m) w m x H0.out H1.out HY.out q1).run, Oper.upon_enter]
    refine ((HP.out.swap (M.loadS s m) _ m x H0.out H1.out HY.out q1).does.go fr.p).mono ?_
    rintro e u2 ⟨⟨rfl, k1⟩, p1⟩
    replace fr := fr.loc k1 p1
    clear k1 p1 c1 c6 cp q1
    have cp := fr.b0.cell (thC_pc t)
    have c1 := fr.b2.cell (o := 10) rfl
    go_wp2_with (fail)
    have q2 : 200 ≤ M.fuel (M.swapS (M.loadS s m) m x) := by have := HQ.out; have := HF.out; have := HF2.out; omega
    rw [(HP.out.note (M.swapS (M.loadS s m) m x) w ⟨4, 0, t.pc, m, x, v, 0, true⟩ q2).run, Oper.upon_enter]
    refine ((HP.out.note (M.swapS (M.loadS s m) m x) _ ⟨4, 0, t.pc, m, x, v, 0, true⟩ q2).does.go fr.p).mono ?_
    rintro e u3 ⟨⟨rfl, k1⟩, p1⟩
    replace fr := fr.loc k1 p1
    clear k1 p1 cp c1 q2
    have ci := fr.b1.cell (o := 1) rfl
    have cr := fr.b0.cell (thC_reg HT.out n hn)
    have frr := fr.b0.free (1 + n)
    have fr1 := fr.set HV.out (1 + n) (.int .u32 v) (thC_put HT.out n hn v)
    have ok1 := HT.out.put n v HU.out
    have FR := hide (fr1.res HV.out (t.put n v))
    go_wp2_with (first
      | (refine load_th rfl _ rfl w.heap.size rfl (t.put n v) fr1.b0 ok1 ?_)
      | (refine store_th rfl _ _ rfl (w.heap.size + 1 + 1 + 1) rfl (t.put n v) rfl th0 fr1.b3 ok1 th0_ok ?_))
    rw [HX.out]
    exact bodyPost_ret (results_th rfl _ _ (w.heap.size + 1 + 1 + 1) (t.put n v) rfl FR.out.b3 ok1) rfl ⟨rfl, FR.out.p.end⟩
section
variable {S : Type} {I : List Nat → S → World → Prop} {M : Prt S} {f : Fns}
theorem loadedM_ok (P : PortOk I M f) {F : List Nat} {s : S} {w : World} (hI : I F s w) {t : Th} (ht : ThOk t) (i : Ins) (m : Int) : ThOk (loadedM M t i s m).1 := ht.put _ _ (P.loadU F s w m hI)
theorem swappedM_ok (P : PortOk I M f) {F : List Nat} {s : S} {w : World} (hI : I F s w) {t : Th} (ht : ThOk t) (i : Ins) (m : Int) : ThOk (swappedM M t i s m).1 := ht.put _ _ (P.loadU F s w m hI)
theorem wokeM_ok (P : PortOk I M f) {F : List Nat} {s : S} {w : World} (hI : I F s w) {t : Th} (ht : ThOk t) (i : Ins) (m : Int) : ThOk (wokeM M t i s m).1 := ht.put _ _ (P.wakeU F s w m _ hI)
theorem waitedM_ok {s : S} {t : Th} (ht : ThOk t) (i : Ins) (m : Int) : ThOk (waitedM M t i s m).1 := by
  unfold waitedM
  split
  · exact (ht.put _ 0 ⟨by decide, by decide⟩).is 1
  · exact ht.put _ 1 ⟨by decide, by decide⟩
theorem askedM_ok (P : PortOk I M f) {F : List Nat} {s : S} {w : World} (hI : I F s w) {t : Th} (ht : ThOk t) (i : Ins) : ThOk (askedM M t i s).1 := by
  unfold askedM
  split
  · exact loadedM_ok P hI ht _ _
  split
  · exact ht
  split
  · exact waitedM_ok ht _ _
  split
  · exact wokeM_ok P hI ht _ _
  · exact swappedM_ok P hI ht _ _
end
theorem askedM_pc {S : Type} (M : Prt S) (t : Th) (i : Ins) (s : S) : (askedM M t i s).1.pc = t.pc := by
  unfold askedM loadedM storedM waitedM wokeM swappedM
  split
  · rfl
  split
  · rfl
  split
  · split <;> rfl
  split <;> rfl

set_option maxHeartbeats 2000000 in
theorem asked_does {S : Type} {I : List Nat → S → World → Prop} {M : Prt S} {f : Fns} (P : PortOk I M f) {t : Th} (ht : ThOk t) (i : Ins) (hi : InsOk i) (ha : regB i.a = true) (hc : regB i.c = true) (h1 : addrM t i < M.size) (s : S) (hr : i.op = 17 → M.room s = true) (hq : 600 ≤ M.fuel s) (w : World) :
    Does I s w 96 #[.agg (thC t), .agg (insA i), .agg (portA M.size f)] (.agg (thC (askedM M t i s).1)) (askedM M t i s).2 := by
  intro F hI
  have fr := Fr4.start P.inv hI t i M.size f
  have HA := hide ha
  have HC := hide hc
  have HV := hide P.inv
  have HT := hide ht
  have hu := addr_u32 ht hi
  have hw := wrap_u32 hu
  have HM : Hid (askedM M t i s = if i.op = 16 then loadedM M t i s (addrM t i) else if i.op = 17 then storedM M t i s (addrM t i) else if i.op = 23 then waitedM M t i s (addrM t i)
    else if i.op = 24 then wokeM M t i s (addrM t i) else swappedM M t i s (addrM t i)) := rfl
  have HO := hide (askedM_ok P hI ht i)
  have D16 : Hid (∀ w, Does I s w 104 #[.agg (thC t), .agg (insA i), .agg (portA M.size f), .int .i64 (addrM t i)] (.agg (thC (loadedM M t i s (addrM t i)).1)) (loadedM M t i s (addrM t i)).2) := fun w => loaded_does P ht i ha _ hu.1 h1 s (by omega) w
  have D17 : Hid (i.op = 17 → ∀ w, Does I s w 105 #[.agg (thC t), .agg (insA i), .agg (portA M.size f), .int .i64 (addrM t i)] (.agg (thC (storedM M t i s (addrM t i)).1)) (storedM M t i s (addrM t i)).2) := fun e w => stored_does P ht i ha _ hu.1 h1 s (hr e) (by omega) w
  have D23 : Hid (∀ w, Does I s w 106 #[.agg (thC t), .agg (insA i), .agg (portA M.size f), .int .i64 (addrM t i)] (.agg (thC (waitedM M t i s (addrM t i)).1)) (waitedM M t i s (addrM t i)).2) := fun w => waited_does P ht i ha _ hu.1 h1 s hq w
  have D24 : Hid (∀ w, Does I s w 107 #[.agg (thC t), .agg (insA i), .agg (portA M.size f), .int .i64 (addrM t i)] (.agg (thC (wokeM M t i s (addrM t i)).1)) (wokeM M t i s (addrM t i)).2) := fun w => woke_does P ht i ha _ hu.1 h1 s (by omega) w
  have D19 : Hid (∀ w, Does I s w 108 #[.agg (thC t), .agg (insA i), .agg (portA M.size f), .int .i64 (addrM t i)] (.agg (thC (swappedM M t i s (addrM t i)).1)) (swappedM M t i s (addrM t i)).2) := fun w => swapped_does P ht i ha hc _ hu.1 h1 s hq w
  have HAD := hide (address_calls ht i)
  generalize askedM M t i s = r at HM HO ⊢
  generalize addrM t i = m at HM D16 D17 D23 D24 D19 HAD hw
  clear P hI ht hi ha hc h1 hr hq hu
  obtain ⟨op, a, b, c, k⟩ := i
  by_cases e16 : op = 16
  · subst e16
    have hr : r = loadedM M t ⟨16, a, b, c, k⟩ s m := by rw [HM.out]; rfl
    clear HM
    subst hr
    generalize loadedM M t ⟨16, a, b, c, k⟩ s m = r at HO D16 ⊢
    go_enter Tryz.func96, Tryz.ntmps96
    go_wp2_with (first
      | (refine load_th rfl _ rfl w.heap.size rfl t fr.b0 HT.out ?_)
      | (refine load_ins rfl _ rfl (w.heap.size + 1) rfl ⟨16, a, b, c, k⟩ fr.b1 ?_)
      | (refine load_port rfl _ rfl (w.heap.size + 1 + 1) rfl M.size f fr.b2 ?_)
      | (go_at_call 62; refine (HAD.out _).mono ?_; rintro e u1 ⟨rfl, g1⟩; replace fr := fr.gr HV.out g1; clear g1; have co := fr.b1.cell (o := 0) rfl)
      | (go_at_call 104; refine ((D16.out _).go fr.p).mono ?_; rintro e u2 ⟨⟨rfl, k1⟩, p1⟩; replace fr := fr.loc k1 p1; clear k1 p1 co)
      | (refine store_th rfl _ _ rfl (w.heap.size + 1 + 1 + 1) rfl r.1 rfl th0 fr.b3 HO.out th0_ok ?_))
    have FR := hide (fr.res HV.out r.1)
    exact bodyPost_ret (results_th rfl _ _ (w.heap.size + 1 + 1 + 1) r.1 rfl FR.out.b3 HO.out) rfl ⟨rfl, FR.out.p.end⟩
  by_cases e17 : op = 17
  · subst e17
    replace D17 := D17.out rfl
    have hr : r = storedM M t ⟨17, a, b, c, k⟩ s m := by rw [HM.out]; rfl
    clear HM
    subst hr
    generalize storedM M t ⟨17, a, b, c, k⟩ s m = r at HO D17 ⊢
    go_enter Tryz.func96, Tryz.ntmps96
    go_wp2_with (first
      | (refine load_th rfl _ rfl w.heap.size rfl t fr.b0 HT.out ?_)
      | (refine load_ins rfl _ rfl (w.heap.size + 1) rfl ⟨17, a, b, c, k⟩ fr.b1 ?_)
      | (refine load_port rfl _ rfl (w.heap.size + 1 + 1) rfl M.size f fr.b2 ?_)
      | (go_at_call 62; refine (HAD.out _).mono ?_; rintro e u1 ⟨rfl, g1⟩; replace fr := fr.gr HV.out g1; clear g1; have co := fr.b1.cell (o := 0) rfl)
      | (go_at_call 105; refine ((D17 _).go fr.p).mono ?_; rintro e u2 ⟨⟨rfl, k1⟩, p1⟩; replace fr := fr.loc k1 p1; clear k1 p1 co)
      | (refine store_th rfl _ _ rfl (w.heap.size + 1 + 1 + 1) rfl r.1 rfl th0 fr.b3 HO.out th0_ok ?_))
    have FR := hide (fr.res HV.out r.1)
    exact bodyPost_ret (results_th rfl _ _ (w.heap.size + 1 + 1 + 1) r.1 rfl FR.out.b3 HO.out) rfl ⟨rfl, FR.out.p.end⟩
  by_cases e23 : op = 23
  · subst e23
    have hr : r = waitedM M t ⟨23, a, b, c, k⟩ s m := by rw [HM.out]; rfl
    clear HM
    subst hr
    generalize waitedM M t ⟨23, a, b, c, k⟩ s m = r at HO D23 ⊢
    go_enter Tryz.func96, Tryz.ntmps96
    go_wp2_with (first
      | (refine load_th rfl _ rfl w.heap.size rfl t fr.b0 HT.out ?_)
      | (refine load_ins rfl _ rfl (w.heap.size + 1) rfl ⟨23, a, b, c, k⟩ fr.b1 ?_)
      | (refine load_port rfl _ rfl (w.heap.size + 1 + 1) rfl M.size f fr.b2 ?_)
      | (go_at_call 62; refine (HAD.out _).mono ?_; rintro e u1 ⟨rfl, g1⟩; replace fr := fr.gr HV.out g1; clear g1; have co := fr.b1.cell (o := 0) rfl)
      | (go_at_call 106; refine ((D23.out _).go fr.p).mono ?_; rintro e u2 ⟨⟨rfl, k1⟩, p1⟩; replace fr := fr.loc k1 p1; clear k1 p1 co)
      | (refine store_th rfl _ _ rfl (w.heap.size + 1 + 1 + 1) rfl r.1 rfl th0 fr.b3 HO.out th0_ok ?_))
    have FR := hide (fr.res HV.out r.1)
    exact bodyPost_ret (results_th rfl _ _ (w.heap.size + 1 + 1 + 1) r.1 rfl FR.out.b3 HO.out) rfl ⟨rfl, FR.out.p.end⟩
  by_cases e24 : op = 24
  · subst e24
    have hr : r = wokeM M t ⟨24, a, b, c, k⟩ s m := by rw [HM.out]; rfl
    clear HM
    subst hr
    generalize wokeM M t ⟨24, a, b, c, k⟩ s m = r at HO D24 ⊢
    go_enter Tryz.func96, Tryz.ntmps96
    go_wp2_with (first
      | (refine load_th rfl _ rfl w.heap.size rfl t fr.b0 HT.out ?_)
      | (refine load_ins rfl _ rfl (w.heap.size + 1) rfl ⟨24, a, b, c, k⟩ fr.b1 ?_)
      | (refine load_port rfl _ rfl (w.heap.size + 1 + 1) rfl M.size f fr.b2 ?_)
      | (go_at_call 62; refine (HAD.out _).mono ?_; rintro e u1 ⟨rfl, g1⟩; replace fr := fr.gr HV.out g1; clear g1; have co := fr.b1.cell (o := 0) rfl)
      | (go_at_call 107; refine ((D24.out _).go fr.p).mono ?_; rintro e u2 ⟨⟨rfl, k1⟩, p1⟩; replace fr := fr.loc k1 p1; clear k1 p1 co)
      | (refine store_th rfl _ _ rfl (w.heap.size + 1 + 1 + 1) rfl r.1 rfl th0 fr.b3 HO.out th0_ok ?_))
    have FR := hide (fr.res HV.out r.1)
    exact bodyPost_ret (results_th rfl _ _ (w.heap.size + 1 + 1 + 1) r.1 rfl FR.out.b3 HO.out) rfl ⟨rfl, FR.out.p.end⟩
  have q16 : (op == 16) = false := by simp [e16]
  have q17 : (op == 17) = false := by simp [e17]
  have q23 : (op == 23) = false := by simp [e23]
  have q24 : (op == 24) = false := by simp [e24]
  have hr : r = swappedM M t ⟨op, a, b, c, k⟩ s m := by rw [HM.out]; simp [e16, e17, e23, e24]
  clear HM e16 e17 e23 e24
  subst hr
  generalize swappedM M t ⟨op, a, b, c, k⟩ s m = r at HO D19 ⊢
  go_enter Tryz.func96, Tryz.ntmps96
  go_wp2_with (first
    | (refine load_th rfl _ rfl w.heap.size rfl t fr.b0 HT.out ?_)
    | (refine load_ins rfl _ rfl (w.heap.size + 1) rfl ⟨op, a, b, c, k⟩ fr.b1 ?_)
    | (refine load_port rfl _ rfl (w.heap.size + 1 + 1) rfl M.size f fr.b2 ?_)
    | (go_at_call 62; refine (HAD.out _).mono ?_; rintro e u1 ⟨rfl, g1⟩; replace fr := fr.gr HV.out g1; clear g1; have co := fr.b1.cell (o := 0) rfl)
    | (go_at_call 108; refine ((D19.out _).go fr.p).mono ?_; rintro e u2 ⟨⟨rfl, k1⟩, p1⟩; replace fr := fr.loc k1 p1; clear k1 p1 co)
    | (refine store_th rfl _ _ rfl (w.heap.size + 1 + 1 + 1) rfl r.1 rfl th0 fr.b3 HO.out th0_ok ?_))
  have FR := hide (fr.res HV.out r.1)
  exact bodyPost_ret (results_th rfl _ _ (w.heap.size + 1 + 1 + 1) r.1 rfl FR.out.b3 HO.out) rfl ⟨rfl, FR.out.p.end⟩
theorem aloneM_ok {S : Type} (M : Prt S) {t : Th} (ht : ThOk t) (i : Ins) (hi : InsOk i) (s : S) : ThOk (aloneM M t i s).1 := by
  unfold aloneM
  split
  · exact ht.put _ _ ⟨hi.k0, hi.k1⟩
  split
  · exact ht.put _ _ (ht.reg _)
  split
  · exact ht
  split
  · exact ht
  split
  · exact ht
  split
  · exact ht
  · exact ht
theorem aloneM_pc {S : Type} (M : Prt S) (t : Th) (i : Ins) (s : S) : (aloneM M t i s).1.pc = t.pc := by
  unfold aloneM
  split
  · rfl
  split
  · rfl
  split
  · rfl
  split
  · rfl
  split
  · rfl
  split
  · rfl
  · rfl

set_option maxRecDepth 20000 in
set_option maxHeartbeats 2000000 in
theorem alone_does {S : Type} {I : List Nat → S → World → Prop} {M : Prt S} {f : Fns} (P : PortOk I M f) {t : Th} (ht : ThOk t) (i : Ins) (hi : InsOk i) (ha : regB i.a = true) (hb : i.op = 2 → regB i.b = true) (s : S) (hq : 400 ≤ M.fuel s) (w : World) :
    Does I s w 99 #[.agg (thC t), .agg (insA i), .agg (portA M.size f)] (.agg (thC (aloneM M t i s).1)) (aloneM M t i s).2 := by
  intro F hI
  obtain ⟨op, a, b, c, k⟩ := i
  obtain ⟨n, rfl, hn⟩ := reg_nat ha
  have hn' : (n : Int) < 8 := by omega
  have fr := Fr4.start P.inv hI t ⟨op, n, b, c, k⟩ M.size f
  have HP := hide P
  have HV := hide P.inv
  have HT := hide ht
  have HQ := hide hq
  have HB := hide hb
  have HK : Hid (U32 k) := ⟨hi.k0, hi.k1⟩
  have cr := thC_reg ht n hn
  have cp := thC_pc t
  have HI := hide hI
  clear P hI ht hq ha hb hi
  by_cases e1 : op = 1
  · subst e1
    have fr1 := Fr4.start HV.out HI.out (t.put n k) ⟨1, n, b, c, k⟩ M.size f
    rw [← thC_put HT.out n hn k] at fr1
    have ok1 := HT.out.put n k HK.out
    have FR := hide (fr1.res HV.out (t.put n k))
    go_enter Tryz.func99, Tryz.ntmps99
    go_wp2_with (first
      | (refine load_th rfl _ rfl w.heap.size rfl (t.put n k) fr1.b0 ok1 ?_)
      | (refine store_th rfl _ _ rfl (w.heap.size + 1 + 1 + 1) rfl (t.put n k) rfl th0 fr1.b3 ok1 th0_ok ?_))
    exact bodyPost_ret (results_th rfl _ _ (w.heap.size + 1 + 1 + 1) (t.put n k) rfl FR.out.b3 ok1) rfl ⟨rfl, FR.out.p.end⟩
  by_cases e2 : op = 2
  · subst e2
    obtain ⟨m, rfl, hm⟩ := reg_nat (HB.out rfl)
    have hm' : (m : Int) < 8 := by omega
    have HR := hide (HT.out.reg m)
    have cm := thC_reg HT.out m hm
    have HX : Hid ((aloneM M t ⟨2, n, m, c, k⟩ s) = (t.put n (t.reg m), s)) := rfl
    generalize t.reg m = v at cm HR HX
    go_enter Tryz.func99, Tryz.ntmps99
    go_wp2_with (fail)
    change Code.wp _ _ _ _ ((((w.alloc (.cells (thC t) 46)).alloc (.cells (insA ⟨2, n, m, c, k⟩) 53)).alloc (.cells (portA M.size f) 90)).alloc (.cells th0A 46))
    generalize ((((w.alloc (.cells (thC t) 46)).alloc (.cells (insA ⟨2, n, m, c, k⟩) 53)).alloc (.cells (portA M.size f) 90)).alloc (.cells th0A 46)) = u0 at fr ⊢
    replace fr := fr.gr HV.out (Gr.refl u0).drew
    have c1 := fr.b1.cell (o := 1) rfl
    have c2 := fr.b1.cell (o := 2) rfl
    have c3 := fr.b0.cell cm
    have c4 := fr.b0.cell cr
    have f4 := fr.b0.free (1 + n)
    refine begin_late 10 [9] (fun w' => w' = u0.drew) (by kernel_rfl) rfl ?_
    have hH : u0.drew = u0.drew := rfl
    refine AnyL.pp 0 25 (.pointer (some ⟨w.heap.size + 1, 1, none⟩)) rfl rfl (by kernel_rfl) (fun _ _ _ h => h) (fun _ => by go_simp) hH ?_
    simp only [pz, pz0, pzs]
    refine AnyL.tt 1 26 (.int .i64 n) rfl rfl (by kernel_rfl) (fun _ _ _ h => h) (fun w' hw' => by subst hw'; go_simp) hH ?_
    simp only [pz, pz0, pzs]
    refine AnyL.pp 2 27 (.pointer (some ⟨w.heap.size + 1, 2, none⟩)) rfl rfl (by kernel_rfl) (fun _ _ _ h => h) (fun _ => by go_simp) hH ?_
    simp only [pz, pz0, pzs]
    refine AnyL.tt 3 28 (.int .i64 m) rfl rfl (by kernel_rfl) (fun _ _ _ h => h) (fun w' hw' => by subst hw'; go_simp) hH ?_
    simp only [pz, pz0, pzs]
    refine AnyL.pp 4 29 (.pointer (some ⟨w.heap.size, 1, none⟩)) rfl rfl (by kernel_rfl) (fun _ _ _ h => h) (fun _ => by go_simp) hH ?_
    simp only [pz, pz0, pzs]
    refine AnyL.pp 5 30 (.pointer (some ⟨w.heap.size, 1 + m, none⟩)) rfl rfl (by kernel_rfl) (fun _ _ _ h => h) (fun _ => by go_simp) hH ?_
    simp only [pz, pz0, pzs]
    refine AnyL.tt 6 31 (.int .u32 v) rfl rfl (by kernel_rfl) (fun _ _ _ h => h) (fun w' hw' => by subst hw'; go_simp) hH ?_
    simp only [pz, pz0, pzs]
    refine AnyL.pp 7 32 (.pointer (some ⟨w.heap.size, 1, none⟩)) rfl rfl (by kernel_rfl) (fun _ _ _ h => h) (fun _ => by go_simp) hH ?_
    simp only [pz, pz0, pzs]
    refine AnyL.pp 8 33 (.pointer (some ⟨w.heap.size, 1 + n, none⟩)) rfl rfl (by kernel_rfl) (fun _ _ _ h => h) (fun _ => by go_simp) hH ?_
    simp only [pz, pz0, pzs]
    refine AnyL.one 9 (by kernel_rfl) rfl (by kernel_rfl) ?_
    refine wp_store_word rfl _ _ rfl w.heap.size (1 + n) (by kernel_rfl) v (by kernel_rfl) _ c4 f4 ?_
    refine ⟨late (by kernel_rfl), ?_⟩
    refine AnyL.done (by kernel_rfl) ?_
    have fr1 := fr.set HV.out (1 + n) (.int .u32 v) (thC_put HT.out n hn v)
    have ok1 := HT.out.put n v HR.out
    have FR := hide (fr1.res HV.out (t.put n v))
    go_wp2_with (first
      | (refine load_th rfl _ rfl w.heap.size rfl (t.put n v) fr1.b0 ok1 ?_)
      | (refine store_th rfl _ _ rfl (w.heap.size + 1 + 1 + 1) rfl (t.put n v) rfl th0 fr1.b3 ok1 th0_ok ?_))
    rw [HX.out]
    exact bodyPost_ret (results_th rfl _ _ (w.heap.size + 1 + 1 + 1) (t.put n v) rfl FR.out.b3 ok1) rfl ⟨rfl, FR.out.p.end⟩
  by_cases e18 : op = 18
  · subst e18
    go_enter Tryz.func99, Tryz.ntmps99
    go_wp2_with (fail)
    have q2 : 200 ≤ M.fuel s := by have := HQ.out; omega
    rw [(HP.out.note s w (evt 5 t.pc) q2).run, Oper.upon_enter]
    refine ((HP.out.note s _ (evt 5 t.pc) q2).does.go fr.p).mono ?_
    rintro e u2 ⟨⟨rfl, k1⟩, p1⟩
    replace fr := fr.loc k1 p1
    clear k1 p1 q2
    have fr1 := fr
    have ok1 := HT.out
    have FR := hide (fr1.res HV.out t)
    go_wp2_with (first
      | (refine load_th rfl _ rfl w.heap.size rfl (t) fr1.b0 ok1 ?_)
      | (refine store_th rfl _ _ rfl (w.heap.size + 1 + 1 + 1) rfl (t) rfl th0 fr1.b3 ok1 th0_ok ?_))
    exact bodyPost_ret (results_th rfl _ _ (w.heap.size + 1 + 1 + 1) (t) rfl FR.out.b3 ok1) rfl ⟨rfl, FR.out.p.end⟩
  by_cases e22 : op = 22
  · subst e22
    go_enter Tryz.func99, Tryz.ntmps99
    go_wp2_with (fail)
    have q2 : 200 ≤ M.fuel s := by have := HQ.out; omega
    rw [(HP.out.note s w (⟨6, 0, t.pc, 0, t.reg n, 0, 0, false⟩) q2).run, Oper.upon_enter]
    refine ((HP.out.note s _ (⟨6, 0, t.pc, 0, t.reg n, 0, 0, false⟩) q2).does.go fr.p).mono ?_
    rintro e u2 ⟨⟨rfl, k1⟩, p1⟩
    replace fr := fr.loc k1 p1
    clear k1 p1 q2
    have fr1 := fr
    have ok1 := HT.out
    have FR := hide (fr1.res HV.out t)
    go_wp2_with (first
      | (refine load_th rfl _ rfl w.heap.size rfl (t) fr1.b0 ok1 ?_)
      | (refine store_th rfl _ _ rfl (w.heap.size + 1 + 1 + 1) rfl (t) rfl th0 fr1.b3 ok1 th0_ok ?_))
    exact bodyPost_ret (results_th rfl _ _ (w.heap.size + 1 + 1 + 1) (t) rfl FR.out.b3 ok1) rfl ⟨rfl, FR.out.p.end⟩
  by_cases e25 : op = 25
  · subst e25
    go_enter Tryz.func99, Tryz.ntmps99
    go_wp2_with (fail)
    have q2 : 200 ≤ M.fuel s := by have := HQ.out; omega
    rw [(HP.out.remote s w q2).run, Oper.upon_enter]
    have hh := (HP.out.remote s _ q2).does.go fr.p
    refine hh.mono ?_
    clear hh
    rintro e u2 ⟨⟨rfl, k1⟩, p1⟩
    replace fr := fr.loc k1 p1
    clear k1 p1 q2 cp
    have cp := fr.b0.cell (thC_pc t)
    have c10 := fr.b2.cell (o := 10) rfl
    go_wp2_with (fail)
    have q2 : 200 ≤ M.fuel (M.remote s) := by have := HQ.out; have := HP.out.remoteF s; omega
    rw [(HP.out.note (M.remote s) w (evt 10 t.pc) q2).run, Oper.upon_enter]
    refine ((HP.out.note (M.remote s) _ (evt 10 t.pc) q2).does.go fr.p).mono ?_
    rintro e u3 ⟨⟨rfl, k1⟩, p1⟩
    replace fr := fr.loc k1 p1
    clear k1 p1 q2 cp c10
    have fr1 := fr
    have ok1 := HT.out
    have FR := hide (fr1.res HV.out t)
    go_wp2_with (first
      | (refine load_th rfl _ rfl w.heap.size rfl (t) fr1.b0 ok1 ?_)
      | (refine store_th rfl _ _ rfl (w.heap.size + 1 + 1 + 1) rfl (t) rfl th0 fr1.b3 ok1 th0_ok ?_))
    exact bodyPost_ret (results_th rfl _ _ (w.heap.size + 1 + 1 + 1) (t) rfl FR.out.b3 ok1) rfl ⟨rfl, FR.out.p.end⟩
  by_cases e27 : op = 27
  · subst e27
    go_enter Tryz.func99, Tryz.ntmps99
    go_wp2_with (fail)
    have q2 : 200 ≤ M.fuel s := by have := HQ.out; omega
    rw [(HP.out.note s w (⟨7, 0, t.pc, 0, t.reg n, 0, k, false⟩) q2).run, Oper.upon_enter]
    refine ((HP.out.note s _ (⟨7, 0, t.pc, 0, t.reg n, 0, k, false⟩) q2).does.go fr.p).mono ?_
    rintro e u2 ⟨⟨rfl, k1⟩, p1⟩
    replace fr := fr.loc k1 p1
    clear k1 p1 q2
    have fr1 := fr
    have ok1 := HT.out
    have FR := hide (fr1.res HV.out t)
    go_wp2_with (first
      | (refine load_th rfl _ rfl w.heap.size rfl (t) fr1.b0 ok1 ?_)
      | (refine store_th rfl _ _ rfl (w.heap.size + 1 + 1 + 1) rfl (t) rfl th0 fr1.b3 ok1 th0_ok ?_))
    exact bodyPost_ret (results_th rfl _ _ (w.heap.size + 1 + 1 + 1) (t) rfl FR.out.b3 ok1) rfl ⟨rfl, FR.out.p.end⟩
  have hx : aloneM M t ⟨op, n, b, c, k⟩ s = (t, s) := by simp [aloneM, e1, e2, e18, e22, e25, e27]
  have q1 : (op == 1) = false := by simp [e1]
  have q2 : (op == 2) = false := by simp [e2]
  have q18 : (op == 18) = false := by simp [e18]
  have q22 : (op == 22) = false := by simp [e22]
  have q25 : (op == 25) = false := by simp [e25]
  have q27 : (op == 27) = false := by simp [e27]
  clear e1 e2 e18 e22 e25 e27
  have fr1 := fr
  have ok1 := HT.out
  have FR := hide (fr1.res HV.out t)
  rw [hx]
  go_enter Tryz.func99, Tryz.ntmps99
  go_wp2_with (first
    | (refine load_th rfl _ rfl w.heap.size rfl (t) fr1.b0 ok1 ?_)
    | (refine store_th rfl _ _ rfl (w.heap.size + 1 + 1 + 1) rfl (t) rfl th0 fr1.b3 ok1 th0_ok ?_))
  exact bodyPost_ret (results_th rfl _ _ (w.heap.size + 1 + 1 + 1) (t) rfl FR.out.b3 ok1) rfl ⟨rfl, FR.out.p.end⟩
end Go.Proofs.YtfhplbmgjgfihaaGreatDoor.Mp
