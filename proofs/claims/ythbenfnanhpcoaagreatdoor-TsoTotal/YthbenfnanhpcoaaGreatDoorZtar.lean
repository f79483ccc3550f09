/-
  What ended and isHeldUp do. No condition but that the port's functions are such, and have room.
-/
import Derived.Test.YthbenfnanhpcoaaGreatDoorZtaqMFrm
namespace Go.Proofs.YthbenfnanhpcoaaGreatDoor.Mp
open Go.ChangeShapes Go.WideShapes Go.ChangeAt Go.RowKit
set_option linter.unusedVariables false
set_option maxRecDepth 20000

set_option maxRecDepth 20000 in
set_option maxHeartbeats 1000000 in
theorem ended_does {S : Type} {I : List Nat → S → World → Prop} {M : Prt S} {f : Fns} (P : PortOk I M f) {t : Th} (ht : ThOk t) (st ev : Int) (s : S) (hq : 200 ≤ M.fuel s) (w : World) :
    Does I s w 91 #[.agg (thC t), .agg (portA M.size f), .int .i64 st, .int .i64 ev] (.agg (thC (endM M t s st ev).1)) (endM M t s st ev).2 := by
  intro F hI
  have fr := Fr3.start P.inv hI t M.size f
  have HN := hide P.note
  have HV := hide P.inv
  have HT := hide ht
  have HQ := hide hq
  have cp := thC_pc t
  clear P hI ht hq
  go_enter Tryz.func91, Tryz.ntmps91
  go_wp2_with (fail)
  rw [(HN.out s w (evt ev t.pc) HQ.out).run, Oper.upon_enter]
  refine ((HN.out s _ (evt ev t.pc) HQ.out).does.go fr.p).mono ?_
  rintro e u ⟨⟨rfl, k1⟩, p1⟩
  replace fr := fr.loc k1 p1
  clear k1 p1 cp
  have c9 := fr.b0.cell (thC_st HT.out)
  have f9 := fr.b0.free 9
  have fr1 := fr.set HV.out 9 (.int .i64 st) (thC_is HT.out st)
  have FR := hide (fr1.res HV.out (t.is st))
  go_wp2_with (first
    | (refine load_th rfl _ rfl w.heap.size rfl (t.is st) fr1.b0 (HT.out.is st) ?_)
    | (refine store_th rfl _ _ rfl (w.heap.size + 1 + 1) rfl (t.is st) rfl th0 fr1.b2 (HT.out.is st) th0_ok ?_))
  exact bodyPost_ret (results_th rfl _ _ (w.heap.size + 1 + 1) (t.is st) rfl FR.out.b2 (HT.out.is st)) rfl ⟨rfl, FR.out.p.end⟩
end Go.Proofs.YthbenfnanhpcoaaGreatDoor.Mp

namespace Go.Proofs.YthbenfnanhpcoaaGreatDoor.Mp
open Go.ChangeShapes Go.WideShapes Go.ChangeAt Go.RowKit
set_option linter.unusedVariables false
set_option maxRecDepth 20000

set_option maxRecDepth 20000 in
set_option maxHeartbeats 1000000 in
theorem held_does {S : Type} {I : List Nat → S → World → Prop} {M : Prt S} {f : Fns} (P : PortOk I M f) (i : Ins) (s : S) (hq : 200 ≤ M.fuel s) (w : World) :
    Does I s w 95 #[.agg (insA i), .agg (portA M.size f)] (.bool (heldM M i s)) s := by
  intro F hI
  obtain ⟨op, a, b, c, k⟩ := i
  have p := ((Pst.start P.inv hI).alloc P.inv (insA ⟨op, a, b, c, k⟩) 72).alloc P.inv (portA M.size f) 103
  have L := p.laid P.inv
  have HM : Hid (heldM M ⟨op, a, b, c, k⟩ s = if drainB op then !M.empty s else op == 17 && !M.room s) := rfl
  have HE := hide P.empty
  have HR := hide P.room
  have HQ := hide hq
  have HL := hide L
  have PP := hide p
  clear P hI hq p L
  cases hd : drainB op
  · by_cases h17 : op = 17
    · subst h17
      go_enter Tryz.func95, Tryz.ntmps95
      go_wp2_with (go_at_call 131; refine (drains_calls _ _ HL.out).mono ?_; rw [hd]; rintro e w1 ⟨rfl, rfl⟩)
      rw [(HR.out s w HQ.out).run, Oper.upon_enter]
      have hh := (HR.out s _ HQ.out).does.go PP.out
      refine hh.mono ?_
      rintro e u ⟨⟨rfl, k1⟩, p1⟩
      have P1 := hide p1
      clear k1 p1
      go_wp2_with (fail)
      go_ret
      exact ⟨by rw [HM.out]; simp [hd], P1.out.end⟩
    · have e17 : (op == 17) = false := by simp [h17]
      clear h17
      go_enter Tryz.func95, Tryz.ntmps95
      go_wp2_with (go_at_call 131; refine (drains_calls _ _ HL.out).mono ?_; rw [hd]; rintro e w1 ⟨rfl, rfl⟩)
      go_ret
      exact ⟨by rw [HM.out]; simp [hd, e17], PP.out.end⟩
  · go_enter Tryz.func95, Tryz.ntmps95
    go_wp2_with (go_at_call 131; refine (drains_calls _ _ HL.out).mono ?_; rw [hd]; rintro e w1 ⟨rfl, rfl⟩)
    rw [(HE.out s w HQ.out).run, Oper.upon_enter]
    have hh := (HE.out s _ HQ.out).does.go PP.out
    refine hh.mono ?_
    rintro e u ⟨⟨rfl, k1⟩, p1⟩
    have P1 := hide p1
    clear k1 p1
    go_wp2_with (fail)
    go_ret
    exact ⟨by rw [HM.out]; simp [hd], P1.out.end⟩
end Go.Proofs.YthbenfnanhpcoaaGreatDoor.Mp

namespace Go.Proofs.YthbenfnanhpcoaaGreatDoor.Mp
open Go.ChangeShapes Go.WideShapes Go.ChangeAt Go.RowKit
set_option linter.unusedVariables false
set_option maxRecDepth 20000

set_option maxRecDepth 20000 in
set_option maxHeartbeats 1000000 in
theorem loaded_does {S : Type} {I : List Nat → S → World → Prop} {M : Prt S} {f : Fns} (P : PortOk I M f) {t : Th} (ht : ThOk t) (i : Ins) (ha : regB i.a = true) (m : Int) (h0 : 0 ≤ m) (h1 : m < M.size) (s : S) (hq : 400 ≤ M.fuel s) (w : World) :
    Does I s w 142 #[.agg (thC t), .agg (insA i), .agg (portA M.size f), .int .i64 m] (.agg (thC (loadedM M t i s m).1)) (loadedM M t i s m).2 := by
  intro F hI
  obtain ⟨op, a, b, c, k⟩ := i
  obtain ⟨n, rfl, hn⟩ := reg_nat ha
  have hn' : (n : Int) < 8 := by omega
  have fr := Fr4.start P.inv hI t ⟨op, n, b, c, k⟩ M.size f
  have HP := hide P
  have HV := hide P.inv
  have HT := hide ht
  have HQ := hide hq
  have H0 := hide h0
  have H1 := hide h1
  have HU := hide (P.loadU F s w m hI)
  have HF := hide (P.loadF s m)
  clear P hI ht hq h0 h1 ha
  go_enter Tryz.func142, Tryz.ntmps142
  go_wp2_with (fail)
  rw [(HP.out.load s w m H0.out H1.out (by have := HQ.out; omega)).run, Oper.upon_enter]
  refine ((HP.out.load s _ m H0.out H1.out (by have := HQ.out; omega)).does.go fr.p).mono ?_
  rintro e u ⟨⟨rfl, k1⟩, p1⟩
  replace fr := fr.loc k1 p1
  clear k1 p1
  have cp := fr.b0.cell (thC_pc t)
  have c1 := fr.b2.cell (o := 10) rfl
  have HX : Hid (loadedM M t ⟨op, n, b, c, k⟩ s m = (t.put n (M.load s m), M.note (M.loadS s m) ⟨1, 0, t.pc, m, M.load s m, 0, 0, false⟩)) := rfl
  generalize M.load s m = v at HU HX ⊢
  go_wp2_with (fail)
  have q2 : 200 ≤ M.fuel (M.loadS s m) := by have := HQ.out; have := HF.out; omega
  rw [(HP.out.note (M.loadS s m) w ⟨1, 0, t.pc, m, v, 0, 0, false⟩ q2).run, Oper.upon_enter]
  refine ((HP.out.note (M.loadS s m) _ ⟨1, 0, t.pc, m, v, 0, 0, false⟩ q2).does.go fr.p).mono ?_
  rintro e u2 ⟨⟨rfl, k1⟩, p1⟩
  replace fr := fr.loc k1 p1
  clear k1 p1 cp c1 q2
  have ci := fr.b1.cell (o := 1) rfl
  have cr := fr.b0.cell (thC_reg HT.out n hn)
  have frr := fr.b0.free (1 + n)
  have fr1 := fr.set HV.out (1 + n) (.int .u32 v) (thC_put HT.out n hn v)
  have ok1 := HT.out.put n v HU.out
  have FR := hide (fr1.res HV.out (t.put n v))
  go_wp2_with (first
    | (refine load_th rfl _ rfl w.heap.size rfl (t.put n v) fr1.b0 ok1 ?_)
    | (refine store_th rfl _ _ rfl (w.heap.size + 1 + 1 + 1) rfl (t.put n v) rfl th0 fr1.b3 ok1 th0_ok ?_))
  rw [HX.out]
  exact bodyPost_ret (results_th rfl _ _ (w.heap.size + 1 + 1 + 1) (t.put n v) rfl FR.out.b3 ok1) rfl ⟨rfl, FR.out.p.end⟩

set_option maxRecDepth 20000 in
set_option maxHeartbeats 1000000 in
theorem stored_does {S : Type} {I : List Nat → S → World → Prop} {M : Prt S} {f : Fns} (P : PortOk I M f) {t : Th} (ht : ThOk t) (i : Ins) (ha : regB i.a = true) (m : Int) (h0 : 0 ≤ m) (h1 : m < M.size) (s : S) (hr : M.room s = true) (hq : 400 ≤ M.fuel s) (w : World) :
    Does I s w 143 #[.agg (thC t), .agg (insA i), .agg (portA M.size f), .int .i64 m] (.agg (thC (storedM M t i s m).1)) (storedM M t i s m).2 := by
  intro F hI
  obtain ⟨op, a, b, c, k⟩ := i
  obtain ⟨n, rfl, hn⟩ := reg_nat ha
  have hn' : (n : Int) < 8 := by omega
  have fr := Fr4.start P.inv hI t ⟨op, n, b, c, k⟩ M.size f
  have HP := hide P
  have HV := hide P.inv
  have HT := hide ht
  have HQ := hide hq
  have H0 := hide h0
  have H1 := hide h1
  have HO := hide hr
  have HR := hide (ht.reg n)
  have HF := hide (P.storeF s m (t.reg n))
  have cr := thC_reg ht n hn
  have HX : Hid (storedM M t ⟨op, n, b, c, k⟩ s m = (t, M.note (M.store s m (t.reg n)) ⟨2, 0, t.pc, m, t.reg n, 0, 0, false⟩)) := rfl
  generalize t.reg n = r at cr HX HR HF
  clear P hI ht hq h0 h1 ha hr
  go_enter Tryz.func143, Tryz.ntmps143
  go_wp2_with (fail)
  rw [(HP.out.store s w m r H0.out H1.out HR.out HO.out (by have := HQ.out; omega)).run, Oper.upon_enter]
  refine ((HP.out.store s _ m r H0.out H1.out HR.out HO.out (by have := HQ.out; omega)).does.go fr.p).mono ?_
  rintro e u ⟨⟨rfl, k1⟩, p1⟩
  replace fr := fr.loc k1 p1
  clear k1 p1 cr
  have cp := fr.b0.cell (thC_pc t)
  have c1 := fr.b2.cell (o := 10) rfl
  go_wp2_with (fail)
  have q2 : 200 ≤ M.fuel (M.store s m r) := by have := HQ.out; have := HF.out; omega
  rw [(HP.out.note (M.store s m r) w ⟨2, 0, t.pc, m, r, 0, 0, false⟩ q2).run, Oper.upon_enter]
  refine ((HP.out.note (M.store s m r) _ ⟨2, 0, t.pc, m, r, 0, 0, false⟩ q2).does.go fr.p).mono ?_
  rintro e u2 ⟨⟨rfl, k1⟩, p1⟩
  replace fr := fr.loc k1 p1
  clear k1 p1 cp c1 q2
  have FR := hide (fr.res HV.out t)
  have fr1 := fr
  have ok1 := HT.out
  go_wp2_with (first
    | (refine load_th rfl _ rfl w.heap.size rfl t fr1.b0 ok1 ?_)
    | (refine store_th rfl _ _ rfl (w.heap.size + 1 + 1 + 1) rfl t rfl th0 fr1.b3 ok1 th0_ok ?_))
  rw [HX.out]
  exact bodyPost_ret (results_th rfl _ _ (w.heap.size + 1 + 1 + 1) t rfl FR.out.b3 ok1) rfl ⟨rfl, FR.out.p.end⟩
end Go.Proofs.YthbenfnanhpcoaaGreatDoor.Mp

namespace Go.Proofs.YthbenfnanhpcoaaGreatDoor.Mp
open Go.ChangeShapes Go.WideShapes Go.ChangeAt Go.RowKit
set_option linter.unusedVariables false
set_option maxRecDepth 20000

set_option maxRecDepth 20000 in
/-- a call of a function value of the program's own -/
theorem run_clo {o : Oper} {a : Act} {w : World} {d : Option Tmp} (hd : o.dst = d) (x : Operand) (xs : Array Operand) (ts : Array TypeId) (v : Option TypeId) (ho : o.op = .call { callee := .value x, args := xs, argTypes := ts })
    (F : FuncId) (r : Value) (hx : a.eval x = .func (.func F) #[r] #[]) (args : Array Value) (ha : xs.map a.eval = args) (hF : ∀ args w, (callFunc F args).run Tryz.prog w = .ok (.enter F args) w) :
    (execOp a.eval o).run Tryz.prog w = .ok (.enter F (#[r] ++ args)) w := by
  subst ha
  unfold execOp
  simp [ho, resolve, Deferred.ofValue, invoke, hx, hF]

set_option maxRecDepth 20000 in
set_option maxHeartbeats 1000000 in
theorem woke_does {S : Type} {I : List Nat → S → World → Prop} {M : Prt S} {f : Fns} (P : PortOk I M f) {t : Th} (ht : ThOk t) (i : Ins) (ha : regB i.a = true) (m : Int) (h0 : 0 ≤ m) (h1 : m < M.size) (s : S) (hq : 400 ≤ M.fuel s) (w : World) :
    Does I s w 145 #[.agg (thC t), .agg (insA i), .agg (portA M.size f), .int .i64 m] (.agg (thC (wokeM M t i s m).1)) (wokeM M t i s m).2 := by
  intro F hI
  obtain ⟨op, a, b, c, k⟩ := i
  obtain ⟨n, rfl, hn⟩ := reg_nat ha
  have hn' : (n : Int) < 8 := by omega
  have fr := Fr4.start P.inv hI t ⟨op, n, b, c, k⟩ M.size f
  have HP := hide P
  have HV := hide P.inv
  have HT := hide ht
  have HQ := hide hq
  have H0 := hide h0
  have H1 := hide h1
  have HR := hide (ht.reg n)
  have HU := hide (P.wakeU F s w m (t.reg n) hI)
  have HF := hide (P.wakeF s m (t.reg n))
  have cr := thC_reg ht n hn
  have HX : Hid (wokeM M t ⟨op, n, b, c, k⟩ s m = (t.put n (M.wake s m (t.reg n)), M.note (M.wakeS s m (t.reg n)) ⟨9, 0, t.pc, m, M.wake s m (t.reg n), 0, 0, false⟩)) := rfl
  generalize t.reg n = r at cr HX HR HU HF
  clear P hI ht hq h0 h1 ha
  go_enter Tryz.func145, Tryz.ntmps145
  go_wp2_with (fail)
  change Code.wp _ _ _ _ ((((w.alloc (.cells (thC t) 42)).alloc (.cells (insA ⟨op, n, b, c, k⟩) 72)).alloc (.cells (portA M.size f) 103)).alloc (.cells th0A 42))
  generalize ((((w.alloc (.cells (thC t) 42)).alloc (.cells (insA ⟨op, n, b, c, k⟩) 72)).alloc (.cells (portA M.size f) 103)).alloc (.cells th0A 42)) = u0 at fr ⊢
  replace fr := fr.gr HV.out (Gr.refl u0).drew
  have c8 := fr.b2.cell (o := 8) rfl
  have ci := fr.b1.cell (o := 1) rfl
  replace cr := fr.b0.cell cr
  refine begin_late 10 [8, 9] (fun w' => w' = u0.drew) (by kernel_rfl) rfl ?_
  have hH : u0.drew = u0.drew := rfl
  refine AnyL.takeP 0 (some 10) (.pointer (some ⟨w.heap.size + 1 + 1, 8, none⟩)) rfl rfl (by kernel_rfl) (by kernel_rfl) (by kernel_rfl) (by kernel_rfl) (fun _ _ _ h => h) (by kernel_rfl) (fun w' => by go_simp) (fun _ => hH) ?_
  simp only [Act.put, List.setIfInBounds_toArray, List.set_cons_zero, List.set_cons_succ]
  refine AnyL.take 1 (some 11) (.func (.func f.f8) #[f.r] #[]) rfl rfl (by kernel_rfl) (by kernel_rfl) (by kernel_rfl) (by kernel_rfl) (fun _ _ _ h => h) (yields_held _ (by kernel_rfl) (fun w' hw' => by subst hw'; go_simp)) hH ?_
  simp only [Act.put, List.setIfInBounds_toArray, List.set_cons_zero, List.set_cons_succ]
  refine AnyL.takeP 2 (some 12) (.int .i64 m) rfl rfl (by kernel_rfl) (by kernel_rfl) (by kernel_rfl) (by kernel_rfl) (fun _ _ _ h => h) (by kernel_rfl) (fun w' => by go_simp) (fun _ => hH) ?_
  simp only [Act.put, List.setIfInBounds_toArray, List.set_cons_zero, List.set_cons_succ]
  refine AnyL.takeP 3 (some 13) (.pointer (some ⟨w.heap.size + 1, 1, none⟩)) rfl rfl (by kernel_rfl) (by kernel_rfl) (by kernel_rfl) (by kernel_rfl) (fun _ _ _ h => h) (by kernel_rfl) (fun w' => by go_simp) (fun _ => hH) ?_
  simp only [Act.put, List.setIfInBounds_toArray, List.set_cons_zero, List.set_cons_succ]
  refine AnyL.take 4 (some 14) (.int .i64 n) rfl rfl (by kernel_rfl) (by kernel_rfl) (by kernel_rfl) (by kernel_rfl) (fun _ _ _ h => h) (yields_held _ (by kernel_rfl) (fun w' hw' => by subst hw'; go_simp)) hH ?_
  simp only [Act.put, List.setIfInBounds_toArray, List.set_cons_zero, List.set_cons_succ]
  refine AnyL.takeP 5 (some 15) (.pointer (some ⟨w.heap.size, 1, none⟩)) rfl rfl (by kernel_rfl) (by kernel_rfl) (by kernel_rfl) (by kernel_rfl) (fun _ _ _ h => h) (by kernel_rfl) (fun w' => by go_simp) (fun _ => hH) ?_
  simp only [Act.put, List.setIfInBounds_toArray, List.set_cons_zero, List.set_cons_succ]
  refine AnyL.takeP 6 (some 16) (.pointer (some ⟨w.heap.size, 1 + n, none⟩)) rfl rfl (by kernel_rfl) (by kernel_rfl) (by kernel_rfl) (by kernel_rfl) (fun _ _ _ h => h) (by kernel_rfl) (fun w' => by go_simp) (fun _ => hH) ?_
  simp only [Act.put, List.setIfInBounds_toArray, List.set_cons_zero, List.set_cons_succ]
  refine AnyL.take 7 (some 17) (.int .u32 r) rfl rfl (by kernel_rfl) (by kernel_rfl) (by kernel_rfl) (by kernel_rfl) (fun _ _ _ h => h) (yields_held _ (by kernel_rfl) (fun w' hw' => by subst hw'; go_simp)) hH ?_
  simp only [Act.put, List.setIfInBounds_toArray, List.set_cons_zero, List.set_cons_succ]
  refine AnyL.one 8 (by kernel_rfl) rfl (by kernel_rfl) ?_
  have hc := (HP.out.wake s u0.drew m r H0.out H1.out HR.out (by have := HQ.out; omega)).does.go fr.p
  have hrun := (HP.out.wake s u0.drew m r H0.out H1.out HR.out (by have := HQ.out; omega)).run
  refine wp_call (R := ?R) (some 18) rfl f.f8 #[f.r, .int .i64 m, .int .u32 r] ?hr ?hc ?_
  case hc => exact hc
  case hr => exact run_clo (d := some 18) rfl _ _ _ none rfl f.f8 f.r (by kernel_rfl) #[.int .i64 m, .int .u32 r] (by kernel_rfl) hrun
  rintro e u ⟨⟨rfl, k1⟩, p1⟩
  refine ⟨_, rfl, late (by kernel_rfl), ?_⟩
  refine AnyL.one 9 (by kernel_rfl) rfl (by kernel_rfl) ?_
  refine wp_value (some 9) rfl (.int .u32 (M.wake s m r)) (by go_simp) ?_
  refine ⟨late (by kernel_rfl), ?_⟩
  refine AnyL.done (by kernel_rfl) ?_
  simp only [Act.put, List.setIfInBounds_toArray, List.set_cons_zero, List.set_cons_succ]
  replace fr := fr.loc k1 p1
  clear k1 p1 cr c8 ci hH
  have cp := fr.b0.cell (thC_pc t)
  have c1 := fr.b2.cell (o := 10) rfl
  generalize M.wake s m r = v at HU HX ⊢
  go_wp2_with (fail)
  have q2 : 200 ≤ M.fuel (M.wakeS s m r) := by have := HQ.out; have := HF.out; omega
  rw [(HP.out.note (M.wakeS s m r) w ⟨9, 0, t.pc, m, v, 0, 0, false⟩ q2).run, Oper.upon_enter]
  refine ((HP.out.note (M.wakeS s m r) _ ⟨9, 0, t.pc, m, v, 0, 0, false⟩ q2).does.go fr.p).mono ?_
  rintro e u2 ⟨⟨rfl, k1⟩, p1⟩
  replace fr := fr.loc k1 p1
  clear k1 p1 cp c1 q2
  have ci := fr.b1.cell (o := 1) rfl
  have cr := fr.b0.cell (thC_reg HT.out n hn)
  have frr := fr.b0.free (1 + n)
  have fr1 := fr.set HV.out (1 + n) (.int .u32 v) (thC_put HT.out n hn v)
  have ok1 := HT.out.put n v HU.out
  have FR := hide (fr1.res HV.out (t.put n v))
  go_wp2_with (first
    | (refine load_th rfl _ rfl w.heap.size rfl (t.put n v) fr1.b0 ok1 ?_)
    | (refine store_th rfl _ _ rfl (w.heap.size + 1 + 1 + 1) rfl (t.put n v) rfl th0 fr1.b3 ok1 th0_ok ?_))
  rw [HX.out]
  exact bodyPost_ret (results_th rfl _ _ (w.heap.size + 1 + 1 + 1) (t.put n v) rfl FR.out.b3 ok1) rfl ⟨rfl, FR.out.p.end⟩

end Go.Proofs.YthbenfnanhpcoaaGreatDoor.Mp
