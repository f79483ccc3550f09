/-
  What ended and isHeldUp do. No condition but that the port's functions are such, and have room.
-/
import Derived.Test.YtfhplbmgjgfihaaGreatDoorZzah
import Derived.Test.YtfhplbmgjgfihaaGreatDoorZzaa
namespace Go.Proofs.YtfhplbmgjgfihaaGreatDoor.Mp
open Go.ChangeShapes Go.WideShapes Go.ChangeAt Go.RowKit
set_option linter.unusedVariables false
set_option maxRecDepth 20000
set_option maxRecDepth 20000 in
set_option maxHeartbeats 1000000 in
theorem ended_does {S : Type} {I : List Nat → S → World → Prop} {M : Prt S} {f : Fns} (P : PortOk I M f) {t : Th} (ht : ThOk t) (st ev : Int) (s : S) (hq : 200 ≤ M.fuel s) (w : World) :
    Does I s w 59 #[.agg (thC t), .agg (portA M.size f), .int .i64 st, .int .i64 ev] (.agg (thC (endM M t s st ev).1)) (endM M t s st ev).2 := by
  intro F hI
  have fr := Fr3.start P.inv hI t M.size f
  have HN := hide P.note
  have HV := hide P.inv
  have HT := hide ht
  have HQ := hide hq
  have cp := thC_pc t
  clear P hI ht hq
  go_enter Tryz.func59, Tryz.ntmps59
  go_wp2_with (fail)
  rw [(HN.out s w (evt ev t.pc) HQ.out).run, Oper.upon_enter]
  refine ((HN.out s _ (evt ev t.pc) HQ.out).does.go fr.p).mono ?_
  rintro e u ⟨⟨rfl, k1⟩, p1⟩
  replace fr := fr.loc k1 p1
  clear k1 p1 cp
  have c9 := fr.b0.cell (thC_st HT.out)
  have f9 := fr.b0.free 9
  have fr1 := fr.set HV.out 9 (.int .i64 st) (thC_is HT.out st)
  have FR := hide (fr1.res HV.out (t.is st))
  go_wp2_with (first
    | (refine load_th rfl _ rfl w.heap.size rfl (t.is st) fr1.b0 (HT.out.is st) ?_)
    | (refine store_th rfl _ _ rfl (w.heap.size + 1 + 1) rfl (t.is st) rfl th0 fr1.b2 (HT.out.is st) th0_ok ?_))
  exact bodyPost_ret (results_th rfl _ _ (w.heap.size + 1 + 1) (t.is st) rfl FR.out.b2 (HT.out.is st)) rfl ⟨rfl, FR.out.p.end⟩
set_option maxRecDepth 20000 in
set_option maxHeartbeats 1000000 in
theorem held_does {S : Type} {I : List Nat → S → World → Prop} {M : Prt S} {f : Fns} (P : PortOk I M f) (i : Ins) (s : S) (hq : 200 ≤ M.fuel s) (w : World) :
    Does I s w 63 #[.agg (insA i), .agg (portA M.size f)] (.bool (heldM M i s)) s := by
  intro F hI
  obtain ⟨op, a, b, c, k⟩ := i
  have p := ((Pst.start P.inv hI).alloc P.inv (insA ⟨op, a, b, c, k⟩) 53).alloc P.inv (portA M.size f) 90
  have L := p.laid P.inv
  have HM : Hid (heldM M ⟨op, a, b, c, k⟩ s = if drainB op then !M.empty s else op == 17 && !M.room s) := rfl
  have HE := hide P.empty
  have HR := hide P.room
  have HQ := hide hq
  have HL := hide L
  have PP := hide p
  clear P hI hq p L
  cases hd : drainB op
  · by_cases h17 : op = 17
    · subst h17
      go_enter Tryz.func63, Tryz.ntmps63
      go_wp2_with (go_at_call 93; refine (drains_calls _ _ HL.out).mono ?_; rw [hd]; rintro e w1 ⟨rfl, rfl⟩)
      rw [(HR.out s w HQ.out).run, Oper.upon_enter]
      have hh := (HR.out s _ HQ.out).does.go PP.out
      refine hh.mono ?_
      rintro e u ⟨⟨rfl, k1⟩, p1⟩
      have P1 := hide p1
      clear k1 p1
      go_wp2_with (fail)
      go_ret
      exact ⟨by rw [HM.out]; simp [hd], P1.out.end⟩
    · have e17 : (op == 17) = false := by simp [h17]
      clear h17
      go_enter Tryz.func63, Tryz.ntmps63
      go_wp2_with (go_at_call 93; refine (drains_calls _ _ HL.out).mono ?_; rw [hd]; rintro e w1 ⟨rfl, rfl⟩)
      go_ret
      exact ⟨by rw [HM.out]; simp [hd, e17], PP.out.end⟩
  · go_enter Tryz.func63, Tryz.ntmps63
    go_wp2_with (go_at_call 93; refine (drains_calls _ _ HL.out).mono ?_; rw [hd]; rintro e w1 ⟨rfl, rfl⟩)
    rw [(HE.out s w HQ.out).run, Oper.upon_enter]
    have hh := (HE.out s _ HQ.out).does.go PP.out
    refine hh.mono ?_
    rintro e u ⟨⟨rfl, k1⟩, p1⟩
    have P1 := hide p1
    clear k1 p1
    go_wp2_with (fail)
    go_ret
    exact ⟨by rw [HM.out]; simp [hd], P1.out.end⟩
set_option maxRecDepth 20000 in
set_option maxHeartbeats 1000000 in
theorem loaded_does {S : Type} {I : List Nat → S → World → Prop} {M : Prt S} {f : Fns} (P : PortOk I M f) {t : Th} (ht : ThOk t) (i : Ins) (ha : regB i.a = true) (m : Int) (h0 : 0 ≤ m) (h1 : m < M.size) (s : S) (hq : 400 ≤ M.fuel s) (w : World) :
    Does I s w 104 #[.agg (thC t), .agg (insA i), .agg (portA M.size f), .int .i64 m] (.agg (thC (loadedM M t i s m).1)) (loadedM M t i s m).2 := by
  intro F hI
  obtain ⟨op, a, b, c, k⟩ := i
  obtain ⟨n, rfl, hn⟩ := reg_nat ha
  have hn' : (n : Int) < 8 := by omega
  have fr := Fr4.start P.inv hI t ⟨op, n, b, c, k⟩ M.size f
  have HP := hide P
  have HV := hide P.inv
  have HT := hide ht
  have HQ := hide hq
  have H0 := hide h0
  have H1 := hide h1
  have HU := hide (P.loadU F s w m hI)
  have HF := hide (P.loadF s m)
  clear P hI ht hq h0 h1 ha
  go_enter Tryz.func104, Tryz.ntmps104
  go_wp2_with (fail)
  rw [(HP.out.load s w m H0.out H1.out (by have := HQ.out; omega)).run, Oper.upon_enter]
  refine ((HP.out.load s _ m H0.out H1.out (by have := HQ.out; omega)).does.go fr.p).mono ?_
  rintro e u ⟨⟨rfl, k1⟩, p1⟩
  replace fr := fr.loc k1 p1
  clear k1 p1
  have cp := fr.b0.cell (thC_pc t)
  have c1 := fr.b2.cell (o := 10) rfl
  have HX : Hid (loadedM M t ⟨op, n, b, c, k⟩ s m = (t.put n (M.load s m), M.note (M.loadS s m) ⟨1, 0, t.pc, m, M.load s m, 0, 0, false⟩)) := rfl
  generalize M.load s m = v at HU HX ⊢
  go_wp2_with (fail)
  have q2 : 200 ≤ M.fuel (M.loadS s m) := by have := HQ.out; have := HF.out; omega
  rw [(HP.out.note (M.loadS s m) w ⟨1, 0, t.pc, m, v, 0, 0, false⟩ q2).run, Oper.upon_enter]
  refine ((HP.out.note (M.loadS s m) _ ⟨1, 0, t.pc, m, v, 0, 0, false⟩ q2).does.go fr.p).mono ?_
  rintro e u2 ⟨⟨rfl, k1⟩, p1⟩
  replace fr := fr.loc k1 p1
  clear k1 p1 cp c1 q2
  have ci := fr.b1.cell (o := 1) rfl
  have cr := fr.b0.cell (thC_reg HT.out n hn)
  have frr := fr.b0.free (1 + n)
  have fr1 := fr.set HV.out (1 + n) (.int .u32 v) (thC_put HT.out n hn v)
  have ok1 := HT.out.put n v HU.out
  have FR := hide (fr1.res HV.out (t.put n v))
  go_wp2_with (first
    | (refine load_th rfl _ rfl w.heap.size rfl (t.put n v) fr1.b0 ok1 ?_)
    | (refine store_th rfl _ _ rfl (w.heap.size + 1 + 1 + 1) rfl (t.put n v) rfl th0 fr1.b3 ok1 th0_ok ?_))
  rw [HX.out]
  exact bodyPost_ret (results_th rfl _ _ (w.heap.size + 1 + 1 + 1) (t.put n v) rfl FR.out.b3 ok1) rfl ⟨rfl, FR.out.p.end⟩

set_option maxRecDepth 20000 in
set_option maxHeartbeats 1000000 in
theorem stored_does {S : Type} {I : List Nat → S → World → Prop} {M : Prt S} {f : Fns} (P : PortOk I M f) {t : Th} (ht : ThOk t) (i : Ins) (ha : regB i.a = true) (m : Int) (h0 : 0 ≤ m) (h1 : m < M.size) (s : S) (hr : M.room s = true) (hq : 400 ≤ M.fuel s) (w : World) :
    Does I s w 105 #[.agg (thC t), .agg (insA i), .agg (portA M.size f), .int .i64 m] (.agg (thC (storedM M t i s m).1)) (storedM M t i s m).2 := by
  intro F hI
  obtain ⟨op, a, b, c, k⟩ := i
  obtain ⟨n, rfl, hn⟩ := reg_nat ha
  have hn' : (n : Int) < 8 := by omega
  have fr := Fr4.start P.inv hI t ⟨op, n, b, c, k⟩ M.size f
  have HP := hide P
  have HV := hide P.inv
  have HT := hide ht
  have HQ := hide hq
  have H0 := hide h0
  have H1 := hide h1
  have HO := hide hr
  have HR := hide (ht.reg n)
  have HF := hide (P.storeF s m (t.reg n))
  have cr := thC_reg ht n hn
  have HX : Hid (storedM M t ⟨op, n, b, c, k⟩ s m = (t, M.note (M.store s m (t.reg n)) ⟨2, 0, t.pc, m, t.reg n, 0, 0, false⟩)) := rfl
  generalize t.reg n = r at cr HX HR HF
  clear P hI ht hq h0 h1 ha hr
  go_enter Tryz.func105, Tryz.ntmps105
  go_wp2_with (fail)
  rw [(HP.out.store s w m r H0.out H1.out HR.out HO.out (by have := HQ.out; omega)).run, Oper.upon_enter]
  refine ((HP.out.store s _ m r H0.out H1.out HR.out HO.out (by have := HQ.out; omega)).does.go fr.p).mono ?_
  rintro e u ⟨⟨rfl, k1⟩, p1⟩
  replace fr := fr.loc k1 p1
  clear k1 p1 cr
  have cp := fr.b0.cell (thC_pc t)
  have c1 := fr.b2.cell (o := 10) rfl
  go_wp2_with (fail)
  have q2 : 200 ≤ M.fuel (M.store s m r) := by have := HQ.out; have := HF.out; omega
  rw [(HP.out.note (M.store s m r) w ⟨2, 0, t.pc, m, r, 0, 0, false⟩ q2).run, Oper.upon_enter]
  refine ((HP.out.note (M.store s m r) _ ⟨2, 0, t.pc, m, r, 0, 0, false⟩ q2).does.go fr.p).mono ?_
  rintro e u2 ⟨⟨rfl, k1⟩, p1⟩
  replace fr := fr.loc k1 p1
  clear k1 p1 cp c1 q2
  have FR := hide (fr.res HV.out t)
  have fr1 := fr
  have ok1 := HT.out
  go_wp2_with (first
    | (refine load_th rfl _ rfl w.heap.size rfl t fr1.b0 ok1 ?_)
    | (refine store_th rfl _ _ rfl (w.heap.size + 1 + 1 + 1) rfl t rfl th0 fr1.b3 ok1 th0_ok ?_))
  rw [HX.out]
  exact bodyPost_ret (results_th rfl _ _ (w.heap.size + 1 + 1 + 1) t rfl FR.out.b3 ok1) rfl ⟨rfl, FR.out.p.end⟩
set_option maxRecDepth 20000 in
/-- a call of a function value of the program's own -/
theorem run_clo {o : Oper} {a : Act} {w : World} {d : Option Tmp} (hd : o.dst = d) (x : Operand) (xs : Array Operand) (ts : Array TypeId) (v : Option TypeId) (ho : o.op = .call { callee := .value x, args := xs, argTypes := ts })
    (F : FuncId) (r : Value) (hx : a.eval x = .func (.func F) #[r] #[]) (args : Array Value) (ha : xs.map a.eval = args) (hF : ∀ args w, (callFunc F args).run Tryz.prog w = .ok (.enter F args) w) :
    (execOp a.eval o).run Tryz.prog w = .ok (.enter F (#[r] ++ args)) w := by
  subst ha
  unfold execOp
  simp [ho, resolve, Deferred.ofValue, invoke, hx, hF]

set_option maxRecDepth 20000 in
set_option maxHeartbeats 1000000 in
theorem woke_does {S : Type} {I : List Nat → S → World → Prop} {M : Prt S} {f : Fns} (P : PortOk I M f) {t : Th} (ht : ThOk t) (i : Ins) (ha : regB i.a = true) (m : Int) (h0 : 0 ≤ m) (h1 : m < M.size) (s : S) (hq : 400 ≤ M.fuel s) (w : World) :
    Does I s w 107 #[.agg (thC t), .agg (insA i), .agg (portA M.size f), .int .i64 m] (.agg (thC (wokeM M t i s m).1)) (wokeM M t i s m).2 := by
  intro F hI
  obtain ⟨op, a, b, c, k⟩ := i
  obtain ⟨n, rfl, hn⟩ := reg_nat ha
  have hn' : (n : Int) < 8 := by omega
  have fr := Fr4.start P.inv hI t ⟨op, n, b, c, k⟩ M.size f
  have HP := hide P
  have HV := hide P.inv
  have HT := hide ht
  have HQ := hide hq
  have H0 := hide h0
  have H1 := hide h1
  have HR := hide (ht.reg n)
  have HU := hide (P.wakeU F s w m (t.reg n) hI)
  have HF := hide (P.wakeF s m (t.reg n))
  have cr := thC_reg ht n hn
  have HX : Hid (wokeM M t ⟨op, n, b, c, k⟩ s m = (t.put n (M.wake s m (t.reg n)), M.note (M.wakeS s m (t.reg n)) ⟨9, 0, t.pc, m, M.wake s m (t.reg n), 0, 0, false⟩)) := rfl
  generalize t.reg n = r at cr HX HR HU HF
  clear P hI ht hq h0 h1 ha
  go_enter Tryz.func107, Tryz.ntmps107
  go_wp2_with (fail)
  change Code.wp _ _ _ _ ((((w.alloc (.cells (thC t) 46)).alloc (.cells (insA ⟨op, n, b, c, k⟩) 53)).alloc (.cells (portA M.size f) 90)).alloc (.cells th0A 46))
  generalize ((((w.alloc (.cells (thC t) 46)).alloc (.cells (insA ⟨op, n, b, c, k⟩) 53)).alloc (.cells (portA M.size f) 90)).alloc (.cells th0A 46)) = u0 at fr ⊢
  replace fr := fr.gr HV.out (Gr.refl u0).drew
  have c8 := fr.b2.cell (o := 8) rfl
  have ci := fr.b1.cell (o := 1) rfl
  replace cr := fr.b0.cell cr
  refine begin_late 10 [8, 9] (fun w' => w' = u0.drew) (by kernel_rfl) rfl ?_
  have hH : u0.drew = u0.drew := rfl
  refine AnyL.pp 0 10 (.pointer (some ⟨w.heap.size + 1 + 1, 8, none⟩)) rfl rfl (by kernel_rfl) (fun _ _ _ h => h) (fun _ => by go_simp) hH ?_
  simp only [pz, pz0, pzs]
  refine AnyL.tt 1 11 (.func (.func f.f8) #[f.r] #[]) rfl rfl (by kernel_rfl) (fun _ _ _ h => h) (fun w' hw' => by subst hw'; go_simp) hH ?_
  simp only [pz, pz0, pzs]
  refine AnyL.pp 2 12 (.int .i64 m) rfl rfl (by kernel_rfl) (fun _ _ _ h => h) (fun _ => by go_simp) hH ?_
  simp only [pz, pz0, pzs]
  refine AnyL.pp 3 13 (.pointer (some ⟨w.heap.size + 1, 1, none⟩)) rfl rfl (by kernel_rfl) (fun _ _ _ h => h) (fun _ => by go_simp) hH ?_
  simp only [pz, pz0, pzs]
  refine AnyL.tt 4 14 (.int .i64 n) rfl rfl (by kernel_rfl) (fun _ _ _ h => h) (fun w' hw' => by subst hw'; go_simp) hH ?_
  simp only [pz, pz0, pzs]
  refine AnyL.pp 5 15 (.pointer (some ⟨w.heap.size, 1, none⟩)) rfl rfl (by kernel_rfl) (fun _ _ _ h => h) (fun _ => by go_simp) hH ?_
  simp only [pz, pz0, pzs]
  refine AnyL.pp 6 16 (.pointer (some ⟨w.heap.size, 1 + n, none⟩)) rfl rfl (by kernel_rfl) (fun _ _ _ h => h) (fun _ => by go_simp) hH ?_
  simp only [pz, pz0, pzs]
  refine AnyL.tt 7 17 (.int .u32 r) rfl rfl (by kernel_rfl) (fun _ _ _ h => h) (fun w' hw' => by subst hw'; go_simp) hH ?_
  simp only [pz, pz0, pzs]
  refine AnyL.one 8 (by kernel_rfl) rfl (by kernel_rfl) ?_
  have hc := (HP.out.wake s u0.drew m r H0.out H1.out HR.out (by have := HQ.out; omega)).does.go fr.p
  have hrun := (HP.out.wake s u0.drew m r H0.out H1.out HR.out (by have := HQ.out; omega)).run
  refine wp_call (R := ?R) (some 18) rfl f.f8 #[f.r, .int .i64 m, .int .u32 r] ?hr ?hc ?_
  case hc => exact hc
  case hr => exact run_clo (d := some 18) rfl _ _ _ none rfl f.f8 f.r (by kernel_rfl) #[.int .i64 m, .int .u32 r] (by kernel_rfl) hrun
  rintro e u ⟨⟨rfl, k1⟩, p1⟩
  refine ⟨_, rfl, late (by kernel_rfl), ?_⟩
  refine AnyL.one 9 (by kernel_rfl) rfl (by kernel_rfl) ?_
  refine wp_value (some 9) rfl (.int .u32 (M.wake s m r)) (by go_simp) ?_
  refine ⟨late (by kernel_rfl), ?_⟩
  refine AnyL.done (by kernel_rfl) ?_
  simp only [pz, pz0, pzs]
  replace fr := fr.loc k1 p1
  clear k1 p1 cr c8 ci hH
  have cp := fr.b0.cell (thC_pc t)
  have c1 := fr.b2.cell (o := 10) rfl
  generalize M.wake s m r = v at HU HX ⊢
  go_wp2_with (fail)
  have q2 : 200 ≤ M.fuel (M.wakeS s m r) := by have := HQ.out; have := HF.out; omega
  rw [(HP.out.note (M.wakeS s m r) w ⟨9, 0, t.pc, m, v, 0, 0, false⟩ q2).run, Oper.upon_enter]
  refine ((HP.out.note (M.wakeS s m r) _ ⟨9, 0, t.pc, m, v, 0, 0, false⟩ q2).does.go fr.p).mono ?_
  rintro e u2 ⟨⟨rfl, k1⟩, p1⟩
  replace fr := fr.loc k1 p1
  clear k1 p1 cp c1 q2
  have ci := fr.b1.cell (o := 1) rfl
  have cr := fr.b0.cell (thC_reg HT.out n hn)
  have frr := fr.b0.free (1 + n)
  have fr1 := fr.set HV.out (1 + n) (.int .u32 v) (thC_put HT.out n hn v)
  have ok1 := HT.out.put n v HU.out
  have FR := hide (fr1.res HV.out (t.put n v))
  go_wp2_with (first
    | (refine load_th rfl _ rfl w.heap.size rfl (t.put n v) fr1.b0 ok1 ?_)
    | (refine store_th rfl _ _ rfl (w.heap.size + 1 + 1 + 1) rfl (t.put n v) rfl th0 fr1.b3 ok1 th0_ok ?_))
  rw [HX.out]
  exact bodyPost_ret (results_th rfl _ _ (w.heap.size + 1 + 1 + 1) (t.put n v) rfl FR.out.b3 ok1) rfl ⟨rfl, FR.out.p.end⟩
set_option maxRecDepth 20000 in
set_option maxHeartbeats 1000000 in
theorem waited_does {S : Type} {I : List Nat → S → World → Prop} {M : Prt S} {f : Fns} (P : PortOk I M f) {t : Th} (ht : ThOk t) (i : Ins) (ha : regB i.a = true) (m : Int) (h0 : 0 ≤ m) (h1 : m < M.size) (s : S) (hq : 600 ≤ M.fuel s) (w : World) :
    Does I s w 106 #[.agg (thC t), .agg (insA i), .agg (portA M.size f), .int .i64 m] (.agg (thC (waitedM M t i s m).1)) (waitedM M t i s m).2 := by
  intro F hI
  obtain ⟨op, a, b, c, k⟩ := i
  obtain ⟨n, rfl, hn⟩ := reg_nat ha
  have hn' : (n : Int) < 8 := by omega
  have fr := Fr4.start P.inv hI t ⟨op, n, b, c, k⟩ M.size f
  have HP := hide P
  have HV := hide P.inv
  have HT := hide ht
  have HQ := hide hq
  have H0 := hide h0
  have H1 := hide h1
  have HF := hide (P.loadF s m)
  have HX : Hid (waitedM M t ⟨op, n, b, c, k⟩ s m = if M.load s m == t.reg n then ((t.put n 0).is 1, M.sleep (M.note (M.loadS s m) ⟨8, 0, t.pc, m, M.load s m, 0, 0, true⟩) m)
    else (t.put n 1, M.note (M.loadS s m) ⟨8, 0, t.pc, m, M.load s m, 0, 0, false⟩)) := rfl
  have HC := hide (thC_reg ht n hn)
  clear P hI ht hq h0 h1 ha
  go_enter Tryz.func106, Tryz.ntmps106
  go_wp2_with (fail)
  rw [(HP.out.load s w m H0.out H1.out (by have := HQ.out; omega)).run, Oper.upon_enter]
  refine ((HP.out.load s _ m H0.out H1.out (by have := HQ.out; omega)).does.go fr.p).mono ?_
  rintro e u ⟨⟨rfl, k1⟩, p1⟩
  replace fr := fr.loc k1 p1
  clear k1 p1
  have cp := fr.b0.cell (thC_pc t)
  have c1 := fr.b2.cell (o := 10) rfl
  have ci := fr.b1.cell (o := 1) rfl
  have cr := fr.b0.cell HC.out
  generalize t.reg n = r at HX HC cr
  generalize M.load s m = v at HX ⊢
  have q2 : 200 ≤ M.fuel (M.loadS s m) := by have := HQ.out; have := HF.out; omega
  cases hv : (v == r)
  · have HX2 : Hid (waitedM M t ⟨op, n, b, c, k⟩ s m = (t.put n 1, M.note (M.loadS s m) ⟨8, 0, t.pc, m, v, 0, 0, false⟩)) := by show _ = _; rw [HX.out, hv]; rfl
    replace HX := HX2
    clear HX2
    have Q2 := hide q2
    clear q2
    go_wp2_with (fail)
    rw [(HP.out.note (M.loadS s m) w ⟨8, 0, t.pc, m, v, 0, 0, false⟩ Q2.out).run, Oper.upon_enter]
    refine ((HP.out.note (M.loadS s m) _ ⟨8, 0, t.pc, m, v, 0, 0, false⟩ Q2.out).does.go fr.p).mono ?_
    rintro e u2 ⟨⟨rfl, k1⟩, p1⟩
    replace fr := fr.loc k1 p1
    clear k1 p1 cp c1 cr ci
    have ci := fr.b1.cell (o := 1) rfl
    have cr := fr.b0.cell HC.out
    have frr := fr.b0.free (1 + n)
    have fr1 := fr.set HV.out (1 + n) (.int .u32 1) (thC_put HT.out n hn 1)
    have ok1 := HT.out.put n 1 ⟨by decide, by decide⟩
    have FR := hide (fr1.res HV.out (t.put n 1))
    go_wp2_with (first
      | (refine load_th rfl _ rfl w.heap.size rfl (t.put n 1) fr1.b0 ok1 ?_)
      | (refine store_th rfl _ _ rfl (w.heap.size + 1 + 1 + 1) rfl (t.put n 1) rfl th0 fr1.b3 ok1 th0_ok ?_))
    rw [HX.out]
    exact bodyPost_ret (results_th rfl _ _ (w.heap.size + 1 + 1 + 1) (t.put n 1) rfl FR.out.b3 ok1) rfl ⟨rfl, FR.out.p.end⟩
  · have HX2 : Hid (waitedM M t ⟨op, n, b, c, k⟩ s m = ((t.put n 0).is 1, M.sleep (M.note (M.loadS s m) ⟨8, 0, t.pc, m, v, 0, 0, true⟩) m)) := by show _ = _; rw [HX.out, hv]; rfl
    replace HX := HX2
    clear HX2
    have Q2 := hide q2
    clear q2
    go_wp2_with (fail)
    rw [(HP.out.note (M.loadS s m) w ⟨8, 0, t.pc, m, v, 0, 0, true⟩ Q2.out).run, Oper.upon_enter]
    refine ((HP.out.note (M.loadS s m) _ ⟨8, 0, t.pc, m, v, 0, 0, true⟩ Q2.out).does.go fr.p).mono ?_
    rintro e u2 ⟨⟨rfl, k1⟩, p1⟩
    replace fr := fr.loc k1 p1
    clear k1 p1 cp c1 cr ci
    have HF2 := hide (HP.out.noteF (M.loadS s m) ⟨8, 0, t.pc, m, v, 0, 0, true⟩)
    generalize M.note (M.loadS s m) ⟨8, 0, t.pc, m, v, 0, 0, true⟩ = s2 at fr HX HF2
    have ci := fr.b1.cell (o := 1) rfl
    have cr := fr.b0.cell HC.out
    have frr := fr.b0.free (1 + n)
    have c7 := fr.b2.cell (o := 7) rfl
    have fr1 := fr.set HV.out (1 + n) (.int .u32 0) (thC_put HT.out n hn 0)
    have ok1 := HT.out.put n 0 ⟨by decide, by decide⟩
    go_wp2_with (fail)
    have q3 : 200 ≤ M.fuel s2 := by have := HQ.out; have := HF.out; have := HF2.out; omega
    rw [(HP.out.sleep s2 w m H0.out H1.out q3).run, Oper.upon_enter]
    refine ((HP.out.sleep s2 _ m H0.out H1.out q3).does.go fr1.p).mono ?_
    rintro e u3 ⟨⟨rfl, k1⟩, p1⟩
    replace fr1 := fr1.loc k1 p1
    clear k1 p1 ci cr frr c7 fr q3
    have c9 := fr1.b0.cell (thC_st ok1)
    have f9 := fr1.b0.free 9
    have fr2 := fr1.set HV.out 9 (.int .i64 1) (thC_is ok1 1)
    have ok2 := ok1.is 1
    have FR := hide (fr2.res HV.out ((t.put n 0).is 1))
    replace fr1 := fr2
    clear fr2
    go_wp2_with (first
      | (refine load_th rfl _ rfl w.heap.size rfl ((t.put n 0).is 1) fr1.b0 ok2 ?_)
      | (refine store_th rfl _ _ rfl (w.heap.size + 1 + 1 + 1) rfl ((t.put n 0).is 1) rfl th0 fr1.b3 ok2 th0_ok ?_))
    rw [HX.out]
    exact bodyPost_ret (results_th rfl _ _ (w.heap.size + 1 + 1 + 1) ((t.put n 0).is 1) rfl FR.out.b3 ok2) rfl ⟨rfl, FR.out.p.end⟩
end Go.Proofs.YtfhplbmgjgfihaaGreatDoor.Mp
