/-
  What woke does. No condition but that the port's functions are such, and have room.
-/
import Derived.Test.YtbmlliohepidaaaDoorFrm
namespace Go.Proofs.YtbmlliohepidaaaDoor
open Go.ChangeShapes Go.WideShapes Go.ChangeAt Go.RowKit
set_option linter.unusedVariables false

set_option maxRecDepth 20000 in
/-- a call of a function value of the program's own -/
theorem run_clo {o : Oper} {a : Act} {w : World} {d : Option Tmp} (hd : o.dst = d) (x : Operand) (xs : Array Operand) (ts : Array TypeId) (v : Option TypeId) (ho : o.op = .call { callee := .value x, args := xs, argTypes := ts })
    (F : FuncId) (caps : Array Value) (hx : a.eval x = .func (.func F) #[] caps) (args : Array Value) (ha : xs.map a.eval = args) (hF : ∀ args w, (callFunc F args).run Tryd.prog w = .ok (.enter F args) w) :
    (execOp a.eval o).run Tryd.prog w = .ok (.enter F (args ++ caps)) w := by
  subst ha
  unfold execOp
  simp [ho, resolve, Deferred.ofValue, invoke, hx, hF]

set_option maxRecDepth 20000 in
set_option maxHeartbeats 1000000 in
theorem woke_does {S : Type} {I : List Nat → S → World → Prop} {M : Prt S} {f : Fns} (P : PortOk I M f) {t : Th} (ht : ThOk t) (i : Ins) (ha : regB i.a = true) (m : Int) (h0 : 0 ≤ m) (h1 : m < M.size) (s : S) (hq : 400 ≤ M.fuel s) (w : World) :
    Does I s w 96 #[.agg (thC t), .agg (insA i), .agg (portA M.size f), .int .i64 m] (.agg (thC (wokeM M t i s m).1)) (wokeM M t i s m).2 := by
  intro F hI
  obtain ⟨op, a, b, c, k⟩ := i
  obtain ⟨n, rfl, hn⟩ := reg_nat ha
  have hn' : (n : Int) < 8 := by omega
  have fr := Fr4.start P.inv hI t ⟨op, n, b, c, k⟩ M.size f
  have HP := hide P
  have HV := hide P.inv
  have HT := hide ht
  have HQ := hide hq
  have H0 := hide h0
  have H1 := hide h1
  have HR := hide (ht.reg n)
  have HU := hide (P.wakeU F s w m (t.reg n) hI)
  have HF := hide (P.wakeF s m (t.reg n))
  have cr := thC_reg ht n hn
  have HX : Hid (wokeM M t ⟨op, n, b, c, k⟩ s m = (t.put n (M.wake s m (t.reg n)), M.note (M.wakeS s m (t.reg n)) ⟨9, 0, t.pc, m, M.wake s m (t.reg n), 0, 0, false⟩)) := rfl
  generalize t.reg n = r at cr HX HR HU HF
  clear P hI ht hq h0 h1 ha
  go_enter Tryd.func96, Tryd.ntmps96
  go_wp2_with (fail)
  change Code.wp _ _ _ _ ((((w.alloc (.cells (thC t) 25)).alloc (.cells (insA ⟨op, n, b, c, k⟩) 54)).alloc (.cells (portA M.size f) 51)).alloc (.cells th0A 25))
  generalize ((((w.alloc (.cells (thC t) 25)).alloc (.cells (insA ⟨op, n, b, c, k⟩) 54)).alloc (.cells (portA M.size f) 51)).alloc (.cells th0A 25)) = u0 at fr ⊢
  replace fr := fr.gr HV.out (Gr.refl u0).drew
  have c8 := fr.b2.cell (o := 8) rfl
  have ci := fr.b1.cell (o := 1) rfl
  replace cr := fr.b0.cell cr
  refine begin_late 10 [8, 9] (fun w' => w' = u0.drew) (by kernel_rfl) rfl ?_
  have hH : u0.drew = u0.drew := rfl
  refine AnyL.takeP 0 (some 10) (.pointer (some ⟨w.heap.size + 1 + 1, 8, none⟩)) rfl rfl (by kernel_rfl) (by kernel_rfl) (by kernel_rfl) (by kernel_rfl) (fun _ _ _ h => h) (by kernel_rfl) (fun w' => by go_simp) (fun _ => hH) ?_
  simp only [Act.put, List.setIfInBounds_toArray, List.set_cons_zero, List.set_cons_succ]
  refine AnyL.take 1 (some 11) (.func (.func f.f8) #[] f.c8) rfl rfl (by kernel_rfl) (by kernel_rfl) (by kernel_rfl) (by kernel_rfl) (fun _ _ _ h => h) (yields_held _ (by kernel_rfl) (fun w' hw' => by subst hw'; go_simp)) hH ?_
  simp only [Act.put, List.setIfInBounds_toArray, List.set_cons_zero, List.set_cons_succ]
  refine AnyL.takeP 2 (some 12) (.int .i64 m) rfl rfl (by kernel_rfl) (by kernel_rfl) (by kernel_rfl) (by kernel_rfl) (fun _ _ _ h => h) (by kernel_rfl) (fun w' => by go_simp) (fun _ => hH) ?_
  simp only [Act.put, List.setIfInBounds_toArray, List.set_cons_zero, List.set_cons_succ]
  refine AnyL.takeP 3 (some 13) (.pointer (some ⟨w.heap.size + 1, 1, none⟩)) rfl rfl (by kernel_rfl) (by kernel_rfl) (by kernel_rfl) (by kernel_rfl) (fun _ _ _ h => h) (by kernel_rfl) (fun w' => by go_simp) (fun _ => hH) ?_
  simp only [Act.put, List.setIfInBounds_toArray, List.set_cons_zero, List.set_cons_succ]
  refine AnyL.take 4 (some 14) (.int .i64 n) rfl rfl (by kernel_rfl) (by kernel_rfl) (by kernel_rfl) (by kernel_rfl) (fun _ _ _ h => h) (yields_held _ (by kernel_rfl) (fun w' hw' => by subst hw'; go_simp)) hH ?_
  simp only [Act.put, List.setIfInBounds_toArray, List.set_cons_zero, List.set_cons_succ]
  refine AnyL.takeP 5 (some 15) (.pointer (some ⟨w.heap.size, 1, none⟩)) rfl rfl (by kernel_rfl) (by kernel_rfl) (by kernel_rfl) (by kernel_rfl) (fun _ _ _ h => h) (by kernel_rfl) (fun w' => by go_simp) (fun _ => hH) ?_
  simp only [Act.put, List.setIfInBounds_toArray, List.set_cons_zero, List.set_cons_succ]
  refine AnyL.takeP 6 (some 16) (.pointer (some ⟨w.heap.size, 1 + n, none⟩)) rfl rfl (by kernel_rfl) (by kernel_rfl) (by kernel_rfl) (by kernel_rfl) (fun _ _ _ h => h) (by kernel_rfl) (fun w' => by go_simp) (fun _ => hH) ?_
  simp only [Act.put, List.setIfInBounds_toArray, List.set_cons_zero, List.set_cons_succ]
  refine AnyL.take 7 (some 17) (.int .u32 r) rfl rfl (by kernel_rfl) (by kernel_rfl) (by kernel_rfl) (by kernel_rfl) (fun _ _ _ h => h) (yields_held _ (by kernel_rfl) (fun w' hw' => by subst hw'; go_simp)) hH ?_
  simp only [Act.put, List.setIfInBounds_toArray, List.set_cons_zero, List.set_cons_succ]
  refine AnyL.one 8 (by kernel_rfl) rfl (by kernel_rfl) ?_
  have hc := (HP.out.wake s u0.drew m r H0.out H1.out HR.out (by have := HQ.out; omega)).does.go fr.p
  have hrun := (HP.out.wake s u0.drew m r H0.out H1.out HR.out (by have := HQ.out; omega)).run
  refine wp_call (R := ?R) (some 18) rfl f.f8 (#[.int .i64 m, .int .u32 r] ++ f.c8) ?hr ?hc ?_
  case hc => exact hc
  case hr => exact run_clo (d := some 18) rfl _ _ _ none rfl f.f8 f.c8 (by kernel_rfl) #[.int .i64 m, .int .u32 r] (by kernel_rfl) hrun
  rintro e u ⟨⟨rfl, k1⟩, p1⟩
  refine ⟨_, rfl, late (by kernel_rfl), ?_⟩
  refine AnyL.one 9 (by kernel_rfl) rfl (by kernel_rfl) ?_
  refine wp_value (some 9) rfl (.int .u32 (M.wake s m r)) (by go_simp) ?_
  refine ⟨late (by kernel_rfl), ?_⟩
  refine AnyL.done (by kernel_rfl) ?_
  simp only [Act.put, List.setIfInBounds_toArray, List.set_cons_zero, List.set_cons_succ]
  replace fr := fr.loc k1 p1
  clear k1 p1 cr c8 ci hH
  have cp := fr.b0.cell (thC_pc t)
  have c1 := fr.b2.cell (o := 10) rfl
  generalize M.wake s m r = v at HU HX ⊢
  go_wp2_with (fail)
  have q2 : 200 ≤ M.fuel (M.wakeS s m r) := by have := HQ.out; have := HF.out; omega
  rw [(HP.out.note (M.wakeS s m r) w ⟨9, 0, t.pc, m, v, 0, 0, false⟩ q2).run, Oper.upon_enter]
  refine ((HP.out.note (M.wakeS s m r) _ ⟨9, 0, t.pc, m, v, 0, 0, false⟩ q2).does.go fr.p).mono ?_
  rintro e u2 ⟨⟨rfl, k1⟩, p1⟩
  replace fr := fr.loc k1 p1
  clear k1 p1 cp c1 q2
  have ci := fr.b1.cell (o := 1) rfl
  have cr := fr.b0.cell (thC_reg HT.out n hn)
  have frr := fr.b0.free (1 + n)
  have fr1 := fr.set HV.out (1 + n) (.int .u32 v) (thC_put HT.out n hn v)
  have ok1 := HT.out.put n v HU.out
  have FR := hide (fr1.res HV.out (t.put n v))
  go_wp2_with (first
    | (refine load_th rfl _ rfl w.heap.size rfl (t.put n v) fr1.b0 ok1 ?_)
    | (refine store_th rfl _ _ rfl (w.heap.size + 1 + 1 + 1) rfl (t.put n v) rfl th0 fr1.b3 ok1 th0_ok ?_))
  rw [HX.out]
  exact bodyPost_ret (results_th rfl _ _ (w.heap.size + 1 + 1 + 1) (t.put n v) rfl FR.out.b3 ok1) rfl ⟨rfl, FR.out.p.end⟩

end Go.Proofs.YtbmlliohepidaaaDoor
