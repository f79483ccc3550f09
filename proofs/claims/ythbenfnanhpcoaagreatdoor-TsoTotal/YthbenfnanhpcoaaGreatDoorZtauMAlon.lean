/-
  What alone does. No condition but that the port's functions are such, and have room.
-/
import Derived.Test.YthbenfnanhpcoaaGreatDoorZtaqMFrm
namespace Go.Proofs.YthbenfnanhpcoaaGreatDoor.Mp
open Go.ChangeShapes Go.WideShapes Go.ChangeAt Go.RowKit
set_option linter.unusedVariables false
set_option maxRecDepth 20000

theorem aloneM_ok {S : Type} (M : Prt S) {t : Th} (ht : ThOk t) (i : Ins) (hi : InsOk i) (s : S) : ThOk (aloneM M t i s).1 := by
  unfold aloneM
  split
  · exact ht.put _ _ ⟨hi.k0, hi.k1⟩
  split
  · exact ht.put _ _ (ht.reg _)
  split
  · exact ht
  split
  · exact ht
  split
  · exact ht
  split
  · exact ht
  · exact ht
theorem aloneM_pc {S : Type} (M : Prt S) (t : Th) (i : Ins) (s : S) : (aloneM M t i s).1.pc = t.pc := by
  unfold aloneM
  split
  · rfl
  split
  · rfl
  split
  · rfl
  split
  · rfl
  split
  · rfl
  split
  · rfl
  · rfl

set_option maxRecDepth 20000 in
set_option maxHeartbeats 2000000 in
theorem alone_does {S : Type} {I : List Nat → S → World → Prop} {M : Prt S} {f : Fns} (P : PortOk I M f) {t : Th} (ht : ThOk t) (i : Ins) (hi : InsOk i) (ha : regB i.a = true) (hb : i.op = 2 → regB i.b = true) (s : S) (hq : 400 ≤ M.fuel s) (w : World) :
    Does I s w 137 #[.agg (thC t), .agg (insA i), .agg (portA M.size f)] (.agg (thC (aloneM M t i s).1)) (aloneM M t i s).2 := by
  intro F hI
  obtain ⟨op, a, b, c, k⟩ := i
  obtain ⟨n, rfl, hn⟩ := reg_nat ha
  have hn' : (n : Int) < 8 := by omega
  have fr := Fr4.start P.inv hI t ⟨op, n, b, c, k⟩ M.size f
  have HP := hide P
  have HV := hide P.inv
  have HT := hide ht
  have HQ := hide hq
  have HB := hide hb
  have HK : Hid (U32 k) := ⟨hi.k0, hi.k1⟩
  have cr := thC_reg ht n hn
  have cp := thC_pc t
  have HI := hide hI
  clear P hI ht hq ha hb hi
  by_cases e1 : op = 1
  · subst e1
    have fr1 := Fr4.start HV.out HI.out (t.put n k) ⟨1, n, b, c, k⟩ M.size f
    rw [← thC_put HT.out n hn k] at fr1
    have ok1 := HT.out.put n k HK.out
    have FR := hide (fr1.res HV.out (t.put n k))
    go_enter Tryz.func137, Tryz.ntmps137
    go_wp2_with (first
      | (refine load_th rfl _ rfl w.heap.size rfl (t.put n k) fr1.b0 ok1 ?_)
      | (refine store_th rfl _ _ rfl (w.heap.size + 1 + 1 + 1) rfl (t.put n k) rfl th0 fr1.b3 ok1 th0_ok ?_))
    exact bodyPost_ret (results_th rfl _ _ (w.heap.size + 1 + 1 + 1) (t.put n k) rfl FR.out.b3 ok1) rfl ⟨rfl, FR.out.p.end⟩
  by_cases e2 : op = 2
  · subst e2
    obtain ⟨m, rfl, hm⟩ := reg_nat (HB.out rfl)
    have hm' : (m : Int) < 8 := by omega
    have HR := hide (HT.out.reg m)
    have cm := thC_reg HT.out m hm
    have HX : Hid ((aloneM M t ⟨2, n, m, c, k⟩ s) = (t.put n (t.reg m), s)) := rfl
    generalize t.reg m = v at cm HR HX
    go_enter Tryz.func137, Tryz.ntmps137
    go_wp2_with (fail)
    change Code.wp _ _ _ _ ((((w.alloc (.cells (thC t) 42)).alloc (.cells (insA ⟨2, n, m, c, k⟩) 72)).alloc (.cells (portA M.size f) 103)).alloc (.cells th0A 42))
    generalize ((((w.alloc (.cells (thC t) 42)).alloc (.cells (insA ⟨2, n, m, c, k⟩) 72)).alloc (.cells (portA M.size f) 103)).alloc (.cells th0A 42)) = u0 at fr ⊢
    replace fr := fr.gr HV.out (Gr.refl u0).drew
    have c1 := fr.b1.cell (o := 1) rfl
    have c2 := fr.b1.cell (o := 2) rfl
    have c3 := fr.b0.cell cm
    have c4 := fr.b0.cell cr
    have f4 := fr.b0.free (1 + n)
    refine begin_late 10 [9] (fun w' => w' = u0.drew) (by kernel_rfl) rfl ?_
    have hH : u0.drew = u0.drew := rfl
    refine AnyL.takeP 0 (some 25) (.pointer (some ⟨w.heap.size + 1, 1, none⟩)) rfl rfl (by kernel_rfl) (by kernel_rfl) (by kernel_rfl) (by kernel_rfl) (fun _ _ _ h => h) (by kernel_rfl) (fun w' => by go_simp) (fun _ => hH) ?_
    simp only [Act.put, List.setIfInBounds_toArray, List.set_cons_zero, List.set_cons_succ]
    refine AnyL.take 1 (some 26) (.int .i64 n) rfl rfl (by kernel_rfl) (by kernel_rfl) (by kernel_rfl) (by kernel_rfl) (fun _ _ _ h => h) (yields_held _ (by kernel_rfl) (fun w' hw' => by subst hw'; go_simp)) hH ?_
    simp only [Act.put, List.setIfInBounds_toArray, List.set_cons_zero, List.set_cons_succ]
    refine AnyL.takeP 2 (some 27) (.pointer (some ⟨w.heap.size + 1, 2, none⟩)) rfl rfl (by kernel_rfl) (by kernel_rfl) (by kernel_rfl) (by kernel_rfl) (fun _ _ _ h => h) (by kernel_rfl) (fun w' => by go_simp) (fun _ => hH) ?_
    simp only [Act.put, List.setIfInBounds_toArray, List.set_cons_zero, List.set_cons_succ]
    refine AnyL.take 3 (some 28) (.int .i64 m) rfl rfl (by kernel_rfl) (by kernel_rfl) (by kernel_rfl) (by kernel_rfl) (fun _ _ _ h => h) (yields_held _ (by kernel_rfl) (fun w' hw' => by subst hw'; go_simp)) hH ?_
    simp only [Act.put, List.setIfInBounds_toArray, List.set_cons_zero, List.set_cons_succ]
    refine AnyL.takeP 4 (some 29) (.pointer (some ⟨w.heap.size, 1, none⟩)) rfl rfl (by kernel_rfl) (by kernel_rfl) (by kernel_rfl) (by kernel_rfl) (fun _ _ _ h => h) (by kernel_rfl) (fun w' => by go_simp) (fun _ => hH) ?_
    simp only [Act.put, List.setIfInBounds_toArray, List.set_cons_zero, List.set_cons_succ]
    refine AnyL.takeP 5 (some 30) (.pointer (some ⟨w.heap.size, 1 + m, none⟩)) rfl rfl (by kernel_rfl) (by kernel_rfl) (by kernel_rfl) (by kernel_rfl) (fun _ _ _ h => h) (by kernel_rfl) (fun w' => by go_simp) (fun _ => hH) ?_
    simp only [Act.put, List.setIfInBounds_toArray, List.set_cons_zero, List.set_cons_succ]
    refine AnyL.take 6 (some 31) (.int .u32 v) rfl rfl (by kernel_rfl) (by kernel_rfl) (by kernel_rfl) (by kernel_rfl) (fun _ _ _ h => h) (yields_held _ (by kernel_rfl) (fun w' hw' => by subst hw'; go_simp)) hH ?_
    simp only [Act.put, List.setIfInBounds_toArray, List.set_cons_zero, List.set_cons_succ]
    refine AnyL.takeP 7 (some 32) (.pointer (some ⟨w.heap.size, 1, none⟩)) rfl rfl (by kernel_rfl) (by kernel_rfl) (by kernel_rfl) (by kernel_rfl) (fun _ _ _ h => h) (by kernel_rfl) (fun w' => by go_simp) (fun _ => hH) ?_
    simp only [Act.put, List.setIfInBounds_toArray, List.set_cons_zero, List.set_cons_succ]
    refine AnyL.takeP 8 (some 33) (.pointer (some ⟨w.heap.size, 1 + n, none⟩)) rfl rfl (by kernel_rfl) (by kernel_rfl) (by kernel_rfl) (by kernel_rfl) (fun _ _ _ h => h) (by kernel_rfl) (fun w' => by go_simp) (fun _ => hH) ?_
    simp only [Act.put, List.setIfInBounds_toArray, List.set_cons_zero, List.set_cons_succ]
    refine AnyL.one 9 (by kernel_rfl) rfl (by kernel_rfl) ?_
    refine wp_store_word rfl _ _ rfl w.heap.size (1 + n) (by kernel_rfl) v (by kernel_rfl) _ c4 f4 ?_
    refine ⟨late (by kernel_rfl), ?_⟩
    refine AnyL.done (by kernel_rfl) ?_
    have fr1 := fr.set HV.out (1 + n) (.int .u32 v) (thC_put HT.out n hn v)
    have ok1 := HT.out.put n v HR.out
    have FR := hide (fr1.res HV.out (t.put n v))
    go_wp2_with (first
      | (refine load_th rfl _ rfl w.heap.size rfl (t.put n v) fr1.b0 ok1 ?_)
      | (refine store_th rfl _ _ rfl (w.heap.size + 1 + 1 + 1) rfl (t.put n v) rfl th0 fr1.b3 ok1 th0_ok ?_))
    rw [HX.out]
    exact bodyPost_ret (results_th rfl _ _ (w.heap.size + 1 + 1 + 1) (t.put n v) rfl FR.out.b3 ok1) rfl ⟨rfl, FR.out.p.end⟩
  by_cases e18 : op = 18
  · subst e18
    go_enter Tryz.func137, Tryz.ntmps137
    go_wp2_with (fail)
    have q2 : 200 ≤ M.fuel s := by have := HQ.out; omega
    rw [(HP.out.note s w (evt 5 t.pc) q2).run, Oper.upon_enter]
    refine ((HP.out.note s _ (evt 5 t.pc) q2).does.go fr.p).mono ?_
    rintro e u2 ⟨⟨rfl, k1⟩, p1⟩
    replace fr := fr.loc k1 p1
    clear k1 p1 q2
    have fr1 := fr
    have ok1 := HT.out
    have FR := hide (fr1.res HV.out t)
    go_wp2_with (first
      | (refine load_th rfl _ rfl w.heap.size rfl (t) fr1.b0 ok1 ?_)
      | (refine store_th rfl _ _ rfl (w.heap.size + 1 + 1 + 1) rfl (t) rfl th0 fr1.b3 ok1 th0_ok ?_))
    exact bodyPost_ret (results_th rfl _ _ (w.heap.size + 1 + 1 + 1) (t) rfl FR.out.b3 ok1) rfl ⟨rfl, FR.out.p.end⟩
  by_cases e22 : op = 22
  · subst e22
    go_enter Tryz.func137, Tryz.ntmps137
    go_wp2_with (fail)
    have q2 : 200 ≤ M.fuel s := by have := HQ.out; omega
    rw [(HP.out.note s w (⟨6, 0, t.pc, 0, t.reg n, 0, 0, false⟩) q2).run, Oper.upon_enter]
    refine ((HP.out.note s _ (⟨6, 0, t.pc, 0, t.reg n, 0, 0, false⟩) q2).does.go fr.p).mono ?_
    rintro e u2 ⟨⟨rfl, k1⟩, p1⟩
    replace fr := fr.loc k1 p1
    clear k1 p1 q2
    have fr1 := fr
    have ok1 := HT.out
    have FR := hide (fr1.res HV.out t)
    go_wp2_with (first
      | (refine load_th rfl _ rfl w.heap.size rfl (t) fr1.b0 ok1 ?_)
      | (refine store_th rfl _ _ rfl (w.heap.size + 1 + 1 + 1) rfl (t) rfl th0 fr1.b3 ok1 th0_ok ?_))
    exact bodyPost_ret (results_th rfl _ _ (w.heap.size + 1 + 1 + 1) (t) rfl FR.out.b3 ok1) rfl ⟨rfl, FR.out.p.end⟩
  by_cases e25 : op = 25
  · subst e25
    go_enter Tryz.func137, Tryz.ntmps137
    go_wp2_with (fail)
    have q2 : 200 ≤ M.fuel s := by have := HQ.out; omega
    rw [(HP.out.remote s w q2).run, Oper.upon_enter]
    have hh := (HP.out.remote s _ q2).does.go fr.p
    refine hh.mono ?_
    clear hh
    rintro e u2 ⟨⟨rfl, k1⟩, p1⟩
    replace fr := fr.loc k1 p1
    clear k1 p1 q2 cp
    have cp := fr.b0.cell (thC_pc t)
    have c10 := fr.b2.cell (o := 10) rfl
    go_wp2_with (fail)
    have q2 : 200 ≤ M.fuel (M.remote s) := by have := HQ.out; have := HP.out.remoteF s; omega
    rw [(HP.out.note (M.remote s) w (evt 10 t.pc) q2).run, Oper.upon_enter]
    refine ((HP.out.note (M.remote s) _ (evt 10 t.pc) q2).does.go fr.p).mono ?_
    rintro e u3 ⟨⟨rfl, k1⟩, p1⟩
    replace fr := fr.loc k1 p1
    clear k1 p1 q2 cp c10
    have fr1 := fr
    have ok1 := HT.out
    have FR := hide (fr1.res HV.out t)
    go_wp2_with (first
      | (refine load_th rfl _ rfl w.heap.size rfl (t) fr1.b0 ok1 ?_)
      | (refine store_th rfl _ _ rfl (w.heap.size + 1 + 1 + 1) rfl (t) rfl th0 fr1.b3 ok1 th0_ok ?_))
    exact bodyPost_ret (results_th rfl _ _ (w.heap.size + 1 + 1 + 1) (t) rfl FR.out.b3 ok1) rfl ⟨rfl, FR.out.p.end⟩
  by_cases e27 : op = 27
  · subst e27
    go_enter Tryz.func137, Tryz.ntmps137
    go_wp2_with (fail)
    have q2 : 200 ≤ M.fuel s := by have := HQ.out; omega
    rw [(HP.out.note s w (⟨7, 0, t.pc, 0, t.reg n, 0, k, false⟩) q2).run, Oper.upon_enter]
    refine ((HP.out.note s _ (⟨7, 0, t.pc, 0, t.reg n, 0, k, false⟩) q2).does.go fr.p).mono ?_
    rintro e u2 ⟨⟨rfl, k1⟩, p1⟩
    replace fr := fr.loc k1 p1
    clear k1 p1 q2
    have fr1 := fr
    have ok1 := HT.out
    have FR := hide (fr1.res HV.out t)
    go_wp2_with (first
      | (refine load_th rfl _ rfl w.heap.size rfl (t) fr1.b0 ok1 ?_)
      | (refine store_th rfl _ _ rfl (w.heap.size + 1 + 1 + 1) rfl (t) rfl th0 fr1.b3 ok1 th0_ok ?_))
    exact bodyPost_ret (results_th rfl _ _ (w.heap.size + 1 + 1 + 1) (t) rfl FR.out.b3 ok1) rfl ⟨rfl, FR.out.p.end⟩
  have hx : aloneM M t ⟨op, n, b, c, k⟩ s = (t, s) := by simp [aloneM, e1, e2, e18, e22, e25, e27]
  have q1 : (op == 1) = false := by simp [e1]
  have q2 : (op == 2) = false := by simp [e2]
  have q18 : (op == 18) = false := by simp [e18]
  have q22 : (op == 22) = false := by simp [e22]
  have q25 : (op == 25) = false := by simp [e25]
  have q27 : (op == 27) = false := by simp [e27]
  clear e1 e2 e18 e22 e25 e27
  have fr1 := fr
  have ok1 := HT.out
  have FR := hide (fr1.res HV.out t)
  rw [hx]
  go_enter Tryz.func137, Tryz.ntmps137
  go_wp2_with (first
    | (refine load_th rfl _ rfl w.heap.size rfl (t) fr1.b0 ok1 ?_)
    | (refine store_th rfl _ _ rfl (w.heap.size + 1 + 1 + 1) rfl (t) rfl th0 fr1.b3 ok1 th0_ok ?_))
  exact bodyPost_ret (results_th rfl _ _ (w.heap.size + 1 + 1 + 1) (t) rfl FR.out.b3 ok1) rfl ⟨rfl, FR.out.p.end⟩
end Go.Proofs.YthbenfnanhpcoaaGreatDoor.Mp
