/-
  What loaded and stored do. No condition but that the port's functions are such, and have room.
-/
import Derived.Test.YtbmlliohepidaaaDoorFrm
namespace Go.Proofs.YtbmlliohepidaaaDoor
open Go.ChangeShapes Go.WideShapes Go.ChangeAt Go.RowKit
set_option linter.unusedVariables false

set_option maxRecDepth 20000 in
set_option maxHeartbeats 1000000 in
theorem loaded_does {S : Type} {I : List Nat → S → World → Prop} {M : Prt S} {f : Fns} (P : PortOk I M f) {t : Th} (ht : ThOk t) (i : Ins) (ha : regB i.a = true) (m : Int) (h0 : 0 ≤ m) (h1 : m < M.size) (s : S) (hq : 400 ≤ M.fuel s) (w : World) :
    Does I s w 93 #[.agg (thC t), .agg (insA i), .agg (portA M.size f), .int .i64 m] (.agg (thC (loadedM M t i s m).1)) (loadedM M t i s m).2 := by
  intro F hI
  obtain ⟨op, a, b, c, k⟩ := i
  obtain ⟨n, rfl, hn⟩ := reg_nat ha
  have hn' : (n : Int) < 8 := by omega
  have fr := Fr4.start P.inv hI t ⟨op, n, b, c, k⟩ M.size f
  have HP := hide P
  have HV := hide P.inv
  have HT := hide ht
  have HQ := hide hq
  have H0 := hide h0
  have H1 := hide h1
  have HU := hide (P.loadU F s w m hI)
  have HF := hide (P.loadF s m)
  clear P hI ht hq h0 h1 ha
  go_enter Tryd.func93, Tryd.ntmps93
  go_wp2_with (fail)
  rw [(HP.out.load s w m H0.out H1.out (by have := HQ.out; omega)).run, Oper.upon_enter]
  refine ((HP.out.load s _ m H0.out H1.out (by have := HQ.out; omega)).does.go fr.p).mono ?_
  rintro e u ⟨⟨rfl, k1⟩, p1⟩
  replace fr := fr.loc k1 p1
  clear k1 p1
  have cp := fr.b0.cell (thC_pc t)
  have c1 := fr.b2.cell (o := 10) rfl
  have HX : Hid (loadedM M t ⟨op, n, b, c, k⟩ s m = (t.put n (M.load s m), M.note (M.loadS s m) ⟨1, 0, t.pc, m, M.load s m, 0, 0, false⟩)) := rfl
  generalize M.load s m = v at HU HX ⊢
  go_wp2_with (fail)
  have q2 : 200 ≤ M.fuel (M.loadS s m) := by have := HQ.out; have := HF.out; omega
  rw [(HP.out.note (M.loadS s m) w ⟨1, 0, t.pc, m, v, 0, 0, false⟩ q2).run, Oper.upon_enter]
  refine ((HP.out.note (M.loadS s m) _ ⟨1, 0, t.pc, m, v, 0, 0, false⟩ q2).does.go fr.p).mono ?_
  rintro e u2 ⟨⟨rfl, k1⟩, p1⟩
  replace fr := fr.loc k1 p1
  clear k1 p1 cp c1 q2
  have ci := fr.b1.cell (o := 1) rfl
  have cr := fr.b0.cell (thC_reg HT.out n hn)
  have frr := fr.b0.free (1 + n)
  have fr1 := fr.set HV.out (1 + n) (.int .u32 v) (thC_put HT.out n hn v)
  have ok1 := HT.out.put n v HU.out
  have FR := hide (fr1.res HV.out (t.put n v))
  go_wp2_with (first
    | (refine load_th rfl _ rfl w.heap.size rfl (t.put n v) fr1.b0 ok1 ?_)
    | (refine store_th rfl _ _ rfl (w.heap.size + 1 + 1 + 1) rfl (t.put n v) rfl th0 fr1.b3 ok1 th0_ok ?_))
  rw [HX.out]
  exact bodyPost_ret (results_th rfl _ _ (w.heap.size + 1 + 1 + 1) (t.put n v) rfl FR.out.b3 ok1) rfl ⟨rfl, FR.out.p.end⟩

set_option maxRecDepth 20000 in
set_option maxHeartbeats 1000000 in
theorem stored_does {S : Type} {I : List Nat → S → World → Prop} {M : Prt S} {f : Fns} (P : PortOk I M f) {t : Th} (ht : ThOk t) (i : Ins) (ha : regB i.a = true) (m : Int) (h0 : 0 ≤ m) (h1 : m < M.size) (s : S) (hr : M.room s = true) (hq : 400 ≤ M.fuel s) (w : World) :
    Does I s w 94 #[.agg (thC t), .agg (insA i), .agg (portA M.size f), .int .i64 m] (.agg (thC (storedM M t i s m).1)) (storedM M t i s m).2 := by
  intro F hI
  obtain ⟨op, a, b, c, k⟩ := i
  obtain ⟨n, rfl, hn⟩ := reg_nat ha
  have hn' : (n : Int) < 8 := by omega
  have fr := Fr4.start P.inv hI t ⟨op, n, b, c, k⟩ M.size f
  have HP := hide P
  have HV := hide P.inv
  have HT := hide ht
  have HQ := hide hq
  have H0 := hide h0
  have H1 := hide h1
  have HO := hide hr
  have HR := hide (ht.reg n)
  have HF := hide (P.storeF s m (t.reg n))
  have cr := thC_reg ht n hn
  have HX : Hid (storedM M t ⟨op, n, b, c, k⟩ s m = (t, M.note (M.store s m (t.reg n)) ⟨2, 0, t.pc, m, t.reg n, 0, 0, false⟩)) := rfl
  generalize t.reg n = r at cr HX HR HF
  clear P hI ht hq h0 h1 ha hr
  go_enter Tryd.func94, Tryd.ntmps94
  go_wp2_with (fail)
  rw [(HP.out.store s w m r H0.out H1.out HR.out HO.out (by have := HQ.out; omega)).run, Oper.upon_enter]
  refine ((HP.out.store s _ m r H0.out H1.out HR.out HO.out (by have := HQ.out; omega)).does.go fr.p).mono ?_
  rintro e u ⟨⟨rfl, k1⟩, p1⟩
  replace fr := fr.loc k1 p1
  clear k1 p1 cr
  have cp := fr.b0.cell (thC_pc t)
  have c1 := fr.b2.cell (o := 10) rfl
  go_wp2_with (fail)
  have q2 : 200 ≤ M.fuel (M.store s m r) := by have := HQ.out; have := HF.out; omega
  rw [(HP.out.note (M.store s m r) w ⟨2, 0, t.pc, m, r, 0, 0, false⟩ q2).run, Oper.upon_enter]
  refine ((HP.out.note (M.store s m r) _ ⟨2, 0, t.pc, m, r, 0, 0, false⟩ q2).does.go fr.p).mono ?_
  rintro e u2 ⟨⟨rfl, k1⟩, p1⟩
  replace fr := fr.loc k1 p1
  clear k1 p1 cp c1 q2
  have FR := hide (fr.res HV.out t)
  have fr1 := fr
  have ok1 := HT.out
  go_wp2_with (first
    | (refine load_th rfl _ rfl w.heap.size rfl t fr1.b0 ok1 ?_)
    | (refine store_th rfl _ _ rfl (w.heap.size + 1 + 1 + 1) rfl t rfl th0 fr1.b3 ok1 th0_ok ?_))
  rw [HX.out]
  exact bodyPost_ret (results_th rfl _ _ (w.heap.size + 1 + 1 + 1) t rfl FR.out.b3 ok1) rfl ⟨rfl, FR.out.p.end⟩
end Go.Proofs.YtbmlliohepidaaaDoor
