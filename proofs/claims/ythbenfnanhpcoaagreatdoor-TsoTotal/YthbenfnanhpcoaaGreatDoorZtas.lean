/-
  What waited does. No condition but that the port's functions are such, and have room.
-/
import Derived.Test.YthbenfnanhpcoaaGreatDoorZtaqMFrm
namespace Go.Proofs.YthbenfnanhpcoaaGreatDoor.Mp
open Go.ChangeShapes Go.WideShapes Go.ChangeAt Go.RowKit
set_option linter.unusedVariables false
set_option maxRecDepth 20000

set_option maxRecDepth 20000 in
set_option maxHeartbeats 1000000 in
theorem waited_does {S : Type} {I : List Nat → S → World → Prop} {M : Prt S} {f : Fns} (P : PortOk I M f) {t : Th} (ht : ThOk t) (i : Ins) (ha : regB i.a = true) (m : Int) (h0 : 0 ≤ m) (h1 : m < M.size) (s : S) (hq : 600 ≤ M.fuel s) (w : World) :
    Does I s w 144 #[.agg (thC t), .agg (insA i), .agg (portA M.size f), .int .i64 m] (.agg (thC (waitedM M t i s m).1)) (waitedM M t i s m).2 := by
  intro F hI
  obtain ⟨op, a, b, c, k⟩ := i
  obtain ⟨n, rfl, hn⟩ := reg_nat ha
  have hn' : (n : Int) < 8 := by omega
  have fr := Fr4.start P.inv hI t ⟨op, n, b, c, k⟩ M.size f
  have HP := hide P
  have HV := hide P.inv
  have HT := hide ht
  have HQ := hide hq
  have H0 := hide h0
  have H1 := hide h1
  have HF := hide (P.loadF s m)
  have HX : Hid (waitedM M t ⟨op, n, b, c, k⟩ s m = if M.load s m == t.reg n then ((t.put n 0).is 1, M.sleep (M.note (M.loadS s m) ⟨8, 0, t.pc, m, M.load s m, 0, 0, true⟩) m)
    else (t.put n 1, M.note (M.loadS s m) ⟨8, 0, t.pc, m, M.load s m, 0, 0, false⟩)) := rfl
  have HC := hide (thC_reg ht n hn)
  clear P hI ht hq h0 h1 ha
  go_enter Tryz.func144, Tryz.ntmps144
  go_wp2_with (fail)
  rw [(HP.out.load s w m H0.out H1.out (by have := HQ.out; omega)).run, Oper.upon_enter]
  refine ((HP.out.load s _ m H0.out H1.out (by have := HQ.out; omega)).does.go fr.p).mono ?_
  rintro e u ⟨⟨rfl, k1⟩, p1⟩
  replace fr := fr.loc k1 p1
  clear k1 p1
  have cp := fr.b0.cell (thC_pc t)
  have c1 := fr.b2.cell (o := 10) rfl
  have ci := fr.b1.cell (o := 1) rfl
  have cr := fr.b0.cell HC.out
  generalize t.reg n = r at HX HC cr
  generalize M.load s m = v at HX ⊢
  have q2 : 200 ≤ M.fuel (M.loadS s m) := by have := HQ.out; have := HF.out; omega
  cases hv : (v == r)
  · have HX2 : Hid (waitedM M t ⟨op, n, b, c, k⟩ s m = (t.put n 1, M.note (M.loadS s m) ⟨8, 0, t.pc, m, v, 0, 0, false⟩)) := by show _ = _; rw [HX.out, hv]; rfl
    replace HX := HX2
    clear HX2
    have Q2 := hide q2
    clear q2
    go_wp2_with (fail)
    rw [(HP.out.note (M.loadS s m) w ⟨8, 0, t.pc, m, v, 0, 0, false⟩ Q2.out).run, Oper.upon_enter]
    refine ((HP.out.note (M.loadS s m) _ ⟨8, 0, t.pc, m, v, 0, 0, false⟩ Q2.out).does.go fr.p).mono ?_
    rintro e u2 ⟨⟨rfl, k1⟩, p1⟩
    replace fr := fr.loc k1 p1
    clear k1 p1 cp c1 cr ci
    have ci := fr.b1.cell (o := 1) rfl
    have cr := fr.b0.cell HC.out
    have frr := fr.b0.free (1 + n)
    have fr1 := fr.set HV.out (1 + n) (.int .u32 1) (thC_put HT.out n hn 1)
    have ok1 := HT.out.put n 1 ⟨by decide, by decide⟩
    have FR := hide (fr1.res HV.out (t.put n 1))
    go_wp2_with (first
      | (refine load_th rfl _ rfl w.heap.size rfl (t.put n 1) fr1.b0 ok1 ?_)
      | (refine store_th rfl _ _ rfl (w.heap.size + 1 + 1 + 1) rfl (t.put n 1) rfl th0 fr1.b3 ok1 th0_ok ?_))
    rw [HX.out]
    exact bodyPost_ret (results_th rfl _ _ (w.heap.size + 1 + 1 + 1) (t.put n 1) rfl FR.out.b3 ok1) rfl ⟨rfl, FR.out.p.end⟩
  · have HX2 : Hid (waitedM M t ⟨op, n, b, c, k⟩ s m = ((t.put n 0).is 1, M.sleep (M.note (M.loadS s m) ⟨8, 0, t.pc, m, v, 0, 0, true⟩) m)) := by show _ = _; rw [HX.out, hv]; rfl
    replace HX := HX2
    clear HX2
    have Q2 := hide q2
    clear q2
    go_wp2_with (fail)
    rw [(HP.out.note (M.loadS s m) w ⟨8, 0, t.pc, m, v, 0, 0, true⟩ Q2.out).run, Oper.upon_enter]
    refine ((HP.out.note (M.loadS s m) _ ⟨8, 0, t.pc, m, v, 0, 0, true⟩ Q2.out).does.go fr.p).mono ?_
    rintro e u2 ⟨⟨rfl, k1⟩, p1⟩
    replace fr := fr.loc k1 p1
    clear k1 p1 cp c1 cr ci
    have HF2 := hide (HP.out.noteF (M.loadS s m) ⟨8, 0, t.pc, m, v, 0, 0, true⟩)
    generalize M.note (M.loadS s m) ⟨8, 0, t.pc, m, v, 0, 0, true⟩ = s2 at fr HX HF2
    have ci := fr.b1.cell (o := 1) rfl
    have cr := fr.b0.cell HC.out
    have frr := fr.b0.free (1 + n)
    have c7 := fr.b2.cell (o := 7) rfl
    have fr1 := fr.set HV.out (1 + n) (.int .u32 0) (thC_put HT.out n hn 0)
    have ok1 := HT.out.put n 0 ⟨by decide, by decide⟩
    go_wp2_with (fail)
    have q3 : 200 ≤ M.fuel s2 := by have := HQ.out; have := HF.out; have := HF2.out; omega
    rw [(HP.out.sleep s2 w m H0.out H1.out q3).run, Oper.upon_enter]
    refine ((HP.out.sleep s2 _ m H0.out H1.out q3).does.go fr1.p).mono ?_
    rintro e u3 ⟨⟨rfl, k1⟩, p1⟩
    replace fr1 := fr1.loc k1 p1
    clear k1 p1 ci cr frr c7 fr q3
    have c9 := fr1.b0.cell (thC_st ok1)
    have f9 := fr1.b0.free 9
    have fr2 := fr1.set HV.out 9 (.int .i64 1) (thC_is ok1 1)
    have ok2 := ok1.is 1
    have FR := hide (fr2.res HV.out ((t.put n 0).is 1))
    replace fr1 := fr2
    clear fr2
    go_wp2_with (first
      | (refine load_th rfl _ rfl w.heap.size rfl ((t.put n 0).is 1) fr1.b0 ok2 ?_)
      | (refine store_th rfl _ _ rfl (w.heap.size + 1 + 1 + 1) rfl ((t.put n 0).is 1) rfl th0 fr1.b3 ok2 th0_ok ?_))
    rw [HX.out]
    exact bodyPost_ret (results_th rfl _ _ (w.heap.size + 1 + 1 + 1) ((t.put n 0).is 1) rfl FR.out.b3 ok2) rfl ⟨rfl, FR.out.p.end⟩
end Go.Proofs.YthbenfnanhpcoaaGreatDoor.Mp

namespace Go.Proofs.YthbenfnanhpcoaaGreatDoor.Mp
open Go.ChangeShapes Go.WideShapes Go.ChangeAt Go.RowKit
set_option linter.unusedVariables false
set_option maxRecDepth 20000

theorem insteadM_u32 {t : Th} (ht : ThOk t) (i : Ins) {v : Int} (hv : U32 v) : U32 (insteadM t i v).1 := by
  unfold insteadM
  split
  · exact u32_wrap _
  split
  · split
    · exact ht.reg _
    · exact hv
  · exact ht.reg _

set_option maxRecDepth 20000 in
set_option maxHeartbeats 1000000 in
theorem swapped_does {S : Type} {I : List Nat → S → World → Prop} {M : Prt S} {f : Fns} (P : PortOk I M f) {t : Th} (ht : ThOk t) (i : Ins) (ha : regB i.a = true) (hc : regB i.c = true) (m : Int) (h0 : 0 ≤ m) (h1 : m < M.size) (s : S) (hq : 600 ≤ M.fuel s) (w : World) :
    Does I s w 146 #[.agg (thC t), .agg (insA i), .agg (portA M.size f), .int .i64 m] (.agg (thC (swappedM M t i s m).1)) (swappedM M t i s m).2 := by
  intro F hI
  obtain ⟨op, a, b, c, k⟩ := i
  obtain ⟨n, rfl, hn⟩ := reg_nat ha
  have hn' : (n : Int) < 8 := by omega
  have fr := Fr4.start P.inv hI t ⟨op, n, b, c, k⟩ M.size f
  have HP := hide P
  have HV := hide P.inv
  have HT := hide ht
  have HQ := hide hq
  have H0 := hide h0
  have H1 := hide h1
  have HC := hide hc
  have HU := hide (P.loadU F s w m hI)
  have HF := hide (P.loadF s m)
  have HY := hide (insteadM_u32 ht (⟨op, n, b, c, k⟩ : Ins) (P.loadU F s w m hI))
  have HX : Hid (swappedM M t ⟨op, n, b, c, k⟩ s m = (t.put n (M.load s m), M.note (swapM M t ⟨op, n, b, c, k⟩ s m) ⟨4, 0, t.pc, m, (insteadM t ⟨op, n, b, c, k⟩ (M.load s m)).1, M.load s m, 0, (insteadM t ⟨op, n, b, c, k⟩ (M.load s m)).2⟩)) := rfl
  have HS : Hid (swapM M t ⟨op, n, b, c, k⟩ s m = if (insteadM t ⟨op, n, b, c, k⟩ (M.load s m)).2 then M.swapS (M.loadS s m) m (insteadM t ⟨op, n, b, c, k⟩ (M.load s m)).1 else M.loadS s m) := rfl
  clear P hI ht hq h0 h1 ha hc
  go_enter Tryz.func146, Tryz.ntmps146
  go_wp2_with (fail)
  rw [(HP.out.load s w m H0.out H1.out (by have := HQ.out; omega)).run, Oper.upon_enter]
  refine ((HP.out.load s _ m H0.out H1.out (by have := HQ.out; omega)).does.go fr.p).mono ?_
  rintro e u ⟨⟨rfl, k1⟩, p1⟩
  replace fr := fr.loc k1 p1
  clear k1 p1
  generalize M.load s m = v at HU HX HS HY ⊢
  have hin := inStead_calls HT.out ⟨op, n, b, c, k⟩ (by simp [regB]; omega) HC.out v u
  generalize insteadM t ⟨op, n, b, c, k⟩ v = q at hin HX HS HY
  generalize swapM M t ⟨op, n, b, c, k⟩ s m = s2 at HX HS
  obtain ⟨x, ok⟩ := q
  cases ok
  · have e2 : s2 = M.loadS s m := HS.out
    clear HS
    go_wp2_with (first
      | (refine load_th rfl _ rfl w.heap.size rfl t fr.b0 HT.out ?_)
      | (refine load_ins rfl _ rfl (w.heap.size + 1) rfl ⟨op, n, b, c, k⟩ fr.b1 ?_)
      | (go_at_call 148; refine hin.mono ?_; rintro e u1 ⟨rfl, g1⟩; have cp := (fr.b0.later g1).cell (thC_pc t); have c6 := (fr.b2.later g1).cell (o := 6) rfl; have c1 := (fr.b2.later g1).cell (o := 10) rfl))
    replace fr := fr.gr HV.out g1
    clear g1 hin
    subst e2
    have q2 : 200 ≤ M.fuel (M.loadS s m) := by have := HQ.out; have := HF.out; omega
    rw [(HP.out.note (M.loadS s m) w ⟨4, 0, t.pc, m, x, v, 0, false⟩ q2).run, Oper.upon_enter]
    refine ((HP.out.note (M.loadS s m) _ ⟨4, 0, t.pc, m, x, v, 0, false⟩ q2).does.go fr.p).mono ?_
    rintro e u2 ⟨⟨rfl, k1⟩, p1⟩
    replace fr := fr.loc k1 p1
    clear k1 p1 cp c1 q2
    have ci := fr.b1.cell (o := 1) rfl
    have cr := fr.b0.cell (thC_reg HT.out n hn)
    have frr := fr.b0.free (1 + n)
    have fr1 := fr.set HV.out (1 + n) (.int .u32 v) (thC_put HT.out n hn v)
    have ok1 := HT.out.put n v HU.out
    have FR := hide (fr1.res HV.out (t.put n v))
    go_wp2_with (first
      | (refine load_th rfl _ rfl w.heap.size rfl (t.put n v) fr1.b0 ok1 ?_)
      | (refine store_th rfl _ _ rfl (w.heap.size + 1 + 1 + 1) rfl (t.put n v) rfl th0 fr1.b3 ok1 th0_ok ?_))
    rw [HX.out]
    exact bodyPost_ret (results_th rfl _ _ (w.heap.size + 1 + 1 + 1) (t.put n v) rfl FR.out.b3 ok1) rfl ⟨rfl, FR.out.p.end⟩
  · have e2 : s2 = M.swapS (M.loadS s m) m x := HS.out
    clear HS
    go_wp2_with (first
      | (refine load_th rfl _ rfl w.heap.size rfl t fr.b0 HT.out ?_)
      | (refine load_ins rfl _ rfl (w.heap.size + 1) rfl ⟨op, n, b, c, k⟩ fr.b1 ?_)
      | (go_at_call 148; refine hin.mono ?_; rintro e u1 ⟨rfl, g1⟩; have cp := (fr.b0.later g1).cell (thC_pc t); have c6 := (fr.b2.later g1).cell (o := 6) rfl; have c1 := (fr.b2.later g1).cell (o := 10) rfl))
    replace fr := fr.gr HV.out g1
    clear g1 hin
    subst e2
    have HF2 := hide (HP.out.swapF (M.loadS s m) m x)
    have q1 : 200 ≤ M.fuel (M.loadS s m) := by have := HQ.out; have := HF.out; omega
    rw [(HP.out.swap (M.loadS s m) w m x H0.out H1.out HY.out q1).run, Oper.upon_enter]
    refine ((HP.out.swap (M.loadS s m) _ m x H0.out H1.out HY.out q1).does.go fr.p).mono ?_
    rintro e u2 ⟨⟨rfl, k1⟩, p1⟩
    replace fr := fr.loc k1 p1
    clear k1 p1 c1 c6 cp q1
    have cp := fr.b0.cell (thC_pc t)
    have c1 := fr.b2.cell (o := 10) rfl
    go_wp2_with (fail)
    have q2 : 200 ≤ M.fuel (M.swapS (M.loadS s m) m x) := by have := HQ.out; have := HF.out; have := HF2.out; omega
    rw [(HP.out.note (M.swapS (M.loadS s m) m x) w ⟨4, 0, t.pc, m, x, v, 0, true⟩ q2).run, Oper.upon_enter]
    refine ((HP.out.note (M.swapS (M.loadS s m) m x) _ ⟨4, 0, t.pc, m, x, v, 0, true⟩ q2).does.go fr.p).mono ?_
    rintro e u3 ⟨⟨rfl, k1⟩, p1⟩
    replace fr := fr.loc k1 p1
    clear k1 p1 cp c1 q2
    have ci := fr.b1.cell (o := 1) rfl
    have cr := fr.b0.cell (thC_reg HT.out n hn)
    have frr := fr.b0.free (1 + n)
    have fr1 := fr.set HV.out (1 + n) (.int .u32 v) (thC_put HT.out n hn v)
    have ok1 := HT.out.put n v HU.out
    have FR := hide (fr1.res HV.out (t.put n v))
    go_wp2_with (first
      | (refine load_th rfl _ rfl w.heap.size rfl (t.put n v) fr1.b0 ok1 ?_)
      | (refine store_th rfl _ _ rfl (w.heap.size + 1 + 1 + 1) rfl (t.put n v) rfl th0 fr1.b3 ok1 th0_ok ?_))
    rw [HX.out]
    exact bodyPost_ret (results_th rfl _ _ (w.heap.size + 1 + 1 + 1) (t.put n v) rfl FR.out.b3 ok1) rfl ⟨rfl, FR.out.p.end⟩
end Go.Proofs.YthbenfnanhpcoaaGreatDoor.Mp
