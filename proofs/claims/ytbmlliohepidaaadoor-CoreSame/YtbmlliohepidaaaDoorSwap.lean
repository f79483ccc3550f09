/-
  What swapped does. No condition but that the port's functions are such, and have room.
-/
import Derived.Test.YtbmlliohepidaaaDoorFrm
namespace Go.Proofs.YtbmlliohepidaaaDoor
open Go.ChangeShapes Go.WideShapes Go.ChangeAt Go.RowKit
set_option linter.unusedVariables false

theorem insteadM_u32 {t : Th} (ht : ThOk t) (i : Ins) {v : Int} (hv : U32 v) : U32 (insteadM t i v).1 := by
  unfold insteadM
  split
  · exact u32_wrap _
  split
  · split
    · exact ht.reg _
    · exact hv
  · exact ht.reg _

set_option maxRecDepth 20000 in
set_option maxHeartbeats 1000000 in
theorem swapped_does {S : Type} {I : List Nat → S → World → Prop} {M : Prt S} {f : Fns} (P : PortOk I M f) {t : Th} (ht : ThOk t) (i : Ins) (ha : regB i.a = true) (hc : regB i.c = true) (m : Int) (h0 : 0 ≤ m) (h1 : m < M.size) (s : S) (hq : 600 ≤ M.fuel s) (w : World) :
    Does I s w 97 #[.agg (thC t), .agg (insA i), .agg (portA M.size f), .int .i64 m] (.agg (thC (swappedM M t i s m).1)) (swappedM M t i s m).2 := by
  intro F hI
  obtain ⟨op, a, b, c, k⟩ := i
  obtain ⟨n, rfl, hn⟩ := reg_nat ha
  have hn' : (n : Int) < 8 := by omega
  have fr := Fr4.start P.inv hI t ⟨op, n, b, c, k⟩ M.size f
  have HP := hide P
  have HV := hide P.inv
  have HT := hide ht
  have HQ := hide hq
  have H0 := hide h0
  have H1 := hide h1
  have HC := hide hc
  have HU := hide (P.loadU F s w m hI)
  have HF := hide (P.loadF s m)
  have HY := hide (insteadM_u32 ht (⟨op, n, b, c, k⟩ : Ins) (P.loadU F s w m hI))
  have HX : Hid (swappedM M t ⟨op, n, b, c, k⟩ s m = (t.put n (M.load s m), M.note (swapM M t ⟨op, n, b, c, k⟩ s m) ⟨4, 0, t.pc, m, (insteadM t ⟨op, n, b, c, k⟩ (M.load s m)).1, M.load s m, 0, (insteadM t ⟨op, n, b, c, k⟩ (M.load s m)).2⟩)) := rfl
  have HS : Hid (swapM M t ⟨op, n, b, c, k⟩ s m = if (insteadM t ⟨op, n, b, c, k⟩ (M.load s m)).2 then M.swapS (M.loadS s m) m (insteadM t ⟨op, n, b, c, k⟩ (M.load s m)).1 else M.loadS s m) := rfl
  clear P hI ht hq h0 h1 ha hc
  go_enter Tryd.func97, Tryd.ntmps97
  go_wp2_with (fail)
  rw [(HP.out.load s w m H0.out H1.out (by have := HQ.out; omega)).run, Oper.upon_enter]
  refine ((HP.out.load s _ m H0.out H1.out (by have := HQ.out; omega)).does.go fr.p).mono ?_
  rintro e u ⟨⟨rfl, k1⟩, p1⟩
  replace fr := fr.loc k1 p1
  clear k1 p1
  generalize M.load s m = v at HU HX HS HY ⊢
  have hin := inStead_calls HT.out ⟨op, n, b, c, k⟩ (by simp [regB]; omega) HC.out v u
  generalize insteadM t ⟨op, n, b, c, k⟩ v = q at hin HX HS HY
  generalize swapM M t ⟨op, n, b, c, k⟩ s m = s2 at HX HS
  obtain ⟨x, ok⟩ := q
  cases ok
  · have e2 : s2 = M.loadS s m := HS.out
    clear HS
    go_wp2_with (first
      | (refine load_th rfl _ rfl w.heap.size rfl t fr.b0 HT.out ?_)
      | (refine load_ins rfl _ rfl (w.heap.size + 1) rfl ⟨op, n, b, c, k⟩ fr.b1 ?_)
      | (go_at_call 115; refine hin.mono ?_; rintro e u1 ⟨rfl, g1⟩; have cp := (fr.b0.later g1).cell (thC_pc t); have c6 := (fr.b2.later g1).cell (o := 6) rfl; have c1 := (fr.b2.later g1).cell (o := 10) rfl))
    replace fr := fr.gr HV.out g1
    clear g1 hin
    subst e2
    have q2 : 200 ≤ M.fuel (M.loadS s m) := by have := HQ.out; have := HF.out; omega
    rw [(HP.out.note (M.loadS s m) w ⟨4, 0, t.pc, m, x, v, 0, false⟩ q2).run, Oper.upon_enter]
    refine ((HP.out.note (M.loadS s m) _ ⟨4, 0, t.pc, m, x, v, 0, false⟩ q2).does.go fr.p).mono ?_
    rintro e u2 ⟨⟨rfl, k1⟩, p1⟩
    replace fr := fr.loc k1 p1
    clear k1 p1 cp c1 q2
    have ci := fr.b1.cell (o := 1) rfl
    have cr := fr.b0.cell (thC_reg HT.out n hn)
    have frr := fr.b0.free (1 + n)
    have fr1 := fr.set HV.out (1 + n) (.int .u32 v) (thC_put HT.out n hn v)
    have ok1 := HT.out.put n v HU.out
    have FR := hide (fr1.res HV.out (t.put n v))
    go_wp2_with (first
      | (refine load_th rfl _ rfl w.heap.size rfl (t.put n v) fr1.b0 ok1 ?_)
      | (refine store_th rfl _ _ rfl (w.heap.size + 1 + 1 + 1) rfl (t.put n v) rfl th0 fr1.b3 ok1 th0_ok ?_))
    rw [HX.out]
    exact bodyPost_ret (results_th rfl _ _ (w.heap.size + 1 + 1 + 1) (t.put n v) rfl FR.out.b3 ok1) rfl ⟨rfl, FR.out.p.end⟩
  · have e2 : s2 = M.swapS (M.loadS s m) m x := HS.out
    clear HS
    go_wp2_with (first
      | (refine load_th rfl _ rfl w.heap.size rfl t fr.b0 HT.out ?_)
      | (refine load_ins rfl _ rfl (w.heap.size + 1) rfl ⟨op, n, b, c, k⟩ fr.b1 ?_)
      | (go_at_call 115; refine hin.mono ?_; rintro e u1 ⟨rfl, g1⟩; have cp := (fr.b0.later g1).cell (thC_pc t); have c6 := (fr.b2.later g1).cell (o := 6) rfl; have c1 := (fr.b2.later g1).cell (o := 10) rfl))
    replace fr := fr.gr HV.out g1
    clear g1 hin
    subst e2
    have HF2 := hide (HP.out.swapF (M.loadS s m) m x)
    have q1 : 200 ≤ M.fuel (M.loadS s m) := by have := HQ.out; have := HF.out; omega
    rw [(HP.out.swap (M.loadS s m) w m x H0.out H1.out HY.out q1).run, Oper.upon_enter]
    refine ((HP.out.swap (M.loadS s m) _ m x H0.out H1.out HY.out q1).does.go fr.p).mono ?_
    rintro e u2 ⟨⟨rfl, k1⟩, p1⟩
    replace fr := fr.loc k1 p1
    clear k1 p1 c1 c6 cp q1
    have cp := fr.b0.cell (thC_pc t)
    have c1 := fr.b2.cell (o := 10) rfl
    go_wp2_with (fail)
    have q2 : 200 ≤ M.fuel (M.swapS (M.loadS s m) m x) := by have := HQ.out; have := HF.out; have := HF2.out; omega
    rw [(HP.out.note (M.swapS (M.loadS s m) m x) w ⟨4, 0, t.pc, m, x, v, 0, true⟩ q2).run, Oper.upon_enter]
    refine ((HP.out.note (M.swapS (M.loadS s m) m x) _ ⟨4, 0, t.pc, m, x, v, 0, true⟩ q2).does.go fr.p).mono ?_
    rintro e u3 ⟨⟨rfl, k1⟩, p1⟩
    replace fr := fr.loc k1 p1
    clear k1 p1 cp c1 q2
    have ci := fr.b1.cell (o := 1) rfl
    have cr := fr.b0.cell (thC_reg HT.out n hn)
    have frr := fr.b0.free (1 + n)
    have fr1 := fr.set HV.out (1 + n) (.int .u32 v) (thC_put HT.out n hn v)
    have ok1 := HT.out.put n v HU.out
    have FR := hide (fr1.res HV.out (t.put n v))
    go_wp2_with (first
      | (refine load_th rfl _ rfl w.heap.size rfl (t.put n v) fr1.b0 ok1 ?_)
      | (refine store_th rfl _ _ rfl (w.heap.size + 1 + 1 + 1) rfl (t.put n v) rfl th0 fr1.b3 ok1 th0_ok ?_))
    rw [HX.out]
    exact bodyPost_ret (results_th rfl _ _ (w.heap.size + 1 + 1 + 1) (t.put n v) rfl FR.out.b3 ok1) rfl ⟨rfl, FR.out.p.end⟩
end Go.Proofs.YtbmlliohepidaaaDoor
