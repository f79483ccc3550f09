/-
  What newPort and newSide answer, where stores are in memory at once. No condition but what each law names.
-/
import Derived.Test.YthbenfnanhpcoaaGreatDoorZzbj
import Derived.Test.YthbenfnanhpcoaaGreatDoorZzbl
namespace Go.Proofs.YthbenfnanhpcoaaGreatDoor.Sc
open Go.Proofs.YthbenfnanhpcoaaGreatDoor.Mc Go.ChangeShapes Go.WideShapes Go.ChangeAt Go.RowKit
set_option linter.unusedVariables false
set_option maxRecDepth 20000

theorem portA_one (z : Int) (mb g : Nat) : (Sp.portA z (fnsT mb g)).all (·.oneCell') = true := by
  simp [Value.oneCell']
theorem portZ_set (R : Array Value) (h : R.size = 11) : Kq.setA portZ 0 R.toList = R := by
  have := Kq.setA_seg R.toList [] portZ.toList [] (by rw [Array.length_toList (xs := R), h]; rfl)
  simpa using this
set_option maxHeartbeats 1000000 in
theorem newPort_calls (w : World) (g mb : Nat) (a : Option Addr) (N c : Nat) (c0 : w.cell? ⟨g, 0, none⟩ = some (.pointer (some ⟨mb, 0, none⟩))) (c1 : w.cell? ⟨mb, 1, none⟩ = some (.slice a N c)) :
    Calls Tryz.prog 67 #[.pointer (some ⟨g, 0, none⟩)] w fun r w' => r = .returned (.agg (Sp.portA N (fnsT mb g))) ∧ Gr w w' := by
  have gg := Gr.refl w
  have k0 := Has.new w portZ 103
  have k1 := (Gr.refl w).alloc portZ 103
  have c0' := cell_later k1 c0
  have c1' := cell_later k1 c1
  have hn : w.heap.size ≠ g := by have := World.block_lt_of_cell? w _ c0; simp at this; omega
  have hsz : portZ.size = 11 := rfl
  clear c0 c1
  go_enter Tryz.func67, Tryz.ntmps67
  go_upto_region 1 with (fail)
  change Code.wp _ _ _ _ (w.alloc (.cells portZ 103))
  generalize w.alloc (.cells portZ 103) = w1 at k0 k1 c0' c1' ⊢
  obtain ⟨q, hgd⟩ : ∃ q, w.heap.size = q := ⟨_, rfl⟩
  rw [hgd] at k0 hn ⊢
  refine begin_late 34 [33] (fun w' => w' = w1.drew) (by kernel_rfl) rfl ?_
  have hH : w1.drew = w1.drew := rfl
  refine AnyL.takeP 0 (some 3) (.pointer (some ⟨g, 0, none⟩)) rfl rfl (by kernel_rfl) (by kernel_rfl) (by kernel_rfl) (by kernel_rfl) (fun _ _ _ h => h) (by kernel_rfl) (fun w' => by go_simp) (fun _ => hH) ?_
  simp only [Act.put, List.setIfInBounds_toArray, List.set_cons_zero, List.set_cons_succ]
  refine AnyL.takeP 1 (some 4) (.pointer (some ⟨g, 0, none⟩)) rfl rfl (by kernel_rfl) (by kernel_rfl) (by kernel_rfl) (by kernel_rfl) (fun _ _ _ h => h) (by kernel_rfl) (fun w' => by go_simp) (fun _ => hH) ?_
  simp only [Act.put, List.setIfInBounds_toArray, List.set_cons_zero, List.set_cons_succ]
  refine AnyL.takeP 2 (some 5) (.pointer (some ⟨g, 0, none⟩)) rfl rfl (by kernel_rfl) (by kernel_rfl) (by kernel_rfl) (by kernel_rfl) (fun _ _ _ h => h) (by kernel_rfl) (fun w' => by go_simp) (fun _ => hH) ?_
  simp only [Act.put, List.setIfInBounds_toArray, List.set_cons_zero, List.set_cons_succ]
  refine AnyL.take 3 (some 6) (.pointer (some ⟨mb, 0, none⟩)) rfl rfl (by kernel_rfl) (by kernel_rfl) (by kernel_rfl) (by kernel_rfl) (fun _ _ _ h => h) (yields_held _ (by kernel_rfl) (fun w' hw' => by subst hw'; go_simp)) hH ?_
  simp only [Act.put, List.setIfInBounds_toArray, List.set_cons_zero, List.set_cons_succ]
  refine AnyL.takeP 4 (some 7) (.pointer (some ⟨mb, 0, none⟩)) rfl rfl (by kernel_rfl) (by kernel_rfl) (by kernel_rfl) (by kernel_rfl) (fun _ _ _ h => h) (by kernel_rfl) (fun w' => by go_simp) (fun _ => hH) ?_
  simp only [Act.put, List.setIfInBounds_toArray, List.set_cons_zero, List.set_cons_succ]
  refine AnyL.takeP 5 (some 8) (.pointer (some ⟨mb, 1, none⟩)) rfl rfl (by kernel_rfl) (by kernel_rfl) (by kernel_rfl) (by kernel_rfl) (fun _ _ _ h => h) (by kernel_rfl) (fun w' => by go_simp) (fun _ => hH) ?_
  simp only [Act.put, List.setIfInBounds_toArray, List.set_cons_zero, List.set_cons_succ]
  refine AnyL.take 6 (some 9) (.slice a N c) rfl rfl (by kernel_rfl) (by kernel_rfl) (by kernel_rfl) (by kernel_rfl) (fun _ _ _ h => h) (yields_held _ (by kernel_rfl) (fun w' hw' => by subst hw'; go_simp)) hH ?_
  simp only [Act.put, List.setIfInBounds_toArray, List.set_cons_zero, List.set_cons_succ]
  refine AnyL.takeP 7 (some 10) (.int .i64 N) rfl rfl (by kernel_rfl) (by kernel_rfl) (by kernel_rfl) (by kernel_rfl) (fun _ _ _ h => h) (by kernel_rfl) (fun w' => by go_simp) (fun _ => hH) ?_
  simp only [Act.put, List.setIfInBounds_toArray, List.set_cons_zero, List.set_cons_succ]
  refine AnyL.takeP 8 (some 11) (.pointer (some ⟨g, 0, none⟩)) rfl rfl (by kernel_rfl) (by kernel_rfl) (by kernel_rfl) (by kernel_rfl) (fun _ _ _ h => h) (by kernel_rfl) (fun w' => by go_simp) (fun _ => hH) ?_
  simp only [Act.put, List.setIfInBounds_toArray, List.set_cons_zero, List.set_cons_succ]
  refine AnyL.takeP 9 (some 12) (.pointer (some ⟨g, 0, none⟩)) rfl rfl (by kernel_rfl) (by kernel_rfl) (by kernel_rfl) (by kernel_rfl) (fun _ _ _ h => h) (by kernel_rfl) (fun w' => by go_simp) (fun _ => hH) ?_
  simp only [Act.put, List.setIfInBounds_toArray, List.set_cons_zero, List.set_cons_succ]
  refine AnyL.takeP 10 (some 13) (.pointer (some ⟨g, 0, none⟩)) rfl rfl (by kernel_rfl) (by kernel_rfl) (by kernel_rfl) (by kernel_rfl) (fun _ _ _ h => h) (by kernel_rfl) (fun w' => by go_simp) (fun _ => hH) ?_
  simp only [Act.put, List.setIfInBounds_toArray, List.set_cons_zero, List.set_cons_succ]
  refine AnyL.take 11 (some 14) (.pointer (some ⟨mb, 0, none⟩)) rfl rfl (by kernel_rfl) (by kernel_rfl) (by kernel_rfl) (by kernel_rfl) (fun _ _ _ h => h) (yields_held _ (by kernel_rfl) (fun w' hw' => by subst hw'; go_simp)) hH ?_
  simp only [Act.put, List.setIfInBounds_toArray, List.set_cons_zero, List.set_cons_succ]
  refine AnyL.takeP 12 (some 15) (.func (.func 99) #[.pointer (some ⟨mb, 0, none⟩)] #[]) rfl rfl (by kernel_rfl) (by kernel_rfl) (by kernel_rfl) (by kernel_rfl) (fun _ _ _ h => h) (by kernel_rfl) (fun w' => by go_simp) (fun _ => hH) ?_
  simp only [Act.put, List.setIfInBounds_toArray, List.set_cons_zero, List.set_cons_succ]
  refine AnyL.takeP 13 (some 16) (.pointer (some ⟨g, 0, none⟩)) rfl rfl (by kernel_rfl) (by kernel_rfl) (by kernel_rfl) (by kernel_rfl) (fun _ _ _ h => h) (by kernel_rfl) (fun w' => by go_simp) (fun _ => hH) ?_
  simp only [Act.put, List.setIfInBounds_toArray, List.set_cons_zero, List.set_cons_succ]
  refine AnyL.takeP 14 (some 17) (.pointer (some ⟨g, 0, none⟩)) rfl rfl (by kernel_rfl) (by kernel_rfl) (by kernel_rfl) (by kernel_rfl) (fun _ _ _ h => h) (by kernel_rfl) (fun w' => by go_simp) (fun _ => hH) ?_
  simp only [Act.put, List.setIfInBounds_toArray, List.set_cons_zero, List.set_cons_succ]
  refine AnyL.takeP 15 (some 18) (.pointer (some ⟨g, 0, none⟩)) rfl rfl (by kernel_rfl) (by kernel_rfl) (by kernel_rfl) (by kernel_rfl) (fun _ _ _ h => h) (by kernel_rfl) (fun w' => by go_simp) (fun _ => hH) ?_
  simp only [Act.put, List.setIfInBounds_toArray, List.set_cons_zero, List.set_cons_succ]
  refine AnyL.take 16 (some 19) (.pointer (some ⟨mb, 0, none⟩)) rfl rfl (by kernel_rfl) (by kernel_rfl) (by kernel_rfl) (by kernel_rfl) (fun _ _ _ h => h) (yields_held _ (by kernel_rfl) (fun w' hw' => by subst hw'; go_simp)) hH ?_
  simp only [Act.put, List.setIfInBounds_toArray, List.set_cons_zero, List.set_cons_succ]
  refine AnyL.takeP 17 (some 20) (.func (.func 101) #[.pointer (some ⟨mb, 0, none⟩)] #[]) rfl rfl (by kernel_rfl) (by kernel_rfl) (by kernel_rfl) (by kernel_rfl) (fun _ _ _ h => h) (by kernel_rfl) (fun w' => by go_simp) (fun _ => hH) ?_
  simp only [Act.put, List.setIfInBounds_toArray, List.set_cons_zero, List.set_cons_succ]
  refine AnyL.takeP 18 (some 21) (.pointer (some ⟨g, 0, none⟩)) rfl rfl (by kernel_rfl) (by kernel_rfl) (by kernel_rfl) (by kernel_rfl) (fun _ _ _ h => h) (by kernel_rfl) (fun w' => by go_simp) (fun _ => hH) ?_
  simp only [Act.put, List.setIfInBounds_toArray, List.set_cons_zero, List.set_cons_succ]
  refine AnyL.takeP 19 (some 22) (.pointer (some ⟨g, 0, none⟩)) rfl rfl (by kernel_rfl) (by kernel_rfl) (by kernel_rfl) (by kernel_rfl) (fun _ _ _ h => h) (by kernel_rfl) (fun w' => by go_simp) (fun _ => hH) ?_
  simp only [Act.put, List.setIfInBounds_toArray, List.set_cons_zero, List.set_cons_succ]
  refine AnyL.takeP 20 (some 23) (.pointer (some ⟨g, 0, none⟩)) rfl rfl (by kernel_rfl) (by kernel_rfl) (by kernel_rfl) (by kernel_rfl) (fun _ _ _ h => h) (by kernel_rfl) (fun w' => by go_simp) (fun _ => hH) ?_
  simp only [Act.put, List.setIfInBounds_toArray, List.set_cons_zero, List.set_cons_succ]
  refine AnyL.take 21 (some 24) (.pointer (some ⟨mb, 0, none⟩)) rfl rfl (by kernel_rfl) (by kernel_rfl) (by kernel_rfl) (by kernel_rfl) (fun _ _ _ h => h) (yields_held _ (by kernel_rfl) (fun w' hw' => by subst hw'; go_simp)) hH ?_
  simp only [Act.put, List.setIfInBounds_toArray, List.set_cons_zero, List.set_cons_succ]
  refine AnyL.takeP 22 (some 25) (.func (.func 103) #[.pointer (some ⟨mb, 0, none⟩)] #[]) rfl rfl (by kernel_rfl) (by kernel_rfl) (by kernel_rfl) (by kernel_rfl) (fun _ _ _ h => h) (by kernel_rfl) (fun w' => by go_simp) (fun _ => hH) ?_
  simp only [Act.put, List.setIfInBounds_toArray, List.set_cons_zero, List.set_cons_succ]
  refine AnyL.takeP 23 (some 26) (.pointer (some ⟨g, 0, none⟩)) rfl rfl (by kernel_rfl) (by kernel_rfl) (by kernel_rfl) (by kernel_rfl) (fun _ _ _ h => h) (by kernel_rfl) (fun w' => by go_simp) (fun _ => hH) ?_
  simp only [Act.put, List.setIfInBounds_toArray, List.set_cons_zero, List.set_cons_succ]
  refine AnyL.takeP 24 (some 27) (.func (.func 104) #[.pointer (some ⟨g, 0, none⟩)] #[]) rfl rfl (by kernel_rfl) (by kernel_rfl) (by kernel_rfl) (by kernel_rfl) (fun _ _ _ h => h) (by kernel_rfl) (fun w' => by go_simp) (fun _ => hH) ?_
  simp only [Act.put, List.setIfInBounds_toArray, List.set_cons_zero, List.set_cons_succ]
  refine AnyL.takeP 25 (some 28) (.pointer (some ⟨g, 0, none⟩)) rfl rfl (by kernel_rfl) (by kernel_rfl) (by kernel_rfl) (by kernel_rfl) (fun _ _ _ h => h) (by kernel_rfl) (fun w' => by go_simp) (fun _ => hH) ?_
  simp only [Act.put, List.setIfInBounds_toArray, List.set_cons_zero, List.set_cons_succ]
  refine AnyL.takeP 26 (some 29) (.pointer (some ⟨g, 0, none⟩)) rfl rfl (by kernel_rfl) (by kernel_rfl) (by kernel_rfl) (by kernel_rfl) (fun _ _ _ h => h) (by kernel_rfl) (fun w' => by go_simp) (fun _ => hH) ?_
  simp only [Act.put, List.setIfInBounds_toArray, List.set_cons_zero, List.set_cons_succ]
  refine AnyL.takeP 27 (some 30) (.pointer (some ⟨g, 0, none⟩)) rfl rfl (by kernel_rfl) (by kernel_rfl) (by kernel_rfl) (by kernel_rfl) (fun _ _ _ h => h) (by kernel_rfl) (fun w' => by go_simp) (fun _ => hH) ?_
  simp only [Act.put, List.setIfInBounds_toArray, List.set_cons_zero, List.set_cons_succ]
  refine AnyL.take 28 (some 31) (.pointer (some ⟨mb, 0, none⟩)) rfl rfl (by kernel_rfl) (by kernel_rfl) (by kernel_rfl) (by kernel_rfl) (fun _ _ _ h => h) (yields_held _ (by kernel_rfl) (fun w' hw' => by subst hw'; go_simp)) hH ?_
  simp only [Act.put, List.setIfInBounds_toArray, List.set_cons_zero, List.set_cons_succ]
  refine AnyL.takeP 29 (some 32) (.func (.func 105) #[.pointer (some ⟨mb, 0, none⟩)] #[]) rfl rfl (by kernel_rfl) (by kernel_rfl) (by kernel_rfl) (by kernel_rfl) (fun _ _ _ h => h) (by kernel_rfl) (fun w' => by go_simp) (fun _ => hH) ?_
  simp only [Act.put, List.setIfInBounds_toArray, List.set_cons_zero, List.set_cons_succ]
  refine AnyL.takeP 30 (some 33) (.pointer (some ⟨g, 0, none⟩)) rfl rfl (by kernel_rfl) (by kernel_rfl) (by kernel_rfl) (by kernel_rfl) (fun _ _ _ h => h) (by kernel_rfl) (fun w' => by go_simp) (fun _ => hH) ?_
  simp only [Act.put, List.setIfInBounds_toArray, List.set_cons_zero, List.set_cons_succ]
  refine AnyL.takeP 31 (some 34) (.func (.func 68) #[.pointer (some ⟨g, 0, none⟩)] #[]) rfl rfl (by kernel_rfl) (by kernel_rfl) (by kernel_rfl) (by kernel_rfl) (fun _ _ _ h => h) (by kernel_rfl) (fun w' => by go_simp) (fun _ => hH) ?_
  simp only [Act.put, List.setIfInBounds_toArray, List.set_cons_zero, List.set_cons_succ]
  refine AnyL.takeP 32 (some 35) (.agg (Sp.portA N (fnsT mb g))) rfl rfl (by kernel_rfl) (by kernel_rfl) (by kernel_rfl) (by kernel_rfl) (fun _ _ _ h => h) (by kernel_rfl) (fun w' => by go_simp; simp [fnsT]) (fun _ => hH) ?_
  simp only [Act.put, List.setIfInBounds_toArray, List.set_cons_zero, List.set_cons_succ]
  have thr := (k0.later (Gr.refl w1).drew).there 0 11 (by rw [hsz]; omega)
  have inf : (Tryz.prog.info? 103).map (·.size) = some (Sp.portA N (fnsT mb g)).size := infoPt
  have one := portA_one N mb g
  refine AnyL.one 33 (by kernel_rfl) rfl (by kernel_rfl) ?_
  refine wp_store_mid 103 _ _ rfl q 0 (Sp.portA N (fnsT mb g)) (by kernel_rfl) (by kernel_rfl) thr inf one ?_
  refine ⟨late (by kernel_rfl), ?_⟩
  refine AnyL.done (by kernel_rfl) ?_
  have e1 := Kq.setCells_has (Sp.portA N (fnsT mb g)).toList 0 w1.drew _ (k0.later (Gr.refl w1).drew)
  rw [portZ_set _ rfl] at e1
  have kp := Kq.kp_setCells (b := q) (Sp.portA N (fnsT mb g)).toList 0 w1.drew
  have gf := Kp.gr k1.drew kp (by intro x hx; rw [show x = q by simpa using hx]; omega)
  generalize w1.drew.setCells q 0 (Sp.portA N (fnsT mb g)).toList = u at e1 gf ⊢
  have E1 := hide e1
  have GF := hide gf
  clear e1 gf kp thr inf one k0 k1 c0' c1' hH
  go_wp2_with (fail)
  exact bodyPost_ret (results_cell_row rfl _ _ q 103 (Sp.portA N (fnsT mb g)) (0, 0) _ rfl E1.out Tryz.underlying103 rfl infoPt) rfl ⟨rfl, GF.out⟩

/-- a side's cells, whatever its port's are -/
def sideZ (mb i : Nat) (cv : Value) (P : List Value) : Array Value := ([.pointer (some ⟨mb, 0, none⟩), .int .i64 i, cv] ++ (thL th00 ++ P)).toArray
theorem sideZ_port {mb i : Nat} {cv : Value} {P R : List Value} (h : P.length = R.length) : Kq.setA (sideZ mb i cv P) 13 R = sideZ mb i cv R := by
  have := Kq.setA_seg R ([.pointer (some ⟨mb, 0, none⟩), .int .i64 i, cv] ++ thL th00) P [] h
  unfold sideZ
  simpa [thL] using this
theorem sideZ_size {mb i : Nat} {cv : Value} {P : List Value} (hP : P.length = 11) : (sideZ mb i cv P).size = 24 := by
  simp [sideZ, thL, hP]
/-- a new side's cells, one by one -/
abbrev sideN (mb i : Nat) (cv : Value) : Array Value := #[.pointer (some ⟨mb, 0, none⟩), .int .i64 i, cv, .int .i64 0, .int .u32 0, .int .u32 0, .int .u32 0, .int .u32 0, .int .u32 0, .int .u32 0, .int .u32 0, .int .u32 0, .int .i64 0, .int .i64 0, .nilFunc, .nilFunc, .nilFunc, .nilFunc, .nilFunc, .nilFunc, .nilFunc, .nilFunc, .nilFunc, .nilFunc]
theorem sideN_is (mb i : Nat) (cv : Value) : sideN mb i cv = sideZ mb i cv portZ.toList := by rfl
theorem sideZ_A (mb i : Nat) (cv : Value) (B : Array Value) (N g : Nat) : sideZ mb i cv (Sp.portA N (fnsT mb g)).toList = sideA mb i cv th00 B N g := by rfl
theorem sideZ_0 (mb i : Nat) (cv : Value) (P : List Value) : (sideZ mb i cv P)[0]? = some (.pointer (some ⟨mb, 0, none⟩)) := by rfl
def NewSideP (w : World) (mb who : Nat) (N : Nat) (l : List Ins) (r : Ending) (w' : World) : Prop :=
  ∃ g cv, (r = .returned (.pointer (some ⟨g, 0, none⟩)) ∧ Has w' g (sideA mb who cv th00 #[] N g) 117) ∧ (InssO w' w.heap.size cv l ∧ w.heap.size ≤ g) ∧ Gr w w'

set_option maxHeartbeats 1000000 in
theorem newSide_calls (w : World) (mb who : Nat) (a : Option Addr) (N c : Nat) (x : Cd) (c1 : w.cell? ⟨mb, 1, none⟩ = some (.slice a N c)) (hx : CdAt x w) (hl : x.l.length ≤ 4000) :
    Calls Tryz.prog 44 #[.pointer (some ⟨mb, 0, none⟩), .int .i64 who, .slice x.a x.l.length x.c] w (NewSideP w mb who N x.l) := by
  have HC := hide (cloneI_calls x.a x.c x.l w hx.row hx.nil (by omega))
  have gg := Gr.refl w
  have hmb := World.block_lt_of_cell? w _ c1
  clear hx
  go_enter Tryz.func44, Tryz.ntmps44
  go_wp2_with (fail)
  refine HC.out.mono ?_
  rintro r u ⟨cv, rfl, ho, g2⟩
  have c2 := cell_later g2 c1
  obtain ⟨ad, cap, rfl, -, -, -, -⟩ := own_at ho
  clear c1 HC
  go_wp2_with (fail)
  have k0 := Has.new u (sideN mb who (.slice ad x.l.length cap)) 117
  have k1 := own_later ho ((Gr.refl u).alloc (sideN mb who (.slice ad x.l.length cap)) 117)
  have k2 := g2.alloc (sideN mb who (.slice ad x.l.length cap)) 117
  have k3 := cell_later ((Gr.refl u).alloc (sideN mb who (.slice ad x.l.length cap)) 117) c2
  have hsz := g2.size
  change Calls _ _ _ (u.alloc (.cells (sideN mb who (.slice ad x.l.length cap)) 117)) _
  generalize u.alloc (.cells (sideN mb who (.slice ad x.l.length cap)) 117) = u3 at k0 k1 k2 k3 ⊢
  generalize u.heap.size = g at k0 hsz ⊢
  generalize Value.agg (sideN mb who (.slice ad x.l.length cap)) = z14
  have e1 := k0.of (sideN_is mb who (.slice ad x.l.length cap))
  have k7 : u3.cell? ⟨g, 0, none⟩ = some (.pointer (some ⟨mb, 0, none⟩)) := e1.cell (sideZ_0 _ _ _ _)
  clear k0 ho c2 g2
  refine (newPort_calls u3 g mb a N c k7 k3).mono ?_
  rintro r u4 ⟨rfl, g4⟩
  have e2 := e1.later g4
  have k8 := own_later k1 g4
  have k9 := k2.trans g4
  have hpl : portZ.toList.length = (Sp.portA N (fnsT mb g)).toList.length := rfl
  have thr : u4.there g 13 (Sp.portA N (fnsT mb g)).size := e2.there 13 11 (by rw [sideZ_size rfl]; omega)
  have inf : (Tryz.prog.info? 103).map (·.size) = some (Sp.portA N (fnsT mb g)).size := infoPt
  have one := portA_one N mb g
  generalize hPA0 : Sp.portA N (fnsT mb g) = PA at thr inf one hpl ⊢
  have hPA := hide hPA0
  clear hPA0 e1 k1 k2 k3 k7 g4
  go_wp2_with (first
    | (refine wpList_store_mid rfl 103 _ _ rfl g 13 PA rfl rfl thr inf one ?_))
  have e3 := Kq.setCells_has PA.toList 13 u4 _ e2
  have q2 := Kq.kp_setCells (b := g) PA.toList 13 u4
  have k10 := own_kept k8 q2 (fun y hy z => own_aside k8 e2 (by decide) (mem_ob.2 (by rw [hy, show y = g by simpa using z])))
  have k11 := Kp.gr k9 q2 (by simpa using hsz)
  generalize u4.setCells g 13 PA.toList = u5 at e3 k10 k11 ⊢
  rw [sideZ_port hpl, ← hPA.out, sideZ_A mb who _ #[]] at e3
  have HF := hide e3
  clear e3 e2 k8 k9 q2 thr inf one
  go_ret
  exact ⟨g, _, ⟨rfl, HF.out⟩, ⟨k10, hsz⟩, k11⟩
end Go.Proofs.YthbenfnanhpcoaaGreatDoor.Sc
