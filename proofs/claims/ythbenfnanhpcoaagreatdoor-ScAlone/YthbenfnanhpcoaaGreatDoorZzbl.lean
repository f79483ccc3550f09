/-
  What isa.Check answers of any program. No condition but what each law names.
-/
import Derived.Test.YthbenfnanhpcoaaGreatDoorZzbkChk
import Derived.Test.YthbenfnanhpcoaaGreatDoorZzaf
import Derived.Test.YthbenfnanhpcoaaGreatDoorZzax
namespace Go.Proofs.YthbenfnanhpcoaaGreatDoor.Mc
open Go.ChangeShapes Go.WideShapes Go.ChangeAt Go.RowKit
set_option linter.unusedVariables false
set_option maxRecDepth 20000

def ChkP (p : Pgm) (w : World) (r : Ending) (w' : World) : Prop := r = .returned (.tuple #[.int .i64 (chkM p).1, .int .i64 (chkM p).2.1, .int .i64 (chkM p).2.2]) ∧ Gr w w'
theorem results_tmp3' {fn : Func} {t u v : Tmp} (h : fn.results = #[.tmp t, .tmp u, .tmp v]) (tmps : Array Value) (w : World) :
    (results fn tmps).run Tryz.prog w = .ok (.tuple #[tmps.getD t undef, tmps.getD u undef, tmps.getD v undef]) w := by
  simp [results, h]
theorem chk_arg {p : Pgm} (h : (p.codes.length < 1 ∨ 8 < p.codes.length) ∨ (p.room < 1 ∨ 16 < p.room)) : chkM p = (-1, -1, 1) := by unfold chkM; rw [if_pos h]
theorem chk_long {p : Pgm} (h : ¬ ((p.codes.length < 1 ∨ 8 < p.codes.length) ∨ (p.room < 1 ∨ 16 < p.room))) (h2 : 1024 < p.mem.length) : chkM p = (-1, -1, 4) := by unfold chkM; rw [if_neg h, if_pos h2]
theorem chk_rest {p : Pgm} (h : ¬ ((p.codes.length < 1 ∨ 8 < p.codes.length) ∨ (p.room < 1 ∨ 16 < p.room))) (h2 : ¬ 1024 < p.mem.length) : chkM p = chkP 0 (p.codes.drop 0) := by unfold chkM; rw [if_neg h, if_neg h2]; rfl

set_option maxHeartbeats 1000000 in
theorem check_calls (p : Pgm) (w : World) (L : Laid w) (h : PgAt p w) : Calls Tryz.prog 31 #[.agg (pgA p)] w (ChkP p w) := by
  have g0 := (Gr.refl w).alloc (pgA p) 27
  have hb := Has.new w (pgA p) 27
  have d0 := hb.cell (o := 0) (v := .slice p.ca p.codes.length p.cc) rfl
  have d1 := hb.cell (o := 1) (v := .slice p.ma p.mem.length p.mc) rfl
  have d2 := hb.cell (o := 2) (v := .int .i64 p.room) rfl
  by_cases ha : (p.codes.length < 1 ∨ 8 < p.codes.length) ∨ (p.room < 1 ∨ 16 < p.room)
  · have e := hide (chk_arg ha)
    have HG := hide g0
    clear h hb L g0
    unfold ChkP
    rw [e.out]
    clear e
    by_cases h1 : p.codes.length < 1
    · have h1' : (p.codes.length : Int) < 1 := by omega
      clear ha h1
      go_enter Tryz.func31, Tryz.ntmps31
      go_wp2_with (fail)
      exact bodyPost_ret (results_tmp3' rfl _ _) rfl ⟨rfl, HG.out⟩
    · have h1' : ¬ (p.codes.length : Int) < 1 := by omega
      by_cases h2 : 8 < p.codes.length
      · have h2' : (8 : Int) < p.codes.length := by omega
        clear ha h1 h2
        go_enter Tryz.func31, Tryz.ntmps31
        go_wp2_with (fail)
        exact bodyPost_ret (results_tmp3' rfl _ _) rfl ⟨rfl, HG.out⟩
      · have h2' : ¬ (8 : Int) < p.codes.length := by omega
        by_cases h3 : p.room < 1
        · clear ha h1 h2
          go_enter Tryz.func31, Tryz.ntmps31
          go_wp2_with (fail)
          exact bodyPost_ret (results_tmp3' rfl _ _) rfl ⟨rfl, HG.out⟩
        · have h4 : 16 < p.room := by omega
          clear ha h1 h2
          go_enter Tryz.func31, Tryz.ntmps31
          go_wp2_with (fail)
          exact bodyPost_ret (results_tmp3' rfl _ _) rfl ⟨rfl, HG.out⟩
  · have n1 : ¬ (p.codes.length : Int) < 1 := by omega
    have n2 : ¬ (8 : Int) < p.codes.length := by omega
    have n3 : ¬ p.room < 1 := by omega
    have n4 : ¬ 16 < p.room := by omega
    by_cases h5 : 1024 < p.mem.length
    · have e := hide (chk_long ha h5)
      have HG := hide g0
      have h5' : (1024 : Int) < p.mem.length := by omega
      clear h hb L g0 ha h5
      unfold ChkP
      rw [e.out]
      clear e
      go_enter Tryz.func31, Tryz.ntmps31
      go_wp2_with (fail)
      exact bodyPost_ret (results_tmp3' rfl _ _) rfl ⟨rfl, HG.out⟩
    · have e := hide (chk_rest ha h5)
      have h5' : ¬ (1024 : Int) < p.mem.length := by omega
      unfold ChkP
      rw [e.out]
      generalize hR : chkP 0 (p.codes.drop 0) = R
      have HR := hide hR
      have HH := hide h
      have HL := hide L
      clear hR h L ha e hb h5
      go_enter Tryz.func31, Tryz.ntmps31
      go_wp2_with (fail)
      change Code.wp _ _ _ _ (w.alloc (.cells (pgA p) 27))
      generalize w.alloc (.cells (pgA p) 27) = w1 at g0 d0 d1 d2 ⊢
      go_loopw [36] (fun v wr => ∃ j : Nat, j ≤ p.codes.length ∧ v = .int .i64 j ∧ Gr w wr ∧ chkP j (p.codes.drop j) = R) (fun v _ => p.codes.length - (intOf v).toNat)
      case atStart => exact ⟨0, by omega, rfl, g0, HR.out⟩
      case round =>
        clear g0 d0 d1 d2
        obtain ⟨j, hj, rfl, g, hr⟩ := hrel
        by_cases hlt : j < p.codes.length
        · have hlt' : (j : Int) < p.codes.length := by omega
          have q1 := HH.out.later g
          have rw1 := q1.row
          obtain ⟨b, off, had, -⟩ := rw1.get (by rw [flatOf_length codeV_len]; omega)
          rw [had] at rw1
          have c0 := rw1.cell codeV_len hlt cd0 0 (by omega)
          have hd := chkP_drop hlt
          have hx := q1.each _ (cd_mem hlt)
          generalize p.codes.getD j cd0 = x at c0 hd hx
          rw [hd] at hr
          have HK := hide hr
          have HC := hide (checkCode_calls x.a x.c x.l hx.ins wr (HL.out.later g) hx.row)
          clear hd hr rw1 q1 hx
          simp only [codeV, List.getElem?_cons_zero, Nat.add_zero, Nat.mul_one] at c0
          generalize p.ca = pa at had
          subst had
          go_wp2_with (fail)
          refine HC.out.mono ?_
          rintro r u ⟨rfl, g2⟩
          have GG := hide (g.trans g2)
          clear c0 g g2 HC
          by_cases hb : (chkC x.l).2 = 0
          · have HK2 := hide (show chkP (j + 1) (p.codes.drop (j + 1)) = R by have := HK.out; rwa [if_pos hb] at this)
            generalize chkC x.l = q at hb
            obtain ⟨q1, q2⟩ := q
            have hb' : q2 = 0 := hb
            subst hb'
            clear HK hb
            go_wp2_with (fail)
            exact ⟨⟨j + 1, by omega, by go_num, GG.out, HK2.out⟩, by simp [intOf]; omega⟩
          · have HK2 := hide (show (((j : Int), (chkC x.l).1, (chkC x.l).2) : Int × Int × Int) = R by have := HK.out; rwa [if_neg hb] at this)
            generalize chkC x.l = q at hb HK2
            obtain ⟨q1, q2⟩ := q
            have hb' : (q2 == 0) = false := by simpa using hb
            have hb2 : q2 ≠ 0 := hb
            clear HK hb
            go_wp2_with (fail)
            rw [← HK2.out]
            exact bodyPost_ret (results_tmp3' rfl _ _) rfl ⟨rfl, GG.out⟩
        · have hj' : j = p.codes.length := by omega
          subst hj'
          have e0 : R = (0, 0, 0) := by rw [← hr, List.drop_length]; rfl
          have HE := hide e0
          have GG := hide g
          clear hr HR e0 g
          go_wp2_with (fail)
          rw [HE.out]
          exact bodyPost_ret (results_tmp3' rfl _ _) rfl ⟨rfl, GG.out⟩
end Go.Proofs.YthbenfnanhpcoaaGreatDoor.Mc

namespace Go.Proofs.YthbenfnanhpcoaaGreatDoor.Bf
open Go.ChangeShapes Go.WideShapes Go.ChangeAt Go.RowKit
set_option linter.unusedVariables false
set_option maxRecDepth 20000

def newC (room : Int) : Array Value := bufC (List.replicate 16 ent0) room 0 0
theorem newC_size (room : Int) : (newC room).size = 35 := rfl
theorem newC_one (room : Int) : (newC room).all (·.oneCell') = true := bufC_one _ _ _ _

set_option maxHeartbeats 400000 in
theorem new_yes (room : Int) (h1 : 1 ≤ room) (h2 : room ≤ 16) (w : World) :
    Calls Tryz.prog 55 #[.int .i64 room] w fun e w' => e = .returned (.tuple #[.agg (newC room), .int .i64 0]) ∧ Gr w w' := by
  have a0 := Has.new w zeroC 96
  have hd1 : ¬ room < 1 := by omega
  have hd2 : ¬ 16 < room := by omega
  go_enter Tryz.func55, Tryz.ntmps55
  go_wp2_with (first
    | (refine store_buf rfl _ _ rfl w.heap.size rfl (newC room) rfl zeroC a0 (newC_size _) zeroC_size (newC_one _) ?_))
  exact bodyPost_ret (results_buf rfl _ _ w.heap.size _ rfl (a0.row _) (newC_size _)) rfl ⟨rfl, ((Gr.refl w).alloc _ _).setRow (by omega) _⟩

set_option maxHeartbeats 400000 in
theorem new_no (room : Int) (h : room < 1 ∨ 16 < room) (w : World) :
    Calls Tryz.prog 55 #[.int .i64 room] w fun e w' => e = .returned (.tuple #[.agg zeroC, .int .i64 1]) ∧ Gr w w' := by
  have a0 := Has.new w zeroC 96
  rcases h with h | h
  · go_enter Tryz.func55, Tryz.ntmps55
    go_wp2_with (first
      | (refine store_buf rfl _ _ rfl w.heap.size rfl zeroC rfl zeroC a0 zeroC_size zeroC_size (bufC_one _ _ _ _) ?_))
    exact bodyPost_ret (results_buf rfl _ _ w.heap.size _ rfl (a0.row _) zeroC_size) rfl ⟨rfl, ((Gr.refl w).alloc _ _).setRow (by omega) _⟩
  · have h' : ¬ room < 1 := by omega
    go_enter Tryz.func55, Tryz.ntmps55
    go_wp2_with (first
      | (refine store_buf rfl _ _ rfl w.heap.size rfl zeroC rfl zeroC a0 zeroC_size zeroC_size (bufC_one _ _ _ _) ?_))
    exact bodyPost_ret (results_buf rfl _ _ w.heap.size _ rfl (a0.row _) zeroC_size) rfl ⟨rfl, ((Gr.refl w).alloc _ _).setRow (by omega) _⟩

theorem is_newC (room : Nat) (h : room ≤ 16) : IsB (newC room) room [] := is_new room h
theorem is_zeroC : IsB zeroC 0 [] := is_new 0 (by omega)
end Go.Proofs.YthbenfnanhpcoaaGreatDoor.Bf

namespace Go.Proofs.YthbenfnanhpcoaaGreatDoor.Mc
open Go.ChangeShapes Go.WideShapes Go.ChangeAt Go.RowKit
set_option linter.unusedVariables false
set_option maxRecDepth 20000

theorem step_made {ops : Array Oper} {rest : List Oper} {o : Oper} {a : Act} {w : World} {Q : Exit → Act → World → Prop} (hgd : o.guard = none) (d : Option Tmp) (hd : o.dst = d) (v : Value) (u : World) (hrun : (execOp a.eval o).run Tryz.prog w = .ok (.value v) u)
    (h : wpList Tryz.prog ops Q rest (a.put d v) u) : wpList Tryz.prog ops Q (o :: rest) a w :=
  wpList_plain hgd fun _ hK => wp_made d hd v u hrun (hK _ _ h)
theorem infoPt : (Tryz.prog.info? 103).map (·.size) = some 11 := by kernel_rfl
theorem cell_later {w w' : World} (g : Gr w w') {b o : Nat} {v : Value} (h : w.cell? ⟨b, o, none⟩ = some v) : w'.cell? ⟨b, o, none⟩ = some v := (cell_same o (g.block b (World.block_lt_of_cell? w _ h))).trans h
set_option maxHeartbeats 400000 in
theorem newPort_calls (w : World) (g mb : Nat) (a : Option Addr) (N c : Nat) (c0 : w.cell? ⟨g, 0, none⟩ = some (.pointer (some ⟨mb, 0, none⟩))) (c1 : w.cell? ⟨mb, 1, none⟩ = some (.slice a N c)) :
    Calls Tryz.prog 56 #[.pointer (some ⟨g, 0, none⟩)] w fun r w' => r = .returned (.agg (Mp.portA N (fnsT g))) ∧ Gr w w' := by
  have gg := Gr.refl w
  have b0 := World.block_lt_of_cell? w _ c0
  have b1 := World.block_lt_of_cell? w _ c1
  go_enter Tryz.func56, Tryz.ntmps56
  go_wp2_with (fail)
  exact bodyPost_ret (results_cell_row rfl _ _ w.heap.size 103 (Mp.portA N (fnsT g)) (0, 0) _ rfl (Has.new w _ _) Tryz.underlying103 rfl infoPt) rfl ⟨rfl, gg.alloc _ _⟩

abbrev th00 : Th := ⟨0, List.replicate 8 0, 0⟩
abbrev portZ : Array Value := #[.int .i64 0, .nilFunc, .nilFunc, .nilFunc, .nilFunc, .nilFunc, .nilFunc, .nilFunc, .nilFunc, .nilFunc, .nilFunc]
/-- a side's cells, whatever its buffer's and its port's are -/
def sideZ (mb i : Nat) (cv : Value) (B P : List Value) : Array Value := ([.pointer (some ⟨mb, 0, none⟩), .int .i64 i, cv] ++ (thL th00 ++ (B ++ P))).toArray
theorem sideZ_buf {mb i : Nat} {cv : Value} {B C P : List Value} (h : B.length = C.length) : Kq.setA (sideZ mb i cv B P) 13 C = sideZ mb i cv C P := by
  have := Kq.setA_seg C ([.pointer (some ⟨mb, 0, none⟩), .int .i64 i, cv] ++ thL th00) B P h
  unfold sideZ
  simpa [thL] using this
theorem sideZ_port {mb i : Nat} {cv : Value} {B P R : List Value} (hB : B.length = 35) (h : P.length = R.length) : Kq.setA (sideZ mb i cv B P) 48 R = sideZ mb i cv B R := by
  have := Kq.setA_seg R ([.pointer (some ⟨mb, 0, none⟩), .int .i64 i, cv] ++ thL th00 ++ B) P [] h
  unfold sideZ
  simpa [thL, hB] using this
theorem sideZ_size {mb i : Nat} {cv : Value} {B P : List Value} (hB : B.length = 35) (hP : P.length = 11) : (sideZ mb i cv B P).size = 59 := by
  simp [sideZ, thL, hB, hP]
/-- a new side's cells, one by one -/
abbrev sideN (mb i : Nat) (cv : Value) : Array Value := #[.pointer (some ⟨mb, 0, none⟩), .int .i64 i, cv, .int .i64 0, .int .u32 0, .int .u32 0, .int .u32 0, .int .u32 0, .int .u32 0, .int .u32 0, .int .u32 0, .int .u32 0, .int .i64 0, .int .i64 0, .int .u32 0, .int .i64 0, .int .u32 0, .int .i64 0, .int .u32 0, .int .i64 0, .int .u32 0, .int .i64 0, .int .u32 0, .int .i64 0, .int .u32 0, .int .i64 0, .int .u32 0, .int .i64 0, .int .u32 0, .int .i64 0, .int .u32 0, .int .i64 0, .int .u32 0, .int .i64 0, .int .u32 0, .int .i64 0, .int .u32 0, .int .i64 0, .int .u32 0, .int .i64 0, .int .u32 0, .int .i64 0, .int .u32 0, .int .i64 0, .int .u32 0, .int .i64 0, .int .i64 0, .int .i64 0, .int .i64 0, .nilFunc, .nilFunc, .nilFunc, .nilFunc, .nilFunc, .nilFunc, .nilFunc, .nilFunc, .nilFunc, .nilFunc]
theorem sideN_is (mb i : Nat) (cv : Value) : sideN mb i cv = sideZ mb i cv Bf.zeroC.toList portZ.toList := by rfl
theorem zeroB_len : Bf.zeroC.toList.length = 35 := by rfl
theorem sideZ_A (mb i : Nat) (cv : Value) (B : Array Value) (N g : Nat) : sideZ mb i cv B.toList (Mp.portA N (fnsT g)).toList = sideA mb i cv th00 B N g := by rfl
theorem sideZ_0 (mb i : Nat) (cv : Value) (B P : List Value) : (sideZ mb i cv B P)[0]? = some (.pointer (some ⟨mb, 0, none⟩)) := by rfl
def NewSideP (w : World) (mb who : Nat) (N : Nat) (l : List Ins) (room : Int) (r : Ending) (w' : World) : Prop :=
  ∃ g cv, (r = .returned (.pointer (some ⟨g, 0, none⟩)) ∧ Has w' g (sideA mb who cv th00 (Bf.newC room) N g) 105) ∧ (InssO w' w.heap.size cv l ∧ w.heap.size ≤ g) ∧ Gr w w'
theorem portA_one (z : Int) (g : Nat) : (Mp.portA z (fnsT g)).all (·.oneCell') = true := by
  simp [Value.oneCell']

set_option maxHeartbeats 1000000 in
theorem newSide_calls (w : World) (mb who : Nat) (a : Option Addr) (N c : Nat) (x : Cd) (room : Int) (h1 : 1 ≤ room) (h2 : room ≤ 16) (c1 : w.cell? ⟨mb, 1, none⟩ = some (.slice a N c)) (hx : CdAt x w) (hl : x.l.length ≤ 4000) :
    Calls Tryz.prog 33 #[.pointer (some ⟨mb, 0, none⟩), .int .i64 who, .slice x.a x.l.length x.c, .int .i64 room] w (NewSideP w mb who N x.l room) := by
  have HC := hide (cloneI_calls x.a x.c x.l w hx.row hx.nil (by omega))
  have gg := Gr.refl w
  have hmb := World.block_lt_of_cell? w _ c1
  clear hx
  go_enter Tryz.func33, Tryz.ntmps33
  go_wp2_with (fail)
  refine HC.out.mono ?_
  rintro r u ⟨cv, rfl, ho, g2⟩
  have c2 := cell_later g2 c1
  obtain ⟨ad, cap, rfl, -, -, -, -⟩ := own_at ho
  have HN := hide (fun wx => Bf.new_yes room h1 h2 wx)
  clear c1 HC
  go_wp2_with (fail)
  have k0 := Has.new u (sideN mb who (.slice ad x.l.length cap)) 105
  have k1 := own_later ho ((Gr.refl u).alloc (sideN mb who (.slice ad x.l.length cap)) 105)
  have k2 := g2.alloc (sideN mb who (.slice ad x.l.length cap)) 105
  have k3 := cell_later ((Gr.refl u).alloc (sideN mb who (.slice ad x.l.length cap)) 105) c2
  have hsz := g2.size
  change Calls _ _ _ (u.alloc (.cells (sideN mb who (.slice ad x.l.length cap)) 105)) _
  generalize u.alloc (.cells (sideN mb who (.slice ad x.l.length cap)) 105) = u1 at k0 k1 k2 k3 ⊢
  generalize u.heap.size = g at k0 hsz ⊢
  generalize Value.agg (sideN mb who (.slice ad x.l.length cap)) = z14
  refine (HN.out u1).mono ?_
  rintro r u2 ⟨rfl, g3⟩
  have k0' := (k0.later g3).of (sideN_is mb who (.slice ad x.l.length cap))
  have k1' := own_later k1 g3
  have k3' := cell_later g3 k3
  have k2' := k2.trans g3
  have thr := k0'.there 13 35 (by rw [sideZ_size zeroB_len rfl]; omega)
  have thr' : u2.there g 13 (Bf.newC room).size := by rw [Bf.newC_size]; exact thr
  have inf' : (Tryz.prog.info? 96).map (·.size) = some (Bf.newC room).size := by rw [Bf.newC_size]; exact infoBf
  have one' := Bf.newC_one room
  have hnl : (Bf.newC room).toList.length = 35 := by rw [Array.length_toList, Bf.newC_size]
  generalize hNC0 : Bf.newC room = NC at thr' inf' one' hnl ⊢
  have hNC := hide hNC0
  clear hNC0
  clear k0 k1 k2 k3 ho c2 g2 g3 HN thr
  go_wp2_with (first
    | (refine wpList_store_mid rfl 96 _ _ rfl g 13 NC rfl rfl thr' inf' one' ?_))
  have e1 := Kq.setCells_has NC.toList 13 u2 _ k0'
  rw [sideZ_buf (by rw [zeroB_len, hnl])] at e1
  have q := Kq.kp_setCells (b := g) NC.toList 13 u2
  generalize u2.setCells g 13 NC.toList = u3 at e1 q ⊢
  have k4 := own_kept k1' q (fun y hy z => own_aside k1' k0' (by decide) (mem_ob.2 (by rw [hy, show y = g by simpa using z])))
  have k5 : u3.cell? ⟨mb, 1, none⟩ = some (.slice a N c) := (cell_same 1 (q.block mb (World.block_lt_of_cell? u2 _ k3') (by simp; omega))).trans k3'
  have k6 := Kp.gr k2' q (by simpa using hsz)
  have k7 : u3.cell? ⟨g, 0, none⟩ = some (.pointer (some ⟨mb, 0, none⟩)) := e1.cell (sideZ_0 _ _ _ _ _)
  clear k0' k1' k3' k2' q thr' inf' one'
  refine (newPort_calls u3 g mb a N c k7 k5).mono ?_
  rintro r u4 ⟨rfl, g4⟩
  have e2 := e1.later g4
  have k8 := own_later k4 g4
  have k9 := k6.trans g4
  have thr : u4.there g 48 (Mp.portA N (fnsT g)).size := e2.there 48 11 (by rw [sideZ_size hnl rfl]; omega)
  have inf : (Tryz.prog.info? 103).map (·.size) = some (Mp.portA N (fnsT g)).size := infoPt
  have one := portA_one N g
  have hpl : portZ.toList.length = (Mp.portA N (fnsT g)).toList.length := rfl
  generalize hPA0 : Mp.portA N (fnsT g) = PA at thr inf one hpl ⊢
  have hPA := hide hPA0
  clear hPA0 e1 k4 k5 k6 k7 g4
  go_wp2_with (first
    | (refine wpList_store_mid rfl 103 _ _ rfl g 48 PA rfl rfl thr inf one ?_))
  have e3 := Kq.setCells_has PA.toList 48 u4 _ e2
  have q2 := Kq.kp_setCells (b := g) PA.toList 48 u4
  have k10 := own_kept k8 q2 (fun y hy z => own_aside k8 e2 (by decide) (mem_ob.2 (by rw [hy, show y = g by simpa using z])))
  have k11 := Kp.gr k9 q2 (by simpa using hsz)
  generalize u4.setCells g 48 PA.toList = u5 at e3 k10 k11 ⊢
  rw [sideZ_port hnl hpl, ← hPA.out, ← hNC.out, sideZ_A] at e3
  have HF := hide e3
  clear e3 e2 k8 k9 q2 thr inf one
  go_ret
  exact ⟨g, _, ⟨rfl, HF.out⟩, ⟨k10, hsz⟩, k11⟩
end Go.Proofs.YthbenfnanhpcoaaGreatDoor.Mc
