/-
  What isa.Check answers of any program. No condition but what each law names.
-/
import Derived.Test.YthbenfnanhpcoaaGreatDoorZtbhChk
import Derived.Test.YthbenfnanhpcoaaGreatDoorZtahBfStep
namespace Go.Proofs.YthbenfnanhpcoaaGreatDoor.Mc
open Go.ChangeShapes Go.WideShapes Go.ChangeAt Go.RowKit
set_option linter.unusedVariables false
set_option maxRecDepth 20000

def ChkP (p : Pgm) (w : World) (r : Ending) (w' : World) : Prop := r = .returned (.tuple #[.int .i64 (chkM p).1, .int .i64 (chkM p).2.1, .int .i64 (chkM p).2.2]) ∧ Gr w w'
theorem results_tmp3' {fn : Func} {t u v : Tmp} (h : fn.results = #[.tmp t, .tmp u, .tmp v]) (tmps : Array Value) (w : World) :
    (results fn tmps).run Tryz.prog w = .ok (.tuple #[tmps.getD t undef, tmps.getD u undef, tmps.getD v undef]) w := by
  simp [results, h]
theorem chk_arg {p : Pgm} (h : (p.codes.length < 1 ∨ 8 < p.codes.length) ∨ (p.room < 1 ∨ 16 < p.room)) : chkM p = (-1, -1, 1) := by unfold chkM; rw [if_pos h]
theorem chk_long {p : Pgm} (h : ¬ ((p.codes.length < 1 ∨ 8 < p.codes.length) ∨ (p.room < 1 ∨ 16 < p.room))) (h2 : 1024 < p.mem.length) : chkM p = (-1, -1, 4) := by unfold chkM; rw [if_neg h, if_pos h2]
theorem chk_rest {p : Pgm} (h : ¬ ((p.codes.length < 1 ∨ 8 < p.codes.length) ∨ (p.room < 1 ∨ 16 < p.room))) (h2 : ¬ 1024 < p.mem.length) : chkM p = chkP 0 (p.codes.drop 0) := by unfold chkM; rw [if_neg h, if_neg h2]; rfl

set_option maxHeartbeats 1000000 in
theorem check_calls (p : Pgm) (w : World) (L : Laid w) (h : PgAt p w) : Calls Tryz.prog 31 #[.agg (pgA p)] w (ChkP p w) := by
  have g0 := (Gr.refl w).alloc (pgA p) 27
  have hb := Has.new w (pgA p) 27
  have d0 := hb.cell (o := 0) (v := .slice p.ca p.codes.length p.cc) rfl
  have d1 := hb.cell (o := 1) (v := .slice p.ma p.mem.length p.mc) rfl
  have d2 := hb.cell (o := 2) (v := .int .i64 p.room) rfl
  by_cases ha : (p.codes.length < 1 ∨ 8 < p.codes.length) ∨ (p.room < 1 ∨ 16 < p.room)
  · have e := hide (chk_arg ha)
    have HG := hide g0
    clear h hb L g0
    unfold ChkP
    rw [e.out]
    clear e
    by_cases h1 : p.codes.length < 1
    · have h1' : (p.codes.length : Int) < 1 := by omega
      clear ha h1
      go_enter Tryz.func31, Tryz.ntmps31
      go_wp2_with (fail)
      exact bodyPost_ret (results_tmp3' rfl _ _) rfl ⟨rfl, HG.out⟩
    · have h1' : ¬ (p.codes.length : Int) < 1 := by omega
      by_cases h2 : 8 < p.codes.length
      · have h2' : (8 : Int) < p.codes.length := by omega
        clear ha h1 h2
        go_enter Tryz.func31, Tryz.ntmps31
        go_wp2_with (fail)
        exact bodyPost_ret (results_tmp3' rfl _ _) rfl ⟨rfl, HG.out⟩
      · have h2' : ¬ (8 : Int) < p.codes.length := by omega
        by_cases h3 : p.room < 1
        · clear ha h1 h2
          go_enter Tryz.func31, Tryz.ntmps31
          go_wp2_with (fail)
          exact bodyPost_ret (results_tmp3' rfl _ _) rfl ⟨rfl, HG.out⟩
        · have h4 : 16 < p.room := by omega
          clear ha h1 h2
          go_enter Tryz.func31, Tryz.ntmps31
          go_wp2_with (fail)
          exact bodyPost_ret (results_tmp3' rfl _ _) rfl ⟨rfl, HG.out⟩
  · have n1 : ¬ (p.codes.length : Int) < 1 := by omega
    have n2 : ¬ (8 : Int) < p.codes.length := by omega
    have n3 : ¬ p.room < 1 := by omega
    have n4 : ¬ 16 < p.room := by omega
    by_cases h5 : 1024 < p.mem.length
    · have e := hide (chk_long ha h5)
      have HG := hide g0
      have h5' : (1024 : Int) < p.mem.length := by omega
      clear h hb L g0 ha h5
      unfold ChkP
      rw [e.out]
      clear e
      go_enter Tryz.func31, Tryz.ntmps31
      go_wp2_with (fail)
      exact bodyPost_ret (results_tmp3' rfl _ _) rfl ⟨rfl, HG.out⟩
    · have e := hide (chk_rest ha h5)
      have h5' : ¬ (1024 : Int) < p.mem.length := by omega
      unfold ChkP
      rw [e.out]
      generalize hR : chkP 0 (p.codes.drop 0) = R
      have HR := hide hR
      have HH := hide h
      have HL := hide L
      clear hR h L ha e hb h5
      go_enter Tryz.func31, Tryz.ntmps31
      go_wp2_with (fail)
      change Code.wp _ _ _ _ (w.alloc (.cells (pgA p) 27))
      generalize w.alloc (.cells (pgA p) 27) = w1 at g0 d0 d1 d2 ⊢
      go_loopw [36] (fun v wr => ∃ j : Nat, j ≤ p.codes.length ∧ v = .int .i64 j ∧ Gr w wr ∧ chkP j (p.codes.drop j) = R) (fun v _ => p.codes.length - (intOf v).toNat)
      case atStart => exact ⟨0, by omega, rfl, g0, HR.out⟩
      case round =>
        clear g0 d0 d1 d2
        obtain ⟨j, hj, rfl, g, hr⟩ := hrel
        by_cases hlt : j < p.codes.length
        · have hlt' : (j : Int) < p.codes.length := by omega
          have q1 := HH.out.later g
          have rw1 := q1.row
          obtain ⟨b, off, had, -⟩ := rw1.get (by rw [flatOf_length codeV_len]; omega)
          rw [had] at rw1
          have c0 := rw1.cell codeV_len hlt cd0 0 (by omega)
          have hd := chkP_drop hlt
          have hx := q1.each _ (cd_mem hlt)
          generalize p.codes.getD j cd0 = x at c0 hd hx
          rw [hd] at hr
          have HK := hide hr
          have HC := hide (checkCode_calls x.a x.c x.l hx.ins wr (HL.out.later g) hx.row)
          clear hd hr rw1 q1 hx
          simp only [codeV, List.getElem?_cons_zero, Nat.add_zero, Nat.mul_one] at c0
          generalize p.ca = pa at had
          subst had
          go_wp2_with (fail)
          refine HC.out.mono ?_
          rintro r u ⟨rfl, g2⟩
          have GG := hide (g.trans g2)
          clear c0 g g2 HC
          by_cases hb : (chkC x.l).2 = 0
          · have HK2 := hide (show chkP (j + 1) (p.codes.drop (j + 1)) = R by have := HK.out; rwa [if_pos hb] at this)
            generalize chkC x.l = q at hb
            obtain ⟨q1, q2⟩ := q
            have hb' : q2 = 0 := hb
            subst hb'
            clear HK hb
            go_wp2_with (fail)
            exact ⟨⟨j + 1, by omega, by go_num, GG.out, HK2.out⟩, by simp [intOf]; omega⟩
          · have HK2 := hide (show (((j : Int), (chkC x.l).1, (chkC x.l).2) : Int × Int × Int) = R by have := HK.out; rwa [if_neg hb] at this)
            generalize chkC x.l = q at hb HK2
            obtain ⟨q1, q2⟩ := q
            have hb' : (q2 == 0) = false := by simpa using hb
            have hb2 : q2 ≠ 0 := hb
            clear HK hb
            go_wp2_with (fail)
            rw [← HK2.out]
            exact bodyPost_ret (results_tmp3' rfl _ _) rfl ⟨rfl, GG.out⟩
        · have hj' : j = p.codes.length := by omega
          subst hj'
          have e0 : R = (0, 0, 0) := by rw [← hr, List.drop_length]; rfl
          have HE := hide e0
          have GG := hide g
          clear hr HR e0 g
          go_wp2_with (fail)
          rw [HE.out]
          exact bodyPost_ret (results_tmp3' rfl _ _) rfl ⟨rfl, GG.out⟩
end Go.Proofs.YthbenfnanhpcoaaGreatDoor.Mc

namespace Go.Proofs.YthbenfnanhpcoaaGreatDoor.Bf
open Go.ChangeShapes Go.WideShapes Go.ChangeAt Go.RowKit
set_option linter.unusedVariables false
set_option maxRecDepth 20000

def newC (room : Int) : Array Value := bufC (List.replicate 16 ent0) room 0 0
theorem newC_size (room : Int) : (newC room).size = 35 := rfl
theorem newC_one (room : Int) : (newC room).all (·.oneCell') = true := bufC_one _ _ _ _

set_option maxHeartbeats 400000 in
theorem new_yes (room : Int) (h1 : 1 ≤ room) (h2 : room ≤ 16) (w : World) :
    Calls Tryz.prog 55 #[.int .i64 room] w fun e w' => e = .returned (.tuple #[.agg (newC room), .int .i64 0]) ∧ Gr w w' := by
  have a0 := Has.new w zeroC 96
  have hd1 : ¬ room < 1 := by omega
  have hd2 : ¬ 16 < room := by omega
  go_enter Tryz.func55, Tryz.ntmps55
  go_wp2_with (first
    | (refine store_buf rfl _ _ rfl w.heap.size rfl (newC room) rfl zeroC a0 (newC_size _) zeroC_size (newC_one _) ?_))
  exact bodyPost_ret (results_buf rfl _ _ w.heap.size _ rfl (a0.row _) (newC_size _)) rfl ⟨rfl, ((Gr.refl w).alloc _ _).setRow (by omega) _⟩

set_option maxHeartbeats 400000 in
theorem new_no (room : Int) (h : room < 1 ∨ 16 < room) (w : World) :
    Calls Tryz.prog 55 #[.int .i64 room] w fun e w' => e = .returned (.tuple #[.agg zeroC, .int .i64 1]) ∧ Gr w w' := by
  have a0 := Has.new w zeroC 96
  rcases h with h | h
  · go_enter Tryz.func55, Tryz.ntmps55
    go_wp2_with (first
      | (refine store_buf rfl _ _ rfl w.heap.size rfl zeroC rfl zeroC a0 zeroC_size zeroC_size (bufC_one _ _ _ _) ?_))
    exact bodyPost_ret (results_buf rfl _ _ w.heap.size _ rfl (a0.row _) zeroC_size) rfl ⟨rfl, ((Gr.refl w).alloc _ _).setRow (by omega) _⟩
  · have h' : ¬ room < 1 := by omega
    go_enter Tryz.func55, Tryz.ntmps55
    go_wp2_with (first
      | (refine store_buf rfl _ _ rfl w.heap.size rfl zeroC rfl zeroC a0 zeroC_size zeroC_size (bufC_one _ _ _ _) ?_))
    exact bodyPost_ret (results_buf rfl _ _ w.heap.size _ rfl (a0.row _) zeroC_size) rfl ⟨rfl, ((Gr.refl w).alloc _ _).setRow (by omega) _⟩

theorem is_newC (room : Nat) (h : room ≤ 16) : IsB (newC room) room [] := is_new room h
theorem is_zeroC : IsB zeroC 0 [] := is_new 0 (by omega)
end Go.Proofs.YthbenfnanhpcoaaGreatDoor.Bf
