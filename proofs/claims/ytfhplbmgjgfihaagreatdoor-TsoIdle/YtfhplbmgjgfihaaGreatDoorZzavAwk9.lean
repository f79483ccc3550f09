/-
  What awake of stage 9's laws answers. No condition.
-/
import Derived.Test.YtfhplbmgjgfihaaGreatDoorZzaa
import Derived.Test.YtfhplbmgjgfihaaGreatDoorZzau
import Derived.Test.YtfhplbmgjgfihaaGreatDoorZzar
namespace Go.Proofs.YtfhplbmgjgfihaaGreatDoor.Mc
open Go.ChangeShapes Go.WideShapes Go.ChangeAt Go.RowKit
set_option linter.unusedVariables false
set_option maxRecDepth 20000
def codeE (a b : Int) : List Ins := [⟨1, 1, 0, 0, 1⟩, ⟨17, 1, 8, 0, a⟩, ⟨16, 2, 8, 0, b⟩]
theorem awake1_calls (a b : Int) (w : World) : Calls Tryz.prog 11 #[.int .u32 a, .int .u32 b] w fun r w' => r = .returned (.slice (some ⟨w.heap.size, 0, none⟩) 3 3) ∧ w' = w.alloc (.cells (flatOf insL (codeE a b)).toArray 53) := by
  go_enter Tryz.func11, Tryz.ntmps11
  go_wp2_with (fail)
  go_ret
  exact ⟨rfl, rfl⟩
def awP (cb c1 c2 mz : Nat) : Pgm := ⟨some ⟨cb, 0, none⟩, 2, [⟨some ⟨c1, 0, none⟩, 3, codeE 0 1⟩, ⟨some ⟨c2, 0, none⟩, 3, codeE 1 0⟩], some ⟨mz, 0, none⟩, 2, [0, 0], 1⟩
def awM : Ms := ⟨[⟨codeE 0 1, th00, []⟩, ⟨codeE 1 0, th00, []⟩], [0, 0], [], [], 1⟩
def awJ : Nat → Ms
  | 0 => awM
  | j + 1 => (awJ j).pick 2 0 ((j : Int) % 2)
theorem awJ_short (j : Nat) : Short (awJ j) := by
  induction j with
  | zero =>
    intro i
    match i with
    | 0 => decide
    | 1 => decide
    | n + 2 => exact Nat.zero_le _
  | succ j ih => exact short_pick ih _ _ _
def awT : Th := ⟨3, [0, 1, 0, 0, 0, 0, 0, 0], 0⟩
theorem awJ_ths : (awJ 6).ths = [awT, awT] := by kernel_rfl
theorem awP_chk (cb c1 c2 mz : Nat) : (chkM (awP cb c1 c2 mz)).2.2 = 0 := by kernel_rfl
theorem awP_new (cb c1 c2 mz : Nat) : newM (awP cb c1 c2 mz) = awM := by rfl
theorem codeE_ok {a b : Int} (ha : 0 ≤ a ∧ a ≤ 1) (hb : 0 ≤ b ∧ b ≤ 1) : ∀ i ∈ codeE a b, InsOk i := by
  intro i hi
  simp only [codeE, List.mem_cons, List.not_mem_nil, or_false] at hi
  rcases hi with rfl | rfl | rfl
  · exact ⟨by show (0 : Int) ≤ 1; omega, by show (1 : Int) < 4294967296; omega⟩
  · exact ⟨ha.1, by show a < 4294967296; omega⟩
  · exact ⟨hb.1, by show b < 4294967296; omega⟩
theorem awP_at {cb c1 c2 mz : Nat} {w : World} (h1 : Has w c1 (flatOf insL (codeE 0 1)).toArray 53) (h2 : Has w c2 (flatOf insL (codeE 1 0)).toArray 53) (h3 : Has w cb #[.slice (some ⟨c1, 0, none⟩) 3 3, .slice (some ⟨c2, 0, none⟩) 3 3] 51) (h4 : Has w mz #[.int .u32 0, .int .u32 0] 43) : PgAt (awP cb c1 c2 mz) w where
  row := Has.rowAt (xs := [.slice (some ⟨c1, 0, none⟩) 3 3, .slice (some ⟨c2, 0, none⟩) 3 3]) h3
  each := by
    intro x hx
    simp only [awP, List.mem_cons, List.not_mem_nil, or_false] at hx
    rcases hx with rfl | rfl
    · exact ⟨h1.rowAt, fun e => (by cases e), codeE_ok (by omega) (by omega)⟩
    · exact ⟨h2.rowAt, fun e => (by cases e), codeE_ok (by omega) (by omega)⟩
  mem := Has.rowAt (xs := [.int .u32 0, .int .u32 0]) h4
  nil := fun e => by cases e
  wrd := by
    intro x hx
    simp [awP] at hx
    subst hx
    exact ⟨by omega, by omega⟩
theorem build_cd {o : Oper} {a : Act} {w : World} (x y : Operand) (ho : o.op = .buildSlice 22 2 #[(0, x), (1, y)]) (c1 c2 : Nat) (hx : a.eval x = .slice (some ⟨c1, 0, none⟩) 3 3) (hy : a.eval y = .slice (some ⟨c2, 0, none⟩) 3 3) :
    (execOp a.eval o).run Tryz.prog w = .ok (.value (.slice (some ⟨w.heap.size, 0, none⟩) 2 2)) (w.alloc (.cells #[.slice (some ⟨c1, 0, none⟩) 3 3, .slice (some ⟨c2, 0, none⟩) 3 3] 51)) := by
  unfold execOp
  simp only [ho, List.map_toArray, List.map_cons, List.map_nil, hx, hy]
  clear hx hy
  go_simp
theorem make_w2 (w : World) : (Instr.makeSlice 23 (.int .i64 2) (.int .i64 2)).run Tryz.prog w = .ok (.slice (some ⟨w.heap.size, 0, none⟩) 2 2) (w.alloc (.cells #[.int .u32 0, .int .u32 0] 43)) := by
  obtain ⟨i, h1, h2, h3, h4⟩ := info_parts infoWrd
  have := run_make (P := Tryz.prog) w 23 43 i (.int .u32 0) Tryz.underlying23 h1 h2 .i64 .i64 2 2 (by omega) (Int.le_refl _) (by rw [h4]; omega) (by omega)
  rw [h3] at this
  have e : madeCells (Value.cells (.int .u32 0)) (2 * 1) = #[.int .u32 0, .int .u32 0] := by kernel_rfl
  rw [← e]
  simpa using this
theorem make_o2 {o : Oper} {a : Act} {w : World} (ho : o.op = .makeSlice 23 (.const (.int .i64 2)) (.const (.int .i64 2))) : (execOp a.eval o).run Tryz.prog w = .ok (.value (.slice (some ⟨w.heap.size, 0, none⟩) 2 2)) (w.alloc (.cells #[.int .u32 0, .int .u32 0] 43)) := by
  have := make_w2 w
  unfold execOp
  simp only [ho, Act.eval]
  simp only [Sem.run_bind, this, Result.andThen_ok, Sem.run_pure]
/-- the codes and the memory are laid, in whatever order -/
structure AwI (w u : World) (c1 c2 cb mz : Nat) : Prop where
  g : Gr w u
  h1 : Has u c1 (flatOf insL (codeE 0 1)).toArray 53
  h2 : Has u c2 (flatOf insL (codeE 1 0)).toArray 53
  h3 : Has u cb #[.slice (some ⟨c1, 0, none⟩) 3 3, .slice (some ⟨c2, 0, none⟩) 3 3] 51
  h4 : Has u mz #[.int .u32 0, .int .u32 0] 43

set_option maxHeartbeats 1000000 in
theorem awake_calls (w : World) (L : Laid w) : Calls Tryz.prog 4 #[] w fun r w' => r = .returned (.bool true) ∧ Gr w w' := by
  go_enter Tryz.func4, Tryz.ntmps4
  go_wp2_with (fail)
  refine begin_late 13 [] (fun w' => Gr w w') (by kernel_rfl) rfl ?_
  have hH : Gr w w.drew := (Gr.refl w).drew
  refine AnyL.pp 0 7 (.func (.func 11) #[] #[]) rfl rfl (by kernel_rfl) (fun _ _ _ h => h) (fun _ => by go_simp) hH ?_
  simp only [pz, pz0, pzs]
  refine AnyL.pp 2 9 (.func (.func 11) #[] #[]) rfl rfl (by kernel_rfl) (fun _ _ _ h => h) (fun _ => by go_simp) hH ?_
  simp only [pz, pz0, pzs]
  have G0 : Gr w w.drew := hH
  generalize w.drew = x0 at G0 hH ⊢
  clear hH
  -- TREE
  refine AnyL.two 1 5 (by kernel_rfl) rfl rfl (by kernel_rfl) ?_ ?_
  · refine wp_call (some 8) rfl 11 _ (by kernel_rfl) (awake1_calls 0 1 x0) ?_
    rintro r q ⟨rfl, rfl⟩
    refine ⟨_, rfl, fun _ => G0.alloc _ _, ?_⟩
    simp only [pz, pz0, pzs]
    have h1 := Has.new x0 (flatOf insL (codeE 0 1)).toArray 53
    have G1 := G0.alloc (flatOf insL (codeE 0 1)).toArray 53
    generalize x0.alloc (.cells (flatOf insL (codeE 0 1)).toArray 53) = x1 at h1 G1 ⊢
    generalize x0.heap.size = b1 at h1 ⊢
    refine AnyL.two 3 5 (by kernel_rfl) rfl rfl (by kernel_rfl) ?_ ?_
    · refine wp_call (some 10) rfl 11 _ (by kernel_rfl) (awake1_calls 1 0 x1) ?_
      rintro r q ⟨rfl, rfl⟩
      refine ⟨_, rfl, fun _ => G1.alloc _ _, ?_⟩
      simp only [pz, pz0, pzs]
      have h2 := Has.new x1 (flatOf insL (codeE 1 0)).toArray 53
      have G2 := G1.alloc (flatOf insL (codeE 1 0)).toArray 53
      replace h1 := h1.later ((Gr.refl x1).alloc (flatOf insL (codeE 1 0)).toArray 53)
      generalize x1.alloc (.cells (flatOf insL (codeE 1 0)).toArray 53) = x2 at h2 G2 h1 ⊢
      generalize x1.heap.size = b3 at h2 ⊢
      refine AnyL.two 4 5 (by kernel_rfl) rfl rfl (by kernel_rfl) ?_ ?_
      · refine wp_made (some 11) rfl _ _ (build_cd _ _ rfl b1 b3 (by kernel_rfl) (by kernel_rfl)) ?_
        refine ⟨fun _ => G2.alloc _ _, ?_⟩
        simp only [pz, pz0, pzs]
        have h3 := Has.new x2 #[.slice (some ⟨b1, 0, none⟩) 3 3, .slice (some ⟨b3, 0, none⟩) 3 3] 51
        have G3 := G2.alloc #[.slice (some ⟨b1, 0, none⟩) 3 3, .slice (some ⟨b3, 0, none⟩) 3 3] 51
        replace h1 := h1.later ((Gr.refl x2).alloc #[.slice (some ⟨b1, 0, none⟩) 3 3, .slice (some ⟨b3, 0, none⟩) 3 3] 51)
        replace h2 := h2.later ((Gr.refl x2).alloc #[.slice (some ⟨b1, 0, none⟩) 3 3, .slice (some ⟨b3, 0, none⟩) 3 3] 51)
        generalize x2.alloc (.cells #[.slice (some ⟨b1, 0, none⟩) 3 3, .slice (some ⟨b3, 0, none⟩) 3 3] 51) = x3 at h3 G3 h1 h2 ⊢
        generalize x2.heap.size = b4 at h3 ⊢
        refine AnyL.one 5 (by kernel_rfl) rfl (by kernel_rfl) ?_
        refine wp_made (some 12) rfl _ _ (make_o2 rfl) ?_
        refine ⟨fun _ => G3.alloc _ _, ?_⟩
        simp only [pz, pz0, pzs]
        have h4 := Has.new x3 #[.int .u32 0, .int .u32 0] 43
        have G4 := G3.alloc #[.int .u32 0, .int .u32 0] 43
        replace h1 := h1.later ((Gr.refl x3).alloc #[.int .u32 0, .int .u32 0] 43)
        replace h2 := h2.later ((Gr.refl x3).alloc #[.int .u32 0, .int .u32 0] 43)
        replace h3 := h3.later ((Gr.refl x3).alloc #[.int .u32 0, .int .u32 0] 43)
        generalize x3.alloc (.cells #[.int .u32 0, .int .u32 0] 43) = x4 at h4 G4 h1 h2 h3 ⊢
        generalize x3.heap.size = b5 at h4 ⊢
        have I := hide (⟨G4, h1, h2, h3, h4⟩ : AwI w x4 b1 b3 b4 b5)
        clear h1 h2 h3 h4 G0 G1 G2 G3 G4
        generalize x4 = x at I ⊢
        have HN := hide (new_calls (awP b4 b1 b3 b5) x (L.later I.out.g) (awP_at I.out.h1 I.out.h2 I.out.h3 I.out.h4))
        have hH := I.out.g
        refine AnyL.pp 6 13 (.agg (pgA (awP b4 b1 b3 b5))) rfl rfl (by kernel_rfl) (fun _ _ _ h => h) (fun _ => by go_simp; rfl) hH ?_
        simp only [pz, pz0, pzs]
        refine AnyL.one 7 (by kernel_rfl) rfl (by kernel_rfl) ?_
        refine wp_call (some 14) rfl _ _ (by kernel_rfl) HN.out ?_
        rintro r u NP
        rcases NP with ⟨-, k, e, ⟨rfl, hM, hN⟩, hF, g⟩ | ⟨hne, -⟩
        rotate_left
        · exact absurd (awP_chk b4 b1 b3 b5) hne
        have hGu := hH.trans g
        refine ⟨_, rfl, fun _ => hGu, ?_⟩
        simp only [pz, pz0, pzs]
        replace hH := hGu
        refine AnyL.pp 8 6 (.tuple #[.pointer (some ⟨k.mb, 0, none⟩), .int .i64 0]) rfl rfl (by kernel_rfl) (fun _ _ _ h => h) (fun _ => by go_simp) hH ?_
        simp only [pz, pz0, pzs]
        refine AnyL.pp 9 15 (.pointer (some ⟨k.mb, 0, none⟩)) rfl rfl (by kernel_rfl) (fun _ _ _ h => h) (fun _ => by go_simp) hH ?_
        simp only [pz, pz0, pzs]
        refine AnyL.pp 10 16 (.int .i64 0) rfl rfl (by kernel_rfl) (fun _ _ _ h => h) (fun _ => by go_simp) hH ?_
        simp only [pz, pz0, pzs]
        refine AnyL.pp 11 2 (.pointer (some ⟨k.mb, 0, none⟩)) rfl rfl (by kernel_rfl) (fun _ _ _ h => h) (fun _ => by go_simp) hH ?_
        simp only [pz, pz0, pzs]
        refine AnyL.pp 12 3 (.int .i64 0) rfl rfl (by kernel_rfl) (fun _ _ _ h => h) (fun _ => by go_simp) hH ?_
        simp only [pz, pz0, pzs]
        refine AnyL.done (by kernel_rfl) ?_
        rw [awP_new] at hM
        have hfoot : Hid (∀ y ∈ k.foot e, w.heap.size ≤ y) := fun y hy => Nat.le_trans I.out.g.size (hF y hy)
        have p0 : Pst (MI k) (k.foot e) u [] (awJ 0) u := Pst.start (mi_inv k) ⟨e, hM, rfl⟩
        have HG := hide hGu
        have hN2 : Hid ((k.N : Int) = 2) := by show _ = _; rw [hN]; rfl
        generalize k.foot e = F at hfoot p0
        clear hM hF g hGu hH HN hN
        go_wp2_with (fail)
        go_loopw [4] (fun v wr => ∃ j : Nat, j ≤ 6 ∧ v = .int .i64 j ∧ Pst (MI k) F u [] (awJ j) wr ∧ (awJ j).evs.length ≤ 130 * j ∧ Short (awJ j)) (fun v _ => 6 - (intOf v).toNat)
        case atStart => exact ⟨0, by omega, rfl, p0, Nat.le_refl _, awJ_short 0⟩
        case round =>
          clear p0
          obtain ⟨j, hj, rfl, p, he, hs⟩ := hrel
          by_cases hlt : j < 6
          · have hlt' : (j : Int) < 6 := by omega
            obtain ⟨e1, h1⟩ := Pst.mw p
            have HD := hide (fun wx => pick_does k (awJ j) 0 ((j : Int) % 2) (fuel_few h1.ok (by omega)) hs wx)
            have he1 := evs_pick (n := k.N) h1.ok 0 ((j : Int) % 2)
            have PP := hide p
            clear p h1 hs
            have HJ : Hid (awJ (j + 1) = (awJ j).pick k.N 0 ((j : Int) % 2)) := by show _ = _; rw [hN2.out]; rfl
            go_wp2_with (fail)
            refine ((HD.out wr).go PP.out).mono ?_
            rintro r q ⟨⟨rfl, -⟩, p1⟩
            have PQ := hide p1
            clear p1 HD PP
            go_wp2_with (fail)
            exact ⟨⟨j + 1, by omega, by go_num, by rw [HJ.out]; exact PQ.out, by rw [HJ.out]; omega, awJ_short _⟩, by simp [intOf]; omega⟩
          · have hj' : j = 6 := by omega
            subst hj'
            have PP := hide p
            obtain ⟨e1, h1⟩ := Pst.mw p
            have HT0 := threads_calls h1
            rw [awJ_ths] at HT0
            unfold ThreadsP at HT0
            rw [show ([awT, awT] : List Th).length = 2 from rfl] at HT0
            have HT := hide HT0
            clear p h1 hs HT0
            go_wp2_with (fail)
            refine HT.out.mono ?_
            rintro r q ⟨⟨rfl, hb⟩, gq⟩
            have c0 := hb.cell (o := 0) (v := .int .i64 3) rfl
            have c3 := hb.cell (o := 3) (v := .int .u32 0) rfl
            have c10 := hb.cell (o := 10) (v := .int .i64 3) rfl
            have c13 := hb.cell (o := 13) (v := .int .u32 0) rfl
            have GF : Hid (Gr w q) := by
              obtain ⟨F', -, kp, -⟩ := PP.out
              exact (Kp.gr HG.out kp hfoot.out).trans gq
            clear hb gq HT
            go_wp2_with (fail)
            go_ret
            exact ⟨rfl, GF.out⟩
      · refine wp_made (some 12) rfl _ _ (make_o2 rfl) ?_
        refine ⟨fun _ => G2.alloc _ _, ?_⟩
        simp only [pz, pz0, pzs]
        have h4 := Has.new x2 #[.int .u32 0, .int .u32 0] 43
        have G3 := G2.alloc #[.int .u32 0, .int .u32 0] 43
        replace h1 := h1.later ((Gr.refl x2).alloc #[.int .u32 0, .int .u32 0] 43)
        replace h2 := h2.later ((Gr.refl x2).alloc #[.int .u32 0, .int .u32 0] 43)
        generalize x2.alloc (.cells #[.int .u32 0, .int .u32 0] 43) = x3 at h4 G3 h1 h2 ⊢
        generalize x2.heap.size = b5 at h4 ⊢
        refine AnyL.one 4 (by kernel_rfl) rfl (by kernel_rfl) ?_
        refine wp_made (some 11) rfl _ _ (build_cd _ _ rfl b1 b3 (by kernel_rfl) (by kernel_rfl)) ?_
        refine ⟨fun _ => G3.alloc _ _, ?_⟩
        simp only [pz, pz0, pzs]
        have h3 := Has.new x3 #[.slice (some ⟨b1, 0, none⟩) 3 3, .slice (some ⟨b3, 0, none⟩) 3 3] 51
        have G4 := G3.alloc #[.slice (some ⟨b1, 0, none⟩) 3 3, .slice (some ⟨b3, 0, none⟩) 3 3] 51
        replace h1 := h1.later ((Gr.refl x3).alloc #[.slice (some ⟨b1, 0, none⟩) 3 3, .slice (some ⟨b3, 0, none⟩) 3 3] 51)
        replace h2 := h2.later ((Gr.refl x3).alloc #[.slice (some ⟨b1, 0, none⟩) 3 3, .slice (some ⟨b3, 0, none⟩) 3 3] 51)
        replace h4 := h4.later ((Gr.refl x3).alloc #[.slice (some ⟨b1, 0, none⟩) 3 3, .slice (some ⟨b3, 0, none⟩) 3 3] 51)
        generalize x3.alloc (.cells #[.slice (some ⟨b1, 0, none⟩) 3 3, .slice (some ⟨b3, 0, none⟩) 3 3] 51) = x4 at h3 G4 h1 h2 h4 ⊢
        generalize x3.heap.size = b4 at h3 ⊢
        have I := hide (⟨G4, h1, h2, h3, h4⟩ : AwI w x4 b1 b3 b4 b5)
        clear h1 h2 h3 h4 G0 G1 G2 G3 G4
        generalize x4 = x at I ⊢
        have HN := hide (new_calls (awP b4 b1 b3 b5) x (L.later I.out.g) (awP_at I.out.h1 I.out.h2 I.out.h3 I.out.h4))
        have hH := I.out.g
        refine AnyL.pp 6 13 (.agg (pgA (awP b4 b1 b3 b5))) rfl rfl (by kernel_rfl) (fun _ _ _ h => h) (fun _ => by go_simp; rfl) hH ?_
        simp only [pz, pz0, pzs]
        refine AnyL.one 7 (by kernel_rfl) rfl (by kernel_rfl) ?_
        refine wp_call (some 14) rfl _ _ (by kernel_rfl) HN.out ?_
        rintro r u NP
        rcases NP with ⟨-, k, e, ⟨rfl, hM, hN⟩, hF, g⟩ | ⟨hne, -⟩
        rotate_left
        · exact absurd (awP_chk b4 b1 b3 b5) hne
        have hGu := hH.trans g
        refine ⟨_, rfl, fun _ => hGu, ?_⟩
        simp only [pz, pz0, pzs]
        replace hH := hGu
        refine AnyL.pp 8 6 (.tuple #[.pointer (some ⟨k.mb, 0, none⟩), .int .i64 0]) rfl rfl (by kernel_rfl) (fun _ _ _ h => h) (fun _ => by go_simp) hH ?_
        simp only [pz, pz0, pzs]
        refine AnyL.pp 9 15 (.pointer (some ⟨k.mb, 0, none⟩)) rfl rfl (by kernel_rfl) (fun _ _ _ h => h) (fun _ => by go_simp) hH ?_
        simp only [pz, pz0, pzs]
        refine AnyL.pp 10 16 (.int .i64 0) rfl rfl (by kernel_rfl) (fun _ _ _ h => h) (fun _ => by go_simp) hH ?_
        simp only [pz, pz0, pzs]
        refine AnyL.pp 11 2 (.pointer (some ⟨k.mb, 0, none⟩)) rfl rfl (by kernel_rfl) (fun _ _ _ h => h) (fun _ => by go_simp) hH ?_
        simp only [pz, pz0, pzs]
        refine AnyL.pp 12 3 (.int .i64 0) rfl rfl (by kernel_rfl) (fun _ _ _ h => h) (fun _ => by go_simp) hH ?_
        simp only [pz, pz0, pzs]
        refine AnyL.done (by kernel_rfl) ?_
        rw [awP_new] at hM
        have hfoot : Hid (∀ y ∈ k.foot e, w.heap.size ≤ y) := fun y hy => Nat.le_trans I.out.g.size (hF y hy)
        have p0 : Pst (MI k) (k.foot e) u [] (awJ 0) u := Pst.start (mi_inv k) ⟨e, hM, rfl⟩
        have HG := hide hGu
        have hN2 : Hid ((k.N : Int) = 2) := by show _ = _; rw [hN]; rfl
        generalize k.foot e = F at hfoot p0
        clear hM hF g hGu hH HN hN
        go_wp2_with (fail)
        go_loopw [4] (fun v wr => ∃ j : Nat, j ≤ 6 ∧ v = .int .i64 j ∧ Pst (MI k) F u [] (awJ j) wr ∧ (awJ j).evs.length ≤ 130 * j ∧ Short (awJ j)) (fun v _ => 6 - (intOf v).toNat)
        case atStart => exact ⟨0, by omega, rfl, p0, Nat.le_refl _, awJ_short 0⟩
        case round =>
          clear p0
          obtain ⟨j, hj, rfl, p, he, hs⟩ := hrel
          by_cases hlt : j < 6
          · have hlt' : (j : Int) < 6 := by omega
            obtain ⟨e1, h1⟩ := Pst.mw p
            have HD := hide (fun wx => pick_does k (awJ j) 0 ((j : Int) % 2) (fuel_few h1.ok (by omega)) hs wx)
            have he1 := evs_pick (n := k.N) h1.ok 0 ((j : Int) % 2)
            have PP := hide p
            clear p h1 hs
            have HJ : Hid (awJ (j + 1) = (awJ j).pick k.N 0 ((j : Int) % 2)) := by show _ = _; rw [hN2.out]; rfl
            go_wp2_with (fail)
            refine ((HD.out wr).go PP.out).mono ?_
            rintro r q ⟨⟨rfl, -⟩, p1⟩
            have PQ := hide p1
            clear p1 HD PP
            go_wp2_with (fail)
            exact ⟨⟨j + 1, by omega, by go_num, by rw [HJ.out]; exact PQ.out, by rw [HJ.out]; omega, awJ_short _⟩, by simp [intOf]; omega⟩
          · have hj' : j = 6 := by omega
            subst hj'
            have PP := hide p
            obtain ⟨e1, h1⟩ := Pst.mw p
            have HT0 := threads_calls h1
            rw [awJ_ths] at HT0
            unfold ThreadsP at HT0
            rw [show ([awT, awT] : List Th).length = 2 from rfl] at HT0
            have HT := hide HT0
            clear p h1 hs HT0
            go_wp2_with (fail)
            refine HT.out.mono ?_
            rintro r q ⟨⟨rfl, hb⟩, gq⟩
            have c0 := hb.cell (o := 0) (v := .int .i64 3) rfl
            have c3 := hb.cell (o := 3) (v := .int .u32 0) rfl
            have c10 := hb.cell (o := 10) (v := .int .i64 3) rfl
            have c13 := hb.cell (o := 13) (v := .int .u32 0) rfl
            have GF : Hid (Gr w q) := by
              obtain ⟨F', -, kp, -⟩ := PP.out
              exact (Kp.gr HG.out kp hfoot.out).trans gq
            clear hb gq HT
            go_wp2_with (fail)
            go_ret
            exact ⟨rfl, GF.out⟩
    · refine wp_made (some 12) rfl _ _ (make_o2 rfl) ?_
      refine ⟨fun _ => G1.alloc _ _, ?_⟩
      simp only [pz, pz0, pzs]
      have h4 := Has.new x1 #[.int .u32 0, .int .u32 0] 43
      have G2 := G1.alloc #[.int .u32 0, .int .u32 0] 43
      replace h1 := h1.later ((Gr.refl x1).alloc #[.int .u32 0, .int .u32 0] 43)
      generalize x1.alloc (.cells #[.int .u32 0, .int .u32 0] 43) = x2 at h4 G2 h1 ⊢
      generalize x1.heap.size = b5 at h4 ⊢
      refine AnyL.one 3 (by kernel_rfl) rfl (by kernel_rfl) ?_
      refine wp_call (some 10) rfl 11 _ (by kernel_rfl) (awake1_calls 1 0 x2) ?_
      rintro r q ⟨rfl, rfl⟩
      refine ⟨_, rfl, fun _ => G2.alloc _ _, ?_⟩
      simp only [pz, pz0, pzs]
      have h2 := Has.new x2 (flatOf insL (codeE 1 0)).toArray 53
      have G3 := G2.alloc (flatOf insL (codeE 1 0)).toArray 53
      replace h1 := h1.later ((Gr.refl x2).alloc (flatOf insL (codeE 1 0)).toArray 53)
      replace h4 := h4.later ((Gr.refl x2).alloc (flatOf insL (codeE 1 0)).toArray 53)
      generalize x2.alloc (.cells (flatOf insL (codeE 1 0)).toArray 53) = x3 at h2 G3 h1 h4 ⊢
      generalize x2.heap.size = b3 at h2 ⊢
      refine AnyL.one 4 (by kernel_rfl) rfl (by kernel_rfl) ?_
      refine wp_made (some 11) rfl _ _ (build_cd _ _ rfl b1 b3 (by kernel_rfl) (by kernel_rfl)) ?_
      refine ⟨fun _ => G3.alloc _ _, ?_⟩
      simp only [pz, pz0, pzs]
      have h3 := Has.new x3 #[.slice (some ⟨b1, 0, none⟩) 3 3, .slice (some ⟨b3, 0, none⟩) 3 3] 51
      have G4 := G3.alloc #[.slice (some ⟨b1, 0, none⟩) 3 3, .slice (some ⟨b3, 0, none⟩) 3 3] 51
      replace h1 := h1.later ((Gr.refl x3).alloc #[.slice (some ⟨b1, 0, none⟩) 3 3, .slice (some ⟨b3, 0, none⟩) 3 3] 51)
      replace h4 := h4.later ((Gr.refl x3).alloc #[.slice (some ⟨b1, 0, none⟩) 3 3, .slice (some ⟨b3, 0, none⟩) 3 3] 51)
      replace h2 := h2.later ((Gr.refl x3).alloc #[.slice (some ⟨b1, 0, none⟩) 3 3, .slice (some ⟨b3, 0, none⟩) 3 3] 51)
      generalize x3.alloc (.cells #[.slice (some ⟨b1, 0, none⟩) 3 3, .slice (some ⟨b3, 0, none⟩) 3 3] 51) = x4 at h3 G4 h1 h4 h2 ⊢
      generalize x3.heap.size = b4 at h3 ⊢
      have I := hide (⟨G4, h1, h2, h3, h4⟩ : AwI w x4 b1 b3 b4 b5)
      clear h1 h2 h3 h4 G0 G1 G2 G3 G4
      generalize x4 = x at I ⊢
      have HN := hide (new_calls (awP b4 b1 b3 b5) x (L.later I.out.g) (awP_at I.out.h1 I.out.h2 I.out.h3 I.out.h4))
      have hH := I.out.g
      refine AnyL.pp 6 13 (.agg (pgA (awP b4 b1 b3 b5))) rfl rfl (by kernel_rfl) (fun _ _ _ h => h) (fun _ => by go_simp; rfl) hH ?_
      simp only [pz, pz0, pzs]
      refine AnyL.one 7 (by kernel_rfl) rfl (by kernel_rfl) ?_
      refine wp_call (some 14) rfl _ _ (by kernel_rfl) HN.out ?_
      rintro r u NP
      rcases NP with ⟨-, k, e, ⟨rfl, hM, hN⟩, hF, g⟩ | ⟨hne, -⟩
      rotate_left
      · exact absurd (awP_chk b4 b1 b3 b5) hne
      have hGu := hH.trans g
      refine ⟨_, rfl, fun _ => hGu, ?_⟩
      simp only [pz, pz0, pzs]
      replace hH := hGu
      refine AnyL.pp 8 6 (.tuple #[.pointer (some ⟨k.mb, 0, none⟩), .int .i64 0]) rfl rfl (by kernel_rfl) (fun _ _ _ h => h) (fun _ => by go_simp) hH ?_
      simp only [pz, pz0, pzs]
      refine AnyL.pp 9 15 (.pointer (some ⟨k.mb, 0, none⟩)) rfl rfl (by kernel_rfl) (fun _ _ _ h => h) (fun _ => by go_simp) hH ?_
      simp only [pz, pz0, pzs]
      refine AnyL.pp 10 16 (.int .i64 0) rfl rfl (by kernel_rfl) (fun _ _ _ h => h) (fun _ => by go_simp) hH ?_
      simp only [pz, pz0, pzs]
      refine AnyL.pp 11 2 (.pointer (some ⟨k.mb, 0, none⟩)) rfl rfl (by kernel_rfl) (fun _ _ _ h => h) (fun _ => by go_simp) hH ?_
      simp only [pz, pz0, pzs]
      refine AnyL.pp 12 3 (.int .i64 0) rfl rfl (by kernel_rfl) (fun _ _ _ h => h) (fun _ => by go_simp) hH ?_
      simp only [pz, pz0, pzs]
      refine AnyL.done (by kernel_rfl) ?_
      rw [awP_new] at hM
      have hfoot : Hid (∀ y ∈ k.foot e, w.heap.size ≤ y) := fun y hy => Nat.le_trans I.out.g.size (hF y hy)
      have p0 : Pst (MI k) (k.foot e) u [] (awJ 0) u := Pst.start (mi_inv k) ⟨e, hM, rfl⟩
      have HG := hide hGu
      have hN2 : Hid ((k.N : Int) = 2) := by show _ = _; rw [hN]; rfl
      generalize k.foot e = F at hfoot p0
      clear hM hF g hGu hH HN hN
      go_wp2_with (fail)
      go_loopw [4] (fun v wr => ∃ j : Nat, j ≤ 6 ∧ v = .int .i64 j ∧ Pst (MI k) F u [] (awJ j) wr ∧ (awJ j).evs.length ≤ 130 * j ∧ Short (awJ j)) (fun v _ => 6 - (intOf v).toNat)
      case atStart => exact ⟨0, by omega, rfl, p0, Nat.le_refl _, awJ_short 0⟩
      case round =>
        clear p0
        obtain ⟨j, hj, rfl, p, he, hs⟩ := hrel
        by_cases hlt : j < 6
        · have hlt' : (j : Int) < 6 := by omega
          obtain ⟨e1, h1⟩ := Pst.mw p
          have HD := hide (fun wx => pick_does k (awJ j) 0 ((j : Int) % 2) (fuel_few h1.ok (by omega)) hs wx)
          have he1 := evs_pick (n := k.N) h1.ok 0 ((j : Int) % 2)
          have PP := hide p
          clear p h1 hs
          have HJ : Hid (awJ (j + 1) = (awJ j).pick k.N 0 ((j : Int) % 2)) := by show _ = _; rw [hN2.out]; rfl
          go_wp2_with (fail)
          refine ((HD.out wr).go PP.out).mono ?_
          rintro r q ⟨⟨rfl, -⟩, p1⟩
          have PQ := hide p1
          clear p1 HD PP
          go_wp2_with (fail)
          exact ⟨⟨j + 1, by omega, by go_num, by rw [HJ.out]; exact PQ.out, by rw [HJ.out]; omega, awJ_short _⟩, by simp [intOf]; omega⟩
        · have hj' : j = 6 := by omega
          subst hj'
          have PP := hide p
          obtain ⟨e1, h1⟩ := Pst.mw p
          have HT0 := threads_calls h1
          rw [awJ_ths] at HT0
          unfold ThreadsP at HT0
          rw [show ([awT, awT] : List Th).length = 2 from rfl] at HT0
          have HT := hide HT0
          clear p h1 hs HT0
          go_wp2_with (fail)
          refine HT.out.mono ?_
          rintro r q ⟨⟨rfl, hb⟩, gq⟩
          have c0 := hb.cell (o := 0) (v := .int .i64 3) rfl
          have c3 := hb.cell (o := 3) (v := .int .u32 0) rfl
          have c10 := hb.cell (o := 10) (v := .int .i64 3) rfl
          have c13 := hb.cell (o := 13) (v := .int .u32 0) rfl
          have GF : Hid (Gr w q) := by
            obtain ⟨F', -, kp, -⟩ := PP.out
            exact (Kp.gr HG.out kp hfoot.out).trans gq
          clear hb gq HT
          go_wp2_with (fail)
          go_ret
          exact ⟨rfl, GF.out⟩
  · refine wp_made (some 12) rfl _ _ (make_o2 rfl) ?_
    refine ⟨fun _ => G0.alloc _ _, ?_⟩
    simp only [pz, pz0, pzs]
    have h4 := Has.new x0 #[.int .u32 0, .int .u32 0] 43
    have G1 := G0.alloc #[.int .u32 0, .int .u32 0] 43
    generalize x0.alloc (.cells #[.int .u32 0, .int .u32 0] 43) = x1 at h4 G1 ⊢
    generalize x0.heap.size = b5 at h4 ⊢
    refine AnyL.one 1 (by kernel_rfl) rfl (by kernel_rfl) ?_
    refine wp_call (some 8) rfl 11 _ (by kernel_rfl) (awake1_calls 0 1 x1) ?_
    rintro r q ⟨rfl, rfl⟩
    refine ⟨_, rfl, fun _ => G1.alloc _ _, ?_⟩
    simp only [pz, pz0, pzs]
    have h1 := Has.new x1 (flatOf insL (codeE 0 1)).toArray 53
    have G2 := G1.alloc (flatOf insL (codeE 0 1)).toArray 53
    replace h4 := h4.later ((Gr.refl x1).alloc (flatOf insL (codeE 0 1)).toArray 53)
    generalize x1.alloc (.cells (flatOf insL (codeE 0 1)).toArray 53) = x2 at h1 G2 h4 ⊢
    generalize x1.heap.size = b1 at h1 ⊢
    refine AnyL.one 3 (by kernel_rfl) rfl (by kernel_rfl) ?_
    refine wp_call (some 10) rfl 11 _ (by kernel_rfl) (awake1_calls 1 0 x2) ?_
    rintro r q ⟨rfl, rfl⟩
    refine ⟨_, rfl, fun _ => G2.alloc _ _, ?_⟩
    simp only [pz, pz0, pzs]
    have h2 := Has.new x2 (flatOf insL (codeE 1 0)).toArray 53
    have G3 := G2.alloc (flatOf insL (codeE 1 0)).toArray 53
    replace h4 := h4.later ((Gr.refl x2).alloc (flatOf insL (codeE 1 0)).toArray 53)
    replace h1 := h1.later ((Gr.refl x2).alloc (flatOf insL (codeE 1 0)).toArray 53)
    generalize x2.alloc (.cells (flatOf insL (codeE 1 0)).toArray 53) = x3 at h2 G3 h4 h1 ⊢
    generalize x2.heap.size = b3 at h2 ⊢
    refine AnyL.one 4 (by kernel_rfl) rfl (by kernel_rfl) ?_
    refine wp_made (some 11) rfl _ _ (build_cd _ _ rfl b1 b3 (by kernel_rfl) (by kernel_rfl)) ?_
    refine ⟨fun _ => G3.alloc _ _, ?_⟩
    simp only [pz, pz0, pzs]
    have h3 := Has.new x3 #[.slice (some ⟨b1, 0, none⟩) 3 3, .slice (some ⟨b3, 0, none⟩) 3 3] 51
    have G4 := G3.alloc #[.slice (some ⟨b1, 0, none⟩) 3 3, .slice (some ⟨b3, 0, none⟩) 3 3] 51
    replace h4 := h4.later ((Gr.refl x3).alloc #[.slice (some ⟨b1, 0, none⟩) 3 3, .slice (some ⟨b3, 0, none⟩) 3 3] 51)
    replace h1 := h1.later ((Gr.refl x3).alloc #[.slice (some ⟨b1, 0, none⟩) 3 3, .slice (some ⟨b3, 0, none⟩) 3 3] 51)
    replace h2 := h2.later ((Gr.refl x3).alloc #[.slice (some ⟨b1, 0, none⟩) 3 3, .slice (some ⟨b3, 0, none⟩) 3 3] 51)
    generalize x3.alloc (.cells #[.slice (some ⟨b1, 0, none⟩) 3 3, .slice (some ⟨b3, 0, none⟩) 3 3] 51) = x4 at h3 G4 h4 h1 h2 ⊢
    generalize x3.heap.size = b4 at h3 ⊢
    have I := hide (⟨G4, h1, h2, h3, h4⟩ : AwI w x4 b1 b3 b4 b5)
    clear h1 h2 h3 h4 G0 G1 G2 G3 G4
    generalize x4 = x at I ⊢
    have HN := hide (new_calls (awP b4 b1 b3 b5) x (L.later I.out.g) (awP_at I.out.h1 I.out.h2 I.out.h3 I.out.h4))
    have hH := I.out.g
    refine AnyL.pp 6 13 (.agg (pgA (awP b4 b1 b3 b5))) rfl rfl (by kernel_rfl) (fun _ _ _ h => h) (fun _ => by go_simp; rfl) hH ?_
    simp only [pz, pz0, pzs]
    refine AnyL.one 7 (by kernel_rfl) rfl (by kernel_rfl) ?_
    refine wp_call (some 14) rfl _ _ (by kernel_rfl) HN.out ?_
    rintro r u NP
    rcases NP with ⟨-, k, e, ⟨rfl, hM, hN⟩, hF, g⟩ | ⟨hne, -⟩
    rotate_left
    · exact absurd (awP_chk b4 b1 b3 b5) hne
    have hGu := hH.trans g
    refine ⟨_, rfl, fun _ => hGu, ?_⟩
    simp only [pz, pz0, pzs]
    replace hH := hGu
    refine AnyL.pp 8 6 (.tuple #[.pointer (some ⟨k.mb, 0, none⟩), .int .i64 0]) rfl rfl (by kernel_rfl) (fun _ _ _ h => h) (fun _ => by go_simp) hH ?_
    simp only [pz, pz0, pzs]
    refine AnyL.pp 9 15 (.pointer (some ⟨k.mb, 0, none⟩)) rfl rfl (by kernel_rfl) (fun _ _ _ h => h) (fun _ => by go_simp) hH ?_
    simp only [pz, pz0, pzs]
    refine AnyL.pp 10 16 (.int .i64 0) rfl rfl (by kernel_rfl) (fun _ _ _ h => h) (fun _ => by go_simp) hH ?_
    simp only [pz, pz0, pzs]
    refine AnyL.pp 11 2 (.pointer (some ⟨k.mb, 0, none⟩)) rfl rfl (by kernel_rfl) (fun _ _ _ h => h) (fun _ => by go_simp) hH ?_
    simp only [pz, pz0, pzs]
    refine AnyL.pp 12 3 (.int .i64 0) rfl rfl (by kernel_rfl) (fun _ _ _ h => h) (fun _ => by go_simp) hH ?_
    simp only [pz, pz0, pzs]
    refine AnyL.done (by kernel_rfl) ?_
    rw [awP_new] at hM
    have hfoot : Hid (∀ y ∈ k.foot e, w.heap.size ≤ y) := fun y hy => Nat.le_trans I.out.g.size (hF y hy)
    have p0 : Pst (MI k) (k.foot e) u [] (awJ 0) u := Pst.start (mi_inv k) ⟨e, hM, rfl⟩
    have HG := hide hGu
    have hN2 : Hid ((k.N : Int) = 2) := by show _ = _; rw [hN]; rfl
    generalize k.foot e = F at hfoot p0
    clear hM hF g hGu hH HN hN
    go_wp2_with (fail)
    go_loopw [4] (fun v wr => ∃ j : Nat, j ≤ 6 ∧ v = .int .i64 j ∧ Pst (MI k) F u [] (awJ j) wr ∧ (awJ j).evs.length ≤ 130 * j ∧ Short (awJ j)) (fun v _ => 6 - (intOf v).toNat)
    case atStart => exact ⟨0, by omega, rfl, p0, Nat.le_refl _, awJ_short 0⟩
    case round =>
      clear p0
      obtain ⟨j, hj, rfl, p, he, hs⟩ := hrel
      by_cases hlt : j < 6
      · have hlt' : (j : Int) < 6 := by omega
        obtain ⟨e1, h1⟩ := Pst.mw p
        have HD := hide (fun wx => pick_does k (awJ j) 0 ((j : Int) % 2) (fuel_few h1.ok (by omega)) hs wx)
        have he1 := evs_pick (n := k.N) h1.ok 0 ((j : Int) % 2)
        have PP := hide p
        clear p h1 hs
        have HJ : Hid (awJ (j + 1) = (awJ j).pick k.N 0 ((j : Int) % 2)) := by show _ = _; rw [hN2.out]; rfl
        go_wp2_with (fail)
        refine ((HD.out wr).go PP.out).mono ?_
        rintro r q ⟨⟨rfl, -⟩, p1⟩
        have PQ := hide p1
        clear p1 HD PP
        go_wp2_with (fail)
        exact ⟨⟨j + 1, by omega, by go_num, by rw [HJ.out]; exact PQ.out, by rw [HJ.out]; omega, awJ_short _⟩, by simp [intOf]; omega⟩
      · have hj' : j = 6 := by omega
        subst hj'
        have PP := hide p
        obtain ⟨e1, h1⟩ := Pst.mw p
        have HT0 := threads_calls h1
        rw [awJ_ths] at HT0
        unfold ThreadsP at HT0
        rw [show ([awT, awT] : List Th).length = 2 from rfl] at HT0
        have HT := hide HT0
        clear p h1 hs HT0
        go_wp2_with (fail)
        refine HT.out.mono ?_
        rintro r q ⟨⟨rfl, hb⟩, gq⟩
        have c0 := hb.cell (o := 0) (v := .int .i64 3) rfl
        have c3 := hb.cell (o := 3) (v := .int .u32 0) rfl
        have c10 := hb.cell (o := 10) (v := .int .i64 3) rfl
        have c13 := hb.cell (o := 13) (v := .int .u32 0) rfl
        have GF : Hid (Gr w q) := by
          obtain ⟨F', -, kp, -⟩ := PP.out
          exact (Kp.gr HG.out kp hfoot.out).trans gq
        clear hb gq HT
        go_wp2_with (fail)
        go_ret
        exact ⟨rfl, GF.out⟩
  -- END
end Go.Proofs.YtfhplbmgjgfihaaGreatDoor.Mc
