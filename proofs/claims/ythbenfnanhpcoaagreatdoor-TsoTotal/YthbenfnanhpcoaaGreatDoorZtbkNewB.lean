/-
  What New answers of any program. No condition but what each law names.
-/
import Derived.Test.YthbenfnanhpcoaaGreatDoorZtbj
import Derived.Test.YthbenfnanhpcoaaGreatDoorZtbaMchN
namespace Go.Proofs.YthbenfnanhpcoaaGreatDoor.Mc
open Go.ChangeShapes Go.WideShapes Go.ChangeAt Go.RowKit
set_option linter.unusedVariables false
set_option maxRecDepth 20000

def NewP (p : Pgm) (w : World) (r : Ending) (w' : World) : Prop :=
  ((chkM p).2.2 = 0 ∧ ∃ k e, (r = .returned (.tuple #[.pointer (some ⟨k.mb, 0, none⟩), .int .i64 0]) ∧ Mw k (newM p) e w' ∧ k.N = p.mem.length) ∧ (∀ x ∈ k.foot e, w.heap.size ≤ x) ∧ Gr w w')
  ∨ ((chkM p).2.2 ≠ 0 ∧ r = .returned (.tuple #[.pointer none, .int .i64 (chkM p).2.2]) ∧ Gr w w')
/-- the new machine's cells, one by one -/
abbrev machN (bv : Value) : Array Value := #[.slice none 0 0, bv, .int .i64 0, .int .i64 0, .int .i64 0, .int .i64 0, .int .i64 0, .int .i64 0, .int .i64 0, .int .i64 0, .int .i64 0, .int .i64 0, .int .i64 0, .int .i64 0, .int .i64 0, .int .i64 0, .int .i64 0, .int .i64 0, .int .i64 0, .slice none 0 0]
theorem machN_is (bv : Value) : machN bv = Kq.machC (.slice none 0 0) bv Kn.zeroC (.slice none 0 0) := by rfl
theorem infoSp : (Tryz.prog.info? 89).map (fun i => (i.zero, i.size, i.bytes)) = some (some (.pointer none), 1, 8) := by kernel_rfl
theorem sideP_one (x : Sk) : ∀ u ∈ sideP x, u.oneCell' = true := by intro u hu; simp [sideP] at hu; subst hu; rfl
theorem build_sp {o : Oper} {a : Act} {w : World} (x : Operand) (ho : o.op = .buildSlice 81 1 #[(0, x)]) (g : Nat) (hx : a.eval x = .pointer (some ⟨g, 0, none⟩)) :
    (execOp a.eval o).run Tryz.prog w = .ok (.value (.slice (some ⟨w.heap.size, 0, none⟩) 1 1)) (w.alloc (.cells #[.pointer (some ⟨g, 0, none⟩)] 89)) := by
  unfold execOp
  simp only [ho, List.map_toArray, List.map_cons, List.map_nil, hx]
  clear hx
  go_simp
theorem wp_store_sp {o : Oper} {a : Act} {w : World} {K : Act → World → Prop} {Q : Exit → Act → World → Prop} (hd0 : o.dst = none) (x y : Operand) (ho : o.op = .store 81 x y) (g j : Nat) (hx : a.eval x = .pointer (some ⟨g, j, none⟩)) (sa : Option Addr) (sn sc : Nat) (hy : a.eval y = .slice sa sn sc)
    (oa : Option Addr) (on oc : Nat) (hc : w.cell? ⟨g, j, none⟩ = some (.slice oa on oc)) (hf : w.frozen? ⟨g, j, none⟩ = false) (h : K a (w.setCell ⟨g, j, none⟩ (.slice sa sn sc))) : Oper.wp Tryz.prog o a w K Q := by
  unfold Oper.wp execOp
  simp only [ho, hx, hy]
  go_simp
  exact h

/-- so many sides are there -/
def NewI (p : Pgm) (w : World) (mb : Nat) (j : Nat) (wr : World) : Prop :=
  ∃ sv bv ss, (Mw ⟨mb, sv, bv, p.mem.length, ss⟩ (newJ p j) (.slice none 0 0) wr ∧ ss.length = j) ∧ (∀ x ∈ (⟨mb, sv, bv, p.mem.length, ss⟩ : Mk).foot (.slice none 0 0), w.heap.size ≤ x) ∧ Gr w wr

set_option maxHeartbeats 1000000 in
theorem new_calls (p : Pgm) (w : World) (L : Laid w) (h : PgAt p w) : Calls Tryz.prog 9 #[.agg (pgA p)] w (NewP p w) := by
  have g0 := (Gr.refl w).alloc (pgA p) 27
  have hb := Has.new w (pgA p) 27
  have d0 := hb.cell (o := 0) (v := .slice p.ca p.codes.length p.cc) rfl
  have d1 := hb.cell (o := 1) (v := .slice p.ma p.mem.length p.mc) rfl
  have d2 := hb.cell (o := 2) (v := .int .i64 p.room) rfl
  have HC := hide (check_calls p _ (L.later g0) (h.later g0))
  have HH := hide h
  have HL := hide L
  clear h
  go_enter Tryz.func9, Tryz.ntmps9
  go_wp2_with (fail)
  change Calls _ _ _ (w.alloc (.cells (pgA p) 27)) _
  generalize w.alloc (.cells (pgA p) 27) = w1 at g0 hb d0 d1 d2 HC ⊢
  refine HC.out.mono ?_
  rintro r u ⟨rfl, g1⟩
  have gu := g0.trans g1
  have hb1 := hb.later g1
  clear d0 d1 d2 hb HC g0 g1
  have d0 := hb1.cell (o := 0) (v := .slice p.ca p.codes.length p.cc) rfl
  have d1 := hb1.cell (o := 1) (v := .slice p.ma p.mem.length p.mc) rfl
  have d2 := hb1.cell (o := 2) (v := .int .i64 p.room) rfl
  by_cases he : (chkM p).2.2 = 0
  · have HE := hide he
    generalize (chkM p).1 = e1
    generalize (chkM p).2.1 = e2
    rw [he]
    obtain ⟨⟨hn1, hn2⟩, ⟨hr1, hr2⟩, hm⟩ := chk_len he
    have hcs := chk_codes he
    have hpu := HH.out.later gu
    have HCl := hide (cloneW_calls p.ma p.mc p.mem u hpu.mem hpu.nil (by omega))
    clear he hpu
    go_wp2_with (fail)
    refine HCl.out.mono ?_
    rintro r u1 ⟨bv, rfl, ho, g2⟩
    obtain ⟨ba, bc, rfl, -, -, -, hbb⟩ := own_at ho
    have d0' := cell_later g2 d0
    have d2' := cell_later g2 d2
    have g3 := gu.trans g2
    have hbk := hb1.later g2
    have ho1 := own_lower ho (Nat.zero_le _)
    have hob : ∀ x ∈ ob (Value.slice ba p.mem.length bc), w.heap.size ≤ x := fun x hx => Nat.le_trans gu.size (own_lower ho (Nat.le_refl _) |>.lt x (mem_ob.1 hx)).1
    clear d0 d1 d2 HCl hb1
    go_upto_region 5 with (fail)
    change Code.wp _ _ _ _ (u1.alloc (.cells (machN (.slice ba p.mem.length bc)) 88))
    have m0 := (Has.new u1 (machN (.slice ba p.mem.length bc)) 88).of (machN_is _)
    have m1 := own_later ho1 ((Gr.refl u1).alloc (machN (.slice ba p.mem.length bc)) 88)
    have m2 := g3.alloc (machN (.slice ba p.mem.length bc)) 88
    have m3 := hbk.later ((Gr.refl u1).alloc (machN (.slice ba p.mem.length bc)) 88)
    have hgz := g3.size
    generalize Value.agg (machN (.slice ba p.mem.length bc)) = z22
    generalize u1.alloc (.cells (machN (.slice ba p.mem.length bc)) 88) = u2 at m0 m1 m2 m3 ⊢
    generalize u1.heap.size = mb at m0 hgz ⊢
    have hw0 := HL.out.lt
    have hF0 : ∀ x ∈ (⟨mb, .slice none 0 0, .slice ba p.mem.length bc, p.mem.length, []⟩ : Mk).foot (.slice none 0 0), w.heap.size ≤ x := by
      intro x hx
      rcases mem_foot.1 hx with y | y | y | y | ⟨z, hz, y⟩ | ⟨z, hz, y⟩
      · rw [y]; exact hgz
      · simp [ob, Value.ownBlock] at y
      · exact hob x y
      · simp [ob, Value.ownBlock] at y
      · cases hz
      · cases hz
    have B0 : NewI p w mb 0 u2 := ⟨.slice none 0 0, .slice ba p.mem.length bc, [], ⟨Mw.start (HL.out.later m2) m0 m1 hm HH.out.wrd p.room.toNat (by omega) ⟨by omega, fun z => by have := hob 0 z; omega⟩, rfl⟩, hF0, m2⟩
    have d0 := m3.cell (o := 0) (v := .slice p.ca p.codes.length p.cc) rfl
    have HB := hide m3
    clear ho ho1 hob hbb g2 g3 gu m0 m1 m2 m3 d0' d2' hbk hF0
    go_wp2_with (fail)
    go_loopw [27] (fun v wr => ∃ j : Nat, j ≤ p.codes.length ∧ v = .int .i64 j ∧ NewI p w mb j wr ∧ Has wr w.heap.size (pgA p) 27) (fun v _ => p.codes.length - (intOf v).toNat)
    case atStart => exact ⟨0, by omega, rfl, B0, HB.out⟩
    case round =>
      clear B0 d0
      obtain ⟨j, hj, rfl, I, hb⟩ := hrel
      obtain ⟨sv, bv, ss, ⟨hM, hss⟩, hF, gw⟩ := I
      by_cases hlt : j < p.codes.length
      · have hlt' : (j : Int) < p.codes.length := by omega
        have q1 := HH.out.later gw
        have rw1 := q1.row
        obtain ⟨b, off, had, -⟩ := rw1.get (by rw [flatOf_length codeV_len]; omega)
        rw [had] at rw1
        have c0 := rw1.cell codeV_len hlt cd0 0 (by omega)
        have hx := q1.each _ (cd_mem hlt)
        have hxl := hcs _ (cd_mem hlt)
        have HS := hide (newJ_snoc hlt)
        generalize p.codes.getD j cd0 = x at c0 hx hxl HS
        simp only [codeV, List.getElem?_cons_zero, Nat.add_zero, Nat.mul_one] at c0
        generalize p.ca = pa at had
        subst had
        clear rw1 q1
        go_upto_region 8 with (fail)
        have h1 := hM.later (Gr.refl wr).drew
        have hx1 := hx.later (Gr.refl wr).drew
        have hb1 := hb.later (Gr.refl wr).drew
        have gw1 := gw.trans (Gr.refl wr).drew
        clear c0 hM hx hb gw
        obtain ⟨C1, hC1, iC1⟩ := id h1.q
        obtain ⟨sa, sc, hsv, -, -, -, -⟩ := own_at h1.row
        obtain ⟨ma, mc, hbv, -, -, -, -⟩ := own_at h1.mem
        have hsv' : sv = .slice sa ss.length sc := hsv
        have hbv' : bv = .slice ma p.mem.length mc := hbv
        subst hsv' hbv'
        clear hsv hbv
        have hss' : (j : Int) = (ss.length : Nat) := by omega
        have hr0 := h1.row
        rw [sideP_flat] at hr0
        have nmb : mb ∉ ob (Value.slice sa ss.length sc) := fun z => own_aside h1.row hC1 (by decide) z
        have nbx : w.heap.size ∉ ob (Value.slice sa ss.length sc) := fun z => own_aside h1.row hb1 (by decide) z
        have nmx : w.heap.size ≠ mb := hb1.apart hC1 (by decide)
        have cm1 : wr.drew.cell? ⟨mb, 1, none⟩ = some (.slice ma p.mem.length mc) := h1.mach.1
        have NS := hide (newSide_calls wr.drew mb j ma p.mem.length mc x p.room hr1 hr2 cm1 hx1 hxl)
        refine begin_late 16 [15] (fun w' => Kp (ob (Value.slice sa ss.length sc)) wr.drew w') (by kernel_rfl) rfl ?_
        have hH : Kp (ob (Value.slice sa ss.length sc)) wr.drew wr.drew := Kp.refl _ _
        refine AnyL.takeP 0 (some 32) (.pointer (some ⟨mb, 0, none⟩)) rfl rfl (by kernel_rfl) (by kernel_rfl) (by kernel_rfl) (by kernel_rfl) (fun _ _ _ h => h) (by kernel_rfl) (fun w' => by go_simp) (fun _ => hH) ?_
        simp only [Act.put, List.setIfInBounds_toArray, List.set_cons_zero, List.set_cons_succ]
        refine AnyL.takeP 1 (some 33) (.pointer (some ⟨mb, 0, none⟩)) rfl rfl (by kernel_rfl) (by kernel_rfl) (by kernel_rfl) (by kernel_rfl) (fun _ _ _ h => h) (by kernel_rfl) (fun w' => by go_simp) (fun _ => hH) ?_
        simp only [Act.put, List.setIfInBounds_toArray, List.set_cons_zero, List.set_cons_succ]
        refine AnyL.takeP 2 (some 34) (.pointer (some ⟨mb, 0, none⟩)) rfl rfl (by kernel_rfl) (by kernel_rfl) (by kernel_rfl) (by kernel_rfl) (fun _ _ _ h => h) (by kernel_rfl) (fun w' => by go_simp) (fun _ => hH) ?_
        simp only [Act.put, List.setIfInBounds_toArray, List.set_cons_zero, List.set_cons_succ]
        refine AnyL.takeP 3 (some 35) (.pointer (some ⟨mb, 0, none⟩)) rfl rfl (by kernel_rfl) (by kernel_rfl) (by kernel_rfl) (by kernel_rfl) (fun _ _ _ h => h) (by kernel_rfl) (fun w' => by go_simp) (fun _ => hH) ?_
        simp only [Act.put, List.setIfInBounds_toArray, List.set_cons_zero, List.set_cons_succ]
        refine AnyL.take 4 (some 36) (.slice sa ss.length sc) rfl rfl (by kernel_rfl) (by kernel_rfl) (by kernel_rfl) (by kernel_rfl) (fun _ _ _ h => h) (yields_held _ (by kernel_rfl) (fun w' hw' => by have c1 := (hC1.kept hw' nmb).cell (o := 0) (v := .slice sa ss.length sc) rfl; go_simp)) hH ?_
        simp only [Act.put, List.setIfInBounds_toArray, List.set_cons_zero, List.set_cons_succ]
        refine AnyL.takeP 5 (some 37) (.pointer (some ⟨mb, 0, none⟩)) rfl rfl (by kernel_rfl) (by kernel_rfl) (by kernel_rfl) (by kernel_rfl) (fun _ _ _ h => h) (by kernel_rfl) (fun w' => by go_simp) (fun _ => hH) ?_
        simp only [Act.put, List.setIfInBounds_toArray, List.set_cons_zero, List.set_cons_succ]
        refine AnyL.takeP 6 (some 38) (.int .i64 (j : Int)) rfl rfl (by kernel_rfl) (by kernel_rfl) (by kernel_rfl) (by kernel_rfl) (fun _ _ _ h => h) (by kernel_rfl) (fun w' => by go_simp) (fun _ => hH) ?_
        simp only [Act.put, List.setIfInBounds_toArray, List.set_cons_zero, List.set_cons_succ]
        refine AnyL.takeP 7 (some 39) (.slice x.a x.l.length x.c) rfl rfl (by kernel_rfl) (by kernel_rfl) (by kernel_rfl) (by kernel_rfl) (fun _ _ _ h => h) (by kernel_rfl) (fun w' => by go_simp) (fun _ => hH) ?_
        simp only [Act.put, List.setIfInBounds_toArray, List.set_cons_zero, List.set_cons_succ]
        refine AnyL.takeP 8 (some 40) (.pointer (some ⟨w.heap.size, 2, none⟩)) rfl rfl (by kernel_rfl) (by kernel_rfl) (by kernel_rfl) (by kernel_rfl) (fun _ _ _ h => h) (by kernel_rfl) (fun w' => by go_simp) (fun _ => hH) ?_
        simp only [Act.put, List.setIfInBounds_toArray, List.set_cons_zero, List.set_cons_succ]
        refine AnyL.take 9 (some 41) (.int .i64 p.room) rfl rfl (by kernel_rfl) (by kernel_rfl) (by kernel_rfl) (by kernel_rfl) (fun _ _ _ h => h) (yields_held _ (by kernel_rfl) (fun w' hw' => by have c1 := (hb1.kept hw' nbx).cell (o := 2) (v := .int .i64 p.room) rfl; go_simp)) hH ?_
        simp only [Act.put, List.setIfInBounds_toArray, List.set_cons_zero, List.set_cons_succ]
        refine AnyL.one 10 (by kernel_rfl) rfl (by kernel_rfl) ?_
        refine wp_call (some 42) rfl _ _ (by kernel_rfl) NS.out ?_
        rintro r u3 ⟨g, cv, ⟨rfl, hB⟩, ⟨hcv, hg⟩, gr⟩
        refine ⟨_, rfl, fun _ => gr.kp _, ?_⟩
        simp only [Act.put, List.setIfInBounds_toArray, List.set_cons_zero, List.set_cons_succ]
        refine AnyL.one 11 (by kernel_rfl) rfl (by kernel_rfl) ?_
        refine wp_made (some 43) rfl _ _ (build_sp _ rfl g (by kernel_rfl)) ?_
        refine ⟨fun _ => ((gr.alloc _ _).kp _), ?_⟩
        simp only [Act.put, List.setIfInBounds_toArray, List.set_cons_zero, List.set_cons_succ]
        obtain ⟨sv', w', hrn, ho, hgr, hbo⟩ := app_rec (ty := 81) sideP_len sideP_one (T := 81) Tryz.underlying81 infoSp (by decide) (by decide) (by decide) (own_later hr0 gr) (⟨g, cv⟩ : Sk) #[.pointer (some ⟨g, 0, none⟩)] rfl (show ss.length ≤ 99999 by omega) (Nat.zero_le _)
        refine AnyL.one 12 (by kernel_rfl) rfl (by kernel_rfl) ?_
        refine wp_app (some 44) rfl _ _ 81 rfl (.slice sa ss.length sc) _ (by kernel_rfl) rfl sv' w' hrn ?_
        have kg : Kp (ob (Value.slice sa ss.length sc)) u3 w' := (((Gr.refl u3).alloc #[.pointer (some ⟨g, 0, none⟩)] 89).kp _).trans (Kp.grown hgr) (fun _ h => h) (fun _ h => .inl h)
        have kd : Kp (ob (Value.slice sa ss.length sc)) wr.drew w' := (gr.kp _).trans kg (fun _ h => h) (fun _ h => .inl h)
        refine ⟨fun _ => kd, ?_⟩
        simp only [Act.put, List.setIfInBounds_toArray, List.set_cons_zero, List.set_cons_succ]
        replace hH := kd
        refine AnyL.takeP 13 (some 45) (.pointer (some ⟨mb, 0, none⟩)) rfl rfl (by kernel_rfl) (by kernel_rfl) (by kernel_rfl) (by kernel_rfl) (fun _ _ _ h => h) (by kernel_rfl) (fun w' => by go_simp) (fun _ => hH) ?_
        simp only [Act.put, List.setIfInBounds_toArray, List.set_cons_zero, List.set_cons_succ]
        refine AnyL.takeP 14 (some 46) (.pointer (some ⟨mb, 0, none⟩)) rfl rfl (by kernel_rfl) (by kernel_rfl) (by kernel_rfl) (by kernel_rfl) (fun _ _ _ h => h) (by kernel_rfl) (fun w' => by go_simp) (fun _ => hH) ?_
        simp only [Act.put, List.setIfInBounds_toArray, List.set_cons_zero, List.set_cons_succ]
        refine AnyL.one 15 (by kernel_rfl) rfl (by kernel_rfl) ?_
        obtain ⟨ad', cap', hve', -, -, -, -⟩ := own_at ho
        have cy := (hC1.kept kd nmb).cell (o := 0) (v := .slice sa ss.length sc) rfl
        refine wp_store_sp rfl _ _ rfl mb 0 (by kernel_rfl) ad' _ cap' hve' _ _ _ cy ((hC1.kept kd nmb).free 0) ?_
        refine ⟨late (by kernel_rfl), ?_⟩
        refine AnyL.done (by kernel_rfl) ?_
        rw [← hve']
        have hroom : ((p.room.toNat : Nat) : Int) = p.room := by omega
        have hB' : Has u3 g (sideA mb ss.length cv th00 (Bf.newC ((p.room.toNat : Nat) : Int)) p.mem.length g) 105 := by rw [hroom, hss]; exact hB
        have hsz := gw1.size
        have hbd := h1.bnd
        have hgn : g ∉ ss.map Sk.g := fun z => by
          obtain ⟨y, hy, rfl⟩ := List.mem_map.1 z
          have := hbd y.g (mem_foot.2 (.inr (.inr (.inr (.inr (.inl ⟨y, hy, rfl⟩))))))
          omega
        have hcvb : ∀ y ∈ ob cv, w.heap.size ≤ y := fun y hy => Nat.le_trans hsz (hcv.lt y (mem_ob.1 hy)).1
        have hgs := gr.size
        have hsvb : ∀ y ∈ ob sv', w.heap.size ≤ y := fun y hy => by
          rw [mem_ob] at hy
          rcases hbo with z | z
          · exact hF y (mem_foot.2 (.inr (.inl (by rw [mem_ob, ← hy, z]))))
          · rw [z] at hy
            have : u3.heap.size + 1 = y := by simpa using hy
            omega
        have ho' : w'.ownsRow 0 89 1 sv' (ss ++ [(⟨g, cv⟩ : Sk)]).length ((ss ++ [(⟨g, cv⟩ : Sk)]).map fun x => .pointer (some ⟨x.g, 0, none⟩)) := by rw [sideP_flat]; exact ho
        have h4 := Mw.push (h1.later gr) (x := ⟨g, cv⟩) (l := x.l) hB' (own_lower hcv (Nat.zero_le _)) hx1.ins hgn ⟨show (0 : Nat) ≠ g by omega, fun z => by have := hcvb 0 z; omega⟩ (show ss.length < 8 by omega) (show p.room.toNat ≤ 16 by omega) kg ho' (fun z => by have := hsvb 0 z; omega)
        have kf := kd.trans (Kp.setCell w' mb 0 sv') (f := mb :: ob (Value.slice sa ss.length sc)) (fun y hy => List.mem_cons_of_mem _ hy) (fun y hy => .inl (by rw [show y = mb by simpa using hy]; exact List.mem_cons_self))
        have gf := Kp.gr gw1 kf (fun y hy => by
          rcases List.mem_cons.1 hy with rfl | hy
          · exact hgz
          · exact hF y (mem_foot.2 (.inr (.inl hy))))
        have bf := hb1.kept kf (fun z => by
          rcases List.mem_cons.1 z with z | z
          · exact nmx z
          · exact nbx z)
        have hF' : ∀ y ∈ (⟨mb, sv', .slice ma p.mem.length mc, p.mem.length, ss ++ [⟨g, cv⟩]⟩ : Mk).foot (.slice none 0 0), w.heap.size ≤ y := by
          intro y hy
          rcases mem_foot.1 hy with e | e | e | e | ⟨z, hz, e⟩ | ⟨z, hz, e⟩
          · rw [e]; exact hgz
          · exact hsvb y e
          · exact hF y (mem_foot.2 (.inr (.inr (.inl e))))
          · simp [ob, Value.ownBlock] at e
          · rcases List.mem_append.1 hz with hz | hz
            · exact hF y (mem_foot.2 (.inr (.inr (.inr (.inr (.inl ⟨z, hz, e⟩))))))
            · rw [show z = ⟨g, cv⟩ by simpa using hz] at e
              have e' : g = y := e
              omega
          · rcases List.mem_append.1 hz with hz | hz
            · exact hF y (mem_foot.2 (.inr (.inr (.inr (.inr (.inr ⟨z, hz, e⟩))))))
            · rw [show z = ⟨g, cv⟩ by simpa using hz] at e
              exact hcvb y e
        have I1 : Hid (NewI p w mb (j + 1) (w'.setCell ⟨mb, 0, none⟩ sv')) := ⟨sv', .slice ma p.mem.length mc, ss ++ [⟨g, cv⟩], ⟨by rw [HS.out]; exact h4, by simp [hss]⟩, hF', gf⟩
        have HBF := hide bf
        clear hB hB' hgn hcvb hsvb ho' h4 kf gf bf hF' hrn ho hgr hbo kg kd hH cy hcv hr0 h1 hx1 hb1 gw1 hC1 iC1 cm1 NS hF hve'
        generalize w'.setCell ⟨mb, 0, none⟩ sv' = wz at I1 HBF ⊢
        go_wp2_with (fail)
        exact ⟨⟨j + 1, by omega, by go_num, I1.out, HBF.out⟩, by simp [intOf]; omega⟩
      · have hj' : j = p.codes.length := by omega
        subst hj'
        have e0 : newJ p p.codes.length = newM p := by unfold newJ newM; rw [List.take_length]
        rw [e0] at hM
        have HM := hide hM
        have HG := hide gw
        clear hM hb gw
        go_wp2_with (fail)
        exact bodyPost_ret (results_tmp2 rfl _ _ _) rfl (.inl ⟨HE.out, _, _, ⟨rfl, HM.out, rfl⟩, hF, HG.out⟩)
  · have HE := hide he
    have he' : ((chkM p).2.2 == 0) = false := by simpa using he
    go_wp2_with (fail)
    exact bodyPost_ret (results_tmp2 rfl _ _ _) rfl (.inr ⟨HE.out, rfl, gu⟩)
end Go.Proofs.YthbenfnanhpcoaaGreatDoor.Mc
