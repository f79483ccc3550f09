/-
  What New answers of any program. No condition but what each law names.
-/
import Derived.Test.YtfhplbmgjgfihaaGreatDoorZzaa
import Derived.Test.YtfhplbmgjgfihaaGreatDoorZzat
import Derived.Test.YtfhplbmgjgfihaaGreatDoorZzan
import Derived.Test.YtfhplbmgjgfihaaGreatDoorZzap
import Derived.Test.YtfhplbmgjgfihaaGreatDoorZzar
namespace Go.Proofs.YtfhplbmgjgfihaaGreatDoor.Mc
open Go.ChangeShapes Go.WideShapes Go.ChangeAt Go.RowKit
set_option linter.unusedVariables false
set_option maxRecDepth 20000
def NewP (p : Pgm) (w : World) (r : Ending) (w' : World) : Prop :=
  ((chkM p).2.2 = 0 ∧ ∃ k e, (r = .returned (.tuple #[.pointer (some ⟨k.mb, 0, none⟩), .int .i64 0]) ∧ Mw k (newM p) e w' ∧ k.N = p.mem.length) ∧ (∀ x ∈ k.foot e, w.heap.size ≤ x) ∧ Gr w w')
  ∨ ((chkM p).2.2 ≠ 0 ∧ r = .returned (.tuple #[.pointer none, .int .i64 (chkM p).2.2]) ∧ Gr w w')
/-- the new machine's cells, one by one -/
abbrev machN (bv : Value) : Array Value := #[.slice none 0 0, bv, .int .i64 0, .int .i64 0, .int .i64 0, .int .i64 0, .int .i64 0, .int .i64 0, .int .i64 0, .int .i64 0, .int .i64 0, .int .i64 0, .int .i64 0, .int .i64 0, .int .i64 0, .int .i64 0, .int .i64 0, .int .i64 0, .int .i64 0, .slice none 0 0]
theorem machN_is (bv : Value) : machN bv = Kq.machC (.slice none 0 0) bv Kn.zeroC (.slice none 0 0) := by rfl
theorem infoSp : (Tryz.prog.info? 67).map (fun i => (i.zero, i.size, i.bytes)) = some (some (.pointer none), 1, 8) := by kernel_rfl
theorem sideP_one (x : Sk) : ∀ u ∈ sideP x, u.oneCell' = true := by intro u hu; simp [sideP] at hu; subst hu; rfl
theorem build_sp {o : Oper} {a : Act} {w : World} (x : Operand) (ho : o.op = .buildSlice 59 1 #[(0, x)]) (g : Nat) (hx : a.eval x = .pointer (some ⟨g, 0, none⟩)) :
    (execOp a.eval o).run Tryz.prog w = .ok (.value (.slice (some ⟨w.heap.size, 0, none⟩) 1 1)) (w.alloc (.cells #[.pointer (some ⟨g, 0, none⟩)] 67)) := by
  unfold execOp
  simp only [ho, List.map_toArray, List.map_cons, List.map_nil, hx]
  clear hx
  go_simp
theorem wp_store_sp {o : Oper} {a : Act} {w : World} {K : Act → World → Prop} {Q : Exit → Act → World → Prop} (hd0 : o.dst = none) (x y : Operand) (ho : o.op = .store 59 x y) (g j : Nat) (hx : a.eval x = .pointer (some ⟨g, j, none⟩)) (sa : Option Addr) (sn sc : Nat) (hy : a.eval y = .slice sa sn sc)
    (oa : Option Addr) (on oc : Nat) (hc : w.cell? ⟨g, j, none⟩ = some (.slice oa on oc)) (hf : w.frozen? ⟨g, j, none⟩ = false) (h : K a (w.setCell ⟨g, j, none⟩ (.slice sa sn sc))) : Oper.wp Tryz.prog o a w K Q := by
  unfold Oper.wp execOp
  simp only [ho, hx, hy]
  go_simp
  exact h

/-- so many sides are there -/
def NewI (p : Pgm) (w : World) (mb : Nat) (j : Nat) (wr : World) : Prop :=
  ∃ sv bv ss, (Mw ⟨mb, sv, bv, p.mem.length, ss⟩ (newJ p j) (.slice none 0 0) wr ∧ ss.length = j) ∧ (∀ x ∈ (⟨mb, sv, bv, p.mem.length, ss⟩ : Mk).foot (.slice none 0 0), w.heap.size ≤ x) ∧ Gr w wr

set_option maxHeartbeats 1000000 in
theorem new_calls (p : Pgm) (w : World) (L : Laid w) (h : PgAt p w) : Calls Tryz.prog 6 #[.agg (pgA p)] w (NewP p w) := by
  have g0 := (Gr.refl w).alloc (pgA p) 25
  have hb := Has.new w (pgA p) 25
  have d0 := hb.cell (o := 0) (v := .slice p.ca p.codes.length p.cc) rfl
  have d1 := hb.cell (o := 1) (v := .slice p.ma p.mem.length p.mc) rfl
  have d2 := hb.cell (o := 2) (v := .int .i64 p.room) rfl
  have HC := hide (check_calls p _ (L.later g0) (h.later g0))
  have HH := hide h
  have HL := hide L
  clear h
  go_enter Tryz.func6, Tryz.ntmps6
  go_wp2_with (fail)
  change Calls _ _ _ (w.alloc (.cells (pgA p) 25)) _
  generalize w.alloc (.cells (pgA p) 25) = w1 at g0 hb d0 d1 d2 HC ⊢
  refine HC.out.mono ?_
  rintro r u ⟨rfl, g1⟩
  have gu := g0.trans g1
  have hb1 := hb.later g1
  clear d0 d1 d2 hb HC g0 g1
  have d0 := hb1.cell (o := 0) (v := .slice p.ca p.codes.length p.cc) rfl
  have d1 := hb1.cell (o := 1) (v := .slice p.ma p.mem.length p.mc) rfl
  have d2 := hb1.cell (o := 2) (v := .int .i64 p.room) rfl
  by_cases he : (chkM p).2.2 = 0
  · have HE := hide he
    generalize (chkM p).1 = e1
    generalize (chkM p).2.1 = e2
    rw [he]
    obtain ⟨⟨hn1, hn2⟩, ⟨hr1, hr2⟩, hm⟩ := chk_len he
    have hcs := chk_codes he
    have hpu := HH.out.later gu
    have HCl := hide (cloneW_calls p.ma p.mc p.mem u hpu.mem hpu.nil (by omega))
    clear he hpu
    go_wp2_with (fail)
    refine HCl.out.mono ?_
    rintro r u1 ⟨bv, rfl, ho, g2⟩
    obtain ⟨ba, bc, rfl, -, -, -, hbb⟩ := own_at ho
    have d0' := cell_later g2 d0
    have d2' := cell_later g2 d2
    have g3 := gu.trans g2
    have hbk := hb1.later g2
    have ho1 := own_lower ho (Nat.zero_le _)
    have hob : ∀ x ∈ ob (Value.slice ba p.mem.length bc), w.heap.size ≤ x := fun x hx => Nat.le_trans gu.size (own_lower ho (Nat.le_refl _) |>.lt x (mem_ob.1 hx)).1
    clear d0 d1 d2 HCl hb1
    go_upto_region 5 with (fail)
    change Code.wp _ _ _ _ (u1.alloc (.cells (machN (.slice ba p.mem.length bc)) 66))
    have m0 := (Has.new u1 (machN (.slice ba p.mem.length bc)) 66).of (machN_is _)
    have m1 := own_later ho1 ((Gr.refl u1).alloc (machN (.slice ba p.mem.length bc)) 66)
    have m2 := g3.alloc (machN (.slice ba p.mem.length bc)) 66
    have m3 := hbk.later ((Gr.refl u1).alloc (machN (.slice ba p.mem.length bc)) 66)
    have hgz := g3.size
    generalize Value.agg (machN (.slice ba p.mem.length bc)) = z22
    generalize u1.alloc (.cells (machN (.slice ba p.mem.length bc)) 66) = u2 at m0 m1 m2 m3 ⊢
    generalize u1.heap.size = mb at m0 hgz ⊢
    have hw0 := HL.out.lt
    have hF0 : ∀ x ∈ (⟨mb, .slice none 0 0, .slice ba p.mem.length bc, p.mem.length, []⟩ : Mk).foot (.slice none 0 0), w.heap.size ≤ x := by
      intro x hx
      rcases mem_foot.1 hx with y | y | y | y | ⟨z, hz, y⟩ | ⟨z, hz, y⟩
      · rw [y]; exact hgz
      · simp [ob, Value.ownBlock] at y
      · exact hob x y
      · simp [ob, Value.ownBlock] at y
      · cases hz
      · cases hz
    have B0 : NewI p w mb 0 u2 := ⟨.slice none 0 0, .slice ba p.mem.length bc, [], ⟨Mw.start (HL.out.later m2) m0 m1 hm HH.out.wrd p.room.toNat (by omega) ⟨by omega, fun z => by have := hob 0 z; omega⟩, rfl⟩, hF0, m2⟩
    have d0 := m3.cell (o := 0) (v := .slice p.ca p.codes.length p.cc) rfl
    have HB := hide m3
    clear ho ho1 hob hbb g2 g3 gu m0 m1 m2 m3 d0' d2' hbk hF0
    go_wp2_with (fail)
    go_loopw [27] (fun v wr => ∃ j : Nat, j ≤ p.codes.length ∧ v = .int .i64 j ∧ NewI p w mb j wr ∧ Has wr w.heap.size (pgA p) 25) (fun v _ => p.codes.length - (intOf v).toNat)
    case atStart => exact ⟨0, by omega, rfl, B0, HB.out⟩
    case round =>
      clear B0 d0
      obtain ⟨j, hj, rfl, I, hb⟩ := hrel
      obtain ⟨sv, bv, ss, ⟨hM, hss⟩, hF, gw⟩ := I
      by_cases hlt : j < p.codes.length
      · have hlt' : (j : Int) < p.codes.length := by omega
        have q1 := HH.out.later gw
        have rw1 := q1.row
        obtain ⟨b, off, had, -⟩ := rw1.get (by rw [flatOf_length codeV_len]; omega)
        rw [had] at rw1
        have c0 := rw1.cell codeV_len hlt cd0 0 (by omega)
        have hx := q1.each _ (cd_mem hlt)
        have hxl := hcs _ (cd_mem hlt)
        have HS := hide (newJ_snoc hlt)
        generalize p.codes.getD j cd0 = x at c0 hx hxl HS
        simp only [codeV, List.getElem?_cons_zero, Nat.add_zero, Nat.mul_one] at c0
        generalize p.ca = pa at had
        subst had
        clear rw1 q1
        go_upto_region 8 with (fail)
        have h1 := hM.later (Gr.refl wr).drew
        have hx1 := hx.later (Gr.refl wr).drew
        have hb1 := hb.later (Gr.refl wr).drew
        have gw1 := gw.trans (Gr.refl wr).drew
        clear c0 hM hx hb gw
        obtain ⟨C1, hC1, iC1⟩ := id h1.q
        obtain ⟨sa, sc, hsv, -, -, -, -⟩ := own_at h1.row
        obtain ⟨ma, mc, hbv, -, -, -, -⟩ := own_at h1.mem
        have hsv' : sv = .slice sa ss.length sc := hsv
        have hbv' : bv = .slice ma p.mem.length mc := hbv
        subst hsv' hbv'
        clear hsv hbv
        have hss' : (j : Int) = (ss.length : Nat) := by omega
        have hr0 := h1.row
        rw [sideP_flat] at hr0
        have nmb : mb ∉ ob (Value.slice sa ss.length sc) := fun z => own_aside h1.row hC1 (by decide) z
        have nbx : w.heap.size ∉ ob (Value.slice sa ss.length sc) := fun z => own_aside h1.row hb1 (by decide) z
        have nmx : w.heap.size ≠ mb := hb1.apart hC1 (by decide)
        have cm1 : wr.drew.cell? ⟨mb, 1, none⟩ = some (.slice ma p.mem.length mc) := h1.mach.1
        have NS := hide (newSide_calls wr.drew mb j ma p.mem.length mc x p.room hr1 hr2 cm1 hx1 hxl)
        refine begin_late 16 [15] (fun w' => Kp (ob (Value.slice sa ss.length sc)) wr.drew w') (by kernel_rfl) rfl ?_
        have hH : Kp (ob (Value.slice sa ss.length sc)) wr.drew wr.drew := Kp.refl _ _
        refine AnyL.pp 0 32 (.pointer (some ⟨mb, 0, none⟩)) rfl rfl (by kernel_rfl) (fun _ _ _ h => h) (fun _ => by go_simp) hH ?_
        simp only [pz, pz0, pzs]
        refine AnyL.pp 1 33 (.pointer (some ⟨mb, 0, none⟩)) rfl rfl (by kernel_rfl) (fun _ _ _ h => h) (fun _ => by go_simp) hH ?_
        simp only [pz, pz0, pzs]
        refine AnyL.pp 2 34 (.pointer (some ⟨mb, 0, none⟩)) rfl rfl (by kernel_rfl) (fun _ _ _ h => h) (fun _ => by go_simp) hH ?_
        simp only [pz, pz0, pzs]
        refine AnyL.pp 3 35 (.pointer (some ⟨mb, 0, none⟩)) rfl rfl (by kernel_rfl) (fun _ _ _ h => h) (fun _ => by go_simp) hH ?_
        simp only [pz, pz0, pzs]
        refine AnyL.tt 4 36 (.slice sa ss.length sc) rfl rfl (by kernel_rfl) (fun _ _ _ h => h) (fun w' hw' => by have c1 := (hC1.kept hw' nmb).cell (o := 0) (v := .slice sa ss.length sc) rfl; go_simp) hH ?_
        simp only [pz, pz0, pzs]
        refine AnyL.pp 5 37 (.pointer (some ⟨mb, 0, none⟩)) rfl rfl (by kernel_rfl) (fun _ _ _ h => h) (fun _ => by go_simp) hH ?_
        simp only [pz, pz0, pzs]
        refine AnyL.pp 6 38 (.int .i64 (j : Int)) rfl rfl (by kernel_rfl) (fun _ _ _ h => h) (fun _ => by go_simp) hH ?_
        simp only [pz, pz0, pzs]
        refine AnyL.pp 7 39 (.slice x.a x.l.length x.c) rfl rfl (by kernel_rfl) (fun _ _ _ h => h) (fun _ => by go_simp) hH ?_
        simp only [pz, pz0, pzs]
        refine AnyL.pp 8 40 (.pointer (some ⟨w.heap.size, 2, none⟩)) rfl rfl (by kernel_rfl) (fun _ _ _ h => h) (fun _ => by go_simp) hH ?_
        simp only [pz, pz0, pzs]
        refine AnyL.tt 9 41 (.int .i64 p.room) rfl rfl (by kernel_rfl) (fun _ _ _ h => h) (fun w' hw' => by have c1 := (hb1.kept hw' nbx).cell (o := 2) (v := .int .i64 p.room) rfl; go_simp) hH ?_
        simp only [pz, pz0, pzs]
        refine AnyL.one 10 (by kernel_rfl) rfl (by kernel_rfl) ?_
        refine wp_call (some 42) rfl _ _ (by kernel_rfl) NS.out ?_
        rintro r u3 ⟨g, cv, ⟨rfl, hB⟩, ⟨hcv, hg⟩, gr⟩
        refine ⟨_, rfl, fun _ => gr.kp _, ?_⟩
        simp only [pz, pz0, pzs]
        refine AnyL.one 11 (by kernel_rfl) rfl (by kernel_rfl) ?_
        refine wp_made (some 43) rfl _ _ (build_sp _ rfl g (by kernel_rfl)) ?_
        refine ⟨fun _ => ((gr.alloc _ _).kp _), ?_⟩
        simp only [pz, pz0, pzs]
        obtain ⟨sv', w', hrn, ho, hgr, hbo⟩ := app_rec (ty := 59) sideP_len sideP_one (T := 59) Tryz.underlying59 infoSp (by decide) (by decide) (by decide) (own_later hr0 gr) (⟨g, cv⟩ : Sk) #[.pointer (some ⟨g, 0, none⟩)] rfl (show ss.length ≤ 99999 by omega) (Nat.zero_le _)
        refine AnyL.one 12 (by kernel_rfl) rfl (by kernel_rfl) ?_
        refine wp_app (some 44) rfl _ _ 59 rfl (.slice sa ss.length sc) _ (by kernel_rfl) rfl sv' w' hrn ?_
        have kg : Kp (ob (Value.slice sa ss.length sc)) u3 w' := (((Gr.refl u3).alloc #[.pointer (some ⟨g, 0, none⟩)] 67).kp _).trans (Kp.grown hgr) (fun _ h => h) (fun _ h => .inl h)
        have kd : Kp (ob (Value.slice sa ss.length sc)) wr.drew w' := (gr.kp _).trans kg (fun _ h => h) (fun _ h => .inl h)
        refine ⟨fun _ => kd, ?_⟩
        simp only [pz, pz0, pzs]
        replace hH := kd
        refine AnyL.pp 13 45 (.pointer (some ⟨mb, 0, none⟩)) rfl rfl (by kernel_rfl) (fun _ _ _ h => h) (fun _ => by go_simp) hH ?_
        simp only [pz, pz0, pzs]
        refine AnyL.pp 14 46 (.pointer (some ⟨mb, 0, none⟩)) rfl rfl (by kernel_rfl) (fun _ _ _ h => h) (fun _ => by go_simp) hH ?_
        simp only [pz, pz0, pzs]
        refine AnyL.one 15 (by kernel_rfl) rfl (by kernel_rfl) ?_
        obtain ⟨ad', cap', hve', -, -, -, -⟩ := own_at ho
        have cy := (hC1.kept kd nmb).cell (o := 0) (v := .slice sa ss.length sc) rfl
        refine wp_store_sp rfl _ _ rfl mb 0 (by kernel_rfl) ad' _ cap' hve' _ _ _ cy ((hC1.kept kd nmb).free 0) ?_
        refine ⟨late (by kernel_rfl), ?_⟩
        refine AnyL.done (by kernel_rfl) ?_
        rw [← hve']
        have hroom : ((p.room.toNat : Nat) : Int) = p.room := by omega
        have hB' : Has u3 g (sideA mb ss.length cv th00 (Bf.newC ((p.room.toNat : Nat) : Int)) p.mem.length g) 92 := by rw [hroom, hss]; exact hB
        have hsz := gw1.size
        have hbd := h1.bnd
        have hgn : g ∉ ss.map Sk.g := fun z => by
          obtain ⟨y, hy, rfl⟩ := List.mem_map.1 z
          have := hbd y.g (mem_foot.2 (.inr (.inr (.inr (.inr (.inl ⟨y, hy, rfl⟩))))))
          omega
        have hcvb : ∀ y ∈ ob cv, w.heap.size ≤ y := fun y hy => Nat.le_trans hsz (hcv.lt y (mem_ob.1 hy)).1
        have hgs := gr.size
        have hsvb : ∀ y ∈ ob sv', w.heap.size ≤ y := fun y hy => by
          rw [mem_ob] at hy
          rcases hbo with z | z
          · exact hF y (mem_foot.2 (.inr (.inl (by rw [mem_ob, ← hy, z]))))
          · rw [z] at hy
            have : u3.heap.size + 1 = y := by simpa using hy
            omega
        have ho' : w'.ownsRow 0 67 1 sv' (ss ++ [(⟨g, cv⟩ : Sk)]).length ((ss ++ [(⟨g, cv⟩ : Sk)]).map fun x => .pointer (some ⟨x.g, 0, none⟩)) := by rw [sideP_flat]; exact ho
        have h4 := Mw.push (h1.later gr) (x := ⟨g, cv⟩) (l := x.l) hB' (own_lower hcv (Nat.zero_le _)) hx1.ins hgn ⟨show (0 : Nat) ≠ g by omega, fun z => by have := hcvb 0 z; omega⟩ (show ss.length < 8 by omega) (show p.room.toNat ≤ 16 by omega) kg ho' (fun z => by have := hsvb 0 z; omega)
        have kf := kd.trans (Kp.setCell w' mb 0 sv') (f := mb :: ob (Value.slice sa ss.length sc)) (fun y hy => List.mem_cons_of_mem _ hy) (fun y hy => .inl (by rw [show y = mb by simpa using hy]; exact List.mem_cons_self))
        have gf := Kp.gr gw1 kf (fun y hy => by
          rcases List.mem_cons.1 hy with rfl | hy
          · exact hgz
          · exact hF y (mem_foot.2 (.inr (.inl hy))))
        have bf := hb1.kept kf (fun z => by
          rcases List.mem_cons.1 z with z | z
          · exact nmx z
          · exact nbx z)
        have hF' : ∀ y ∈ (⟨mb, sv', .slice ma p.mem.length mc, p.mem.length, ss ++ [⟨g, cv⟩]⟩ : Mk).foot (.slice none 0 0), w.heap.size ≤ y := by
          intro y hy
          rcases mem_foot.1 hy with e | e | e | e | ⟨z, hz, e⟩ | ⟨z, hz, e⟩
          · rw [e]; exact hgz
          · exact hsvb y e
          · exact hF y (mem_foot.2 (.inr (.inr (.inl e))))
          · simp [ob, Value.ownBlock] at e
          · rcases List.mem_append.1 hz with hz | hz
            · exact hF y (mem_foot.2 (.inr (.inr (.inr (.inr (.inl ⟨z, hz, e⟩))))))
            · rw [show z = ⟨g, cv⟩ by simpa using hz] at e
              have e' : g = y := e
              omega
          · rcases List.mem_append.1 hz with hz | hz
            · exact hF y (mem_foot.2 (.inr (.inr (.inr (.inr (.inr ⟨z, hz, e⟩))))))
            · rw [show z = ⟨g, cv⟩ by simpa using hz] at e
              exact hcvb y e
        have I1 : Hid (NewI p w mb (j + 1) (w'.setCell ⟨mb, 0, none⟩ sv')) := ⟨sv', .slice ma p.mem.length mc, ss ++ [⟨g, cv⟩], ⟨by rw [HS.out]; exact h4, by simp [hss]⟩, hF', gf⟩
        have HBF := hide bf
        clear hB hB' hgn hcvb hsvb ho' h4 kf gf bf hF' hrn ho hgr hbo kg kd hH cy hcv hr0 h1 hx1 hb1 gw1 hC1 iC1 cm1 NS hF hve'
        generalize w'.setCell ⟨mb, 0, none⟩ sv' = wz at I1 HBF ⊢
        go_wp2_with (fail)
        exact ⟨⟨j + 1, by omega, by go_num, I1.out, HBF.out⟩, by simp [intOf]; omega⟩
      · have hj' : j = p.codes.length := by omega
        subst hj'
        have e0 : newJ p p.codes.length = newM p := by unfold newJ newM; rw [List.take_length]
        rw [e0] at hM
        have HM := hide hM
        have HG := hide gw
        clear hM hb gw
        go_wp2_with (fail)
        exact bodyPost_ret (results_tmp2 rfl _ _ _) rfl (.inl ⟨HE.out, _, _, ⟨rfl, HM.out, rfl⟩, hF, HG.out⟩)
  · have HE := hide he
    have he' : ((chkM p).2.2 == 0) = false := by simpa using he
    go_wp2_with (fail)
    exact bodyPost_ret (results_tmp2 rfl _ _ _) rfl (.inr ⟨HE.out, rfl, gu⟩)
set_option maxHeartbeats 1000000 in
theorem pick_does (k : Mk) (s : Ms) (kind who : Int) (hq : 1000 ≤ s.fuel) (hc : ∀ i, (s.side i).code.length ≤ 100000) (w : World) :
    Does (MI k) s w 9 #[.pointer (some ⟨k.mb, 0, none⟩), .agg #[.int .i64 kind, .int .i64 who]] (.tuple #[]) (s.pick k.N kind who) := by
  rintro F ⟨e, h, rfl⟩
  have ga := (Gr.refl w).alloc #[.int .i64 kind, .int .i64 who] 28
  have hb := Has.new w #[.int .i64 kind, .int .i64 who] 28
  have HH := hide h
  have HHAS := hide (has_calls (h.later ga) who)
  cases hh : hasB s who with
  | false =>
    have HR : Hid (s.pick k.N kind who = s) := by
      show _ = _
      unfold Ms.pick
      rw [if_neg]
      intro hx
      simp [hasB, hx.1, hx.2] at hh
    rw [HR.out]
    rw [hh] at HHAS
    have c1 := hb.cell (o := 1) rfl
    clear h HR hh
    go_enter Tryz.func9, Tryz.ntmps9
    go_wp2_with (fail)
    change Calls _ _ _ (w.alloc (.cells #[.int .i64 kind, .int .i64 who] 28)) _
    generalize w.alloc (.cells #[.int .i64 kind, .int .i64 who] 28) = w1 at HHAS c1 hb ga ⊢
    refine HHAS.out.mono ?_
    rintro r u ⟨rfl, g2⟩
    have HP := hide (mi_same HH.out (ga.trans g2))
    go_wp2_with (fail)
    exact bodyPost_ret (results_none rfl _ _ _) rfl ⟨rfl, HP.out⟩
  | true =>
    rw [hh] at HHAS
    have hwho : 0 ≤ who ∧ who < s.sides.length := by simpa [hasB] using hh
    obtain ⟨n, rfl⟩ := nat_of hwho.1
    obtain ⟨y, hy⟩ : ∃ y, k.ss[n]? = some y := ⟨_, List.getElem?_eq_getElem (by rw [h.len]; omega)⟩
    have HY := hide hy
    have hn1 : (n : Int) < k.ss.length := by rw [h.len]; omega
    have hn0 : ¬ (n : Int) < 0 := by omega
    clear h hh
    go_enter Tryz.func9, Tryz.ntmps9
    go_wp2_with (fail)
    change Calls _ _ _ (w.alloc (.cells #[.int .i64 kind, .int .i64 (n : Int)] 28)) _
    generalize w.alloc (.cells #[.int .i64 kind, .int .i64 (n : Int)] 28) = w1 at HHAS hb ga ⊢
    refine HHAS.out.mono ?_
    rintro r u ⟨rfl, g2⟩
    have h2 := HH.out.later (ga.trans g2)
    have hb2 := hb.later g2
    have c0 := hb2.cell (o := 0) (v := .int .i64 kind) rfl
    have c1 := hb2.cell (o := 1) (v := .int .i64 (n : Int)) rfl
    obtain ⟨bs, cs, hsv, hcs⟩ := h2.sideAt hy
    have cm := h2.mach.2.1
    rw [hsv] at cm
    have GG := hide (ga.trans g2)
    have HB2 := hide hb2
    clear hb hb2 h2 ga g2 hsv hy
    go_upto_region 2 with (fail)
    go_quiet (fail)
    have GU := GG.out.drewN nq
    have c0' : (u.drewN nq).cell? ⟨w.heap.size, 0, none⟩ = some (.int .i64 kind) := c0
    have hpk : s.pick k.N kind (n : Int) = if kind = 0 then s.step k.N n else if kind = 1 then s.flush n else if kind = 2 then s.rouse n else s := by
      unfold Ms.pick
      rw [if_pos hwho]
      rfl
    have HPK := hide hpk
    have P0 := hide (mi_same HH.out GU)
    have hev : s.evs.length ≤ 95000 := fuel_evs (by omega)
    clear c0 c1 hcs cm GG HB2 GU hpk
    generalize u.drewN nq = u2 at c0' P0 ⊢
    by_cases k0 : kind = 0
    · subst k0
      have HR : Hid (s.pick k.N 0 n = s.step k.N n) := by show _ = _; rw [HPK.out, if_pos rfl]
      clear HPK
      have HD := hide (step_does k n y HY.out s hq (hc n) u2)
      go_wp2_with (fail)
      refine (HD.out.go P0.out).mono ?_
      rintro r u3 ⟨⟨rfl, -⟩, p1⟩
      have PQ := hide p1
      clear p1 c0'
      go_wp2_with (fail)
      go_end0
      exact ⟨rfl, by rw [HR.out]; exact PQ.out⟩
    · have k0' : (kind == 0) = false := by simpa using k0
      by_cases k1 : kind = 1
      · subst k1
        have HR : Hid (s.pick k.N 1 n = s.flush n) := by show _ = _; rw [HPK.out, if_neg (by decide), if_pos rfl]
        clear HPK
        have HD := hide (flush_does k n y HY.out s hev u2)
        go_wp2_with (fail)
        refine (HD.out.go P0.out).mono ?_
        rintro r u3 ⟨⟨rfl, -⟩, p1⟩
        have PQ := hide p1
        clear p1 c0'
        go_wp2_with (fail)
        go_end0
        exact ⟨rfl, by rw [HR.out]; exact PQ.out⟩
      · have k1' : (kind == 1) = false := by simpa using k1
        by_cases k2 : kind = 2
        · subst k2
          have HR : Hid (s.pick k.N 2 n = s.rouse n) := by show _ = _; rw [HPK.out, if_neg (by decide), if_neg (by decide), if_pos rfl]
          clear HPK
          have HD := hide (rouse_does k n y HY.out s hev u2)
          go_wp2_with (fail)
          refine (HD.out.go P0.out).mono ?_
          rintro r u3 ⟨⟨rfl, -⟩, p1⟩
          have PQ := hide p1
          clear p1 c0'
          go_wp2_with (fail)
          go_end0
          exact ⟨rfl, by rw [HR.out]; exact PQ.out⟩
        · have k2' : (kind == 2) = false := by simpa using k2
          have HR : Hid (s.pick k.N kind n = s) := by show _ = _; rw [HPK.out, if_neg k0, if_neg k1, if_neg k2]
          clear HPK
          go_wp2_with (fail)
          go_end0
          exact ⟨rfl, by rw [HR.out]; exact P0.out⟩
theorem fuel_few {s : Ms} (h : s.okB = true) (he : s.evs.length ≤ 94000) : 1000 ≤ s.fuel := by
  unfold Ms.fuel
  rw [if_pos h]
  omega
set_option maxHeartbeats 1000000 in
theorem run_does (k : Mk) (P : Ms → Prop) (hP : ∀ s e w kind who, Mw k s e w → P s → P (s.pick k.N kind who)) (l : List Ent) (a : Option Addr) (c : Nat) (hl : l.length ≤ 600) (s : Ms) (hs : P s) (he : s.evs.length ≤ 10000) (hc : Short s) (w : World) (F : List Nat) (hI : MI k F s w)
    (hrow : RowAt w a (flatOf slpL l)) (hout : ∀ y, a = some y → 0 < l.length → y.block ∉ F) :
    Calls Tryz.prog 7 #[.pointer (some ⟨k.mb, 0, none⟩), .slice a l.length c] w fun r w' => (r = .returned (.tuple #[]) ∧ Pst (MI k) F w [] (s.run k.N l) w') ∧ P (s.run k.N l) ∧ (s.run k.N l).evs.length ≤ 10000 + 130 * l.length := by
  have p0 := Pst.start (mi_inv k) hI
  have HT := hide (fun j h => run_snoc s k.N l j h)
  have HP := hide hP
  have hs0 : P (s.run k.N (l.take 0)) := hs
  have hc0 : Short (s.run k.N (l.take 0)) := hc
  have he0 : (s.run k.N (l.take 0)).evs.length ≤ 10000 + 130 * 0 := he
  have p00 : Pst (MI k) F w [] (s.run k.N (l.take 0)) w := p0
  clear hI p0 hP hs hc he
  go_enter Tryz.func7, Tryz.ntmps7
  go_wp2_with (fail)
  go_loopw [8] (fun v wr => ∃ j : Nat, j ≤ l.length ∧ v = .int .i64 j ∧ Pst (MI k) F w [] (s.run k.N (l.take j)) wr ∧ P (s.run k.N (l.take j)) ∧ Short (s.run k.N (l.take j)) ∧ (s.run k.N (l.take j)).evs.length ≤ 10000 + 130 * j) (fun v _ => l.length - (intOf v).toNat)
  case atStart => exact ⟨0, by omega, rfl, p00, hs0, hc0, he0⟩
  case round =>
    clear p00 hs0 hc0 he0
    obtain ⟨j, hj, rfl, p, hs, hc, he⟩ := hrel
    by_cases hlt : j < l.length
    · have hlt' : (j : Int) < l.length := by omega
      have rw1 : RowAt wr a (flatOf slpL l) := by
        obtain ⟨F', -, kp, -⟩ := p
        exact hrow.kept kp fun y hy => hout y hy (by omega)
      obtain ⟨b, off, had, -⟩ := rw1.get (by rw [flatOf_length slpL_len]; omega)
      subst had
      have c0 := rw1.cell slpL_len hlt ent0 0 (by omega)
      have c1 := rw1.cell slpL_len hlt ent0 1 (by omega)
      have HS := hide (HT.out j hlt)
      generalize l.getD j ent0 = x at c0 c1 HS
      simp only [slpL, List.getElem?_cons_zero, List.getElem?_cons_succ, Nat.add_zero, ← Nat.add_assoc] at c0 c1
      generalize s.run k.N (l.take j) = sj at p hs hc he HS
      obtain ⟨e1, h1⟩ := Pst.mw p
      have hf := fuel_few h1.ok (by omega)
      have HD := hide (fun wx => pick_does k sj x.a x.v hf hc wx)
      have hp1 := HP.out sj e1 wr x.a x.v h1 hs
      have hc1 := short_pick hc k.N x.a x.v
      have he1 := evs_pick (n := k.N) h1.ok x.a x.v
      have PP := hide p
      have G1 := (Gr.refl wr).alloc #[.int .i64 x.a, .int .i64 x.v] 28
      clear p rw1 h1 hs hf hc
      go_wp2_with (fail)
      refine ((HD.out _).go (PP.out.gr (mi_inv k) G1)).mono ?_
      rintro r u ⟨⟨rfl, -⟩, p1⟩
      have PQ := hide p1
      clear p1 c0 c1 G1 HD
      go_wp2_with (fail)
      exact ⟨⟨j + 1, by omega, by go_num, by rw [HS.out]; exact PQ.out, by rw [HS.out]; exact hp1, by rw [HS.out]; exact hc1, by rw [HS.out]; omega⟩, by simp [intOf]; omega⟩
    · have hj' : j = l.length := by omega
      subst hj'
      rw [List.take_length] at p hs he
      have PP := hide p
      clear p
      go_wp2_with (fail)
      go_end0
      exact ⟨⟨rfl, PP.out⟩, hs, he⟩
end Go.Proofs.YtfhplbmgjgfihaaGreatDoor.Mc
