/-
  A thread is running again; what rouse of a side does. No condition but what each law names.
-/
import Derived.Test.YthbenfnanhpcoaaGreatDoorZtbdMchG
namespace Go.Proofs.YthbenfnanhpcoaaGreatDoor.Mc
open Go.ChangeShapes Go.WideShapes Go.ChangeAt Go.RowKit
set_option linter.unusedVariables false
set_option maxRecDepth 20000

theorem side_is {mb i : Nat} {cv : Value} {t : Th} {B : Array Value} {z : Int} {g : Nat} (h : ThOk t) (st : Int) : (sideA mb i cv t B z g).setIfInBounds 12 (.int .i64 st) = sideA mb i cv (t.is st) B z g := by
  simp [sideA, sideL, thL, Th.is, h.len]
/-- a side's thread is running -/
theorem Mw.rise {k : Mk} {s : Ms} {e : Value} {w : World} (h : Mw k s e w) {i : Nat} {x : Sk} (hx : k.ss[i]? = some x) :
    Mw k (s.rise i) e (w.setCell ⟨x.g, 12, none⟩ (.int .i64 0)) ∧ Kp [x.g] w (w.setCell ⟨x.g, 12, none⟩ (.int .i64 0)) := by
  obtain ⟨B, sr, iB⟩ := h.sr hx
  have q := Kp.setCell w x.g 12 (.int .i64 0)
  have e1 : s.rise i = s.setS i ⟨(s.side i).code, (s.side i).t.is 0, (s.side i).buf⟩ := by simp [Ms.rise, Ms.setT]
  rw [e1]
  exact ⟨h.setS hx q (B := B) (d := ⟨(s.side i).code, (s.side i).t.is 0, (s.side i).buf⟩) ((sr.has.set 12 (.int .i64 0)).of (side_is sr.th 0)) iB rfl ⟨sr.th.len, sr.th.u32⟩ (h.side i x hx).ent, q⟩
theorem rouse_ok {l : List Ent} (h : Kn.Ok l) (who : Int) : Kn.Ok (Kq.rouseL who l) :=
  ⟨List.Nodup.sublist (List.Sublist.map _ List.filter_sublist) h.1, fun x hx => h.2 x (List.mem_filter.1 hx).1⟩
theorem rouse_no {l : List Ent} {who : Int} (h : ¬ Kn.idx who l < l.length) : Kq.rouseL who l = l := by
  unfold Kq.rouseL
  rw [List.filter_eq_self]
  intro x hx
  simpa using Kn.idx_none h x hx
theorem thL_st {t : Th} (h : ThOk t) : (thL t)[9]? = some (.int .i64 t.st) := by
  simp [thL, h.len]
theorem rouse_few {l : List Ent} {n : Int} (h : ∀ x ∈ l, x.a < n) (who : Int) : ∀ x ∈ Kq.rouseL who l, x.a < n := fun x hx => h x (List.mem_filter.1 hx).1

set_option maxHeartbeats 1000000 in
theorem rouse_does (k : Mk) (i : Nat) (x : Sk) (hx : k.ss[i]? = some x) (s : Ms) (hq : s.evs.length ≤ 95000) (w : World) :
    Does (MI k) s w 41 #[.pointer (some ⟨x.g, 0, none⟩)] (.tuple #[]) (s.rouse i) := by
  rintro F ⟨e, h, rfl⟩
  have h1 := h.later (Gr.refl w).drew
  obtain ⟨B, sr, -⟩ := h1.sr hx
  have HH := hide h
  have H1 := hide h1
  have c0 := sr.c0
  have c1 := sr.c1
  clear h h1 sr
  by_cases hi : Kn.idx i s.slp < s.slp.length
  · have HF : Hid (s.rouse i = ((s.setQ (Kq.rouseL i s.slp)).rise i).note i ⟨11, 0, 0, 0, 0, 0, 0, false⟩) := by show s.rouse i = _; unfold Ms.rouse; rw [if_pos hi]
    rw [HF.out]
    have HI := hide (show decide (Kn.idx i s.slp < s.slp.length) = true by simpa using hi)
    clear hi HF
    go_enter Tryz.func41, Tryz.ntmps41
    go_wp2_with (fail)
    refine begin_late 12 [10, 11] (fun w' => w' = w.drew) (by kernel_rfl) rfl ?_
    have hH : w.drew = w.drew := rfl
    refine AnyL.takeP 0 (some 2) (.pointer (some ⟨x.g, 0, none⟩)) rfl rfl (by kernel_rfl) (by kernel_rfl) (by kernel_rfl) (by kernel_rfl) (fun _ _ _ h => h) (by kernel_rfl) (fun w' => by go_simp) (fun _ => hH) ?_
    simp only [Act.put, List.setIfInBounds_toArray, List.set_cons_zero, List.set_cons_succ]
    refine AnyL.takeP 1 (some 3) (.pointer (some ⟨x.g, 0, none⟩)) rfl rfl (by kernel_rfl) (by kernel_rfl) (by kernel_rfl) (by kernel_rfl) (fun _ _ _ h => h) (by kernel_rfl) (fun w' => by go_simp) (fun _ => hH) ?_
    simp only [Act.put, List.setIfInBounds_toArray, List.set_cons_zero, List.set_cons_succ]
    refine AnyL.takeP 2 (some 4) (.pointer (some ⟨x.g, 0, none⟩)) rfl rfl (by kernel_rfl) (by kernel_rfl) (by kernel_rfl) (by kernel_rfl) (fun _ _ _ h => h) (by kernel_rfl) (fun w' => by go_simp) (fun _ => hH) ?_
    simp only [Act.put, List.setIfInBounds_toArray, List.set_cons_zero, List.set_cons_succ]
    refine AnyL.take 3 (some 5) (.pointer (some ⟨k.mb, 0, none⟩)) rfl rfl (by kernel_rfl) (by kernel_rfl) (by kernel_rfl) (by kernel_rfl) (fun _ _ _ h => h) (yields_held _ (by kernel_rfl) (fun w' hw' => by subst hw'; go_simp)) hH ?_
    simp only [Act.put, List.setIfInBounds_toArray, List.set_cons_zero, List.set_cons_succ]
    refine AnyL.takeP 4 (some 6) (.pointer (some ⟨k.mb, 0, none⟩)) rfl rfl (by kernel_rfl) (by kernel_rfl) (by kernel_rfl) (by kernel_rfl) (fun _ _ _ h => h) (by kernel_rfl) (fun w' => by go_simp) (fun _ => hH) ?_
    simp only [Act.put, List.setIfInBounds_toArray, List.set_cons_zero, List.set_cons_succ]
    refine AnyL.takeP 5 (some 7) (.pointer (some ⟨k.mb, 2, none⟩)) rfl rfl (by kernel_rfl) (by kernel_rfl) (by kernel_rfl) (by kernel_rfl) (fun _ _ _ h => h) (by kernel_rfl) (fun w' => by go_simp) (fun _ => hH) ?_
    simp only [Act.put, List.setIfInBounds_toArray, List.set_cons_zero, List.set_cons_succ]
    refine AnyL.takeP 6 (some 8) (.pointer (some ⟨x.g, 0, none⟩)) rfl rfl (by kernel_rfl) (by kernel_rfl) (by kernel_rfl) (by kernel_rfl) (fun _ _ _ h => h) (by kernel_rfl) (fun w' => by go_simp) (fun _ => hH) ?_
    simp only [Act.put, List.setIfInBounds_toArray, List.set_cons_zero, List.set_cons_succ]
    refine AnyL.takeP 7 (some 9) (.pointer (some ⟨x.g, 0, none⟩)) rfl rfl (by kernel_rfl) (by kernel_rfl) (by kernel_rfl) (by kernel_rfl) (fun _ _ _ h => h) (by kernel_rfl) (fun w' => by go_simp) (fun _ => hH) ?_
    simp only [Act.put, List.setIfInBounds_toArray, List.set_cons_zero, List.set_cons_succ]
    refine AnyL.takeP 8 (some 10) (.pointer (some ⟨x.g, 1, none⟩)) rfl rfl (by kernel_rfl) (by kernel_rfl) (by kernel_rfl) (by kernel_rfl) (fun _ _ _ h => h) (by kernel_rfl) (fun w' => by go_simp) (fun _ => hH) ?_
    simp only [Act.put, List.setIfInBounds_toArray, List.set_cons_zero, List.set_cons_succ]
    refine AnyL.take 9 (some 11) (.int .i64 i) rfl rfl (by kernel_rfl) (by kernel_rfl) (by kernel_rfl) (by kernel_rfl) (fun _ _ _ h => h) (yields_held _ (by kernel_rfl) (fun w' hw' => by subst hw'; go_simp)) hH ?_
    simp only [Act.put, List.setIfInBounds_toArray, List.set_cons_zero, List.set_cons_succ]
    refine AnyL.one 10 (by kernel_rfl) rfl (by kernel_rfl) ?_
    have HC := Kq.rouse_calls H1.out.q (i : Int)
    rw [HI.out] at HC
    refine wp_call (some 12) rfl _ _ (by kernel_rfl) HC ?_
    rintro r u ⟨⟨rfl, k2⟩, q2⟩
    refine ⟨_, rfl, late (by kernel_rfl), ?_⟩
    refine AnyL.one 11 (by kernel_rfl) rfl (by kernel_rfl) ?_
    refine wp_value (some 13) rfl (.bool false) (by go_simp) ?_
    refine ⟨late (by kernel_rfl), ?_⟩
    refine AnyL.done (by kernel_rfl) ?_
    have h2 := H1.out.setQ k2 q2 (rouse_ok H1.out.slp (i : Int)) (rouse_few H1.out.few (i : Int))
    have q3 := ((Gr.refl w).drew.kp (k.foot e)).trans k2 (fun _ h => h) (fun y hy => .inl (mem_foot.2 (.inl (by simpa using hy))))
    obtain ⟨h4, k4⟩ := h2.rise hx
    have hp := mi_post HH.out h4 (q3.trans (kp_side h2 hx k4) (fun _ h => h) (fun _ h => .inl h)) foot_evs
    have hq4 : ((s.setQ (Kq.rouseL i s.slp)).rise i).evs.length ≤ 95000 := hq
    have HN := fun u => note_does k i x hx ((s.setQ (Kq.rouseL i s.slp)).rise i) ⟨11, 0, 0, 0, 0, 0, 0, false⟩ hq4 u
    obtain ⟨B2, sr2, -⟩ := h2.sr hx
    have cx : u.cell? ⟨x.g, 12, none⟩ = some (.int .i64 (s.side i).t.st) :=
      sr2.has.cell ((side_th sr2.th (j := 9) (by decide)).trans (thL_st sr2.th))
    have fx := sr2.has.free 12
    clear HC k2 q2 c0 c1 h2 q3 hH h4 k4 sr2 hq4
    go_upto_region 2 with (fail)
    change Code.wp _ _ _ _ (u.setCell ⟨x.g, 12, none⟩ (.int .i64 0))
    clear cx fx
    generalize u.setCell ⟨x.g, 12, none⟩ (.int .i64 0) = u4 at hp ⊢
    go_wp2_with (fail)
    refine ((HN _).go hp).mono ?_
    rintro r u5 ⟨⟨rfl, -⟩, hp5⟩
    have HP := hide hp5
    clear hp5 hp HN
    go_wp2_with (fail)
    go_end0
    exact ⟨rfl, HP.out⟩
  · have HF : Hid (s.rouse i = s) := by show s.rouse i = s; unfold Ms.rouse; rw [if_neg hi]
    rw [HF.out]
    have HI := hide (show decide (Kn.idx i s.slp < s.slp.length) = false by simpa using hi)
    clear hi HF
    go_enter Tryz.func41, Tryz.ntmps41
    go_wp2_with (fail)
    refine begin_late 12 [10, 11] (fun w' => w' = w.drew) (by kernel_rfl) rfl ?_
    have hH : w.drew = w.drew := rfl
    refine AnyL.takeP 0 (some 2) (.pointer (some ⟨x.g, 0, none⟩)) rfl rfl (by kernel_rfl) (by kernel_rfl) (by kernel_rfl) (by kernel_rfl) (fun _ _ _ h => h) (by kernel_rfl) (fun w' => by go_simp) (fun _ => hH) ?_
    simp only [Act.put, List.setIfInBounds_toArray, List.set_cons_zero, List.set_cons_succ]
    refine AnyL.takeP 1 (some 3) (.pointer (some ⟨x.g, 0, none⟩)) rfl rfl (by kernel_rfl) (by kernel_rfl) (by kernel_rfl) (by kernel_rfl) (fun _ _ _ h => h) (by kernel_rfl) (fun w' => by go_simp) (fun _ => hH) ?_
    simp only [Act.put, List.setIfInBounds_toArray, List.set_cons_zero, List.set_cons_succ]
    refine AnyL.takeP 2 (some 4) (.pointer (some ⟨x.g, 0, none⟩)) rfl rfl (by kernel_rfl) (by kernel_rfl) (by kernel_rfl) (by kernel_rfl) (fun _ _ _ h => h) (by kernel_rfl) (fun w' => by go_simp) (fun _ => hH) ?_
    simp only [Act.put, List.setIfInBounds_toArray, List.set_cons_zero, List.set_cons_succ]
    refine AnyL.take 3 (some 5) (.pointer (some ⟨k.mb, 0, none⟩)) rfl rfl (by kernel_rfl) (by kernel_rfl) (by kernel_rfl) (by kernel_rfl) (fun _ _ _ h => h) (yields_held _ (by kernel_rfl) (fun w' hw' => by subst hw'; go_simp)) hH ?_
    simp only [Act.put, List.setIfInBounds_toArray, List.set_cons_zero, List.set_cons_succ]
    refine AnyL.takeP 4 (some 6) (.pointer (some ⟨k.mb, 0, none⟩)) rfl rfl (by kernel_rfl) (by kernel_rfl) (by kernel_rfl) (by kernel_rfl) (fun _ _ _ h => h) (by kernel_rfl) (fun w' => by go_simp) (fun _ => hH) ?_
    simp only [Act.put, List.setIfInBounds_toArray, List.set_cons_zero, List.set_cons_succ]
    refine AnyL.takeP 5 (some 7) (.pointer (some ⟨k.mb, 2, none⟩)) rfl rfl (by kernel_rfl) (by kernel_rfl) (by kernel_rfl) (by kernel_rfl) (fun _ _ _ h => h) (by kernel_rfl) (fun w' => by go_simp) (fun _ => hH) ?_
    simp only [Act.put, List.setIfInBounds_toArray, List.set_cons_zero, List.set_cons_succ]
    refine AnyL.takeP 6 (some 8) (.pointer (some ⟨x.g, 0, none⟩)) rfl rfl (by kernel_rfl) (by kernel_rfl) (by kernel_rfl) (by kernel_rfl) (fun _ _ _ h => h) (by kernel_rfl) (fun w' => by go_simp) (fun _ => hH) ?_
    simp only [Act.put, List.setIfInBounds_toArray, List.set_cons_zero, List.set_cons_succ]
    refine AnyL.takeP 7 (some 9) (.pointer (some ⟨x.g, 0, none⟩)) rfl rfl (by kernel_rfl) (by kernel_rfl) (by kernel_rfl) (by kernel_rfl) (fun _ _ _ h => h) (by kernel_rfl) (fun w' => by go_simp) (fun _ => hH) ?_
    simp only [Act.put, List.setIfInBounds_toArray, List.set_cons_zero, List.set_cons_succ]
    refine AnyL.takeP 8 (some 10) (.pointer (some ⟨x.g, 1, none⟩)) rfl rfl (by kernel_rfl) (by kernel_rfl) (by kernel_rfl) (by kernel_rfl) (fun _ _ _ h => h) (by kernel_rfl) (fun w' => by go_simp) (fun _ => hH) ?_
    simp only [Act.put, List.setIfInBounds_toArray, List.set_cons_zero, List.set_cons_succ]
    refine AnyL.take 9 (some 11) (.int .i64 i) rfl rfl (by kernel_rfl) (by kernel_rfl) (by kernel_rfl) (by kernel_rfl) (fun _ _ _ h => h) (yields_held _ (by kernel_rfl) (fun w' hw' => by subst hw'; go_simp)) hH ?_
    simp only [Act.put, List.setIfInBounds_toArray, List.set_cons_zero, List.set_cons_succ]
    refine AnyL.one 10 (by kernel_rfl) rfl (by kernel_rfl) ?_
    have HC := Kq.rouse_calls H1.out.q (i : Int)
    rw [HI.out] at HC
    refine wp_call (some 12) rfl _ _ (by kernel_rfl) HC ?_
    rintro r u ⟨⟨rfl, k2⟩, q2⟩
    refine ⟨_, rfl, late (by kernel_rfl), ?_⟩
    refine AnyL.one 11 (by kernel_rfl) rfl (by kernel_rfl) ?_
    refine wp_value (some 13) rfl (.bool true) (by go_simp) ?_
    refine ⟨late (by kernel_rfl), ?_⟩
    refine AnyL.done (by kernel_rfl) ?_
    have h2 := H1.out.setQ k2 q2 (rouse_ok H1.out.slp (i : Int)) (rouse_few H1.out.few (i : Int))
    have q3 := ((Gr.refl w).drew.kp (k.foot e)).trans k2 (fun _ h => h) (fun y hy => .inl (mem_foot.2 (.inl (by simpa using hy))))
    have HL : Hid (Kq.rouseL i s.slp = s.slp) := by
      show Kq.rouseL i s.slp = s.slp
      exact rouse_no (by simpa using HI.out)
    rw [HL.out] at h2
    have HP := hide (mi_post HH.out h2 q3 foot_evs)
    clear HC k2 q2 c0 c1 h2 q3 hH
    go_wp2_with (fail)
    exact bodyPost_ret (results_none rfl _ _ _) rfl ⟨rfl, HP.out⟩
end Go.Proofs.YthbenfnanhpcoaaGreatDoor.Mc
