/-
  A thread is running again; what rouse of a side does. No condition but what each law names.
-/
import Derived.Test.YthbenfnanhpcoaaGreatDoorZzav
import Derived.Test.YthbenfnanhpcoaaGreatDoorZzbf
import Derived.Test.YthbenfnanhpcoaaGreatDoorZzaw
namespace Go.Proofs.YthbenfnanhpcoaaGreatDoor.Sc
open Go.Proofs.YthbenfnanhpcoaaGreatDoor.Mc Go.ChangeShapes Go.WideShapes Go.ChangeAt Go.RowKit
set_option linter.unusedVariables false
set_option maxRecDepth 20000

theorem side_is {mb i : Nat} {cv : Value} {t : Th} {B : Array Value} {z : Int} {g : Nat} (h : ThOk t) (st : Int) : (sideA mb i cv t B z g).setIfInBounds 12 (.int .i64 st) = sideA mb i cv (t.is st) B z g := by
  simp [sideA, sideL, thL, Th.is, h.len]
/-- a side's thread is running -/
theorem Mw.rise {k : Mk} {s : Ms} {e : Value} {w : World} (h : Mw k s e w) {i : Nat} {x : Sk} (hx : k.ss[i]? = some x) :
    Mw k (s.rise i) e (w.setCell ⟨x.g, 12, none⟩ (.int .i64 0)) ∧ Kp [x.g] w (w.setCell ⟨x.g, 12, none⟩ (.int .i64 0)) := by
  obtain ⟨B, sr, iB⟩ := h.sr hx
  have q := Kp.setCell w x.g 12 (.int .i64 0)
  have e1 : s.rise i = s.setS i ⟨(s.side i).code, (s.side i).t.is 0, (s.side i).buf⟩ := by simp [Ms.rise, Ms.setT]
  rw [e1]
  exact ⟨h.setS hx q (B := B) (d := ⟨(s.side i).code, (s.side i).t.is 0, (s.side i).buf⟩) ((sr.has.set 12 (.int .i64 0)).of (side_is sr.th 0)) iB rfl ⟨sr.th.len, sr.th.u32⟩ (h.side i x hx).ent, q⟩
set_option maxHeartbeats 1000000 in
theorem rouse_does (k : Mk) (i : Nat) (x : Sk) (hx : k.ss[i]? = some x) (s : Ms) (hq : s.evs.length ≤ 95000) (w : World) :
    Does (MI k) s w 47 #[.pointer (some ⟨x.g, 0, none⟩)] (.tuple #[]) (s.rouse i) := by
  rintro F ⟨e, h, rfl⟩
  have h1 := h.later (Gr.refl w).drew
  obtain ⟨B, sr, -⟩ := h1.sr hx
  have HH := hide h
  have H1 := hide h1
  have c0 := sr.c0
  have c1 := sr.c1
  clear h h1 sr
  by_cases hi : Kn.idx i s.slp < s.slp.length
  · have HF : Hid (s.rouse i = ((s.setQ (Kq.rouseL i s.slp)).rise i).note i ⟨11, 0, 0, 0, 0, 0, 0, false⟩) := by show s.rouse i = _; unfold Ms.rouse; rw [if_pos hi]
    rw [HF.out]
    have HI := hide (show decide (Kn.idx i s.slp < s.slp.length) = true by simpa using hi)
    clear hi HF
    go_enter Tryz.func47, Tryz.ntmps47
    go_wp2_with (fail)
    refine begin_late 12 [10, 11] (fun w' => w' = w.drew) (by kernel_rfl) rfl ?_
    have hH : w.drew = w.drew := rfl
    refine AnyL.takeP 0 (some 2) (.pointer (some ⟨x.g, 0, none⟩)) rfl rfl (by kernel_rfl) (by kernel_rfl) (by kernel_rfl) (by kernel_rfl) (fun _ _ _ h => h) (by kernel_rfl) (fun w' => by go_simp) (fun _ => hH) ?_
    simp only [Act.put, List.setIfInBounds_toArray, List.set_cons_zero, List.set_cons_succ]
    refine AnyL.takeP 1 (some 3) (.pointer (some ⟨x.g, 0, none⟩)) rfl rfl (by kernel_rfl) (by kernel_rfl) (by kernel_rfl) (by kernel_rfl) (fun _ _ _ h => h) (by kernel_rfl) (fun w' => by go_simp) (fun _ => hH) ?_
    simp only [Act.put, List.setIfInBounds_toArray, List.set_cons_zero, List.set_cons_succ]
    refine AnyL.takeP 2 (some 4) (.pointer (some ⟨x.g, 0, none⟩)) rfl rfl (by kernel_rfl) (by kernel_rfl) (by kernel_rfl) (by kernel_rfl) (fun _ _ _ h => h) (by kernel_rfl) (fun w' => by go_simp) (fun _ => hH) ?_
    simp only [Act.put, List.setIfInBounds_toArray, List.set_cons_zero, List.set_cons_succ]
    refine AnyL.take 3 (some 5) (.pointer (some ⟨k.mb, 0, none⟩)) rfl rfl (by kernel_rfl) (by kernel_rfl) (by kernel_rfl) (by kernel_rfl) (fun _ _ _ h => h) (yields_held _ (by kernel_rfl) (fun w' hw' => by subst hw'; go_simp)) hH ?_
    simp only [Act.put, List.setIfInBounds_toArray, List.set_cons_zero, List.set_cons_succ]
    refine AnyL.takeP 4 (some 6) (.pointer (some ⟨k.mb, 0, none⟩)) rfl rfl (by kernel_rfl) (by kernel_rfl) (by kernel_rfl) (by kernel_rfl) (fun _ _ _ h => h) (by kernel_rfl) (fun w' => by go_simp) (fun _ => hH) ?_
    simp only [Act.put, List.setIfInBounds_toArray, List.set_cons_zero, List.set_cons_succ]
    refine AnyL.takeP 5 (some 7) (.pointer (some ⟨k.mb, 2, none⟩)) rfl rfl (by kernel_rfl) (by kernel_rfl) (by kernel_rfl) (by kernel_rfl) (fun _ _ _ h => h) (by kernel_rfl) (fun w' => by go_simp) (fun _ => hH) ?_
    simp only [Act.put, List.setIfInBounds_toArray, List.set_cons_zero, List.set_cons_succ]
    refine AnyL.takeP 6 (some 8) (.pointer (some ⟨x.g, 0, none⟩)) rfl rfl (by kernel_rfl) (by kernel_rfl) (by kernel_rfl) (by kernel_rfl) (fun _ _ _ h => h) (by kernel_rfl) (fun w' => by go_simp) (fun _ => hH) ?_
    simp only [Act.put, List.setIfInBounds_toArray, List.set_cons_zero, List.set_cons_succ]
    refine AnyL.takeP 7 (some 9) (.pointer (some ⟨x.g, 0, none⟩)) rfl rfl (by kernel_rfl) (by kernel_rfl) (by kernel_rfl) (by kernel_rfl) (fun _ _ _ h => h) (by kernel_rfl) (fun w' => by go_simp) (fun _ => hH) ?_
    simp only [Act.put, List.setIfInBounds_toArray, List.set_cons_zero, List.set_cons_succ]
    refine AnyL.takeP 8 (some 10) (.pointer (some ⟨x.g, 1, none⟩)) rfl rfl (by kernel_rfl) (by kernel_rfl) (by kernel_rfl) (by kernel_rfl) (fun _ _ _ h => h) (by kernel_rfl) (fun w' => by go_simp) (fun _ => hH) ?_
    simp only [Act.put, List.setIfInBounds_toArray, List.set_cons_zero, List.set_cons_succ]
    refine AnyL.take 9 (some 11) (.int .i64 i) rfl rfl (by kernel_rfl) (by kernel_rfl) (by kernel_rfl) (by kernel_rfl) (fun _ _ _ h => h) (yields_held _ (by kernel_rfl) (fun w' hw' => by subst hw'; go_simp)) hH ?_
    simp only [Act.put, List.setIfInBounds_toArray, List.set_cons_zero, List.set_cons_succ]
    refine AnyL.one 10 (by kernel_rfl) rfl (by kernel_rfl) ?_
    have HC := Ks.rouse_calls H1.out.q (i : Int)
    rw [HI.out] at HC
    refine wp_call (some 12) rfl _ _ (by kernel_rfl) HC ?_
    rintro r u ⟨⟨rfl, k2⟩, q2⟩
    refine ⟨_, rfl, late (by kernel_rfl), ?_⟩
    refine AnyL.one 11 (by kernel_rfl) rfl (by kernel_rfl) ?_
    refine wp_value (some 13) rfl (.bool false) (by go_simp) ?_
    refine ⟨late (by kernel_rfl), ?_⟩
    refine AnyL.done (by kernel_rfl) ?_
    have h2 := H1.out.setQ k2 q2 (rouse_ok H1.out.slp (i : Int)) (rouse_few H1.out.few (i : Int))
    have q3 := ((Gr.refl w).drew.kp (k.foot e)).trans k2 (fun _ h => h) (fun y hy => .inl (mem_foot.2 (.inl (by simpa using hy))))
    obtain ⟨h4, k4⟩ := h2.rise hx
    have hp := mi_post HH.out h4 (q3.trans (kp_side h2 hx k4) (fun _ h => h) (fun _ h => .inl h)) foot_evs
    have hq4 : ((s.setQ (Kq.rouseL i s.slp)).rise i).evs.length ≤ 95000 := hq
    have HN := fun u => note_does k i x hx ((s.setQ (Kq.rouseL i s.slp)).rise i) ⟨11, 0, 0, 0, 0, 0, 0, false⟩ hq4 u
    obtain ⟨B2, sr2, -⟩ := h2.sr hx
    have cx : u.cell? ⟨x.g, 12, none⟩ = some (.int .i64 (s.side i).t.st) :=
      sr2.has.cell ((side_th sr2.th (j := 9) (by decide)).trans (thL_st sr2.th))
    have fx := sr2.has.free 12
    clear HC k2 q2 c0 c1 h2 q3 hH h4 k4 sr2 hq4
    go_upto_region 2 with (fail)
    change Code.wp _ _ _ _ (u.setCell ⟨x.g, 12, none⟩ (.int .i64 0))
    clear cx fx
    generalize u.setCell ⟨x.g, 12, none⟩ (.int .i64 0) = u4 at hp ⊢
    go_wp2_with (fail)
    refine ((HN _).go hp).mono ?_
    rintro r u5 ⟨⟨rfl, -⟩, hp5⟩
    have HP := hide hp5
    clear hp5 hp HN
    go_wp2_with (fail)
    go_end0
    exact ⟨rfl, HP.out⟩
  · have HF : Hid (s.rouse i = s) := by show s.rouse i = s; unfold Ms.rouse; rw [if_neg hi]
    rw [HF.out]
    have HI := hide (show decide (Kn.idx i s.slp < s.slp.length) = false by simpa using hi)
    clear hi HF
    go_enter Tryz.func47, Tryz.ntmps47
    go_wp2_with (fail)
    refine begin_late 12 [10, 11] (fun w' => w' = w.drew) (by kernel_rfl) rfl ?_
    have hH : w.drew = w.drew := rfl
    refine AnyL.takeP 0 (some 2) (.pointer (some ⟨x.g, 0, none⟩)) rfl rfl (by kernel_rfl) (by kernel_rfl) (by kernel_rfl) (by kernel_rfl) (fun _ _ _ h => h) (by kernel_rfl) (fun w' => by go_simp) (fun _ => hH) ?_
    simp only [Act.put, List.setIfInBounds_toArray, List.set_cons_zero, List.set_cons_succ]
    refine AnyL.takeP 1 (some 3) (.pointer (some ⟨x.g, 0, none⟩)) rfl rfl (by kernel_rfl) (by kernel_rfl) (by kernel_rfl) (by kernel_rfl) (fun _ _ _ h => h) (by kernel_rfl) (fun w' => by go_simp) (fun _ => hH) ?_
    simp only [Act.put, List.setIfInBounds_toArray, List.set_cons_zero, List.set_cons_succ]
    refine AnyL.takeP 2 (some 4) (.pointer (some ⟨x.g, 0, none⟩)) rfl rfl (by kernel_rfl) (by kernel_rfl) (by kernel_rfl) (by kernel_rfl) (fun _ _ _ h => h) (by kernel_rfl) (fun w' => by go_simp) (fun _ => hH) ?_
    simp only [Act.put, List.setIfInBounds_toArray, List.set_cons_zero, List.set_cons_succ]
    refine AnyL.take 3 (some 5) (.pointer (some ⟨k.mb, 0, none⟩)) rfl rfl (by kernel_rfl) (by kernel_rfl) (by kernel_rfl) (by kernel_rfl) (fun _ _ _ h => h) (yields_held _ (by kernel_rfl) (fun w' hw' => by subst hw'; go_simp)) hH ?_
    simp only [Act.put, List.setIfInBounds_toArray, List.set_cons_zero, List.set_cons_succ]
    refine AnyL.takeP 4 (some 6) (.pointer (some ⟨k.mb, 0, none⟩)) rfl rfl (by kernel_rfl) (by kernel_rfl) (by kernel_rfl) (by kernel_rfl) (fun _ _ _ h => h) (by kernel_rfl) (fun w' => by go_simp) (fun _ => hH) ?_
    simp only [Act.put, List.setIfInBounds_toArray, List.set_cons_zero, List.set_cons_succ]
    refine AnyL.takeP 5 (some 7) (.pointer (some ⟨k.mb, 2, none⟩)) rfl rfl (by kernel_rfl) (by kernel_rfl) (by kernel_rfl) (by kernel_rfl) (fun _ _ _ h => h) (by kernel_rfl) (fun w' => by go_simp) (fun _ => hH) ?_
    simp only [Act.put, List.setIfInBounds_toArray, List.set_cons_zero, List.set_cons_succ]
    refine AnyL.takeP 6 (some 8) (.pointer (some ⟨x.g, 0, none⟩)) rfl rfl (by kernel_rfl) (by kernel_rfl) (by kernel_rfl) (by kernel_rfl) (fun _ _ _ h => h) (by kernel_rfl) (fun w' => by go_simp) (fun _ => hH) ?_
    simp only [Act.put, List.setIfInBounds_toArray, List.set_cons_zero, List.set_cons_succ]
    refine AnyL.takeP 7 (some 9) (.pointer (some ⟨x.g, 0, none⟩)) rfl rfl (by kernel_rfl) (by kernel_rfl) (by kernel_rfl) (by kernel_rfl) (fun _ _ _ h => h) (by kernel_rfl) (fun w' => by go_simp) (fun _ => hH) ?_
    simp only [Act.put, List.setIfInBounds_toArray, List.set_cons_zero, List.set_cons_succ]
    refine AnyL.takeP 8 (some 10) (.pointer (some ⟨x.g, 1, none⟩)) rfl rfl (by kernel_rfl) (by kernel_rfl) (by kernel_rfl) (by kernel_rfl) (fun _ _ _ h => h) (by kernel_rfl) (fun w' => by go_simp) (fun _ => hH) ?_
    simp only [Act.put, List.setIfInBounds_toArray, List.set_cons_zero, List.set_cons_succ]
    refine AnyL.take 9 (some 11) (.int .i64 i) rfl rfl (by kernel_rfl) (by kernel_rfl) (by kernel_rfl) (by kernel_rfl) (fun _ _ _ h => h) (yields_held _ (by kernel_rfl) (fun w' hw' => by subst hw'; go_simp)) hH ?_
    simp only [Act.put, List.setIfInBounds_toArray, List.set_cons_zero, List.set_cons_succ]
    refine AnyL.one 10 (by kernel_rfl) rfl (by kernel_rfl) ?_
    have HC := Ks.rouse_calls H1.out.q (i : Int)
    rw [HI.out] at HC
    refine wp_call (some 12) rfl _ _ (by kernel_rfl) HC ?_
    rintro r u ⟨⟨rfl, k2⟩, q2⟩
    refine ⟨_, rfl, late (by kernel_rfl), ?_⟩
    refine AnyL.one 11 (by kernel_rfl) rfl (by kernel_rfl) ?_
    refine wp_value (some 13) rfl (.bool true) (by go_simp) ?_
    refine ⟨late (by kernel_rfl), ?_⟩
    refine AnyL.done (by kernel_rfl) ?_
    have h2 := H1.out.setQ k2 q2 (rouse_ok H1.out.slp (i : Int)) (rouse_few H1.out.few (i : Int))
    have q3 := ((Gr.refl w).drew.kp (k.foot e)).trans k2 (fun _ h => h) (fun y hy => .inl (mem_foot.2 (.inl (by simpa using hy))))
    have HL : Hid (Kq.rouseL i s.slp = s.slp) := by
      show Kq.rouseL i s.slp = s.slp
      exact rouse_no (by simpa using HI.out)
    rw [HL.out] at h2
    have HP := hide (mi_post HH.out h2 q3 foot_evs)
    clear HC k2 q2 c0 c1 h2 q3 hH
    go_wp2_with (fail)
    exact bodyPost_ret (results_none rfl _ _ _) rfl ⟨rfl, HP.out⟩
end Go.Proofs.YthbenfnanhpcoaaGreatDoor.Sc

namespace Go.Proofs.YthbenfnanhpcoaaGreatDoor.Sc
open Go.Proofs.YthbenfnanhpcoaaGreatDoor.Mc Go.ChangeShapes Go.WideShapes Go.ChangeAt Go.RowKit
set_option linter.unusedVariables false
set_option maxRecDepth 20000

/-- who is woken is a side -/
theorem Mw.out {k : Mk} {s : Ms} {e : Value} {w : World} (h : Mw k s e w) (m : Int) (n : Nat) {z : Int} (hz : z ∈ (s.sift m n).out) : 0 ≤ z ∧ ∃ x, k.ss[z.toNat]? = some x := by
  rcases sift_out _ _ s.slp ⟨n, [], []⟩ z hz with y | ⟨x, hx, rfl⟩
  · cases y
  · have h0 := (h.slp.2 x hx).1
    have h1 := h.few x hx
    have : x.a.toNat < k.ss.length := by rw [h.len]; omega
    exact ⟨h0, _, List.getElem?_eq_getElem this⟩
/-- where a side's pointer lies -/
theorem Mw.sideAt {k : Mk} {s : Ms} {e : Value} {w : World} (h : Mw k s e w) {j : Nat} {x : Sk} (hx : k.ss[j]? = some x) : ∃ b c, k.sv = .slice (some ⟨b, 0, none⟩) k.ss.length c ∧ w.cell? ⟨b, j, none⟩ = some (.pointer (some ⟨x.g, 0, none⟩)) := by
  obtain ⟨hj, rfl⟩ := List.getElem?_eq_some_iff.1 hx
  have hr0 := h.row
  rw [sideP_flat] at hr0
  obtain ⟨a, c, hv, hr, -, -, hb⟩ := own_at hr0
  obtain ⟨b, o, rfl, -⟩ := hr.get (by rw [flatOf_length sideP_len]; omega)
  obtain ⟨-, ho, hob⟩ := hb _ rfl
  cases ho
  have hc := hr.cell sideP_len (i := j) hj (k.ss[j]) 0 (by omega)
  refine ⟨b, c, hv, ?_⟩
  simpa [sideP, List.getElem?_eq_getElem hj, hj] using hc
end Go.Proofs.YthbenfnanhpcoaaGreatDoor.Sc

namespace Go.Proofs.YthbenfnanhpcoaaGreatDoor.Sc
open Go.Proofs.YthbenfnanhpcoaaGreatDoor.Mc Go.ChangeShapes Go.WideShapes Go.ChangeAt Go.RowKit
set_option linter.unusedVariables false
set_option maxRecDepth 20000

set_option maxHeartbeats 1000000 in
theorem wake_does (k : Mk) (s : Ms) (m : Int) (n : Nat) (hn : n < 4294967296) (w : World) :
    Does (MI k) s w 105 #[.pointer (some ⟨k.mb, 0, none⟩), .int .i64 m, .int .u32 (n : Int)] (.int .u32 (s.woken m n)) (s.wake m n) := by
  rintro F ⟨e, h, rfl⟩
  have HH := hide h
  have HO : Hid (∀ z ∈ (s.sift m n).out, 0 ≤ z ∧ ∃ x, k.ss[z.toNat]? = some x) := fun z hz => h.out m n hz
  have HW : Hid (s.woken m n = IntKind.u32.wrap ((s.sift m n).out.length : Int)) := by show _ = _; simp [Ms.woken]
  have HS : Hid (s.wake m n = (s.sift m n).out.foldl Ms.rise (s.setQ (s.sift m n).left)) := by show _ = _; simp [Ms.wake]
  have HL : Hid (Kn.Ok (s.sift m n).left ∧ ∀ x ∈ (s.sift m n).left, x.a < s.sides.length) := ⟨sift_ok h.slp _ _ _, fun x hx => h.few x ((sift_left _ _ _).subset hx)⟩
  have HN : Hid ((s.sift m n).out.length ≤ 8) := by
    have := (Kq.siftS_len (Kq.stW m) (Kq.nxW m) n s.slp).2
    have h8 := Kn.few 8 (s.slp.map Ent.a) h.slp.1 (fun z hz => by obtain ⟨y, hy, rfl⟩ := List.mem_map.1 hz; exact h.slp.2 y hy)
    rw [List.length_map] at h8
    exact Nat.le_trans this h8
  have HC := hide (fun u => Ks.wake_calls (w := u) (l := s.slp) (g := k.mb) (a := k.sv) (b := k.bv) (e := e))
  rw [HW.out, HS.out]
  have HC2 := hide (Ks.wake_calls h.q m n hn)
  change Hid (Calls _ _ _ _ fun r w' => ∃ v, (r = .returned v ∧ Kp [k.mb] w w') ∧ Kn.Nown w' w.heap.size v (s.sift m n).out ∧ Ks.Q w' k.mb k.sv k.bv e (s.sift m n).left) at HC2
  generalize s.sift m n = s3 at HO HL HN HC2 ⊢
  clear h HW HS HC
  go_enter Tryz.func105, Tryz.ntmps105
  go_wp2_with (fail)
  refine HC2.out.mono ?_
  rintro r u ⟨v, ⟨rfl, k2⟩, on, q2⟩
  have h2 := HH.out.setQ k2 q2 HL.out.1 HL.out.2
  have kp2 : Kp (k.foot e) w u := k2.trans (Kp.refl (k.foot e) _) (fun y hy => mem_foot.2 (.inl (by simpa using hy))) (fun _ h => .inl h)
  obtain ⟨ad, cap, rfl, hna, -, hlow⟩ := on.at
  have HM := hide hn
  have N8 := HN.out
  clear hn k2 q2
  have HX := hide (fun (z : Int) hz => HO.out z hz)
  have hgx : ∀ (j : Nat) y, k.ss[j]? = some y → y.g < w.heap.size := fun j y hy => by
    obtain ⟨B, sr, -⟩ := HH.out.sr hy
    exact sr.has.lt
  have HG := hide hgx
  have HLOW := hide hlow
  clear hgx hlow
  go_wp2_with (fail)
  go_loopw [18] (fun i wr => ∃ j : Nat, j ≤ s3.out.length ∧ i = .int .i64 j ∧ Mw k ((s3.out.take j).foldl Ms.rise (s.setQ s3.left)) e wr ∧ Kp (k.foot e) w wr ∧ Kn.NumsAt wr ad s3.out) (fun i _ => s3.out.length - (intOf i).toNat)
  case atStart => exact ⟨0, by omega, rfl, by simpa using h2, kp2, hna⟩
  case round =>
    clear h2 kp2 hna on
    obtain ⟨j, hj, rfl, hM, hK, hnu⟩ := hrel
    by_cases hlt : j < s3.out.length
    · have hlt' : (j : Int) < s3.out.length := by omega
      have HT := hide (take_snoc s3.out j hlt (s.setQ s3.left))
      obtain ⟨z0, y, hy⟩ := HO.out (s3.out.getD j 0) (by rw [List.getD_eq_getElem?_getD, List.getElem?_eq_getElem hlt]; exact List.getElem_mem hlt)
      obtain ⟨b, off, rfl, hca⟩ := hnu.get hlt
      generalize s3.out.getD j 0 = z at hca HT z0 hy
      obtain ⟨q, rfl⟩ : ∃ q : Nat, z = q := ⟨z.toNat, by omega⟩
      have hy' : k.ss[q]? = some y := by simpa using hy
      obtain ⟨bs, cs, hsv, hcs⟩ := hM.sideAt hy'
      have hql : (q : Int) < k.ss.length := by have := (List.getElem?_eq_some_iff.1 hy').1; omega
      have hq0 : ¬ (q : Int) < 0 := by omega
      obtain ⟨B2, sr2, -⟩ := hM.sr hy'
      have c1 := hM.mach.2.1
      rw [hsv] at c1
      have f12 := sr2.has.free 12
      have c12 := sr2.has.cell ((side_th sr2.th (j := 9) (by decide)).trans (thL_st sr2.th))
      obtain ⟨h4, k4⟩ := hM.rise hy'
      have hn4 := hnu.kept k4 (fun a ha => by
        have h1 := HLOW.out a ha
        have h2 := HG.out q y hy'
        intro hm
        have : a.block = y.g := by simpa using hm
        omega)
      have hk4 := hide (hK.trans (kp_side hM hy' k4) (fun _ h => h) (fun _ h => .inl h))
      have H4 := hide h4
      have HN4 := hide hn4
      clear hM hK hnu sr2 h4 k4 hn4 hy
      go_wp2_with (fail)
      exact ⟨⟨j + 1, by omega, by simp, by rw [HT.out]; exact H4.out, hk4.out, HN4.out⟩, by simp [intOf]; omega⟩
    · have hj' : j = s3.out.length := by omega
      subst hj'
      have HM2 := hide hM
      rw [List.take_length] at hM
      have HP := hide (mi_post HH.out hM hK foot_evs)
      clear hM hK hnu
      go_wp2_with (fail)
      go_ret
      have hw : IntKind.u32.wrap (s3.out.length : Int) = s3.out.length := by rw [IntKind.wrap_u32]; omega
      exact ⟨by rw [hw]; rfl, HP.out⟩
end Go.Proofs.YthbenfnanhpcoaaGreatDoor.Sc
