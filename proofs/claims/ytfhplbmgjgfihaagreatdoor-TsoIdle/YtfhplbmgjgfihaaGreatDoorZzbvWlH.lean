/-
  What the document's flush does and what it keeps. No condition but what each law names.
-/
import Derived.Test.YtfhplbmgjgfihaaGreatDoorZzaa
import Derived.Test.YtfhplbmgjgfihaaGreatDoorZzay
namespace Go.Proofs.YtfhplbmgjgfihaaGreatDoor.Wl
open Go.Proofs.YtfhplbmgjgfihaaGreatDoor.Mc Go.ChangeShapes Go.WideShapes Go.ChangeAt Go.RowKit
set_option linter.unusedVariables false
set_option maxRecDepth 20000
/-- the blocks of a world that a flush writes -/
def flF (k : Wk) (v : Wv) : List Nat := k.g :: (ob v.bv ++ (ob v.mv ++ ob v.ev))
theorem flF_g {k : Wk} {v : Wv} : k.g ∈ flF k v := List.mem_cons_self ..
theorem flF_bv {k : Wk} {v : Wv} {x : Nat} (h : x ∈ ob v.bv) : x ∈ flF k v := List.mem_cons_of_mem _ (List.mem_append.2 (.inl h))
theorem flF_mv {k : Wk} {v : Wv} {x : Nat} (h : x ∈ ob v.mv) : x ∈ flF k v := List.mem_cons_of_mem _ (List.mem_append.2 (.inr (List.mem_append.2 (.inl h))))
theorem flF_ev {k : Wk} {v : Wv} {x : Nat} (h : x ∈ ob v.ev) : x ∈ flF k v := List.mem_cons_of_mem _ (List.mem_append.2 (.inr (List.mem_append.2 (.inr h))))
/-- a flush's end: nothing is answered; the slices stay, and what is none of the world's own -/
def FlP (k : Wk) (v : Wv) (s : Ms) (w : World) (r : Ending) (w' : World) : Prop :=
  r = .returned (.tuple #[]) ∧ ∃ v', Ws k v' s w' ∧ (v'.tv = v.tv ∧ v'.bv = v.bv ∧ v'.mv = v.mv) ∧ Kp (flF k v) w w' ∧ ∀ x ∈ ob v'.ev, x ∈ ob v.ev ∨ w.heap.size ≤ x
theorem Ws.gatherB {k : Wk} {v : Wv} {s : Ms} {w : World} (h : Ws k v s w) (hl : s.evs.length ≤ 95000) (i : Nat) (x : Ev) (hx : x.who = i) {ty : TypeId} : ∃ ev' w', (Builtin.append_ #[39, 39] ty #[v.ev, .slice (some ⟨w.heap.size, 0, none⟩) 1 1]).run Tryz.prog (w.alloc (.cells (evA x) 79)) = .ok ev' w' ∧
    Kp (ob v.ev) w w' ∧ (∃ a c, ev' = .slice a (s.evs.length + 1) c) ∧ (∀ w2, w2 = w'.setCell ⟨k.g, 6, none⟩ ev' → Ws k ⟨v.tv, v.bv, v.mv, v.sv, ev', v.bl⟩ (s.note i x) w2) ∧ ∀ y ∈ ob ev', y ∈ ob v.ev ∨ w.heap.size ≤ y := by
  have h1 := h.later ((Gr.refl w).alloc (evA x) 79)
  obtain ⟨e', w', hr, ho, hgr, hb⟩ := app_rec (ty := ty) evL_len evL_one (T := 39) Tryz.underlying39 infoEv (by decide) (by decide) (by decide) h.evs x (evA x) rfl (by omega) h.sz
  obtain ⟨a, c, hv, -⟩ := own_at ho
  refine ⟨e', w', hr, (((Gr.refl w).alloc (evA x) 79).kp _).trans (Kp.grown hgr) (fun _ h => h) (fun _ h => .inl h), ⟨a, c, by rw [hv, List.length_append]; rfl⟩, ?_, ?_⟩
  · rintro w2 rfl
    have e : evOf x i = x := by unfold evOf; rw [← hx]
    refine h1.note (s.note i x) ⟨rfl, rfl, rfl, rfl⟩ ?_ hgr
    show World.ownsRow _ _ _ _ _ (s.evs ++ [evOf x i]).length (flatOf evL (s.evs ++ [evOf x i]))
    rw [e]
    exact ho
  · intro y hy
    have q := mem_ob.1 hy
    rcases hb with hb | hb
    · exact .inl (mem_ob.2 (by rw [← hb]; exact q))
    · rw [hb] at q
      cases q
      exact .inr (Nat.le_succ _)
set_option maxHeartbeats 2000000 in
theorem flush_keeps (k : Wk) (v : Wv) (s : Ms) (w : World) (h : Ws k v s w) (i : Nat) (hi : i < s.sides.length) (hl : s.evs.length ≤ 95000) (hrg : ∀ e ∈ (s.side i).buf, 0 ≤ e.a ∧ e.a < s.mem.length) (hbl : (s.side i).buf.length ≤ 16) :
    Calls Tryz.prog 31 #[.pointer (some ⟨k.g, 0, none⟩), .int .i64 i] w (FlP k v (s.flush i) w) := by
  obtain ⟨tv, bv, mv, sv, ev, bl⟩ := v
  have hi0 : ¬ (i : Int) < 0 := by omega
  have hi1 : (i : Int) < s.sides.length := by omega
  have c2 := h.box.cell (o := 2) (v := bv) rfl
  obtain ⟨bb, bc, C, hbv, hB, hC, hr⟩ := h.bfAt (by omega)
  simp only at hbv
  subst hbv
  obtain ⟨a, cc, hbi, hcc, hra⟩ := h.buf hi
  have ci := row_nth hr hbi
  have HH := hide h
  cases hb : (s.side i).buf with
  | nil =>
    rw [hb] at ci
    have HF := hide (flush_none' hb)
    have hz : ((([] : List Ent).length : Nat) : Int) = 0 := rfl
    clear hb h hra hcc hbi hr hrg hbl
    go_enter Tryz.func31, Tryz.ntmps31
    go_wp2_with (fail)
    exact bodyPost_ret (results_none rfl _ _ _) rfl ⟨rfl, _, by rw [HF.out]; exact HH.out, ⟨rfl, rfl, rfl⟩, Kp.refl _ _, fun x hx => .inl hx⟩
  | cons x l =>
    rw [hb] at ci hcc hra
    have hx := hrg x (by rw [hb]; exact List.mem_cons_self)
    obtain ⟨xa, xv⟩ := x
    obtain ⟨n, rfl⟩ := nat_of hx.1
    have hnm : n < s.mem.length := by have := hx.2; simp only at this; omega
    obtain ⟨eb, eo, rfl, hce⟩ := hra.get (by rw [Bf.flat_length]; simp)
    have e0 := hce 0 (by rw [Bf.flat_length]; simp)
    have e1 := hce 1 (by rw [Bf.flat_length]; simp; omega)
    rw [Nat.add_zero] at e0
    have e0' : w.cell? ⟨eb, eo, none⟩ = some (.int .i64 (n : Int)) := e0
    have e1' : w.cell? ⟨eb, eo + 1, none⟩ = some (.int .u32 xv) := e1
    have hlen : ((⟨(n : Int), xv⟩ :: l : List Ent).length : Nat) = l.length + 1 := rfl
    rw [hlen] at ci hcc
    have HRT : Hid (RowAt w (if cc = 1 then some ⟨eb, eo, none⟩ else some ⟨eb, eo + 2, none⟩) (flatOf entL l)) := by
      show RowAt _ _ _
      by_cases h1 : cc = 1
      · have : l = [] := List.eq_nil_of_length_eq_zero (by omega)
        subst this
        exact .inl rfl
      · rw [if_neg h1]
        have := hra.drop 2
        exact this
    have hl16 : l.length ≤ 16 := by rw [hb, hlen] at hbl; omega
    have HFL : Hid (s.flush i = ((s.setB i l).setM (n : Int) xv).note i ⟨3, 0, 0, n, xv, 0, 0, false⟩) := by
      show _ = _
      unfold Ms.flush
      rw [hb]
    have g1 := (Gr.refl w).alloc #[.int .i64 (n : Int), .int .u32 xv] 77
    have b1 := Has.new w #[.int .i64 (n : Int), .int .u32 xv] 77
    have hpo : (0 : Int) < ((l.length + 1 : Nat) : Int) := by omega
    have hpz : (((l.length + 1 : Nat) : Int) == 0) = false := by simp; omega
    have hpz2 : ((l.length : Int) + 1 == 0) = false := by simp; omega
    have hle1 : 1 ≤ l.length + 1 := by omega
    have hpl : ¬ (l.length : Int) + 1 < 1 := by omega
    have hpl2 : ¬ ((l.length + 1 : Nat) : Int) < 1 := by omega
    have HCC := hide hcc
    have HBI := hide hbi
    clear hra hrg hbl e0 e1 hce hr hx hcc hbi hC
    go_enter Tryz.func31, Tryz.ntmps31
    go_upto_region 2 with (fail)
    change Code.wp _ _ _ _ (w.alloc (.cells #[.int .i64 (n : Int), .int .u32 xv] 77))
    generalize w.alloc (.cells #[.int .i64 (n : Int), .int .u32 xv] 77) = w1 at g1 b1 ⊢
    have hxb := HH.out.gr.size
    generalize hxbs : w.heap.size = xb at b1 hxb ⊢
    have h1 := HH.out.later g1
    have HC2 := hide (fun w' (q : Gr w1.drew w') => (h1.later ((Gr.refl w1).drew.trans q)).box.cell (o := 2) (v := .slice (some ⟨bb, 0, none⟩) s.sides.length bc) rfl)
    have HCI := hide (fun w' (q : Gr w1.drew w') => cell_later (g1.trans ((Gr.refl w1).drew.trans q)) ci)
    have H1 := hide h1
    have B1 := hide b1
    have HG1 := hide g1
    clear h1 b1 g1 c2 ci e0' e1'
    refine begin_late 17 [16] (fun w' => Gr w1.drew w') (by kernel_rfl) rfl ?_
    have hH : Gr w1.drew w1.drew := Gr.refl _
    refine AnyL.pp 0 23 (.pointer (some ⟨k.g, 0, none⟩)) rfl rfl (by kernel_rfl) (fun _ _ _ h => h) (fun _ => by go_simp) hH ?_
    simp only [pz, pz0, pzs]
    refine AnyL.pp 1 24 (.pointer (some ⟨k.g, 0, none⟩)) rfl rfl (by kernel_rfl) (fun _ _ _ h => h) (fun _ => by go_simp) hH ?_
    simp only [pz, pz0, pzs]
    refine AnyL.pp 2 25 (.pointer (some ⟨k.g, 2, none⟩)) rfl rfl (by kernel_rfl) (fun _ _ _ h => h) (fun _ => by go_simp) hH ?_
    simp only [pz, pz0, pzs]
    refine AnyL.tt 3 26 (.slice (some ⟨bb, 0, none⟩) s.sides.length bc) rfl rfl (by kernel_rfl) (fun _ _ _ h => h) (fun w' hw' => by have q1 := HC2.out w' hw'; go_simp) hH ?_
    simp only [pz, pz0, pzs]
    refine AnyL.pp 4 27 (.int .i64 i) rfl rfl (by kernel_rfl) (fun _ _ _ h => h) (fun _ => by go_simp) hH ?_
    simp only [pz, pz0, pzs]
    refine AnyL.pp 6 29 (.pointer (some ⟨k.g, 0, none⟩)) rfl rfl (by kernel_rfl) (fun _ _ _ h => h) (fun _ => by go_simp) hH ?_
    simp only [pz, pz0, pzs]
    refine AnyL.pp 7 30 (.pointer (some ⟨k.g, 0, none⟩)) rfl rfl (by kernel_rfl) (fun _ _ _ h => h) (fun _ => by go_simp) hH ?_
    simp only [pz, pz0, pzs]
    refine AnyL.pp 8 31 (.pointer (some ⟨k.g, 2, none⟩)) rfl rfl (by kernel_rfl) (fun _ _ _ h => h) (fun _ => by go_simp) hH ?_
    simp only [pz, pz0, pzs]
    refine AnyL.tt 9 32 (.slice (some ⟨bb, 0, none⟩) s.sides.length bc) rfl rfl (by kernel_rfl) (fun _ _ _ h => h) (fun w' hw' => by have q1 := HC2.out w' hw'; go_simp) hH ?_
    simp only [pz, pz0, pzs]
    refine AnyL.pp 10 33 (.int .i64 i) rfl rfl (by kernel_rfl) (fun _ _ _ h => h) (fun _ => by go_simp) hH ?_
    simp only [pz, pz0, pzs]
    refine AnyL.pp 11 34 (.pointer (some ⟨bb, i, none⟩)) rfl rfl (by kernel_rfl) (fun _ _ _ h => h) (fun _ => by go_simp) hH ?_
    simp only [pz, pz0, pzs]
    refine AnyL.tt 12 35 (.slice (some ⟨eb, eo, none⟩) (l.length + 1) cc) rfl rfl (by kernel_rfl) (fun _ _ _ h => h) (fun w' hw' => by have q1 := HCI.out w' hw'; go_simp) hH ?_
    simp only [pz, pz0, pzs]
    have hcc := HCC.out
    refine AnyL.pp 13 36 (.slice (if cc = 1 then some ⟨eb, eo, none⟩ else some ⟨eb, eo + 2, none⟩) l.length (cc - 1)) rfl rfl (by kernel_rfl) (fun _ _ _ h => h) (fun _ => by go_simp) hH ?_
    simp only [pz, pz0, pzs]
    have hta : (if cc = 1 then some (⟨eb, eo, none⟩ : Addr) else some ⟨eb, eo + 2, none⟩) ≠ none := by split <;> (intro q; cases q)
    generalize (if cc = 1 then some (⟨eb, eo, none⟩ : Addr) else some ⟨eb, eo + 2, none⟩) = ta at hta HRT ⊢
    refine AnyL.one 5 (by kernel_rfl) rfl (by kernel_rfl) ?_
    refine wp_made (some 28) rfl _ _ (build_e0 rfl) ?_
    have gE : Gr w1.drew (w1.drew.alloc (.cells #[] 77)) := (Gr.refl w1.drew).alloc _ _
    refine ⟨fun _ => gE, ?_⟩
    simp only [pz, pz0, pzs]
    have hE0 : (w1.drew.alloc (.cells #[] 77)).ownsRow k.w0.heap.size 77 2 (.slice (some ⟨w1.drew.heap.size, 0, none⟩) 0 0) ([] : List Ent).length (flatOf entL []) := own_empty (Nat.le_trans hxb (by have := HG1.out.size; rw [hxbs] at this; exact this))
    obtain ⟨e', w', hr, ho, hgr, -⟩ := app_recs (ty := 47) entL_len entL_one (T := 47) Tryz.underlying47 infoEnt (by decide) (by decide) (by decide) hE0 ta (cc - 1) l ((HRT.out.later HG1.out).later ((Gr.refl w1).drew.trans gE)) (fun q => absurd q hta) (by simp; omega) (Nat.le_trans H1.out.sz (by simp))
    refine AnyL.one 14 (by kernel_rfl) rfl (by kernel_rfl) ?_
    refine wp_app (some 37) rfl _ _ 47 rfl (.slice (some ⟨w1.drew.heap.size, 0, none⟩) 0 0) _ (by kernel_rfl) rfl e' w' hr ?_
    have gA : Gr w1.drew w' := grown_gr (base := w1.drew.heap.size) gE (own_empty (sz := 2) (t := 77) (Nat.le_refl _)) hgr (Nat.le_refl _)
    refine ⟨fun _ => gA, ?_⟩
    simp only [pz, pz0, pzs]
    replace hH := gA
    refine AnyL.pp 15 38 (.pointer (some ⟨bb, i, none⟩)) rfl rfl (by kernel_rfl) (fun _ _ _ h => h) (fun _ => by go_simp) hH ?_
    simp only [pz, pz0, pzs]
    obtain ⟨ea, ec, hev, -⟩ := own_at ho
    replace hev : e' = .slice ea l.length ec := by simpa using hev
    subst hev
    have h2 := H1.out.later ((Gr.refl w1).drew.trans gA)
    have cq := HCI.out w' gA
    obtain ⟨bb', bc', C2, hbe, hB2, hC2, -⟩ := h2.bfAt (by omega)
    cases hbe
    have cf := hC2.free i
    refine AnyL.one 16 (by kernel_rfl) rfl (by kernel_rfl) ?_
    refine wp_store_sle rfl _ _ rfl bb i (by kernel_rfl) ea l.length ec (by kernel_rfl) _ _ _ cq cf ?_
    refine ⟨late (by kernel_rfl), ?_⟩
    refine AnyL.done (by kernel_rfl) ?_
    have ho2 : w'.ownsRow k.w0.heap.size 77 2 (.slice ea l.length ec) l.length (Bf.flat l) := by
      have q := ho
      rw [List.nil_append] at q
      exact q
    have h3 := h2.setB rfl i hi l _ ho2
    have b3 := (B1.out.later ((Gr.refl w1).drew.trans gA)).kept (Kp.setCell w' bb i (.slice ea l.length ec)) (fun z => (hC2.apart (B1.out.later ((Gr.refl w1).drew.trans gA)) (by decide)) (by have e : xb = bb := (by simpa using z); exact e.symm))
    have k3 := ((HG1.out.trans ((Gr.refl w1).drew.trans gA)).kp (flF k ⟨tv, .slice (some ⟨bb, 0, none⟩) s.sides.length bc, mv, sv, ev, bl⟩)).trans (Kp.setCell w' bb i (.slice ea l.length ec)) (fun _ h => h) (fun x hx => .inl (flF_bv (v := ⟨tv, .slice (some ⟨bb, 0, none⟩) s.sides.length bc, mv, sv, ev, bl⟩) (mem_ob.2 (by have e : x = bb := (by simpa using hx); rw [e]; rfl))))
    clear HC2 HCI gA gE hE0 hr ho hgr ho2 h2 cq cf hC2 hH HRT
    generalize w'.setCell ⟨bb, i, none⟩ (.slice ea l.length ec) = w3 at h3 b3 k3 ⊢
    have K3 := hide k3
    clear k3
    go_upto_region 3 with (fail)
    have hnm' : n < (s.setB i l).mem.length := hnm
    have h4 := h3.later (Gr.refl w3).drew
    obtain ⟨mb, mc, C3, hmv, hB3, hC3, hmr⟩ := h4.memAt (by omega)
    simp only at hmv
    subst hmv
    have b4 := b3.drew
    have q3 := h4.box.cell (o := 3) (v := .slice (some ⟨mb, 0, none⟩) (s.setB i l).mem.length mc) rfl
    have q0 := b4.cell (o := 0) (v := .int .i64 (n : Int)) rfl
    have q1 := b4.cell (o := 1) (v := .int .u32 xv) rfl
    have hn0 : ¬ (n : Int) < 0 := by omega
    have hn1 : (n : Int) < (s.setB i l).mem.length := by omega
    obtain ⟨old, cm⟩ : ∃ old : Int, w3.drew.cell? ⟨mb, n, none⟩ = some (.int .u32 old) := by
      have := hmr.cell wordL_len hnm' 0 0 (by omega)
      simp only [Nat.mul_one, Nat.add_zero, Nat.zero_add] at this
      exact ⟨_, this⟩
    have fm := hC3.free n
    refine begin_late 10 [9] (fun w' => w' = w3.drew) (by kernel_rfl) rfl ?_
    have hH : w3.drew = w3.drew := rfl
    refine AnyL.pp 0 39 (.pointer (some ⟨k.g, 0, none⟩)) rfl rfl (by kernel_rfl) (fun _ _ _ h => h) (fun _ => by go_simp) hH ?_
    simp only [pz, pz0, pzs]
    refine AnyL.pp 1 40 (.pointer (some ⟨k.g, 0, none⟩)) rfl rfl (by kernel_rfl) (fun _ _ _ h => h) (fun _ => by go_simp) hH ?_
    simp only [pz, pz0, pzs]
    refine AnyL.pp 2 41 (.pointer (some ⟨k.g, 3, none⟩)) rfl rfl (by kernel_rfl) (fun _ _ _ h => h) (fun _ => by go_simp) hH ?_
    simp only [pz, pz0, pzs]
    refine AnyL.tt 3 42 (.slice (some ⟨mb, 0, none⟩) (s.setB i l).mem.length mc) rfl rfl (by kernel_rfl) (fun _ _ _ h => h) (fun w' hw' => by subst hw'; go_simp) hH ?_
    simp only [pz, pz0, pzs]
    refine AnyL.pp 4 43 (.pointer (some ⟨xb, 0, none⟩)) rfl rfl (by kernel_rfl) (fun _ _ _ h => h) (fun _ => by go_simp) hH ?_
    simp only [pz, pz0, pzs]
    refine AnyL.tt 5 44 (.int .i64 n) rfl rfl (by kernel_rfl) (fun _ _ _ h => h) (fun w' hw' => by subst hw'; go_simp) hH ?_
    simp only [pz, pz0, pzs]
    refine AnyL.pp 6 45 (.pointer (some ⟨xb, 1, none⟩)) rfl rfl (by kernel_rfl) (fun _ _ _ h => h) (fun _ => by go_simp) hH ?_
    simp only [pz, pz0, pzs]
    refine AnyL.tt 7 46 (.int .u32 xv) rfl rfl (by kernel_rfl) (fun _ _ _ h => h) (fun w' hw' => by subst hw'; go_simp) hH ?_
    simp only [pz, pz0, pzs]
    refine AnyL.pp 8 47 (.pointer (some ⟨mb, n, none⟩)) rfl rfl (by kernel_rfl) (fun _ _ _ h => h) (fun _ => by go_simp) hH ?_
    simp only [pz, pz0, pzs]
    refine AnyL.one 9 (by kernel_rfl) rfl (by kernel_rfl) ?_
    refine Mp.wp_store_word rfl _ _ rfl mb n (by kernel_rfl) xv (by kernel_rfl) _ cm fm ?_
    refine ⟨late (by kernel_rfl), ?_⟩
    refine AnyL.done (by kernel_rfl) ?_
    have h5 := h4.setM rfl n hnm' xv
    have b5 := b4.kept (Kp.setCell w3.drew mb n (.int .u32 xv)) (fun z => (hC3.apart b4 (by decide)) (by have e : xb = mb := (by simpa using z); exact e.symm))
    have k5 := (K3.out.trans ((Gr.refl w3).drew.kp (flF k ⟨tv, .slice (some ⟨bb, 0, none⟩) s.sides.length bc, .slice (some ⟨mb, 0, none⟩) (s.setB i l).mem.length mc, sv, ev, bl⟩)) (fun _ h => h) (fun _ h => .inl h)).trans (Kp.setCell w3.drew mb n (.int .u32 xv)) (fun _ h => h) (fun x hx => .inl (flF_mv (v := ⟨tv, .slice (some ⟨bb, 0, none⟩) s.sides.length bc, .slice (some ⟨mb, 0, none⟩) (s.setB i l).mem.length mc, sv, ev, bl⟩) (mem_ob.2 (by have e : x = mb := (by simpa using hx); rw [e]; rfl))))
    clear q3 q0 q1 cm fm hC3 hmr h4 b4 h3 b3 hH hn0 hn1
    generalize w3.drew.setCell ⟨mb, n, none⟩ (.int .u32 xv) = w5 at h5 b5 k5 ⊢
    have K5 := hide k5
    clear k5
    go_upto_region 4 with (fail)
    have h6 := h5.later (Gr.refl w5).drew
    have b6 := b5.drew
    obtain ⟨ad, cap, he, -, -, -, -⟩ := own_at h6.evs
    simp only at he
    have HEE := hide he
    clear he
    have hne0 : xb ∉ ob ev := fun z => own_aside h6.evs b6 (by decide) z
    have neg : k.g ∉ ob ev := fun z => own_aside h6.evs h6.box (by decide) z
    have HX := hide (fun w' (q : Kp (ob ev) w5.drew w') => b6.kept q hne0)
    have HE := hide (fun w' (q : Kp (ob ev) w5.drew w') => (h6.box.kept q neg).cell (o := 6) (v := ev) rfl)
    refine begin_late 16 [15] (fun w' => Kp (ob ev) w5.drew w') (by kernel_rfl) rfl ?_
    have hH : Kp (ob ev) w5.drew w5.drew := Kp.refl _ _
    refine AnyL.pp 0 48 (.pointer (some ⟨k.g, 0, none⟩)) rfl rfl (by kernel_rfl) (fun _ _ _ h => h) (fun _ => by go_simp) hH ?_
    simp only [pz, pz0, pzs]
    refine AnyL.pp 1 49 (.pointer (some ⟨k.g, 0, none⟩)) rfl rfl (by kernel_rfl) (fun _ _ _ h => h) (fun _ => by go_simp) hH ?_
    simp only [pz, pz0, pzs]
    refine AnyL.pp 2 50 (.pointer (some ⟨k.g, 0, none⟩)) rfl rfl (by kernel_rfl) (fun _ _ _ h => h) (fun _ => by go_simp) hH ?_
    simp only [pz, pz0, pzs]
    refine AnyL.pp 3 51 (.pointer (some ⟨k.g, 6, none⟩)) rfl rfl (by kernel_rfl) (fun _ _ _ h => h) (fun _ => by go_simp) hH ?_
    simp only [pz, pz0, pzs]
    refine AnyL.tt 4 52 (ev) rfl rfl (by kernel_rfl) (fun _ _ _ h => h) (fun w' hw' => by have c1 := HE.out w' hw'; go_simp) hH ?_
    simp only [pz, pz0, pzs]
    refine AnyL.pp 5 53 (.int .i64 i) rfl rfl (by kernel_rfl) (fun _ _ _ h => h) (fun _ => by go_simp) hH ?_
    simp only [pz, pz0, pzs]
    refine AnyL.pp 6 54 (.pointer (some ⟨xb, 0, none⟩)) rfl rfl (by kernel_rfl) (fun _ _ _ h => h) (fun _ => by go_simp) hH ?_
    simp only [pz, pz0, pzs]
    refine AnyL.tt 7 55 (.int .i64 n) rfl rfl (by kernel_rfl) (fun _ _ _ h => h) (fun w' hw' => by have c1 := (HX.out w' hw').cell (o := 0) (v := .int .i64 (n : Int)) rfl; go_simp) hH ?_
    simp only [pz, pz0, pzs]
    refine AnyL.pp 8 56 (.pointer (some ⟨xb, 1, none⟩)) rfl rfl (by kernel_rfl) (fun _ _ _ h => h) (fun _ => by go_simp) hH ?_
    simp only [pz, pz0, pzs]
    refine AnyL.tt 9 57 (.int .u32 xv) rfl rfl (by kernel_rfl) (fun _ _ _ h => h) (fun w' hw' => by have c1 := (HX.out w' hw').cell (o := 1) (v := .int .u32 xv) rfl; go_simp) hH ?_
    simp only [pz, pz0, pzs]
    refine AnyL.pp 10 58 (.agg (evA ⟨3, i, 0, n, xv, 0, 0, false⟩)) rfl rfl (by kernel_rfl) (fun _ _ _ h => h) (fun _ => by go_simp) hH ?_
    simp only [pz, pz0, pzs]
    refine AnyL.one 11 (by kernel_rfl) rfl (by kernel_rfl) ?_
    refine wp_made (some 59) rfl _ _ (build_ev _ rfl ⟨3, i, 0, n, xv, 0, 0, false⟩ (by kernel_rfl)) ?_
    refine ⟨fun _ => (((Gr.refl w5.drew).alloc (evA ⟨3, i, 0, n, xv, 0, 0, false⟩) 79).kp _), ?_⟩
    simp only [pz, pz0, pzs]
    obtain ⟨e'', w'', hr2, hk2, ⟨ea2, ec2, hev2⟩, hws, hob⟩ := h6.gatherB (ty := 39) hl i ⟨3, i, 0, n, xv, 0, 0, false⟩ rfl
    replace hev2 : e'' = .slice ea2 (s.evs.length + 1) ec2 := hev2
    subst hev2
    refine AnyL.one 12 (by kernel_rfl) rfl (by kernel_rfl) ?_
    refine wp_app (some 60) rfl _ _ 39 rfl ev _ (by kernel_rfl) rfl _ w'' hr2 ?_
    refine ⟨fun _ => hk2, ?_⟩
    simp only [pz, pz0, pzs]
    replace hH := hk2
    refine AnyL.pp 13 61 (.pointer (some ⟨k.g, 0, none⟩)) rfl rfl (by kernel_rfl) (fun _ _ _ h => h) (fun _ => by go_simp) hH ?_
    simp only [pz, pz0, pzs]
    refine AnyL.pp 14 62 (.pointer (some ⟨k.g, 6, none⟩)) rfl rfl (by kernel_rfl) (fun _ _ _ h => h) (fun _ => by go_simp) hH ?_
    simp only [pz, pz0, pzs]
    have cg := HE.out w'' hk2
    rw [HEE.out] at cg
    have cf := (h6.box.kept hk2 neg).free 6
    refine AnyL.one 15 (by kernel_rfl) rfl (by kernel_rfl) ?_
    refine wp_store_evs rfl _ _ rfl k.g 6 (by kernel_rfl) ea2 (s.evs.length + 1) ec2 (by kernel_rfl) _ _ _ cg cf ?_
    refine ⟨late (by kernel_rfl), ?_⟩
    refine AnyL.done (by kernel_rfl) ?_
    have k7 := ((K5.out.trans ((Gr.refl w5).drew.kp (flF k ⟨tv, .slice (some ⟨bb, 0, none⟩) s.sides.length bc, .slice (some ⟨mb, 0, none⟩) (s.setB i l).mem.length mc, sv, ev, bl⟩)) (fun _ h => h) (fun _ h => .inl h)).trans hk2 (fun _ h => h) (fun x hx => .inl (flF_ev (v := ⟨tv, .slice (some ⟨bb, 0, none⟩) s.sides.length bc, .slice (some ⟨mb, 0, none⟩) (s.setB i l).mem.length mc, sv, ev, bl⟩) hx))).trans (Kp.setCell w'' k.g 6 (.slice ea2 (s.evs.length + 1) ec2)) (fun _ h => h) (fun x hx => .inl (by have e : x = k.g := (by simpa using hx); rw [e]; exact flF_g))
    have KS := hide (Nat.le_trans K5.out.size (Nat.le_refl w5.heap.size))
    have HOB := hide hob
    clear hob
    have HW := hide (hws _ rfl)
    clear hws hk2 hr2 hH HX HE cg cf h6 b6 h5 b5
    generalize w''.setCell ⟨k.g, 6, none⟩ (.slice ea2 (s.evs.length + 1) ec2) = w7 at HW k7 ⊢
    have K7 := hide k7
    clear k7
    go_wp2_with (fail)
    go_end0
    exact ⟨rfl, ⟨tv, .slice (some ⟨bb, 0, none⟩) s.sides.length bc, .slice (some ⟨mb, 0, none⟩) (s.setB i l).mem.length mc, sv, .slice ea2 (s.evs.length + 1) ec2, bl.set i (.slice ea l.length ec)⟩, by rw [HFL.out]; exact HW.out, ⟨rfl, rfl, rfl⟩, K7.out, fun x hx => (HOB.out x hx).imp id (fun q => Nat.le_trans KS.out q)⟩
end Go.Proofs.YtfhplbmgjgfihaaGreatDoor.Wl
