/-
  What awake answers. No condition.
-/
import Derived.Test.YtbmlliohepidaaaDoorNew
import Derived.Test.YtbmlliohepidaaaDoorPrtf
import Derived.Test.YtbmlliohepidaaaDoorStp2
import Derived.Laws.MakeOwn
namespace Go.Proofs.YtbmlliohepidaaaDoor
open Go.ChangeShapes Go.WideShapes Go.ChangeAt Go.RowKit

abbrev thA9 : Array Value := #[.int .i64 0, .int .u32 0, .int .u32 0, .int .u32 9, .int .u32 0, .int .u32 0, .int .u32 0, .int .u32 0, .int .u32 0, .int .i64 0]
abbrev yard0 (c : Nat) (ta : Option Addr) (ct gb cb : Nat) (vm : Value) : Array Value := #[.slice (some ⟨c, 0, none⟩) 1 1, .slice ta 1 ct, .slice (some ⟨gb, 0, none⟩) 1 cb, vm, .int .i64 1, .slice none 0 0, .slice none 0 0, .bool false, .string ⟨#[]⟩]
def zeros6 : List Int := [0, 0, 0, 0, 0, 0]
theorem zU : ∀ x ∈ zeros6, U32 x := by
  intro x h
  simp [zeros6] at h
  subst h
  exact ⟨by omega, by omega⟩
abbrev th9 : Th := ⟨0, [0, 0, 9, 0, 0, 0, 0, 0], 0⟩
abbrev cas9 : Ins := ⟨21, 1, 8, 2, 5⟩
theorem th9_ok : ThOk th9 := ⟨rfl, fun x h => by simp at h; rcases h with rfl | rfl | rfl <;> exact ⟨by omega, by omega⟩⟩
theorem cas9_ok : ∀ i ∈ [cas9], InsOk i := fun i h => by simp at h; subst h; exact ⟨by show (0 : Int) ≤ 5; omega, by show (5 : Int) < 4294967296; omega⟩
theorem Yd.later {k : Yc} {s : Ys} {vbuf vs ve : Value} {B : Array Value} {w w' : World} (h : Yd k s vbuf vs ve B w) (g : Gr w w') : Yd k s vbuf vs ve B w' := h.kept (g.kp []) (by simp)
def end9 : Ys := ⟨[0, 0, 0, 0, 0, 9], [], [], [⟨4, 0, 0, 5, 9, 0, 0, true⟩], [], 1⟩
theorem Yd.aside {k : Yc} {s : Ys} {vbuf vs ve : Value} {B : Array Value} {w : World} (h : Yd k s vbuf vs ve B w) {g : Nat} {C : Array Value} (hg : Has w g C 25) : g ∉ foot k vbuf vs ve := by
  intro q
  rcases mem_foot.1 q with e | e | e | e | e | e | e | e | e
  · exact hg.apart h.hy (by decide) e
  · exact hg.apart h.hyb (by decide) e
  · exact hg.apart h.hwb (by decide) e
  · exact hg.apart h.hab (by decide) e
  · exact hg.apart h.hgb (by decide) e
  · exact own_aside h.mem hg (by decide) e
  · exact own_aside h.buf hg (by decide) e
  · exact own_aside h.slp hg (by decide) e
  · exact own_aside h.evs hg (by decide) e
def e9 : Ys := ⟨[0, 0, 0, 0, 0, 9], [], [], [⟨4, 0, 0, 5, 9, 0, 0, true⟩], [108, 120], 1⟩
theorem stepM9 : stepM (yardM 6) th9 [cas9] ⟨zeros6, [], [], [], [], 1⟩ = (⟨1, [0, 0, 9, 0, 0, 0, 0, 0], 0⟩, e9) := by kernel_rfl
theorem step9 {k : Yc} {vbuf vs ve : Value} {B : Array Value} {w : World} (h : Yd k ⟨zeros6, [], [], [], [], 1⟩ vbuf vs ve B w) {b : Nat} (hb : Has w b (insA cas9) 54) (hN : k.N = 6 := by rfl) :
    Calls Tryd.prog 12 #[.agg thA9, .slice (some ⟨b, 0, none⟩) 1 1, .agg (portA k.N (fnsY k))] w fun e w' => e = .returned (.agg (thC ⟨1, [0, 0, 9, 0, 0, 0, 0, 0], 0⟩)) ∧ (∃ vbuf' vs' ve' B', Yd k e9 vbuf' vs' ve' B' w') ∧ Kp (foot k vbuf vs ve) w w' := by
  have d := step_does (yard_ok k (by omega)) th9_ok [cas9] cas9_ok (by show 1 < _; omega) (some ⟨b, 0, none⟩) 1 ⟨zeros6, [], [], [], [], 1⟩ (by show 1000 ≤ 90000 - (0 + 0 + 0 + 0); omega) w hb.rowAt
  have e6 : (k.N : Int) = 6 := by rw [hN]; rfl
  rw [e6, stepM9] at d
  rw [e6]
  refine (d _ ⟨vbuf, vs, ve, B, h, rfl⟩).mono ?_
  rintro e w' ⟨rfl, F', ⟨v1, v2, v3, B', hy, -⟩, hk, -⟩
  exact ⟨rfl, ⟨v1, v2, v3, B', hy⟩, hk⟩
/-- numbers i, j and k alone may come up -/
theorem AnyL.three {P : Program} {ops : Array Oper} {Q : Exit → Act → World → Prop} {md : Region.Mode} {S : World → Prop} {Z : List Nat} (i j k : Nat) {o p q : Oper} {fuel : Nat} {listed : Array Bool} {a : Act} {w : World} (hr : Region.ready md ops listed = [i, j, k]) (hi : ops[i]? = some o) (hj : ops[j]? = some p) (hk : ops[k]? = some q)
    (hw : (Region.wanted o (yielded ops a.tmps) && (Region.wanted p (yielded ops a.tmps) && Region.wanted q (yielded ops a.tmps))) = true)
    (h1 : Oper.wp P o a w (fun b u => (earlyB Z (listed.setIfInBounds i true) = true → S u) ∧ AnyL P md ops Q S Z fuel (listed.setIfInBounds i true) b u) Q)
    (h2 : Oper.wp P p a w (fun b u => (earlyB Z (listed.setIfInBounds j true) = true → S u) ∧ AnyL P md ops Q S Z fuel (listed.setIfInBounds j true) b u) Q)
    (h3 : Oper.wp P q a w (fun b u => (earlyB Z (listed.setIfInBounds k true) = true → S u) ∧ AnyL P md ops Q S Z fuel (listed.setIfInBounds k true) b u) Q) : AnyL P md ops Q S Z (fuel + 1) listed a w := by
  rw [Bool.and_eq_true, Bool.and_eq_true] at hw
  refine ⟨fun h0 => (by rw [hr] at h0; cases h0), fun m hm => ?_⟩
  rw [hr] at hm
  rcases List.mem_cons.1 hm with rfl | hm
  · unfold wpOp
    rw [hi]
    show if Region.wanted o (yielded ops a.tmps) = true then _ else _
    rw [if_pos hw.1]
    exact .inl h1
  rcases List.mem_cons.1 hm with rfl | hm
  · unfold wpOp
    rw [hj]
    show if Region.wanted p (yielded ops a.tmps) = true then _ else _
    rw [if_pos hw.2.1]
    exact .inl h2
  · obtain rfl := List.mem_singleton.1 hm
    unfold wpOp
    rw [hk]
    show if Region.wanted q (yielded ops a.tmps) = true then _ else _
    rw [if_pos hw.2.2]
    exact .inl h3
theorem alloc_th {o : Oper} {a : Act} {w : World} (ho : o.op = .alloc 25) : (execOp a.eval o).run Tryd.prog w = .ok (.value (.pointer (some ⟨w.heap.size, 0, none⟩))) (w.alloc (.cells th0A 25)) := by
  unfold execOp
  simp only [ho]
  go_simp
theorem build_in9 {o : Oper} {a : Act} {w : World} (x : Operand) (ho : o.op = .buildSlice 26 1 #[(0, x)]) (hx : a.eval x = .agg (insA cas9)) :
    (execOp a.eval o).run Tryd.prog w = .ok (.value (.slice (some ⟨w.heap.size, 0, none⟩) 1 1)) (w.alloc (.cells (insA cas9) 54)) := by
  unfold execOp
  simp only [ho, List.map_toArray, List.map_cons, List.map_nil, hx]
  clear hx
  go_simp
theorem wp_store_thr {o : Oper} {a : Act} {w : World} {K : Act → World → Prop} {Q : Exit → Act → World → Prop} (hd0 : o.dst = none) (x y : Operand) (ho : o.op = .store 25 x y) (g : Nat) (hx : a.eval x = .pointer (some ⟨g, 0, none⟩)) (t : Th) (ht : ThOk t) (hy : a.eval y = .agg (thC t)) (D : Array Value)
    (hg : Has w g D 25) (hD : D.size = 10) (h : K a (w.setRow g (thC t))) : Oper.wp Tryd.prog o a w K Q :=
  wp_store_row 25 x y ho g (thC t) hx hy 25 D hg (infoT_of ht) (by rw [thC_size ht]; omega) (thC_one t) (by rw [hd0]; exact h)
abbrev th1 : Th := ⟨1, [0, 0, 9, 0, 0, 0, 0, 0], 0⟩
theorem th1_ok : ThOk th1 := ⟨rfl, fun x h => by simp at h; rcases h with rfl | rfl | rfl <;> exact ⟨by omega, by omega⟩⟩
theorem leaf9 {k : Yc} {vbuf vs ve : Value} {B : Array Value} {u : World} {g : Nat} (h : Yd k e9 vbuf vs ve B u) (hg : Has u g th0A 25) :
    ∃ mb mo mc eb eo ec, Has (u.setRow g (thC th1)) k.y #[k.cs, .slice k.ta k.nt k.ct, .slice (some ⟨k.gb, 0, none⟩) k.nb k.cb, .slice (some ⟨mb, mo, none⟩) 6 mc, .int .i64 1, vs, .slice (some ⟨eb, eo, none⟩) 1 ec, .bool false, .string ⟨#[108, 120]⟩] 43 ∧ Has (u.setRow g (thC th1)) g (thC th1) 25 ∧
      (u.setRow g (thC th1)).cell? ⟨mb, mo + 5, none⟩ = some (.int .u32 9) ∧ (u.setRow g (thC th1)).cell? ⟨eb, eo + 7, none⟩ = some (.bool true) := by
  have n := h.aside hg
  have hl := hg.lt
  have y := h.kept (Kp.setRow u g (thC th1)) (fun x hx => by
    rw [List.mem_singleton] at hx
    subst hx
    refine ⟨n, fun q => ?_⟩
    rw [q] at hg
    have c1 := hg.cell (o := 1) (v := .int .u32 0) rfl
    have c2 := (h.laid.kd 0 (by omega)).2.1
    rw [show 0 * 5 + 1 = 1 from rfl, c1] at c2
    cases c2)
  obtain ⟨ma, mc, hm, rm, -, -, -⟩ := own_at y.mem
  obtain ⟨mb, mo, rfl, cm⟩ := rm.get (by decide)
  obtain ⟨ea, ec, he, re, -, -, -⟩ := own_at y.evs
  obtain ⟨eb, eo, rfl, ce⟩ := re.get (by decide)
  subst he
  refine ⟨mb, mo, mc, eb, eo, ec, ?_, hg.row (thC th1), cm 5 (by decide), ce 7 (by decide)⟩
  have q := y.hy
  unfold yardC at q
  rw [hm] at q
  exact q
theorem foot9 {k : Yc} {n b : Nat} (hy : b ≤ k.y) (hg : b ≤ k.gb) (hv : ∀ x ∈ ob k.vm, b ≤ x) (hn : b ≤ n) : ∀ x ∈ foot (k.boxes n) (.slice none 0 0) (.slice none 0 0) (.slice none 0 0), b ≤ x := by
  intro x q
  rcases mem_foot.1 q with e | e | e | e | e | e | e | e | e
  · rw [e]; exact hy
  · rw [e]; exact hn
  · rw [e]; show b ≤ n + 1 + 1; omega
  · rw [e]; show b ≤ n + 1 + 1 + 1; omega
  · rw [e]; exact hg
  · exact hv x e
  · simp [ob, Value.ownBlock] at e
  · simp [ob, Value.ownBlock] at e
  · simp [ob, Value.ownBlock] at e
theorem make6 (w : World) : (Instr.makeSlice 28 (.int .i64 6) (.int .i64 6)).run Tryd.prog w = .ok (.slice (some ⟨w.heap.size, 0, none⟩) 6 6) (w.alloc (.cells (flatOf wordL zeros6).toArray 22)) := by
  obtain ⟨i, h1, h2, h3, h4⟩ := info_parts infoWrd
  have := run_make (P := Tryd.prog) w 28 22 i (.int .u32 0) Tryd.underlying28 h1 h2 .i64 .i64 6 6 (by omega) (Int.le_refl _) (by rw [h4]; omega) (by omega)
  rw [h3] at this
  have e : madeCells (Value.cells (.int .u32 0)) (6 * 1) = (flatOf wordL zeros6).toArray := by kernel_rfl
  rw [← e]
  simpa using this

set_option maxRecDepth 20000 in
set_option maxHeartbeats 1000000 in
theorem awake_calls (w : World) (hw : Laid w) : Calls Tryd.prog 9 #[] w (fun e w' => e = .returned (.bool true) ∧ Gr w w') := by
  have gg := ((Gr.refl w).alloc #[.slice none 0 0] 26).alloc (flatOf wordL zeros6).toArray 22
  have e2 : (w.alloc (.cells #[.slice none 0 0] 26)).heap.size = w.heap.size + 1 := by rw [size1]
  have hm := Has.new (w.alloc (.cells #[.slice none 0 0] 26)) (flatOf wordL zeros6).toArray 22
  rw [e2] at hm
  have mk := make6
  have hrow : RowAt ((w.alloc (.cells #[.slice none 0 0] 26)).alloc (.cells (flatOf wordL zeros6).toArray 22)) (some ⟨w.heap.size + 1, 0, none⟩) (flatOf wordL zeros6) := hm.rowAt
  go_enter Tryd.func9, Tryd.ntmps9
  go_wp2_with (fail)
  generalize ((w.alloc (.cells #[.slice none 0 0] 26)).alloc (.cells (flatOf wordL zeros6).toArray 22)) = u0 at gg hm hrow ⊢
  refine (new_calls w.heap.size (some ⟨w.heap.size + 1, 0, none⟩) 6 zeros6 1 (by decide) (by simp) u0 hrow).mono ?_
  rintro e u1 ⟨v1, v2, vm, ⟨rfl, g1⟩, o1, o2, om⟩
  obtain ⟨ta, ct, rfl, -, -, -, -⟩ := own_at o1
  obtain ⟨gq, cb, rfl, hgr, -, -, hgb⟩ := own_at o2
  obtain ⟨gb, go9, rfl, hgc⟩ := hgr.get (by simp)
  obtain ⟨hbg, hgo, -⟩ := hgb _ rfl
  cases hgo
  obtain ⟨B, hB⟩ := own_has o2 (k := gb) (by rw [mem_ob]; rfl)
  have hB0 : B[0]? = some (.slice none 0 0) := by
    have := hgc 0 (by simp)
    rw [Nat.add_zero] at this
    have c := cell_of_row u1 gb 0 B 27 (0, 0) hB
    rw [c] at this
    exact this
  clear hgr hgc hgb
  have hwl := hw.lt
  have z0 := gg.size
  have z1 := g1.size
  have g3 := ((Gr.refl u1).alloc (yard0 w.heap.size ta ct gb cb vm) 43).alloc thA9 25
  have hy := (Has.new u1 (yard0 w.heap.size ta ct gb cb vm) 43).alloc thA9 25
  have ht := Has.new (u1.alloc (.cells (yard0 w.heap.size ta ct gb cb vm) 43)) thA9 25
  rw [size1] at ht
  have zv : ∀ x ∈ ob vm, w.heap.size ≤ x := fun x hx => Nat.le_trans z0 (om.lt x (mem_ob.1 hx)).1
  have zg : w.heap.size ≤ gb := Nat.le_trans z0 hbg
  have hp : 0 ∉ ob vm := by
    obtain ⟨va, vc, rfl, -, -, -, hvb⟩ := own_at om
    intro q
    rw [mem_ob] at q
    cases va with
    | none => simp [Value.ownBlock] at q
    | some y =>
      have := (hvb y rfl).1
      simp [Value.ownBlock] at q
      omega
  have Y : ∀ u, Gr ((u1.alloc (.cells (yard0 w.heap.size ta ct gb cb vm) 43)).alloc (.cells thA9 25)) u → Y0 ⟨u1.heap.size, 0, 0, 0, gb, vm, .slice (some ⟨w.heap.size, 0, none⟩) 1 1, ta, 1, ct, 1, cb, 6⟩ ⟨zeros6, [], [], [], [], 1⟩ (.slice none 0 0) (.slice none 0 0) (.slice none 0 0) B u := fun u g =>
    ⟨hw.later (gg.trans (g1.trans (g3.trans g))), hy.later g, hB.later (g3.trans g), hB0, Nat.zero_lt_one, Nat.zero_lt_one, own_nil _ _ _ _, own_nil _ _ _ _, own_nil _ _ _ _, own_lower (own_later om (g3.trans g)) (Nat.zero_le _), rfl, (by show 6 ≤ 1000; omega), by simp, zU, (by show 1 ≤ 16; omega), by show 0 ≠ u1.heap.size; omega, by have : u0.heap.size ≤ gb := hbg; show 0 ≠ gb; omega, hp, by simp [ob, Value.ownBlock], by simp [ob, Value.ownBlock], by simp [ob, Value.ownBlock]⟩
  go_wp2_with (fail)
  generalize (u1.alloc (.cells (yard0 w.heap.size ta ct gb cb vm) 43)).alloc (.cells thA9 25) = u2 at g3 hy ht Y ⊢
  have cT : ∀ u, Gr u2 u → Has u (u1.heap.size + 1) thA9 25 := fun u g => ht.later g
  have GG := hide (gg.trans (g1.trans g3))
  clear gg g1 g3 hy ht om o1 o2 hB hm hrow mk
  have YT := hide Y
  have CT := hide cT
  clear Y cT
  refine begin_late 8 [5, 7] (fun w' => Gr u2 w') (by kernel_rfl) rfl ?_
  have hH : Gr u2 u2.drew := (Gr.refl u2).drew
  refine AnyL.take 0 (some 13) (.agg (thC th9)) rfl rfl (by kernel_rfl) (by kernel_rfl) (by kernel_rfl) (by kernel_rfl) (fun _ _ _ h => h) (take_th (by kernel_rfl) _ rfl (u1.heap.size + 1) rfl th9 (fun w' hw' => CT.out _ hw') th9_ok) hH ?_
  simp only [Act.put, List.setIfInBounds_toArray, List.set_cons_zero, List.set_cons_succ]
  refine AnyL.takeP 1 (some 14) (.agg (insA cas9)) rfl rfl (by kernel_rfl) (by kernel_rfl) (by kernel_rfl) (by kernel_rfl) (fun _ _ _ h => h) (by kernel_rfl) (fun w' => by go_simp) (fun _ => hH) ?_
  simp only [Act.put, List.setIfInBounds_toArray, List.set_cons_zero, List.set_cons_succ]
  refine AnyL.takeP 3 (some 16) (.pointer (some ⟨u1.heap.size, 0, none⟩)) rfl rfl (by kernel_rfl) (by kernel_rfl) (by kernel_rfl) (by kernel_rfl) (fun _ _ _ h => h) (by kernel_rfl) (fun w' => by go_simp) (fun _ => hH) ?_
  simp only [Act.put, List.setIfInBounds_toArray, List.set_cons_zero, List.set_cons_succ]
  have G0 : Gr u2 u2.drew := (Gr.refl u2).drew
  generalize u2.drew = x2 at G0 hH ⊢
  refine AnyL.three 2 4 6 (by kernel_rfl) rfl rfl rfl (by kernel_rfl) ?_ ?_ ?_
  · refine wp_made (some 15) rfl _ _ (build_in9 _ rfl (by kernel_rfl)) ?_
    refine ⟨fun _ => G0.trans ((Gr.refl x2).alloc (insA cas9) 54), ?_⟩
    simp only [Act.put, List.setIfInBounds_toArray, List.set_cons_zero, List.set_cons_succ]
    have H2_3 := Has.new x2 (insA cas9) 54
    have G3 := (Gr.refl x2).alloc (insA cas9) 54
    have G_3 := G0.trans G3
    generalize x2.alloc (.cells (insA cas9) 54) = x3 at H2_3 G3 G_3 ⊢
    refine AnyL.two 4 6 (by kernel_rfl) rfl rfl (by kernel_rfl) ?_ ?_
    · have HC := port_calls (YT.out _ G_3)
      refine wp_call (some 17) rfl _ _ (by kernel_rfl) HC ?_
      rintro e x4 ⟨⟨rfl, g4⟩, YD4⟩
      refine ⟨_, rfl, fun _ => G_3.trans g4, ?_⟩
      simp only [Act.put, List.setIfInBounds_toArray, List.set_cons_zero, List.set_cons_succ]
      have HI_4 := H2_3.later g4
      have G_4 := G_3.trans g4
      refine AnyL.two 5 6 (by kernel_rfl) rfl rfl (by kernel_rfl) ?_ ?_
      · have HC := step9 YD4 HI_4
        refine wp_call (some 18) rfl _ _ (by kernel_rfl) HC ?_
        rintro e x5 ⟨rfl, ⟨p1, p2, p3, p4, YE5⟩, K5⟩
        refine ⟨_, rfl, late (by kernel_rfl), ?_⟩
        simp only [Act.put, List.setIfInBounds_toArray, List.set_cons_zero, List.set_cons_succ]
        have G_5 := K5.gr (GG.out.trans G_4) (foot9 (Nat.le_trans z0 z1) zg zv (GG.out.trans G_3).size)
        refine AnyL.one 6 (by kernel_rfl) rfl (by kernel_rfl) ?_
        refine wp_made (some 3) rfl _ _ (alloc_th rfl) ?_
        refine ⟨late (by kernel_rfl), ?_⟩
        simp only [Act.put, List.setIfInBounds_toArray, List.set_cons_zero, List.set_cons_succ]
        have H6_6 := Has.new x5 th0A 25
        have G6 := (Gr.refl x5).alloc th0A 25
        have YE_6 := YE5.later G6
        have G_6 := G_5.trans G6
        generalize x5.alloc (.cells th0A 25) = x6 at H6_6 G6 YE_6 G_6 ⊢
        refine AnyL.one 7 (by kernel_rfl) rfl (by kernel_rfl) ?_
        refine wp_store_thr rfl _ _ rfl x5.heap.size (by kernel_rfl) th1 th1_ok (by kernel_rfl) th0A H6_6 rfl ?_
        refine ⟨late (by kernel_rfl), ?_⟩
        refine AnyL.done (by kernel_rfl) ?_
        obtain ⟨mb, mo, mc, eb, eo, ec, hy, ht, cm, ce⟩ := leaf9 YE_6 H6_6
        replace hy : Has (x6.setRow x5.heap.size (thC th1)) u1.heap.size _ _ := hy
        have GF := G_6.setRow (g := x5.heap.size) (by first | exact Below.size (by assumption) | exact Nat.le_trans GG.out.size (Below.size (by assumption))) (thC th1)
        generalize x6.setRow x5.heap.size (thC th1) = w9 at hy ht cm ce GF ⊢
        have cy3 := hy.cell (o := 3) rfl
        have cy6 := hy.cell (o := 6) rfl
        have ct0 := ht.cell (o := 0) (v := .int .i64 1) rfl
        have ct2 := ht.cell (o := 2) (v := .int .u32 0) rfl
        clear hy ht
        go_wp2_with (fail)
        exact bodyPost_ret (v := .bool true) (by simp [results, Tryd.results9, go_sem]) rfl ⟨rfl, GF⟩
      · refine wp_made (some 3) rfl _ _ (alloc_th rfl) ?_
        refine ⟨fun _ => G_4.trans ((Gr.refl x4).alloc th0A 25), ?_⟩
        simp only [Act.put, List.setIfInBounds_toArray, List.set_cons_zero, List.set_cons_succ]
        have H6_7 := Has.new x4 th0A 25
        have G7 := (Gr.refl x4).alloc th0A 25
        have HI_7 := HI_4.later G7
        have YD_7 := YD4.later G7
        have G_7 := G_4.trans G7
        generalize x4.alloc (.cells th0A 25) = x7 at H6_7 G7 HI_7 YD_7 G_7 ⊢
        refine AnyL.one 5 (by kernel_rfl) rfl (by kernel_rfl) ?_
        have HC := step9 YD_7 HI_7
        refine wp_call (some 18) rfl _ _ (by kernel_rfl) HC ?_
        rintro e x8 ⟨rfl, ⟨p1, p2, p3, p4, YE8⟩, K8⟩
        refine ⟨_, rfl, late (by kernel_rfl), ?_⟩
        simp only [Act.put, List.setIfInBounds_toArray, List.set_cons_zero, List.set_cons_succ]
        have HT_8 := H6_7.kept K8 (YD_7.aside H6_7)
        have G_8 := K8.gr (GG.out.trans G_7) (foot9 (Nat.le_trans z0 z1) zg zv (GG.out.trans G_3).size)
        refine AnyL.one 7 (by kernel_rfl) rfl (by kernel_rfl) ?_
        refine wp_store_thr rfl _ _ rfl x4.heap.size (by kernel_rfl) th1 th1_ok (by kernel_rfl) th0A HT_8 rfl ?_
        refine ⟨late (by kernel_rfl), ?_⟩
        refine AnyL.done (by kernel_rfl) ?_
        obtain ⟨mb, mo, mc, eb, eo, ec, hy, ht, cm, ce⟩ := leaf9 YE8 HT_8
        replace hy : Has (x8.setRow x4.heap.size (thC th1)) u1.heap.size _ _ := hy
        have GF := G_8.setRow (g := x4.heap.size) (by first | exact Below.size (by assumption) | exact Nat.le_trans GG.out.size (Below.size (by assumption))) (thC th1)
        generalize x8.setRow x4.heap.size (thC th1) = w9 at hy ht cm ce GF ⊢
        have cy3 := hy.cell (o := 3) rfl
        have cy6 := hy.cell (o := 6) rfl
        have ct0 := ht.cell (o := 0) (v := .int .i64 1) rfl
        have ct2 := ht.cell (o := 2) (v := .int .u32 0) rfl
        clear hy ht
        go_wp2_with (fail)
        exact bodyPost_ret (v := .bool true) (by simp [results, Tryd.results9, go_sem]) rfl ⟨rfl, GF⟩
    · refine wp_made (some 3) rfl _ _ (alloc_th rfl) ?_
      refine ⟨fun _ => G_3.trans ((Gr.refl x3).alloc th0A 25), ?_⟩
      simp only [Act.put, List.setIfInBounds_toArray, List.set_cons_zero, List.set_cons_succ]
      have H6_9 := Has.new x3 th0A 25
      have G9 := (Gr.refl x3).alloc th0A 25
      have HI_9 := H2_3.later G9
      have G_9 := G_3.trans G9
      generalize x3.alloc (.cells th0A 25) = x9 at H6_9 G9 HI_9 G_9 ⊢
      refine AnyL.one 4 (by kernel_rfl) rfl (by kernel_rfl) ?_
      have HC := port_calls (YT.out _ G_9)
      refine wp_call (some 17) rfl _ _ (by kernel_rfl) HC ?_
      rintro e x10 ⟨⟨rfl, g10⟩, YD10⟩
      refine ⟨_, rfl, fun _ => G_9.trans g10, ?_⟩
      simp only [Act.put, List.setIfInBounds_toArray, List.set_cons_zero, List.set_cons_succ]
      have HI_10 := HI_9.later g10
      have HT_10 := H6_9.later g10
      have G_10 := G_9.trans g10
      refine AnyL.one 5 (by kernel_rfl) rfl (by kernel_rfl) ?_
      have HC := step9 YD10 HI_10
      refine wp_call (some 18) rfl _ _ (by kernel_rfl) HC ?_
      rintro e x11 ⟨rfl, ⟨p1, p2, p3, p4, YE11⟩, K11⟩
      refine ⟨_, rfl, late (by kernel_rfl), ?_⟩
      simp only [Act.put, List.setIfInBounds_toArray, List.set_cons_zero, List.set_cons_succ]
      have HT_11 := HT_10.kept K11 (YD10.aside HT_10)
      have G_11 := K11.gr (GG.out.trans G_10) (foot9 (Nat.le_trans z0 z1) zg zv (GG.out.trans G_9).size)
      refine AnyL.one 7 (by kernel_rfl) rfl (by kernel_rfl) ?_
      refine wp_store_thr rfl _ _ rfl x3.heap.size (by kernel_rfl) th1 th1_ok (by kernel_rfl) th0A HT_11 rfl ?_
      refine ⟨late (by kernel_rfl), ?_⟩
      refine AnyL.done (by kernel_rfl) ?_
      obtain ⟨mb, mo, mc, eb, eo, ec, hy, ht, cm, ce⟩ := leaf9 YE11 HT_11
      replace hy : Has (x11.setRow x3.heap.size (thC th1)) u1.heap.size _ _ := hy
      have GF := G_11.setRow (g := x3.heap.size) (by first | exact Below.size (by assumption) | exact Nat.le_trans GG.out.size (Below.size (by assumption))) (thC th1)
      generalize x11.setRow x3.heap.size (thC th1) = w9 at hy ht cm ce GF ⊢
      have cy3 := hy.cell (o := 3) rfl
      have cy6 := hy.cell (o := 6) rfl
      have ct0 := ht.cell (o := 0) (v := .int .i64 1) rfl
      have ct2 := ht.cell (o := 2) (v := .int .u32 0) rfl
      clear hy ht
      go_wp2_with (fail)
      exact bodyPost_ret (v := .bool true) (by simp [results, Tryd.results9, go_sem]) rfl ⟨rfl, GF⟩
  · have HC := port_calls (YT.out _ G0)
    refine wp_call (some 17) rfl _ _ (by kernel_rfl) HC ?_
    rintro e x12 ⟨⟨rfl, g12⟩, YD12⟩
    refine ⟨_, rfl, fun _ => G0.trans g12, ?_⟩
    simp only [Act.put, List.setIfInBounds_toArray, List.set_cons_zero, List.set_cons_succ]
    have G_12 := G0.trans g12
    refine AnyL.two 2 6 (by kernel_rfl) rfl rfl (by kernel_rfl) ?_ ?_
    · refine wp_made (some 15) rfl _ _ (build_in9 _ rfl (by kernel_rfl)) ?_
      refine ⟨fun _ => G_12.trans ((Gr.refl x12).alloc (insA cas9) 54), ?_⟩
      simp only [Act.put, List.setIfInBounds_toArray, List.set_cons_zero, List.set_cons_succ]
      have H2_13 := Has.new x12 (insA cas9) 54
      have G13 := (Gr.refl x12).alloc (insA cas9) 54
      have YD_13 := YD12.later G13
      have G_13 := G_12.trans G13
      generalize x12.alloc (.cells (insA cas9) 54) = x13 at H2_13 G13 YD_13 G_13 ⊢
      refine AnyL.two 5 6 (by kernel_rfl) rfl rfl (by kernel_rfl) ?_ ?_
      · have HC := step9 YD_13 H2_13
        refine wp_call (some 18) rfl _ _ (by kernel_rfl) HC ?_
        rintro e x14 ⟨rfl, ⟨p1, p2, p3, p4, YE14⟩, K14⟩
        refine ⟨_, rfl, late (by kernel_rfl), ?_⟩
        simp only [Act.put, List.setIfInBounds_toArray, List.set_cons_zero, List.set_cons_succ]
        have G_14 := K14.gr (GG.out.trans G_13) (foot9 (Nat.le_trans z0 z1) zg zv (GG.out.trans G0).size)
        refine AnyL.one 6 (by kernel_rfl) rfl (by kernel_rfl) ?_
        refine wp_made (some 3) rfl _ _ (alloc_th rfl) ?_
        refine ⟨late (by kernel_rfl), ?_⟩
        simp only [Act.put, List.setIfInBounds_toArray, List.set_cons_zero, List.set_cons_succ]
        have H6_15 := Has.new x14 th0A 25
        have G15 := (Gr.refl x14).alloc th0A 25
        have YE_15 := YE14.later G15
        have G_15 := G_14.trans G15
        generalize x14.alloc (.cells th0A 25) = x15 at H6_15 G15 YE_15 G_15 ⊢
        refine AnyL.one 7 (by kernel_rfl) rfl (by kernel_rfl) ?_
        refine wp_store_thr rfl _ _ rfl x14.heap.size (by kernel_rfl) th1 th1_ok (by kernel_rfl) th0A H6_15 rfl ?_
        refine ⟨late (by kernel_rfl), ?_⟩
        refine AnyL.done (by kernel_rfl) ?_
        obtain ⟨mb, mo, mc, eb, eo, ec, hy, ht, cm, ce⟩ := leaf9 YE_15 H6_15
        replace hy : Has (x15.setRow x14.heap.size (thC th1)) u1.heap.size _ _ := hy
        have GF := G_15.setRow (g := x14.heap.size) (by first | exact Below.size (by assumption) | exact Nat.le_trans GG.out.size (Below.size (by assumption))) (thC th1)
        generalize x15.setRow x14.heap.size (thC th1) = w9 at hy ht cm ce GF ⊢
        have cy3 := hy.cell (o := 3) rfl
        have cy6 := hy.cell (o := 6) rfl
        have ct0 := ht.cell (o := 0) (v := .int .i64 1) rfl
        have ct2 := ht.cell (o := 2) (v := .int .u32 0) rfl
        clear hy ht
        go_wp2_with (fail)
        exact bodyPost_ret (v := .bool true) (by simp [results, Tryd.results9, go_sem]) rfl ⟨rfl, GF⟩
      · refine wp_made (some 3) rfl _ _ (alloc_th rfl) ?_
        refine ⟨fun _ => G_13.trans ((Gr.refl x13).alloc th0A 25), ?_⟩
        simp only [Act.put, List.setIfInBounds_toArray, List.set_cons_zero, List.set_cons_succ]
        have H6_16 := Has.new x13 th0A 25
        have G16 := (Gr.refl x13).alloc th0A 25
        have HI_16 := H2_13.later G16
        have YD_16 := YD_13.later G16
        have G_16 := G_13.trans G16
        generalize x13.alloc (.cells th0A 25) = x16 at H6_16 G16 HI_16 YD_16 G_16 ⊢
        refine AnyL.one 5 (by kernel_rfl) rfl (by kernel_rfl) ?_
        have HC := step9 YD_16 HI_16
        refine wp_call (some 18) rfl _ _ (by kernel_rfl) HC ?_
        rintro e x17 ⟨rfl, ⟨p1, p2, p3, p4, YE17⟩, K17⟩
        refine ⟨_, rfl, late (by kernel_rfl), ?_⟩
        simp only [Act.put, List.setIfInBounds_toArray, List.set_cons_zero, List.set_cons_succ]
        have HT_17 := H6_16.kept K17 (YD_16.aside H6_16)
        have G_17 := K17.gr (GG.out.trans G_16) (foot9 (Nat.le_trans z0 z1) zg zv (GG.out.trans G0).size)
        refine AnyL.one 7 (by kernel_rfl) rfl (by kernel_rfl) ?_
        refine wp_store_thr rfl _ _ rfl x13.heap.size (by kernel_rfl) th1 th1_ok (by kernel_rfl) th0A HT_17 rfl ?_
        refine ⟨late (by kernel_rfl), ?_⟩
        refine AnyL.done (by kernel_rfl) ?_
        obtain ⟨mb, mo, mc, eb, eo, ec, hy, ht, cm, ce⟩ := leaf9 YE17 HT_17
        replace hy : Has (x17.setRow x13.heap.size (thC th1)) u1.heap.size _ _ := hy
        have GF := G_17.setRow (g := x13.heap.size) (by first | exact Below.size (by assumption) | exact Nat.le_trans GG.out.size (Below.size (by assumption))) (thC th1)
        generalize x17.setRow x13.heap.size (thC th1) = w9 at hy ht cm ce GF ⊢
        have cy3 := hy.cell (o := 3) rfl
        have cy6 := hy.cell (o := 6) rfl
        have ct0 := ht.cell (o := 0) (v := .int .i64 1) rfl
        have ct2 := ht.cell (o := 2) (v := .int .u32 0) rfl
        clear hy ht
        go_wp2_with (fail)
        exact bodyPost_ret (v := .bool true) (by simp [results, Tryd.results9, go_sem]) rfl ⟨rfl, GF⟩
    · refine wp_made (some 3) rfl _ _ (alloc_th rfl) ?_
      refine ⟨fun _ => G_12.trans ((Gr.refl x12).alloc th0A 25), ?_⟩
      simp only [Act.put, List.setIfInBounds_toArray, List.set_cons_zero, List.set_cons_succ]
      have H6_18 := Has.new x12 th0A 25
      have G18 := (Gr.refl x12).alloc th0A 25
      have YD_18 := YD12.later G18
      have G_18 := G_12.trans G18
      generalize x12.alloc (.cells th0A 25) = x18 at H6_18 G18 YD_18 G_18 ⊢
      refine AnyL.one 2 (by kernel_rfl) rfl (by kernel_rfl) ?_
      refine wp_made (some 15) rfl _ _ (build_in9 _ rfl (by kernel_rfl)) ?_
      refine ⟨fun _ => G_18.trans ((Gr.refl x18).alloc (insA cas9) 54), ?_⟩
      simp only [Act.put, List.setIfInBounds_toArray, List.set_cons_zero, List.set_cons_succ]
      have H2_19 := Has.new x18 (insA cas9) 54
      have G19 := (Gr.refl x18).alloc (insA cas9) 54
      have HT_19 := H6_18.later G19
      have YD_19 := YD_18.later G19
      have G_19 := G_18.trans G19
      generalize x18.alloc (.cells (insA cas9) 54) = x19 at H2_19 G19 HT_19 YD_19 G_19 ⊢
      refine AnyL.one 5 (by kernel_rfl) rfl (by kernel_rfl) ?_
      have HC := step9 YD_19 H2_19
      refine wp_call (some 18) rfl _ _ (by kernel_rfl) HC ?_
      rintro e x20 ⟨rfl, ⟨p1, p2, p3, p4, YE20⟩, K20⟩
      refine ⟨_, rfl, late (by kernel_rfl), ?_⟩
      simp only [Act.put, List.setIfInBounds_toArray, List.set_cons_zero, List.set_cons_succ]
      have HT_20 := HT_19.kept K20 (YD_19.aside HT_19)
      have G_20 := K20.gr (GG.out.trans G_19) (foot9 (Nat.le_trans z0 z1) zg zv (GG.out.trans G0).size)
      refine AnyL.one 7 (by kernel_rfl) rfl (by kernel_rfl) ?_
      refine wp_store_thr rfl _ _ rfl x12.heap.size (by kernel_rfl) th1 th1_ok (by kernel_rfl) th0A HT_20 rfl ?_
      refine ⟨late (by kernel_rfl), ?_⟩
      refine AnyL.done (by kernel_rfl) ?_
      obtain ⟨mb, mo, mc, eb, eo, ec, hy, ht, cm, ce⟩ := leaf9 YE20 HT_20
      replace hy : Has (x20.setRow x12.heap.size (thC th1)) u1.heap.size _ _ := hy
      have GF := G_20.setRow (g := x12.heap.size) (by first | exact Below.size (by assumption) | exact Nat.le_trans GG.out.size (Below.size (by assumption))) (thC th1)
      generalize x20.setRow x12.heap.size (thC th1) = w9 at hy ht cm ce GF ⊢
      have cy3 := hy.cell (o := 3) rfl
      have cy6 := hy.cell (o := 6) rfl
      have ct0 := ht.cell (o := 0) (v := .int .i64 1) rfl
      have ct2 := ht.cell (o := 2) (v := .int .u32 0) rfl
      clear hy ht
      go_wp2_with (fail)
      exact bodyPost_ret (v := .bool true) (by simp [results, Tryd.results9, go_sem]) rfl ⟨rfl, GF⟩
  · refine wp_made (some 3) rfl _ _ (alloc_th rfl) ?_
    refine ⟨fun _ => G0.trans ((Gr.refl x2).alloc th0A 25), ?_⟩
    simp only [Act.put, List.setIfInBounds_toArray, List.set_cons_zero, List.set_cons_succ]
    have H6_21 := Has.new x2 th0A 25
    have G21 := (Gr.refl x2).alloc th0A 25
    have G_21 := G0.trans G21
    generalize x2.alloc (.cells th0A 25) = x21 at H6_21 G21 G_21 ⊢
    refine AnyL.two 2 4 (by kernel_rfl) rfl rfl (by kernel_rfl) ?_ ?_
    · refine wp_made (some 15) rfl _ _ (build_in9 _ rfl (by kernel_rfl)) ?_
      refine ⟨fun _ => G_21.trans ((Gr.refl x21).alloc (insA cas9) 54), ?_⟩
      simp only [Act.put, List.setIfInBounds_toArray, List.set_cons_zero, List.set_cons_succ]
      have H2_22 := Has.new x21 (insA cas9) 54
      have G22 := (Gr.refl x21).alloc (insA cas9) 54
      have HT_22 := H6_21.later G22
      have G_22 := G_21.trans G22
      generalize x21.alloc (.cells (insA cas9) 54) = x22 at H2_22 G22 HT_22 G_22 ⊢
      refine AnyL.one 4 (by kernel_rfl) rfl (by kernel_rfl) ?_
      have HC := port_calls (YT.out _ G_22)
      refine wp_call (some 17) rfl _ _ (by kernel_rfl) HC ?_
      rintro e x23 ⟨⟨rfl, g23⟩, YD23⟩
      refine ⟨_, rfl, fun _ => G_22.trans g23, ?_⟩
      simp only [Act.put, List.setIfInBounds_toArray, List.set_cons_zero, List.set_cons_succ]
      have HI_23 := H2_22.later g23
      have HT_23 := HT_22.later g23
      have G_23 := G_22.trans g23
      refine AnyL.one 5 (by kernel_rfl) rfl (by kernel_rfl) ?_
      have HC := step9 YD23 HI_23
      refine wp_call (some 18) rfl _ _ (by kernel_rfl) HC ?_
      rintro e x24 ⟨rfl, ⟨p1, p2, p3, p4, YE24⟩, K24⟩
      refine ⟨_, rfl, late (by kernel_rfl), ?_⟩
      simp only [Act.put, List.setIfInBounds_toArray, List.set_cons_zero, List.set_cons_succ]
      have HT_24 := HT_23.kept K24 (YD23.aside HT_23)
      have G_24 := K24.gr (GG.out.trans G_23) (foot9 (Nat.le_trans z0 z1) zg zv (GG.out.trans G_22).size)
      refine AnyL.one 7 (by kernel_rfl) rfl (by kernel_rfl) ?_
      refine wp_store_thr rfl _ _ rfl x2.heap.size (by kernel_rfl) th1 th1_ok (by kernel_rfl) th0A HT_24 rfl ?_
      refine ⟨late (by kernel_rfl), ?_⟩
      refine AnyL.done (by kernel_rfl) ?_
      obtain ⟨mb, mo, mc, eb, eo, ec, hy, ht, cm, ce⟩ := leaf9 YE24 HT_24
      replace hy : Has (x24.setRow x2.heap.size (thC th1)) u1.heap.size _ _ := hy
      have GF := G_24.setRow (g := x2.heap.size) (by first | exact Below.size (by assumption) | exact Nat.le_trans GG.out.size (Below.size (by assumption))) (thC th1)
      generalize x24.setRow x2.heap.size (thC th1) = w9 at hy ht cm ce GF ⊢
      have cy3 := hy.cell (o := 3) rfl
      have cy6 := hy.cell (o := 6) rfl
      have ct0 := ht.cell (o := 0) (v := .int .i64 1) rfl
      have ct2 := ht.cell (o := 2) (v := .int .u32 0) rfl
      clear hy ht
      go_wp2_with (fail)
      exact bodyPost_ret (v := .bool true) (by simp [results, Tryd.results9, go_sem]) rfl ⟨rfl, GF⟩
    · have HC := port_calls (YT.out _ G_21)
      refine wp_call (some 17) rfl _ _ (by kernel_rfl) HC ?_
      rintro e x25 ⟨⟨rfl, g25⟩, YD25⟩
      refine ⟨_, rfl, fun _ => G_21.trans g25, ?_⟩
      simp only [Act.put, List.setIfInBounds_toArray, List.set_cons_zero, List.set_cons_succ]
      have HT_25 := H6_21.later g25
      have G_25 := G_21.trans g25
      refine AnyL.one 2 (by kernel_rfl) rfl (by kernel_rfl) ?_
      refine wp_made (some 15) rfl _ _ (build_in9 _ rfl (by kernel_rfl)) ?_
      refine ⟨fun _ => G_25.trans ((Gr.refl x25).alloc (insA cas9) 54), ?_⟩
      simp only [Act.put, List.setIfInBounds_toArray, List.set_cons_zero, List.set_cons_succ]
      have H2_26 := Has.new x25 (insA cas9) 54
      have G26 := (Gr.refl x25).alloc (insA cas9) 54
      have HT_26 := HT_25.later G26
      have YD_26 := YD25.later G26
      have G_26 := G_25.trans G26
      generalize x25.alloc (.cells (insA cas9) 54) = x26 at H2_26 G26 HT_26 YD_26 G_26 ⊢
      refine AnyL.one 5 (by kernel_rfl) rfl (by kernel_rfl) ?_
      have HC := step9 YD_26 H2_26
      refine wp_call (some 18) rfl _ _ (by kernel_rfl) HC ?_
      rintro e x27 ⟨rfl, ⟨p1, p2, p3, p4, YE27⟩, K27⟩
      refine ⟨_, rfl, late (by kernel_rfl), ?_⟩
      simp only [Act.put, List.setIfInBounds_toArray, List.set_cons_zero, List.set_cons_succ]
      have HT_27 := HT_26.kept K27 (YD_26.aside HT_26)
      have G_27 := K27.gr (GG.out.trans G_26) (foot9 (Nat.le_trans z0 z1) zg zv (GG.out.trans G_21).size)
      refine AnyL.one 7 (by kernel_rfl) rfl (by kernel_rfl) ?_
      refine wp_store_thr rfl _ _ rfl x2.heap.size (by kernel_rfl) th1 th1_ok (by kernel_rfl) th0A HT_27 rfl ?_
      refine ⟨late (by kernel_rfl), ?_⟩
      refine AnyL.done (by kernel_rfl) ?_
      obtain ⟨mb, mo, mc, eb, eo, ec, hy, ht, cm, ce⟩ := leaf9 YE27 HT_27
      replace hy : Has (x27.setRow x2.heap.size (thC th1)) u1.heap.size _ _ := hy
      have GF := G_27.setRow (g := x2.heap.size) (by first | exact Below.size (by assumption) | exact Nat.le_trans GG.out.size (Below.size (by assumption))) (thC th1)
      generalize x27.setRow x2.heap.size (thC th1) = w9 at hy ht cm ce GF ⊢
      have cy3 := hy.cell (o := 3) rfl
      have cy6 := hy.cell (o := 6) rfl
      have ct0 := ht.cell (o := 0) (v := .int .i64 1) rfl
      have ct2 := ht.cell (o := 2) (v := .int .u32 0) rfl
      clear hy ht
      go_wp2_with (fail)
      exact bodyPost_ret (v := .bool true) (by simp [results, Tryd.results9, go_sem]) rfl ⟨rfl, GF⟩
end Go.Proofs.YtbmlliohepidaaaDoor
