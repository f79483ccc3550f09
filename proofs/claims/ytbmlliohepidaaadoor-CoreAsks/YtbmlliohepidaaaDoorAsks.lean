/-
  The walk of CoreAsks. No condition but that the input lies in the world, and the tables.
-/
import Derived.Test.YtbmlliohepidaaaDoorWrld
import Derived.Test.YtbmlliohepidaaaDoorYst
import Derived.Test.YtbmlliohepidaaaDoorPask
import Derived.Deep.CutBlock
namespace Go.Proofs.YtbmlliohepidaaaDoor
open Go.ChangeShapes Go.WideShapes Go.ChangeAt Go.RowKit
set_option linter.unusedVariables false

/-- what CoreAsks reads behind the step -/
structure AskI (d : InD) (y g b : Nat) (asks : List UInt8) (n : Nat) (t : Th) (w u : World) : Prop where
  gr : Gr w u
  hy : ∃ C a c, Has u y C 43 ∧ C[8]? = some (.string ⟨asks.toArray⟩) ∧ C[6]? = some (.slice a n c)
  hi : Has u b (inC d) 31
  ht : Has u g (thC t) 25
  code : RowAt u d.ca (flatOf insL d.code)
theorem AskI.later {d : InD} {y g b : Nat} {asks : List UInt8} {n : Nat} {t : Th} {w u u' : World} (h : AskI d y g b asks n t w u) (k : Gr u u') : AskI d y g b asks n t w u' := by
  obtain ⟨C, a, c, h1, h2, h3⟩ := h.hy
  exact ⟨h.gr.trans k, ⟨C, a, c, h1.later k, h2, h3⟩, h.hi.later k, h.ht.later k, h.code.later k⟩
/-- the thread is stored -/
theorem ask_leaf {d : InD} {b g : Nat} {w u : World} {k : Yc} {s : Ys} {v1 v2 v3 : Value} {B : Array Value} (Y : Yd k s v1 v2 v3 B u) (G : Gr w u) (hi : Has u b (inC d) 31) (ht : Has u g th0A 25) (hg : w.heap.size ≤ g) (hat : InAt d w) (t : Th) :
    AskI d k.y g b s.asks s.evs.length t w (u.setRow g (thC t)) := by
  have n := Y.besides ht (by decide)
  have hy : k.y ≠ g := fun e => n (mem_foot.2 (by simp [e]))
  obtain ⟨a, c, e, -, -, -, -⟩ := own_at Y.evs
  have G2 := G.setRow (g := g) hg (thC t)
  refine ⟨G2, ⟨_, a, c, Y.hy.rowAside hy _, rfl, ?_⟩, hi.rowAside (hi.apart ht (by decide)) _, ht.row _, hat.code.later G2⟩
  rw [← e]
  rfl

set_option maxRecDepth 20000 in
set_option maxHeartbeats 2000000 in
theorem asks_walk (d : InD) (w : World) (hw : Laid w) (hat : InAt d w) :
    Calls Tryd.prog 3 #[.agg (inC d)] w fun e w' => e = .returned (.bool true) ∧ Gr w w' := by
  have hz := hat.ok
  have gg := (Gr.refl w).alloc (inC d) 31
  have hi := Has.new w (inC d) 31
  have HAT := hide hat
  have HW := hide hw
  clear hat hw
  go_enter Tryd.func3, Tryd.ntmps3
  go_wp2_with (fail)
  generalize w.alloc (.cells (inC d) 31) = u0 at gg hi ⊢
  refine (awake_calls u0 (HW.out.later gg)).mono ?_
  rintro e u1 ⟨rfl, g1⟩
  have hi1 := hi.later g1
  have GG := hide (gg.trans g1)
  clear gg g1 hi
  go_wp2_with (first
    | (refine load_inp rfl _ rfl w.heap.size rfl d hz hi1 ?_)
    | (refine load_inp_g _ rfl (by kernel_rfl) w.heap.size rfl d hz hi1 ?_))
  refine (long_calls d u1 (HAT.out.later GG.out)).mono ?_
  rintro e u2 ⟨rfl, g2⟩
  have hi2 := hi1.later g2
  replace GG := hide (GG.out.trans g2)
  clear g2 hi1
  by_cases hlg : longB d = true
  · go_wp2_with (fail)
    refine (awake_calls u2 (HW.out.later GG.out)).mono ?_
    rintro e u3 ⟨rfl, g3⟩
    go_wp2_with (fail)
    go_ret
    exact ⟨rfl, GG.out.trans g3⟩
  have hl0 : longB d = false := by simpa using hlg
  have HLG := hide hl0
  have hle : d.mem.length ≤ 300 ∧ d.buf.length ≤ 300 ∧ d.asl.length ≤ 7 ∧ d.code.length ≤ 300 := by
    unfold longB at hl0
    simp only [Bool.or_eq_false_iff, decide_eq_false_iff_not] at hl0
    omega
  rw [hl0]
  have HLE := hide hle
  clear hlg hl0 hle
  go_wp2_with (first
    | (refine load_inp rfl _ rfl w.heap.size rfl d hz hi2 ?_))
  refine (world_calls d u2 (HAT.out.later GG.out) HLE.out.1 HLE.out.2.1 HLE.out.2.2.1).mono ?_
  rintro e u3 ⟨cs, ta, nt, ct, gb, nb, cb, vbuf, vs, vm, B, ⟨rfl, g3⟩, ⟨hnt, hnb, hgb⟩, hB, hB0, he, hs, hv⟩
  have hi3 := hi2.later g3
  have y0 := y0_of (cs := cs) (ta := ta) (ct := ct) (cb := cb) (HAT.out.later GG.out) HLE.out.1 (HW.out.later GG.out) g3 hnt hnb hgb hB hB0 he hs hv
  have lows : (∀ x ∈ ob vm, w.heap.size ≤ x) ∧ (∀ x ∈ ob vbuf, w.heap.size ≤ x) ∧ (∀ x ∈ ob vs, w.heap.size ≤ x) ∧ w.heap.size ≤ gb ∧ w.heap.size ≤ u3.heap.size := by
    have h2 := GG.out.size
    have h3 := g3.size
    exact ⟨fun x hx => Nat.le_trans h2 (hv.lt x (mem_ob.1 hx)).1, fun x hx => Nat.le_trans h2 (he.lt x (mem_ob.1 hx)).1, fun x hx => Nat.le_trans h2 (hs.lt x (mem_ob.1 hx)).1, by omega, by omega⟩
  have LW := hide lows
  have Y0H := hide y0
  replace GG := hide (GG.out.trans g3)
  clear g3 hi2 lows y0 he hs hv hB hB0 hgb
  go_upto_region 4 with (fail)
  have hi4 := hi3.alloc (yardA cs (.slice ta nt ct) gb nb cb vm (1 + (d.room : Int) % 16) vs) 43
  have g4 := GG.out.alloc (yardA cs (.slice ta nt ct) gb nb cb vm (1 + (d.room : Int) % 16) vs) 43
  generalize u3.alloc (.cells (yardA cs (.slice ta nt ct) gb nb cb vm (1 + (d.room : Int) % 16) vs) 43) = u4 at Y0H hi4 g4 ⊢
  clear hi3
  replace GG := hide g4
  clear g4
  have h10 := inC_10 hz
  have c20 : (thL d.t).length = 10 := by simp [thL, hz.len]
  have HI := hide (fun (u : World) (g : Gr u4 u) => hi4.later g)
  clear hi4
  go_cut [4] from 17 (fun v wx => ∃ g, v = .pointer (some ⟨g, 0, none⟩) ∧ Hid (AskI d u3.heap.size g w.heap.size (stepM (yardM (d.mem.length : Int)) d.t d.code (ys0 d)).2.asks (stepM (yardM (d.mem.length : Int)) d.t d.code (ys0 d)).2.evs.length (stepM (yardM (d.mem.length : Int)) d.t d.code (ys0 d)).1 w wx) ∧ ThOk (stepM (yardM (d.mem.length : Int)) d.t d.code (ys0 d)).1)
  case first =>
    refine begin_late 9 [6, 8] (fun w' => Gr u4 w') (by kernel_rfl) rfl ?_
    have hH : Gr u4 u4.drew := (Gr.refl u4).drew
    refine AnyL.takeP 0 (some 17) (.pointer (some ⟨w.heap.size, 0, none⟩)) rfl rfl (by kernel_rfl) (by kernel_rfl) (by kernel_rfl) (by kernel_rfl) (fun _ _ _ h => h) (by kernel_rfl) (fun w' => by go_simp) (fun _ => hH) ?_
    simp only [Act.put, List.setIfInBounds_toArray, List.set_cons_zero, List.set_cons_succ]
    refine AnyL.take 1 (some 18) (.agg (thC d.t)) rfl rfl (by kernel_rfl) (by kernel_rfl) (by kernel_rfl) (by kernel_rfl) (fun _ _ _ h => h) (yieldsIf_load_mid (by kernel_rfl) 25 _ rfl w.heap.size 0 rfl (thL d.t) _ (fun u h j v hv => by rw [Nat.zero_add]; exact (HI.out u h).cell (inC_th hz j v hv)) Tryd.underlying25 rfl (by rw [c20]; exact infoT10)) hH ?_
    simp only [Act.put, List.setIfInBounds_toArray, List.set_cons_zero, List.set_cons_succ]
    refine AnyL.takeP 2 (some 19) (.pointer (some ⟨w.heap.size, 10, none⟩)) rfl rfl (by kernel_rfl) (by kernel_rfl) (by kernel_rfl) (by kernel_rfl) (fun _ _ _ h => h) (by kernel_rfl) (fun w' => by go_simp) (fun _ => hH) ?_
    simp only [Act.put, List.setIfInBounds_toArray, List.set_cons_zero, List.set_cons_succ]
    refine AnyL.take 3 (some 20) (.slice d.ca d.code.length d.cc) rfl rfl (by kernel_rfl) (by kernel_rfl) (by kernel_rfl) (by kernel_rfl) (fun _ _ _ h => h) (yields_held _ (by kernel_rfl) (fun w' hw' => by have c1 := (HI.out _ hw').cell h10; go_simp)) hH ?_
    simp only [Act.put, List.setIfInBounds_toArray, List.set_cons_zero, List.set_cons_succ]
    refine AnyL.takeP 4 (some 21) (.pointer (some ⟨u3.heap.size, 0, none⟩)) rfl rfl (by kernel_rfl) (by kernel_rfl) (by kernel_rfl) (by kernel_rfl) (fun _ _ _ h => h) (by kernel_rfl) (fun w' => by go_simp) (fun _ => hH) ?_
    simp only [Act.put, List.setIfInBounds_toArray, List.set_cons_zero, List.set_cons_succ]
    have FL : ∀ n, w.heap.size ≤ n → ∀ x ∈ foot ((yc0 d u3.heap.size gb vm cs ta nt ct nb cb).boxes n) vbuf vs (.slice none 0 0), w.heap.size ≤ x := fun n hn => foot_low (k := yc0 d u3.heap.size gb vm cs ta nt ct nb cb) LW.out.2.2.2.2 LW.out.2.2.2.1 LW.out.1 LW.out.2.1 LW.out.2.2.1 hn
    have FLH := hide FL
    clear FL
    have SZ := hide (Nat.le_trans GG.out.size (Below.size hH))
    refine AnyL.two 5 7 (by kernel_rfl) rfl rfl (by kernel_rfl) ?_ ?_
    · have HC := port_calls (Y0H.out.later hH)
      refine wp_call (some 22) rfl _ _ (by kernel_rfl) HC ?_
      rintro e x5 ⟨⟨rfl, g5⟩, YD5⟩
      refine ⟨_, rfl, fun _ => hH.trans g5, ?_⟩
      simp only [Act.put, List.setIfInBounds_toArray, List.set_cons_zero, List.set_cons_succ]
      have G5 := hH.trans g5
      refine AnyL.two 6 7 (by kernel_rfl) rfl rfl (by kernel_rfl) ?_ ?_
      · have HC := step_yard YD5 HAT.out.ok d.code HAT.out.ins (by have := HLE.out; omega) d.ca d.cc (ys0_fuel HLE.out.2.2.1) (HAT.out.code.later (GG.out.trans G5))
        refine wp_call (some 23) rfl _ _ (by kernel_rfl) HC ?_
        rintro e x6 ⟨rfl, ⟨p1, p2, p3, p4, YE, -⟩, K6⟩
        refine ⟨_, rfl, late (by kernel_rfl), ?_⟩
        simp only [Act.put, List.setIfInBounds_toArray, List.set_cons_zero, List.set_cons_succ]
        have GK := K6.gr (GG.out.trans G5) (FLH.out _ SZ.out)
        have HI6 := (HI.out _ G5).kept K6 (YD5.besides (HI.out _ G5) (by decide))
        refine AnyL.one 7 (by kernel_rfl) rfl (by kernel_rfl) ?_
        refine wp_made (some 4) rfl _ _ (alloc_th rfl) ?_
        refine ⟨late (by kernel_rfl), ?_⟩
        simp only [Act.put, List.setIfInBounds_toArray, List.set_cons_zero, List.set_cons_succ]
        have hT := Has.new x6 th0A 25
        have gA := (Gr.refl x6).alloc th0A 25
        have TO := step_th YD5 HAT.out.ok d.code HAT.out.ins
        refine AnyL.one 8 (by kernel_rfl) rfl (by kernel_rfl) ?_
        refine wp_store_thr rfl _ _ rfl (x6.heap.size) (by kernel_rfl) (stepM (yardM (d.mem.length : Int)) d.t d.code (ys0 d)).1 TO (by kernel_rfl) th0A hT rfl ?_
        refine ⟨late (by kernel_rfl), ?_⟩
        refine AnyL.done (by kernel_rfl) ?_
        have AI := hide (ask_leaf (YE.kept (gA.kp []) (by simp)) (GK.trans gA) (HI6.later gA) hT GK.size HAT.out (stepM (yardM (d.mem.length : Int)) d.t d.code (ys0 d)).1)
        go_wp2_with (fail)
        go_meet
        case rel => exact ⟨_, rfl, AI, TO⟩
      · refine wp_made (some 4) rfl _ _ (alloc_th rfl) ?_
        refine ⟨fun _ => G5.trans ((Gr.refl x5).alloc th0A 25), ?_⟩
        simp only [Act.put, List.setIfInBounds_toArray, List.set_cons_zero, List.set_cons_succ]
        have hT0 := Has.new x5 th0A 25
        have gA := (Gr.refl x5).alloc th0A 25
        have YD6 := YD5.kept (gA.kp []) (by simp)
        have G6 := G5.trans gA
        generalize x5.alloc (.cells th0A 25) = x7 at hT0 gA YD6 G6 ⊢
        refine AnyL.one 6 (by kernel_rfl) rfl (by kernel_rfl) ?_
        have HC := step_yard YD6 HAT.out.ok d.code HAT.out.ins (by have := HLE.out; omega) d.ca d.cc (ys0_fuel HLE.out.2.2.1) (HAT.out.code.later (GG.out.trans G6))
        refine wp_call (some 23) rfl _ _ (by kernel_rfl) HC ?_
        rintro e x6 ⟨rfl, ⟨p1, p2, p3, p4, YE, -⟩, K6⟩
        refine ⟨_, rfl, late (by kernel_rfl), ?_⟩
        simp only [Act.put, List.setIfInBounds_toArray, List.set_cons_zero, List.set_cons_succ]
        have GK := K6.gr (GG.out.trans G6) (FLH.out _ SZ.out)
        have HI6 := (HI.out _ G6).kept K6 (YD6.besides (HI.out _ G6) (by decide))
        have hT := hT0.kept K6 (YD6.besides hT0 (by decide))
        have TO := step_th YD5 HAT.out.ok d.code HAT.out.ins
        refine AnyL.one 8 (by kernel_rfl) rfl (by kernel_rfl) ?_
        refine wp_store_thr rfl _ _ rfl (x5.heap.size) (by kernel_rfl) (stepM (yardM (d.mem.length : Int)) d.t d.code (ys0 d)).1 TO (by kernel_rfl) th0A hT rfl ?_
        refine ⟨late (by kernel_rfl), ?_⟩
        refine AnyL.done (by kernel_rfl) ?_
        have AI := hide (ask_leaf YE GK HI6 hT (Nat.le_trans SZ.out (Below.size g5)) HAT.out (stepM (yardM (d.mem.length : Int)) d.t d.code (ys0 d)).1)
        go_wp2_with (fail)
        go_meet
        case rel => exact ⟨_, rfl, AI, TO⟩
    · refine wp_made (some 4) rfl _ _ (alloc_th rfl) ?_
      refine ⟨fun _ => hH.trans ((Gr.refl u4.drew).alloc th0A 25), ?_⟩
      simp only [Act.put, List.setIfInBounds_toArray, List.set_cons_zero, List.set_cons_succ]
      have hT0 := Has.new u4.drew th0A 25
      have gA := hH.alloc th0A 25
      have gS := Below.size ((Gr.refl u4.drew).alloc th0A 25)
      generalize u4.drew.alloc (.cells th0A 25) = x4 at hT0 gA gS ⊢
      refine AnyL.one 5 (by kernel_rfl) rfl (by kernel_rfl) ?_
      have HC := port_calls (Y0H.out.later gA)
      refine wp_call (some 22) rfl _ _ (by kernel_rfl) HC ?_
      rintro e x5 ⟨⟨rfl, g5⟩, YD5⟩
      refine ⟨_, rfl, fun _ => gA.trans g5, ?_⟩
      simp only [Act.put, List.setIfInBounds_toArray, List.set_cons_zero, List.set_cons_succ]
      have G5 := gA.trans g5
      have hT1 := hT0.later g5
      refine AnyL.one 6 (by kernel_rfl) rfl (by kernel_rfl) ?_
      have HC := step_yard YD5 HAT.out.ok d.code HAT.out.ins (by have := HLE.out; omega) d.ca d.cc (ys0_fuel HLE.out.2.2.1) (HAT.out.code.later (GG.out.trans G5))
      refine wp_call (some 23) rfl _ _ (by kernel_rfl) HC ?_
      rintro e x6 ⟨rfl, ⟨p1, p2, p3, p4, YE, -⟩, K6⟩
      refine ⟨_, rfl, late (by kernel_rfl), ?_⟩
      simp only [Act.put, List.setIfInBounds_toArray, List.set_cons_zero, List.set_cons_succ]
      have GK := K6.gr (GG.out.trans G5) (FLH.out _ (Nat.le_trans SZ.out gS))
      have HI6 := (HI.out _ G5).kept K6 (YD5.besides (HI.out _ G5) (by decide))
      have hT := hT1.kept K6 (YD5.besides hT1 (by decide))
      have TO := step_th YD5 HAT.out.ok d.code HAT.out.ins
      refine AnyL.one 8 (by kernel_rfl) rfl (by kernel_rfl) ?_
      refine wp_store_thr rfl _ _ rfl (u4.drew.heap.size) (by kernel_rfl) (stepM (yardM (d.mem.length : Int)) d.t d.code (ys0 d)).1 TO (by kernel_rfl) th0A hT rfl ?_
      refine ⟨late (by kernel_rfl), ?_⟩
      refine AnyL.done (by kernel_rfl) ?_
      have AI := hide (ask_leaf YE GK HI6 hT SZ.out HAT.out (stepM (yardM (d.mem.length : Int)) d.t d.code (ys0 d)).1)
      go_wp2_with (fail)
      go_meet
      case rel => exact ⟨_, rfl, AI, TO⟩
  case rest =>
    obtain ⟨g, rfl, A0, TO⟩ := hcut
    have CA := step_asks (d.mem.length : Int) d.t (ys0 d) HAT.out.ok d.code rfl rfl
    generalize stepM (yardM (d.mem.length : Int)) d.t d.code (ys0 d) = q at A0 TO CA
    obtain ⟨t', s'⟩ := q
    simp only at A0 TO CA
    generalize s'.asks = asks at A0 CA
    generalize s'.evs = evs at A0 CA
    clear HI LW Y0H HLG
    have AA := A0.out
    obtain ⟨yC, ea, ec, hy, hy8, hy6⟩ := AA.hy
    have c8 := hy.cell hy8
    have c6 := hy.cell hy6
    have b0 := AA.hi.cell (inC_th hz 0 _ rfl)
    have b9 : wc.cell? ⟨w.heap.size, 9, none⟩ = some (.int .i64 d.t.st) := AA.hi.cell (inC_th hz 9 _ (by have := thC_st hz; simpa [thC] using this))
    have b10 := AA.hi.cell h10
    have t9 := AA.ht.cell (thC_st TO)
    have hTh := AA.ht
    have rng : wc.rangeAt w.heap.size 0 (thL d.t) := fun j v hv => by rw [Nat.zero_add]; exact AA.hi.cell (inC_th hz j v hv)
    have GR := hide AA.gr
    have CODE := hide AA.code
    have REG := hide (fun k (hk : k < 8) => AA.ht.cell (thC_reg TO k hk))
    have REG0 := hide (fun k (hk : k < 8) => AA.hi.cell (inC_th hz (1 + k) _ (by have := thC_reg hz k hk; simpa [thC] using this)))
    clear A0 AA hy hy8 hy6 h10 c20
    rcases CA with ⟨hst, rfl, rfl, rfl⟩ | ⟨hst, rfl, rfl⟩ | ⟨hst, rfl, hpc⟩ | ⟨hst, rfl, hpc, h3⟩ | ⟨hst, hpc, h3, hop⟩
    · have hst' : (d.t.st != 0) = true := by simpa using hst
      replace c8 : wc.cell? ⟨u3.heap.size, 8, none⟩ = some (.string ⟨#[]⟩) := c8
      replace c6 : wc.cell? ⟨u3.heap.size, 6, none⟩ = some (.slice ea 0 ec) := c6
      have er := thEq_refl d.t
      go_wp2_with (first
        | (refine load_th_g _ rfl (by kernel_rfl) g rfl d.t hTh TO ?_)
        | (refine load_mid_g _ rfl (by kernel_rfl) w.heap.size 0 rfl d.t rng TO ?_)
        | (refine step_eqth _ _ rfl (by kernel_rfl) d.t d.t TO TO rfl rfl ?_; rw [er]))
      go_ret
      exact ⟨rfl, GR.out⟩
    · have hst' : (d.t.st != 0) = false := by simpa using hst
      replace c8 : wc.cell? ⟨u3.heap.size, 8, none⟩ = some (.string ⟨#[102]⟩) := c8
      have er := thEq_refl d.t
      go_wp2_with (first
        | (refine load_th_g _ rfl (by kernel_rfl) g rfl d.t hTh TO ?_)
        | (refine load_mid_g _ rfl (by kernel_rfl) w.heap.size 0 rfl d.t rng TO ?_)
        | (refine step_eqth _ _ rfl (by kernel_rfl) d.t d.t TO TO rfl rfl ?_; rw [er]))
      go_ret
      exact ⟨rfl, GR.out⟩
    · have hst' : (d.t.st != 0) = false := by simpa using hst
      replace c8 : wc.cell? ⟨u3.heap.size, 8, none⟩ = some (.string ⟨#[]⟩) := c8
      have hpc' : decide (0 ≤ d.t.pc) = false ∨ (decide (0 ≤ d.t.pc) = true ∧ decide (d.t.pc < (d.code.length : Int)) = false) := by
        simp only [decide_eq_false_iff_not, decide_eq_true_eq]; omega
      clear hpc
      rcases hpc' with p1 | ⟨p1, p2⟩
      · go_wp2_with (fail)
        go_ret
        exact ⟨rfl, GR.out⟩
      · go_wp2_with (fail)
        go_ret
        exact ⟨rfl, GR.out⟩
    · have hst' : (d.t.st != 0) = false := by simpa using hst
      replace c8 : wc.cell? ⟨u3.heap.size, 8, none⟩ = some (.string ⟨#[]⟩) := c8
      have p1 : decide (0 ≤ d.t.pc) = true := by simpa using hpc.1
      have p2 : decide (d.t.pc < (d.code.length : Int)) = true := by simpa using hpc.2
      have h3' : (t'.st != 3) = false := by simpa using h3
      clear hpc h3
      go_wp2_with (fail)
      go_ret
      exact ⟨rfl, GR.out⟩
    · have hst' : (d.t.st != 0) = false := by simpa using hst
      have p1 : decide (0 ≤ d.t.pc) = true := by simpa using hpc.1
      have p2 : decide (d.t.pc < (d.code.length : Int)) = true := by simpa using hpc.2
      have h3' : (t'.st != 3) = true := by simpa using h3
      obtain ⟨n, hn⟩ := Int.eq_ofNat_of_zero_le hpc.1
      have hnl : n < d.code.length := by omega
      have hnl' : (n : Int) < (d.code.length : Int) := by omega
      rw [hn] at b0 p1 p2 hop
      rw [Int.toNat_natCast] at hop
      obtain ⟨cb9, co9, hca, -⟩ := CODE.out.get (by rw [flatOf_length insL_len]; omega)
      have CR := CODE.out
      rw [hca] at CR b10
      have i0 := CR.cell insL_len hnl ins0 0 (by omega)
      have i1 := CR.cell insL_len hnl ins0 1 (by omega)
      rw [Nat.add_zero] at i0
      rw [← Nat.add_assoc] at i1
      generalize d.code.getD n ins0 = i at i0 i1 hop
      replace i0 : wc.cell? ⟨cb9, co9 + n * 5, none⟩ = some (.int .i64 i.op) := i0
      replace i1 : wc.cell? ⟨cb9, co9 + n * 5 + 1, none⟩ = some (.int .i64 i.a) := i1
      clear hpc h3 hn CR
      rcases hop with ⟨rfl, ho⟩ | ⟨ho, rfl⟩ | ⟨ho, rfl⟩ | ⟨ho, rfl⟩ | ⟨ho, rfl⟩ | ⟨ho, rfl, ha, hne⟩ | ⟨ho, rfl, hs⟩ | ⟨ho, rfl, hs⟩ | ⟨ho, rfl⟩ | ⟨ho, rfl⟩
      · replace c8 : wc.cell? ⟨u3.heap.size, 8, none⟩ = some (.string ⟨#[]⟩) := c8
        obtain ⟨k1, k2, k3, k4, k5, k6, k7, k8⟩ := ho
        have e1 : (i.op == 16) = false := by simpa using k1
        have e2 : (i.op == 17) = false := by simpa using k2
        have e3 : (i.op == 19) = false := by simpa using k3
        have e4 : (i.op == 20) = false := by simpa using k4
        have e5 : (i.op == 21) = false := by simpa using k5
        have e6 : (i.op == 23) = false := by simpa using k6
        have e7 : (i.op == 24) = false := by simpa using k7
        have e8 : (i.op == 25) = false := by simpa using k8
        clear k1 k2 k3 k4 k5 k6 k7 k8
        go_wp2_with (fail)
        go_ret
        exact ⟨rfl, GR.out⟩
      · replace c8 : wc.cell? ⟨u3.heap.size, 8, none⟩ = some (.string ⟨#[108]⟩) := c8
        rw [ho] at i0
        go_wp2_with (fail)
        go_ret
        exact ⟨rfl, GR.out⟩
      · replace c8 : wc.cell? ⟨u3.heap.size, 8, none⟩ = some (.string ⟨#[115]⟩) := c8
        rw [ho] at i0
        go_wp2_with (fail)
        go_ret
        exact ⟨rfl, GR.out⟩
      · replace c8 : wc.cell? ⟨u3.heap.size, 8, none⟩ = some (.string ⟨#[108, 120]⟩) := c8
        rcases ho with ho | ho
        · rw [ho] at i0
          go_wp2_with (fail)
          go_ret
          exact ⟨rfl, GR.out⟩
        · rw [ho] at i0
          go_wp2_with (fail)
          go_ret
          exact ⟨rfl, GR.out⟩
      · replace c8 : wc.cell? ⟨u3.heap.size, 8, none⟩ = some (.string ⟨#[108, 120]⟩) := c8
        rw [ho] at i0
        go_wp2_with (fail)
        go_quiet (fail)
        go_wp2_with (fail)
        go_ret
        exact ⟨rfl, GR.out.drewN nq⟩
      · replace c8 : wc.cell? ⟨u3.heap.size, 8, none⟩ = some (.string ⟨#[108]⟩) := c8
        rw [ho] at i0
        obtain ⟨m, hm, hm8⟩ := reg_nat ha
        have hm8' : (m : Int) < 8 := by omega
        rw [hm] at i1 hne
        have r1 := REG.out m hm8
        have r2 := REG0.out m hm8
        have hne' : (t'.reg m != d.t.reg m) = true := by simpa using hne
        go_wp2_with (fail)
        go_quiet (fail)
        go_wp2_with (fail)
        go_ret
        exact ⟨rfl, GR.out.drewN nq⟩
      · replace c8 : wc.cell? ⟨u3.heap.size, 8, none⟩ = some (.string ⟨#[108]⟩) := c8
        rw [ho] at i0
        rw [hs] at t9
        go_wp2_with (fail)
        go_ret
        exact ⟨rfl, GR.out⟩
      · replace c8 : wc.cell? ⟨u3.heap.size, 8, none⟩ = some (.string ⟨#[108, 122]⟩) := c8
        rw [ho] at i0
        rw [hs] at t9
        go_wp2_with (fail)
        go_ret
        exact ⟨rfl, GR.out⟩
      · replace c8 : wc.cell? ⟨u3.heap.size, 8, none⟩ = some (.string ⟨#[119]⟩) := c8
        rw [ho] at i0
        go_wp2_with (fail)
        go_ret
        exact ⟨rfl, GR.out⟩
      · replace c8 : wc.cell? ⟨u3.heap.size, 8, none⟩ = some (.string ⟨#[114]⟩) := c8
        rw [ho] at i0
        go_wp2_with (fail)
        go_ret
        exact ⟨rfl, GR.out⟩
end Go.Proofs.YtbmlliohepidaaaDoor
