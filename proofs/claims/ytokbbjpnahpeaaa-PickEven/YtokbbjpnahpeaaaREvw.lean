/-
  The document's Even walked: the even script, by lists. No condition but that there may be such threads, such a window and so few picks, and that the wishes' cells hold them.
-/
import Derived.Test.YtokbbjpnahpeaaaREvn
namespace Go.Proofs.Ytokbbjpnahpeaaa
open Go.ChangeShapes Go.WideShapes Go.ChangeAt Go.RowKit
set_option linter.unusedVariables false

theorem Nown.has {w : World} {base T g c : Nat} {f : Nat → Int} (h : Nown w base (.slice (some ⟨g, 0, none⟩) T c) (duL f T)) (hT : 0 < T) : ∃ C, Has w g C 3 ∧ base ≤ g := by
  rcases h.2 with ⟨h', _⟩ | ⟨g', cap', cur, h', hb, hg, _⟩
  · simp at h'
  · simp only [Value.slice.injEq, Option.some.injEq, Addr.mk.injEq, and_true] at h'
    obtain ⟨rfl, _⟩ := h'
    exact ⟨cur, hg, hb⟩
theorem Nown.cellK {w : World} {base T g c : Nat} {f : Nat → Int} (h : Nown w base (.slice (some ⟨g, 0, none⟩) T c) (duL f T)) (k : Nat) (hk : k < T) : w.cell? ⟨g, k, none⟩ = some (.int .i64 (f k)) := by
  unfold Nown at h
  rw [duL_len] at h
  rw [World.ownsRow.cellAt h k (by omega), ints_at _ k (by rw [duL_len]; exact hk), duL_get f T k hk]
theorem Nown.freeK {w : World} {base T g c : Nat} {f : Nat → Int} (h : Nown w base (.slice (some ⟨g, 0, none⟩) T c) (duL f T)) (k : Nat) : w.frozen? ⟨g, k, none⟩ = false := by
  unfold Nown at h
  rw [duL_len] at h
  exact World.ownsRow.frozenAt h k
theorem Pown.cellK {w : World} {base T g c : Nat} (h : Pown w base (.slice (some ⟨g, 0, none⟩) T c) (itL T)) (k : Nat) (hk : k < T) : w.cell? ⟨g, k * 2, none⟩ = some (.int .i64 (itm k).1) ∧ w.cell? ⟨g, k * 2 + 1, none⟩ = some (.int .i64 (itm k).2) := by
  have h1 := flatPC_a (itL T) k (by rw [itL_len]; exact hk)
  have h2 := flatPC_v (itL T) k (by rw [itL_len]; exact hk)
  rw [itL_get T k hk, List.getElem?_toArray] at h1 h2
  unfold Pown at h
  rw [itL_len] at h
  exact ⟨(World.ownsRow.cellAt h _ (by omega)).trans h1, (World.ownsRow.cellAt h _ (by omega)).trans h2⟩
/-- a row that is not empty lies somewhere -/
theorem own_some {w : World} {base n sz : Nat} {t : TypeId} {v : Value} {xs : List Value} (h : w.ownsRow base t sz v n xs) (hn : 0 < n) : ∃ g c, v = .slice (some ⟨g, 0, none⟩) n c := by
  rcases h.2 with ⟨_, h0⟩ | ⟨g, cap, cur, rfl, _⟩
  · omega
  · exact ⟨g, cap, rfl⟩

/-- the first part: what there is to pick, and by when -/
def R1 (w : World) (wi : Int) (k : Nat) (v9 v10 : Value) (wr : World) : Prop :=
  Pown wr w.heap.size v9 (itL (2 * k)) ∧ Nown wr w.heap.size v10 (duL (fun m => -(m : Int) + wi) (2 * k)) ∧ Gr w wr

set_option maxRecDepth 20000 in
set_option maxHeartbeats 2000000 in
theorem reven_calls (a : Option Addr) (ca : Nat) (ws : List Pk) (hws : ws.length ≤ 400) (t : Nat) (ht : 1 ≤ t) (h8 : t ≤ 8) (wi : Int) (hwi : 4 * (t : Int) ≤ wi) (hwm : wi ≤ 1099511627776) (n : Nat) (hn : n ≤ 400) (w : World) (ha : PicksAt w a ws) :
    Calls Try.prog 17 #[.slice a ws.length ca, .int .i64 t, .int .i64 wi, .int .i64 n] w fun e w' => ∃ v, (e = .returned v ∧ Gr w w') ∧ ∃ b, Pown w' b v (evL ws t wi n) := by
  have HA := hide ha
  have ht' : (t : Int) ≤ 8 := by omega
  have ht1 : 1 ≤ (t : Int) := by omega
  have hn' : (n : Int) ≤ 400 := by omega
  have hws' : (ws.length : Int) ≤ 400 := by omega
  clear ha
  go_enter Try.func17, Try.ntmps17
  go_wp2_with (fail)
  go_loopw [9, 10, 11] (fun s9 s10 s11 wr => ∃ k : Nat, k ≤ t ∧ s11 = .int .i64 k ∧ Hid (R1 w wi k s9 s10 wr)) (fun _ _ s11 _ => t - (intOf s11).toNat)
  case atStart => exact ⟨0, by omega, rfl, Pown.nil _ _, Nown.nil _ _, Gr.refl w⟩
  case round =>
    obtain ⟨k, hk, rfl, hI⟩ := hrel
    by_cases hlt : k < t
    · have hlt' : (k : Int) < t := by omega
      obtain ⟨hp, hd, gr⟩ := hI.out
      obtain ⟨v1, w1, r1, o1, q1⟩ := app_pk2 hp (0, (k : Int)) (1, (k : Int)) (by rw [itL_len]; omega) gr.size
      have ga := gr.alloc #[.int .i64 0, .int .i64 k, .int .i64 1, .int .i64 k] 23
      have gA := (Gr.refl wr).alloc #[.int .i64 0, .int .i64 k, .int .i64 1, .int .i64 k] 23
      have gr1 : Gr w w1 := grown_gr ga (hp.later gA) q1 (Nat.le_refl _)
      have hd1 : Nown w1 w.heap.size u10 (duL (fun m => -(m : Int) + wi) (2 * k)) := (hd.later gA).picks (hp.later gA) q1
      obtain ⟨v2, w2, r2, o2, q2⟩ := app_num2 hd1 (wi - 2 * (k : Int)) (wi - 2 * (k : Int) - 1) (by rw [duL_len]; omega) gr1.size
      have gB := (Gr.refl w1).alloc #[.int .i64 (wi - 2 * (k : Int)), .int .i64 (wi - 2 * (k : Int) - 1)] 3
      have gr2 : Gr w w2 := grown_gr (gr1.trans gB) (hd1.later gB) q2 (Nat.le_refl _)
      have O2 : Hid (R1 w wi (k + 1) v1 v2 w2) := by
        refine ⟨?_, ?_, gr2⟩
        · have := (o1.later gB).nums (hd1.later gB) q2
          rw [show ((0 : Int), (k : Int)) = itm (2 * k) by unfold itm; rw [show 2 * k % 2 = 0 by omega, show 2 * k / 2 = k by omega]; rfl, show ((1 : Int), (k : Int)) = itm (2 * k + 1) by unfold itm; rw [show (2 * k + 1) % 2 = 1 by omega, show (2 * k + 1) / 2 = k by omega]; rfl, itL_two] at this
          exact this
        · have := o2
          rw [show wi - 2 * (k : Int) = (fun m : Nat => -(m : Int) + wi) (2 * k) by simp only; omega, show (fun m : Nat => -(m : Int) + wi) (2 * k) - 1 = (fun m : Nat => -(m : Int) + wi) (2 * k + 1) by simp only; omega, duL_two] at this
          exact this
      clear hI hp hd gr o1 q1 ga gA gr1 hd1 o2 q2 gB gr2
      simp only at r1
      go_wp2_with (first
        | (refine step_app rfl (some 30) rfl _ _ _ rfl _ _ rfl rfl v1 w1 r1 ?_)
        | (refine step_app rfl (some 42) rfl _ _ _ rfl _ _ rfl rfl v2 w2 r2 ?_))
      exact ⟨⟨k + 1, by omega, by go_num, O2⟩, by simp [intOf]; omega⟩
    · obtain rfl : k = t := by omega
      obtain ⟨hp, hd, gr⟩ := hI.out
      clear hI
      have hp' := hp
      have hd' := hd
      unfold Pown at hp'
      unfold Nown at hd'
      rw [itL_len] at hp'
      rw [duL_len] at hd'
      obtain ⟨gi, ci, rfl⟩ := own_some hp' (by omega)
      obtain ⟨gd, cd, rfl⟩ := own_some hd' (by omega)
      have hb1 := gr.size
      have R0 : RE w wr.heap.size (.slice (some ⟨gi, 0, none⟩) (2 * k) ci) (.slice (some ⟨gd, 0, none⟩) (2 * k) cd) (2 * k) (fun m => (evS ws k wi 0).B m + wi) [] (.slice none 0 0) wr :=
        ⟨hp, hd, Pown.nil _ _, gr, fun x hx => (hp'.lt x hx).2, hb1, Nat.le_refl _⟩
      have RR := hide R0
      generalize hB1 : wr.heap.size = b1 at RR hb1
      clear R0 hp hd gr hp' hd'
      go_wp2_with (fail)
      go_loopw [12, 13, 14] (fun s12 s13 s14 wx => ∃ i : Nat, i ≤ n ∧ s14 = .int .i64 i ∧ s13 = .int .i64 ((evS ws k wi i).n % ws.length : Nat) ∧ Hid (RE w b1 (.slice (some ⟨gi, 0, none⟩) (2 * k) ci) (.slice (some ⟨gd, 0, none⟩) (2 * k) cd) (2 * k) (fun m => (evS ws k wi i).B m + wi) (evL ws k wi i) s12 wx)) (fun _ _ s14 _ => n - (intOf s14).toNat)
      case atStart => exact ⟨0, by omega, rfl, by simp [evS], RR⟩
      case round =>
        -- BEGIN
        clear RR
        obtain ⟨i, hi, rfl, rfl, hI⟩ := hrel
        by_cases hlt2 : i < n
        · have hlt2' : (i : Int) < n := by omega
          have SS := hI
          have HPX := hide (show evP ws k wi i = if evW ws k wi i (evS ws k wi i) then ws.getD ((evS ws k wi i).n % ws.length) p0 else itm (mn (evS ws k wi i).B (2 * k)) from rfl)
          have HWX := hide (show evW ws k wi i (evS ws k wi i) = (decide (0 < ws.length) && decide ((i : Int) + 2 * (k : Int) - wi < (evS ws k wi i).B (mn (evS ws k wi i).B (2 * k)))) from rfl)
          have HSN := hide (show (evS ws k wi (i + 1)).n = if evW ws k wi i (evS ws k wi i) then (evS ws k wi i).n + 1 else (evS ws k wi i).n from rfl)
          have HSB := hide (show ∀ m, (evS ws k wi (i + 1)).B m = if itm m = evP ws k wi i then (i : Int) + 1 else (evS ws k wi i).B m from fun m => rfl)
          have HML := hide (mn_lt (evS ws k wi i).B (2 * k) (by omega))
          have HBL := hide (fun m => evS_le ws k wi i m)
          have HBD := hide (fun m (hm : m < 2 * k) => ev_due ws k wi ht hwi i m hm)
          have HNS := hide (evS_n ws k wi i)
          have HEV : Hid (evL ws k wi (i + 1) = evL ws k wi i ++ [evP ws k wi i]) := by show evL ws k wi (i + 1) = _; simp [evL, List.range_succ]
          have HEL := hide (evL_len ws k wi i)
          generalize evL ws k wi i = out at SS HEV HEL
          generalize hev : (evS ws k wi i).B = B at SS HPX HWX HSB HML HBL HBD
          generalize (evS ws k wi i).n = nw at SS HPX HSN HNS ⊢
          generalize hr0 : nw % ws.length = r at HPX ⊢
          have HR0 := hide hr0
          clear hr0
          generalize evW ws k wi i (evS ws k wi i) = ew at HPX HWX HSN
          generalize hep : evP ws k wi i = x at HPX HSB HEV
          clear hI hev hep
          go_wp2_with (fail)
          go_loopw [15, 16] (fun s15 s16 wx => ∃ j : Nat, j ≤ 2 * k ∧ s16 = .int .i64 j ∧ s15 = .int .i64 (mn B j : Nat) ∧ Gr wr wx) (fun _ s16 _ => 2 * k - (intOf s16).toNat)
          case atStart => exact ⟨0, by omega, rfl, rfl, Gr.refl _⟩
          case round =>
            obtain ⟨j, hj, rfl, rfl, gx⟩ := hrel
            by_cases hlj : j < 2 * k
            · have hlj' : (j : Int) < 2 * (k : Int) := by omega
              have S1 := SS.out.later gx
              have hm : mn B j < 2 * k := by
                rcases Nat.eq_zero_or_pos j with q | q
                · subst q; simp [mn]; omega
                · have := mn_lt B j q; omega
              have c1 := S1.du.cellK j hlj
              have c2 := S1.du.cellK (mn B j) hm
              clear S1
              have hT2 : ((2 * k : Nat) : Int) = 2 * (k : Int) := by omega
              by_cases hb : B j < B (mn B j)
              · have HM : Hid (mn B (j + 1) = j) := by show mn B (j + 1) = j; simp [mn, hb]
                have hb' : B j + wi < B (mn B j) + wi := by omega
                generalize mn B j = mj at c2 hm hb hb'
                have hm' : (mj : Int) < 2 * (k : Int) := by omega
                generalize B j + wi = y1 at c1 hb'
                generalize B mj + wi = y2 at c2 hb'
                clear hb
                go_wp2_with (fail)
                go_quiet (fail)
                go_wp2_with (fail)
                exact ⟨⟨j + 1, by omega, by go_num, by rw [HM.out], gx.drewN nq⟩, by simp [intOf]; omega⟩
              · have HM : Hid (mn B (j + 1) = mn B j) := by show mn B (j + 1) = mn B j; simp [mn, hb]
                have hb' : ¬ (B j + wi < B (mn B j) + wi) := by omega
                generalize mn B j = mj at c2 hm hb hb' HM
                have hm' : (mj : Int) < 2 * (k : Int) := by omega
                generalize B j + wi = y1 at c1 hb'
                generalize B mj + wi = y2 at c2 hb'
                clear hb
                go_wp2_with (fail)
                go_quiet (fail)
                go_wp2_with (fail)
                exact ⟨⟨j + 1, by omega, by go_num, by rw [HM.out], gx.drewN nq⟩, by simp [intOf]; omega⟩
            · obtain rfl : j = 2 * k := by omega
              have hT2 : ((2 * k : Nat) : Int) = 2 * (k : Int) := by omega
              have S2 := hide (SS.out.later gx)
              clear SS
              have hm0 := HML.out
              have c3 := S2.out.du.cellK _ hm0
              obtain ⟨c1, c2⟩ := S2.out.it.cellK _ hm0
              have hgdl : gd < wr.heap.size := block_lt_of_cell (a := ⟨gd, mn B (2 * k), none⟩) c3
              have HB2 := hide (HBL.out (mn B (2 * k)))
              have HB3 := hide (HBD.out (mn B (2 * k)) hm0)
              generalize mn B (2 * k) = m0 at hm0 c1 c2 c3 HPX HWX HB2 HB3 ⊢
              have hm0' : (m0 : Int) < 2 * (k : Int) := by omega
              have hy0 : B m0 + wi ≤ 1099511628200 := by have := HB2.out; omega
              have hy1 : 0 ≤ B m0 + wi := by have := HB3.out; omega
              have HCD : Hid (ew = true ↔ 0 < ws.length ∧ (i : Int) + 2 * (k : Int) < B m0 + wi) := by
                show ew = true ↔ _
                rw [HWX.out]
                simp only [Bool.and_eq_true, decide_eq_true_eq]
                omega
              generalize B m0 + wi = y0 at c3 hy0 hy1 HCD
              generalize itm m0 = z0 at c1 c2 HPX
              obtain ⟨zk, zw⟩ := z0
              simp only at c1 c2
              by_cases hc : (i : Int) + 2 * (k : Int) < y0
              · by_cases h0 : 0 < ws.length
                · have h0' : 0 < (ws.length : Int) := by omega
                  have HE : Hid (ew = true) := HCD.out.2 ⟨h0, hc⟩
                  have HX : Hid (x = ws.getD r p0) := by show x = _; rw [HPX.out, HE.out]; rfl
                  have HN : Hid ((evS ws k wi (i + 1)).n = nw + 1) := by show _ = nw + 1; rw [HSN.out, HE.out]; rfl
                  have hnr : r < ws.length := by rw [← HR0.out]; exact Nat.mod_lt _ h0
                  have hmod : (r : Int) + 1 = ((r + 1 : Nat) : Int) := by omega
                  have hm1 : ((r + 1 : Nat) : Int).tmod (ws.length : Int) = (((nw + 1) % ws.length : Nat) : Int) := by
                    rw [Int.tmod_eq_emod_of_nonneg (by omega), ← Int.natCast_emod, ← HR0.out, Nat.mod_add_mod]
                  have hm2 : ((r + 1 : Nat) : Int) % (ws.length : Int) = (((nw + 1) % ws.length : Nat) : Int) := by
                    rw [← Int.natCast_emod, ← HR0.out, Nat.mod_add_mod]
                  rw [← hmod] at hm1 hm2
                  clear hmod
                  obtain ⟨wb, wo, rfl, y1, y2⟩ := (HA.out.later S2.out.gr).get hnr
                  have hwb : wb < wr.heap.size := block_lt_of_cell (a := ⟨wb, wo + r * 2, none⟩) y1
                  generalize ws.getD r p0 = y at y1 y2 HX
                  obtain ⟨yk, yw⟩ := y
                  simp only at y1 y2
                  generalize hn2 : (nw + 1) % ws.length = n2 at hm1 hm2
                  have HN2 := hide hn2
                  have hnr' : (r : Int) < ws.length := by omega
                  clear hn2
                  have gb := (Gr.refl wr).alloc #[.int .i64 yk, .int .i64 yw] 23
                  have S4 := S2.out.later gb
                  have B4 := Has.new wr #[.int .i64 yk, .int .i64 yw] 23
                  obtain ⟨v5, w5, r5, o5, q5⟩ := app_pk1 S4.ou (yk, yw) (by rw [HEL.out]; omega) S4.bs
                  have S5 := hide (S4.app o5 q5)
                  have gb2 := (Gr.refl (wr.alloc (.cells #[.int .i64 yk, .int .i64 yw] 23))).alloc #[.int .i64 yk, .int .i64 yw] 23
                  have B5 : Has w5 wr.heap.size #[.int .i64 yk, .int .i64 yw] 23 := (q5.block _ (B4.later gb2).lt (fun q => by
                    have := (S2.out.ou.lt _ q.symm).2
                    omega)).trans (B4.later gb2)
                  have HB5 := hide B5
                  simp only at r5
                  rw [show (wr.alloc (.cells #[.int .i64 yk, .int .i64 yw] 23)).heap.size = wr.heap.size + 1 by simp] at r5
                  clear S4 gb B4 o5 q5 gb2 B5
                  go_wp2_with (first
                    | (refine step_app rfl (some 94) rfl _ _ _ rfl _ _ rfl rfl v5 w5 r5 ?_))
                  go_loopw [18] (fun s18 wy => ∃ j : Nat, j ≤ 2 * k ∧ s18 = .int .i64 j ∧ Hid (RE w b1 (.slice (some ⟨gi, 0, none⟩) (2 * k) ci) (.slice (some ⟨gd, 0, none⟩) (2 * k) cd) (2 * k) (fun m => if m < j ∧ itm m = (yk, yw) then (i : Int) + 1 + wi else B m + wi) (out ++ [(yk, yw)]) v5 wy ∧ Has wy wr.heap.size #[.int .i64 yk, .int .i64 yw] 23)) (fun s18 _ => 2 * k - (intOf s18).toNat)
                  case atStart => exact ⟨0, by omega, rfl, S5.out.congr (fun m hm => by simp), HB5.out⟩
                  case round =>
                    clear S5 HB5 r5 c1 c2 c3
                    obtain ⟨j, hj, rfl, hh⟩ := hrel
                    by_cases hlj : j < 2 * k
                    · have hlj' : (j : Int) < 2 * (k : Int) := by omega
                      obtain ⟨p1, p2⟩ := hh.out.1.it.cellK j hlj
                      have p3 := hh.out.2.cell (o := 0) rfl
                      have p4 := hh.out.2.cell (o := 1) rfl
                      have p5 := hh.out.1.du.cellK j hlj
                      have p6 := hh.out.1.du.freeK j
                      generalize hij : itm j = ij at p1 p2
                      have HIJ := hide hij
                      clear hij
                      obtain ⟨ik, iw⟩ := ij
                      simp only at p1 p2
                      by_cases he : ik = yk ∧ iw = yw
                      · obtain ⟨rfl, rfl⟩ := he
                        obtain ⟨CC, hCC, hgd⟩ := hh.out.1.du.has (by omega)
                        have HR := hide (fun q : Nat => (hh.out.1.later ((Gr.refl _).drewN q)).set j ((i : Int) + 1 + wi) (hCC.drewN q) hgd)
                        have HBX := hide (fun q : Nat => (hh.out.2.drewN q).aside (k := gd) ((hh.out.2).apart hCC (by decide)) j (.int .i64 ((i : Int) + 1 + wi)))
                        generalize (if j < j ∧ itm j = _ then _ else _ : Int) = oldv at p5
                        clear hh hCC
                        go_wp2_with (fail)
                        go_quiet (fail)
                        go_wp2_with (fail)
                        refine ⟨⟨j + 1, by omega, by go_num, (HR.out nq).congr (fun m hm => ?_), HBX.out nq⟩, by simp [intOf]; omega⟩
                        by_cases e : m = j
                        · subst e; simp [HIJ.out]
                        · rw [if_neg e]
                          by_cases q : m < j
                          · simp [q, show m < j + 1 by omega]
                          · simp [q, show ¬ m < j + 1 by omega]
                      · have HR : Hid (∀ m, m < 2 * k → (if m < j ∧ itm m = (yk, yw) then (i : Int) + 1 + wi else B m + wi) = (if m < j + 1 ∧ itm m = (yk, yw) then (i : Int) + 1 + wi else B m + wi)) := by
                          intro m hm
                          by_cases e : m = j
                          · subst e
                            have : ¬ itm m = (yk, yw) := by rw [HIJ.out]; intro q; exact he ⟨congrArg Prod.fst q, congrArg Prod.snd q⟩
                            simp [this]
                          · by_cases q : m < j
                            · simp [q, show m < j + 1 by omega]
                            · simp [q, show ¬ m < j + 1 by omega]
                        clear p5 p6
                        have hh2 := hh
                        clear hh
                        rcases Classical.em (ik = yk) with q | q
                        · have h2 : (iw == yw) = false := by simpa using fun z => he ⟨q, z⟩
                          subst q
                          clear he
                          go_wp2_with (fail)
                          go_quiet (fail)
                          go_wp2_with (fail)
                          exact ⟨⟨j + 1, by omega, by go_num, (hh2.out.1.later ((Gr.refl _).drewN nq)).congr HR.out, hh2.out.2.drewN nq⟩, by simp [intOf]; omega⟩
                        · have h2 : (ik == yk) = false := by simpa using q
                          clear he q
                          go_wp2_with (fail)
                          go_quiet (fail)
                          go_wp2_with (fail)
                          exact ⟨⟨j + 1, by omega, by go_num, (hh2.out.1.later ((Gr.refl _).drewN nq)).congr HR.out, hh2.out.2.drewN nq⟩, by simp [intOf]; omega⟩
                    · obtain rfl : j = 2 * k := by omega
                      have hh2 := hh
                      clear hh hlj hj
                      go_wp2_with (fail)
                      refine ⟨⟨i + 1, by omega, by go_num, by rw [HN.out, HN2.out], ?_⟩, by simp [intOf]; omega⟩
                      rw [HEV.out, HX.out]
                      refine hh2.out.1.congr (fun m hm => ?_)
                      show (if m < 2 * k ∧ itm m = (yk, yw) then (i : Int) + 1 + wi else B m + wi) = (evS ws k wi (i + 1)).B m + wi
                      rw [HSB.out, HX.out]
                      by_cases q : itm m = (yk, yw)
                      · rw [if_pos ⟨hm, q⟩, if_pos q]
                      · rw [if_neg (fun z => q z.2), if_neg q]
                · have h0' : ¬ 0 < (ws.length : Int) := by omega
                  have HE : Hid (ew = false) := by
                    show ew = false
                    cases e : ew with
                    | false => rfl
                    | true => exact absurd (HCD.out.1 e).1 h0
                  have HX : Hid (x = (zk, zw)) := by show x = _; rw [HPX.out, HE.out]; rfl
                  have HN : Hid ((evS ws k wi (i + 1)).n = nw) := by show _ = nw; rw [HSN.out, HE.out]; rfl
                  have gb := (Gr.refl wr).alloc #[.int .i64 zk, .int .i64 zw] 23
                  have S4 := S2.out.later gb
                  have B4 := Has.new wr #[.int .i64 zk, .int .i64 zw] 23
                  obtain ⟨v5, w5, r5, o5, q5⟩ := app_pk1 S4.ou (zk, zw) (by rw [HEL.out]; omega) S4.bs
                  have S5 := hide (S4.app o5 q5)
                  have gb2 := (Gr.refl (wr.alloc (.cells #[.int .i64 zk, .int .i64 zw] 23))).alloc #[.int .i64 zk, .int .i64 zw] 23
                  have B5 : Has w5 wr.heap.size #[.int .i64 zk, .int .i64 zw] 23 := (q5.block _ (B4.later gb2).lt (fun q => by
                    have := (S2.out.ou.lt _ q.symm).2
                    omega)).trans (B4.later gb2)
                  have HB5 := hide B5
                  simp only at r5
                  rw [show (wr.alloc (.cells #[.int .i64 zk, .int .i64 zw] 23)).heap.size = wr.heap.size + 1 by simp] at r5
                  clear S4 gb B4 o5 q5 gb2 B5
                  go_wp2_with (first
                    | (refine step_app rfl (some 94) rfl _ _ _ rfl _ _ rfl rfl v5 w5 r5 ?_))
                  go_loopw [18] (fun s18 wy => ∃ j : Nat, j ≤ 2 * k ∧ s18 = .int .i64 j ∧ Hid (RE w b1 (.slice (some ⟨gi, 0, none⟩) (2 * k) ci) (.slice (some ⟨gd, 0, none⟩) (2 * k) cd) (2 * k) (fun m => if m < j ∧ itm m = (zk, zw) then (i : Int) + 1 + wi else B m + wi) (out ++ [(zk, zw)]) v5 wy ∧ Has wy wr.heap.size #[.int .i64 zk, .int .i64 zw] 23)) (fun s18 _ => 2 * k - (intOf s18).toNat)
                  case atStart => exact ⟨0, by omega, rfl, S5.out.congr (fun m hm => by simp), HB5.out⟩
                  case round =>
                    clear S5 HB5 r5 c1 c2 c3
                    obtain ⟨j, hj, rfl, hh⟩ := hrel
                    by_cases hlj : j < 2 * k
                    · have hlj' : (j : Int) < 2 * (k : Int) := by omega
                      obtain ⟨p1, p2⟩ := hh.out.1.it.cellK j hlj
                      have p3 := hh.out.2.cell (o := 0) rfl
                      have p4 := hh.out.2.cell (o := 1) rfl
                      have p5 := hh.out.1.du.cellK j hlj
                      have p6 := hh.out.1.du.freeK j
                      generalize hij : itm j = ij at p1 p2
                      have HIJ := hide hij
                      clear hij
                      obtain ⟨ik, iw⟩ := ij
                      simp only at p1 p2
                      by_cases he : ik = zk ∧ iw = zw
                      · obtain ⟨rfl, rfl⟩ := he
                        obtain ⟨CC, hCC, hgd⟩ := hh.out.1.du.has (by omega)
                        have HR := hide (fun q : Nat => (hh.out.1.later ((Gr.refl _).drewN q)).set j ((i : Int) + 1 + wi) (hCC.drewN q) hgd)
                        have HBX := hide (fun q : Nat => (hh.out.2.drewN q).aside (k := gd) ((hh.out.2).apart hCC (by decide)) j (.int .i64 ((i : Int) + 1 + wi)))
                        generalize (if j < j ∧ itm j = _ then _ else _ : Int) = oldv at p5
                        clear hh hCC
                        go_wp2_with (fail)
                        go_quiet (fail)
                        go_wp2_with (fail)
                        refine ⟨⟨j + 1, by omega, by go_num, (HR.out nq).congr (fun m hm => ?_), HBX.out nq⟩, by simp [intOf]; omega⟩
                        by_cases e : m = j
                        · subst e; simp [HIJ.out]
                        · rw [if_neg e]
                          by_cases q : m < j
                          · simp [q, show m < j + 1 by omega]
                          · simp [q, show ¬ m < j + 1 by omega]
                      · have HR : Hid (∀ m, m < 2 * k → (if m < j ∧ itm m = (zk, zw) then (i : Int) + 1 + wi else B m + wi) = (if m < j + 1 ∧ itm m = (zk, zw) then (i : Int) + 1 + wi else B m + wi)) := by
                          intro m hm
                          by_cases e : m = j
                          · subst e
                            have : ¬ itm m = (zk, zw) := by rw [HIJ.out]; intro q; exact he ⟨congrArg Prod.fst q, congrArg Prod.snd q⟩
                            simp [this]
                          · by_cases q : m < j
                            · simp [q, show m < j + 1 by omega]
                            · simp [q, show ¬ m < j + 1 by omega]
                        clear p5 p6
                        have hh2 := hh
                        clear hh
                        rcases Classical.em (ik = zk) with q | q
                        · have h2 : (iw == zw) = false := by simpa using fun z => he ⟨q, z⟩
                          subst q
                          clear he
                          go_wp2_with (fail)
                          go_quiet (fail)
                          go_wp2_with (fail)
                          exact ⟨⟨j + 1, by omega, by go_num, (hh2.out.1.later ((Gr.refl _).drewN nq)).congr HR.out, hh2.out.2.drewN nq⟩, by simp [intOf]; omega⟩
                        · have h2 : (ik == zk) = false := by simpa using q
                          clear he q
                          go_wp2_with (fail)
                          go_quiet (fail)
                          go_wp2_with (fail)
                          exact ⟨⟨j + 1, by omega, by go_num, (hh2.out.1.later ((Gr.refl _).drewN nq)).congr HR.out, hh2.out.2.drewN nq⟩, by simp [intOf]; omega⟩
                    · obtain rfl : j = 2 * k := by omega
                      have hh2 := hh
                      clear hh hlj hj
                      go_wp2_with (fail)
                      refine ⟨⟨i + 1, by omega, by go_num, by rw [HN.out, HR0.out], ?_⟩, by simp [intOf]; omega⟩
                      rw [HEV.out, HX.out]
                      refine hh2.out.1.congr (fun m hm => ?_)
                      show (if m < 2 * k ∧ itm m = (zk, zw) then (i : Int) + 1 + wi else B m + wi) = (evS ws k wi (i + 1)).B m + wi
                      rw [HSB.out, HX.out]
                      by_cases q : itm m = (zk, zw)
                      · rw [if_pos ⟨hm, q⟩, if_pos q]
                      · rw [if_neg (fun z => q z.2), if_neg q]
              · have HE : Hid (ew = false) := by
                  show ew = false
                  cases e : ew with
                  | false => rfl
                  | true => exact absurd (HCD.out.1 e).2 hc
                have HX : Hid (x = (zk, zw)) := by show x = _; rw [HPX.out, HE.out]; rfl
                have HN : Hid ((evS ws k wi (i + 1)).n = nw) := by show _ = nw; rw [HSN.out, HE.out]; rfl
                have gb := (Gr.refl wr).alloc #[.int .i64 zk, .int .i64 zw] 23
                have S4 := S2.out.later gb
                have B4 := Has.new wr #[.int .i64 zk, .int .i64 zw] 23
                obtain ⟨v5, w5, r5, o5, q5⟩ := app_pk1 S4.ou (zk, zw) (by rw [HEL.out]; omega) S4.bs
                have S5 := hide (S4.app o5 q5)
                have gb2 := (Gr.refl (wr.alloc (.cells #[.int .i64 zk, .int .i64 zw] 23))).alloc #[.int .i64 zk, .int .i64 zw] 23
                have B5 : Has w5 wr.heap.size #[.int .i64 zk, .int .i64 zw] 23 := (q5.block _ (B4.later gb2).lt (fun q => by
                  have := (S2.out.ou.lt _ q.symm).2
                  omega)).trans (B4.later gb2)
                have HB5 := hide B5
                simp only at r5
                rw [show (wr.alloc (.cells #[.int .i64 zk, .int .i64 zw] 23)).heap.size = wr.heap.size + 1 by simp] at r5
                clear S4 gb B4 o5 q5 gb2 B5
                go_wp2_with (first
                  | (refine step_app rfl (some 94) rfl _ _ _ rfl _ _ rfl rfl v5 w5 r5 ?_))
                go_loopw [18] (fun s18 wy => ∃ j : Nat, j ≤ 2 * k ∧ s18 = .int .i64 j ∧ Hid (RE w b1 (.slice (some ⟨gi, 0, none⟩) (2 * k) ci) (.slice (some ⟨gd, 0, none⟩) (2 * k) cd) (2 * k) (fun m => if m < j ∧ itm m = (zk, zw) then (i : Int) + 1 + wi else B m + wi) (out ++ [(zk, zw)]) v5 wy ∧ Has wy wr.heap.size #[.int .i64 zk, .int .i64 zw] 23)) (fun s18 _ => 2 * k - (intOf s18).toNat)
                case atStart => exact ⟨0, by omega, rfl, S5.out.congr (fun m hm => by simp), HB5.out⟩
                case round =>
                  clear S5 HB5 r5 c1 c2 c3
                  obtain ⟨j, hj, rfl, hh⟩ := hrel
                  by_cases hlj : j < 2 * k
                  · have hlj' : (j : Int) < 2 * (k : Int) := by omega
                    obtain ⟨p1, p2⟩ := hh.out.1.it.cellK j hlj
                    have p3 := hh.out.2.cell (o := 0) rfl
                    have p4 := hh.out.2.cell (o := 1) rfl
                    have p5 := hh.out.1.du.cellK j hlj
                    have p6 := hh.out.1.du.freeK j
                    generalize hij : itm j = ij at p1 p2
                    have HIJ := hide hij
                    clear hij
                    obtain ⟨ik, iw⟩ := ij
                    simp only at p1 p2
                    by_cases he : ik = zk ∧ iw = zw
                    · obtain ⟨rfl, rfl⟩ := he
                      obtain ⟨CC, hCC, hgd⟩ := hh.out.1.du.has (by omega)
                      have HR := hide (fun q : Nat => (hh.out.1.later ((Gr.refl _).drewN q)).set j ((i : Int) + 1 + wi) (hCC.drewN q) hgd)
                      have HBX := hide (fun q : Nat => (hh.out.2.drewN q).aside (k := gd) ((hh.out.2).apart hCC (by decide)) j (.int .i64 ((i : Int) + 1 + wi)))
                      generalize (if j < j ∧ itm j = _ then _ else _ : Int) = oldv at p5
                      clear hh hCC
                      go_wp2_with (fail)
                      go_quiet (fail)
                      go_wp2_with (fail)
                      refine ⟨⟨j + 1, by omega, by go_num, (HR.out nq).congr (fun m hm => ?_), HBX.out nq⟩, by simp [intOf]; omega⟩
                      by_cases e : m = j
                      · subst e; simp [HIJ.out]
                      · rw [if_neg e]
                        by_cases q : m < j
                        · simp [q, show m < j + 1 by omega]
                        · simp [q, show ¬ m < j + 1 by omega]
                    · have HR : Hid (∀ m, m < 2 * k → (if m < j ∧ itm m = (zk, zw) then (i : Int) + 1 + wi else B m + wi) = (if m < j + 1 ∧ itm m = (zk, zw) then (i : Int) + 1 + wi else B m + wi)) := by
                        intro m hm
                        by_cases e : m = j
                        · subst e
                          have : ¬ itm m = (zk, zw) := by rw [HIJ.out]; intro q; exact he ⟨congrArg Prod.fst q, congrArg Prod.snd q⟩
                          simp [this]
                        · by_cases q : m < j
                          · simp [q, show m < j + 1 by omega]
                          · simp [q, show ¬ m < j + 1 by omega]
                      clear p5 p6
                      have hh2 := hh
                      clear hh
                      rcases Classical.em (ik = zk) with q | q
                      · have h2 : (iw == zw) = false := by simpa using fun z => he ⟨q, z⟩
                        subst q
                        clear he
                        go_wp2_with (fail)
                        go_quiet (fail)
                        go_wp2_with (fail)
                        exact ⟨⟨j + 1, by omega, by go_num, (hh2.out.1.later ((Gr.refl _).drewN nq)).congr HR.out, hh2.out.2.drewN nq⟩, by simp [intOf]; omega⟩
                      · have h2 : (ik == zk) = false := by simpa using q
                        clear he q
                        go_wp2_with (fail)
                        go_quiet (fail)
                        go_wp2_with (fail)
                        exact ⟨⟨j + 1, by omega, by go_num, (hh2.out.1.later ((Gr.refl _).drewN nq)).congr HR.out, hh2.out.2.drewN nq⟩, by simp [intOf]; omega⟩
                  · obtain rfl : j = 2 * k := by omega
                    have hh2 := hh
                    clear hh hlj hj
                    go_wp2_with (fail)
                    refine ⟨⟨i + 1, by omega, by go_num, by rw [HN.out, HR0.out], ?_⟩, by simp [intOf]; omega⟩
                    rw [HEV.out, HX.out]
                    refine hh2.out.1.congr (fun m hm => ?_)
                    show (if m < 2 * k ∧ itm m = (zk, zw) then (i : Int) + 1 + wi else B m + wi) = (evS ws k wi (i + 1)).B m + wi
                    rw [HSB.out, HX.out]
                    by_cases q : itm m = (zk, zw)
                    · rw [if_pos ⟨hm, q⟩, if_pos q]
                    · rw [if_neg (fun z => q z.2), if_neg q]
        · obtain rfl : i = n := by omega
          have SS := hI
          clear hI
          go_wp2_with (fail)
          go_ret
          exact ⟨_, ⟨rfl, SS.out.gr⟩, b1, SS.out.ou⟩
end Go.Proofs.Ytokbbjpnahpeaaa
