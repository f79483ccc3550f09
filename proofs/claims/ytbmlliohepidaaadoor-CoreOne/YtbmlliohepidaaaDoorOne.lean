/-
  The walk of CoreOne. No condition but that the input lies in the world, and the tables.
-/
import Derived.Test.YtbmlliohepidaaaDoorWrld
import Derived.Test.YtbmlliohepidaaaDoorYst
import Derived.Test.YtbmlliohepidaaaDoorPone
namespace Go.Proofs.YtbmlliohepidaaaDoor
open Go.ChangeShapes Go.WideShapes Go.ChangeAt Go.RowKit
set_option linter.unusedVariables false

/-- what the loop of CoreOne reads -/
structure OneI (d : InD) (y g : Nat) (yC : Array Value) (a b : Option Addr) (m : List Int) (w u : World) : Prop where
  gr : Gr w u
  hy : Has u y yC 43
  hi : Has u g (inC d) 31
  ra : RowAt u a (flatOf wordL m)
  rb : RowAt u b (flatOf wordL d.mem)
theorem OneI.later {d : InD} {y g : Nat} {yC : Array Value} {a b : Option Addr} {m : List Int} {w u u' : World} (h : OneI d y g yC a b m w u) (k : Gr u u') : OneI d y g yC a b m w u' :=
  ⟨h.gr.trans k, h.hy.later k, h.hi.later k, h.ra.later k, h.rb.later k⟩

set_option maxRecDepth 20000 in
set_option maxHeartbeats 1000000 in
theorem one_walk (d : InD) (w : World) (hw : Laid w) (hat : InAt d w) :
    Calls Tryd.prog 4 #[.agg (inC d)] w fun e w' => e = .returned (.bool true) ∧ Gr w w' := by
  have hz := hat.ok
  have gg := (Gr.refl w).alloc (inC d) 31
  have hi := Has.new w (inC d) 31
  have HAT := hide hat
  have HW := hide hw
  clear hat hw
  go_enter Tryd.func4, Tryd.ntmps4
  go_wp2_with (fail)
  generalize w.alloc (.cells (inC d) 31) = u0 at gg hi ⊢
  refine (awake_calls u0 (HW.out.later gg)).mono ?_
  rintro e u1 ⟨rfl, g1⟩
  have hi1 := hi.later g1
  have GG := hide (gg.trans g1)
  clear gg g1 hi
  go_wp2_with (first
    | (refine load_inp rfl _ rfl w.heap.size rfl d hz hi1 ?_)
    | (refine load_inp_g _ rfl (by kernel_rfl) w.heap.size rfl d hz hi1 ?_))
  refine (long_calls d u1 (HAT.out.later GG.out)).mono ?_
  rintro e u2 ⟨rfl, g2⟩
  have hi2 := hi1.later g2
  replace GG := hide (GG.out.trans g2)
  clear g2 hi1
  by_cases hlg : longB d = true
  · go_wp2_with (fail)
    refine (awake_calls u2 (HW.out.later GG.out)).mono ?_
    rintro e u3 ⟨rfl, g3⟩
    go_wp2_with (fail)
    go_ret
    exact ⟨rfl, GG.out.trans g3⟩
  have hl0 : longB d = false := by simpa using hlg
  have HLG := hide hl0
  have hle : d.mem.length ≤ 300 ∧ d.buf.length ≤ 300 ∧ d.asl.length ≤ 7 ∧ d.code.length ≤ 300 := by
    unfold longB at hl0
    simp only [Bool.or_eq_false_iff, decide_eq_false_iff_not] at hl0
    omega
  rw [hl0]
  have HLE := hide hle
  clear hlg hl0 hle
  go_wp2_with (first
    | (refine load_inp rfl _ rfl w.heap.size rfl d hz hi2 ?_))
  refine (world_calls d u2 (HAT.out.later GG.out) HLE.out.1 HLE.out.2.1 HLE.out.2.2.1).mono ?_
  rintro e u3 ⟨cs, ta, nt, ct, gb, nb, cb, vbuf, vs, vm, B, ⟨rfl, g3⟩, ⟨hnt, hnb, hgb⟩, hB, hB0, he, hs, hv⟩
  have hi3 := hi2.later g3
  have y0 := y0_of (cs := cs) (ta := ta) (ct := ct) (cb := cb) (HAT.out.later GG.out) HLE.out.1 (HW.out.later GG.out) g3 hnt hnb hgb hB hB0 he hs hv
  have lows : (∀ x ∈ ob vm, w.heap.size ≤ x) ∧ (∀ x ∈ ob vbuf, w.heap.size ≤ x) ∧ (∀ x ∈ ob vs, w.heap.size ≤ x) ∧ w.heap.size ≤ gb ∧ w.heap.size ≤ u3.heap.size := by
    have h2 := GG.out.size
    have h3 := g3.size
    exact ⟨fun x hx => Nat.le_trans h2 (hv.lt x (mem_ob.1 hx)).1, fun x hx => Nat.le_trans h2 (he.lt x (mem_ob.1 hx)).1, fun x hx => Nat.le_trans h2 (hs.lt x (mem_ob.1 hx)).1, by omega, by omega⟩
  have LW := hide lows
  have Y0H := hide y0
  replace GG := hide (GG.out.trans g3)
  clear g3 hi2 lows y0 he hs hv hB hB0 hgb
  go_wp2_with (fail)
  have hi4 := hi3.alloc (yardA cs (.slice ta nt ct) gb nb cb vm (1 + (d.room : Int) % 16) vs) 43
  have g4 := GG.out.alloc (yardA cs (.slice ta nt ct) gb nb cb vm (1 + (d.room : Int) % 16) vs) 43
  generalize u3.alloc (.cells (yardA cs (.slice ta nt ct) gb nb cb vm (1 + (d.room : Int) % 16) vs) 43) = u4 at Y0H hi4 g4 ⊢
  clear hi3
  replace GG := hide g4
  clear g4
  have h10 := inC_10 hz
  have c20 : (thL d.t).length = 10 := by simp [thL, hz.len]
  have HI := hide (fun (u : World) (g : Gr u4 u) => hi4.later g)
  clear hi4
  refine begin_late 7 [6] (fun w' => Gr u4 w') (by kernel_rfl) rfl ?_
  have hH : Gr u4 u4.drew := (Gr.refl u4).drew
  refine AnyL.takeP 0 (some 17) (.pointer (some ⟨w.heap.size, 0, none⟩)) rfl rfl (by kernel_rfl) (by kernel_rfl) (by kernel_rfl) (by kernel_rfl) (fun _ _ _ h => h) (by kernel_rfl) (fun w' => by go_simp) (fun _ => hH) ?_
  simp only [Act.put, List.setIfInBounds_toArray, List.set_cons_zero, List.set_cons_succ]
  refine AnyL.take 1 (some 18) (.agg (thC d.t)) rfl rfl (by kernel_rfl) (by kernel_rfl) (by kernel_rfl) (by kernel_rfl) (fun _ _ _ h => h) (yieldsIf_load_mid (by kernel_rfl) 25 _ rfl w.heap.size 0 rfl (thL d.t) _ (fun u h j v hv => by rw [Nat.zero_add]; exact (HI.out u h).cell (inC_th hz j v hv)) Tryd.underlying25 rfl (by rw [c20]; exact infoT10)) hH ?_
  simp only [Act.put, List.setIfInBounds_toArray, List.set_cons_zero, List.set_cons_succ]
  refine AnyL.takeP 2 (some 19) (.pointer (some ⟨w.heap.size, 10, none⟩)) rfl rfl (by kernel_rfl) (by kernel_rfl) (by kernel_rfl) (by kernel_rfl) (fun _ _ _ h => h) (by kernel_rfl) (fun w' => by go_simp) (fun _ => hH) ?_
  simp only [Act.put, List.setIfInBounds_toArray, List.set_cons_zero, List.set_cons_succ]
  refine AnyL.take 3 (some 20) (.slice d.ca d.code.length d.cc) rfl rfl (by kernel_rfl) (by kernel_rfl) (by kernel_rfl) (by kernel_rfl) (fun _ _ _ h => h) (yields_held _ (by kernel_rfl) (fun w' hw' => by have c1 := (HI.out _ hw').cell h10; go_simp)) hH ?_
  simp only [Act.put, List.setIfInBounds_toArray, List.set_cons_zero, List.set_cons_succ]
  refine AnyL.takeP 4 (some 21) (.pointer (some ⟨u3.heap.size, 0, none⟩)) rfl rfl (by kernel_rfl) (by kernel_rfl) (by kernel_rfl) (by kernel_rfl) (fun _ _ _ h => h) (by kernel_rfl) (fun w' => by go_simp) (fun _ => hH) ?_
  simp only [Act.put, List.setIfInBounds_toArray, List.set_cons_zero, List.set_cons_succ]
  refine AnyL.one 5 (by kernel_rfl) rfl (by kernel_rfl) ?_
  have HC := port_calls (Y0H.out.later hH)
  refine wp_call (some 22) rfl _ _ (by kernel_rfl) HC ?_
  rintro e x5 ⟨⟨rfl, g5⟩, YD5⟩
  refine ⟨_, rfl, fun _ => hH.trans g5, ?_⟩
  simp only [Act.put, List.setIfInBounds_toArray, List.set_cons_zero, List.set_cons_succ]
  refine AnyL.one 6 (by kernel_rfl) rfl (by kernel_rfl) ?_
  have HC := step_yard YD5 HAT.out.ok d.code HAT.out.ins (by have := HLE.out; omega) d.ca d.cc (ys0_fuel HLE.out.2.2.1) (HAT.out.code.later (GG.out.trans (hH.trans g5)))
  refine wp_call (some 23) rfl _ _ (by kernel_rfl) HC ?_
  rintro e x6 ⟨rfl, ⟨p1, p2, p3, p4, YD6, -⟩, K6⟩
  refine ⟨_, rfl, late (by kernel_rfl), ?_⟩
  simp only [Act.put, List.setIfInBounds_toArray, List.set_cons_zero, List.set_cons_succ]
  refine AnyL.done (by kernel_rfl) ?_
  have G6 := K6.gr (GG.out.trans (hH.trans g5)) (foot_low (k := yc0 d u3.heap.size gb vm cs ta nt ct nb cb) LW.out.2.2.2.2 LW.out.2.2.2.1 LW.out.1 LW.out.2.1 LW.out.2.2.1 (Nat.le_trans GG.out.size (Below.size hH)))
  have HI6 := (HI.out _ (hH.trans g5)).kept K6 (YD5.besides (HI.out _ (hH.trans g5)) (by decide))
  have D1 := hide (diffN_one (step_one (d.mem.length : Int) d.t (ys0 d) d.code))
  have ys := YD6.hy
  have ym := YD6.mem
  have yw := YD6.wrd
  have yn := YD6.num
  clear YD6 K6 HC YD5 hH g5 HI Y0H p4
  generalize hQ : (stepM (yardM (d.mem.length : Int)) d.t d.code (ys0 d)) = q at D1
  have eq1 : stepM (yardM (((yc0 d u3.heap.size gb vm cs ta nt ct nb cb).boxes u4.drew.heap.size).N : Int)) d.t d.code (ys0 d) = q := hQ
  rw [eq1] at ys ym yw yn ⊢
  clear eq1 hQ
  have ym' : WordsO x6 0 vm q.2.mem := ym
  have ey : (yardC ((yc0 d u3.heap.size gb vm cs ta nt ct nb cb).boxes u4.drew.heap.size) q.2.room q.2.asks p2 p3)[3]? = some vm := rfl
  have hyl : Has x6 u3.heap.size (yardC ((yc0 d u3.heap.size gb vm cs ta nt ct nb cb).boxes u4.drew.heap.size) q.2.room q.2.asks p2 p3) 43 := ys
  generalize yardC ((yc0 d u3.heap.size gb vm cs ta nt ct nb cb).boxes u4.drew.heap.size) q.2.room q.2.asks p2 p3 = yC at ey hyl
  have hN : q.2.mem.length = d.mem.length := yn
  generalize q.2.mem = m at D1 ym' yw hN
  replace D1 : Hid (∀ k, diffN m d.mem k ≤ 1) := D1
  obtain ⟨ma, mc, hvm, rm, -, -, -⟩ := own_at ym'
  rw [hN] at hvm
  rw [hvm] at ey
  have OI : Hid (OneI d u3.heap.size w.heap.size yC ma d.ma m w x6) := ⟨G6, hyl, HI6, rm, HAT.out.mem.later G6⟩
  clear ys ym ym' yw yn hyl G6 HI6 rm h10 c20 hvm
  have h12 := inC_12 hz
  clear LW GG HC
  generalize Value.agg (thC q.1) = va1
  go_wp2_with (fail)
  go_loopw [4, 5] (fun n i wr => ∃ k : Nat, k ≤ d.mem.length ∧ i = .int .i64 k ∧ n = .int .i64 ((diffN m d.mem k : Nat) : Int) ∧ Hid (OneI d u3.heap.size w.heap.size yC ma d.ma m w wr)) (fun _ i _ => d.mem.length - (intOf i).toNat)
  case atStart => exact ⟨0, by omega, rfl, rfl, OI⟩
  case round =>
    clear OI
    obtain ⟨k, hk, rfl, rfl, oi⟩ := hrel
    have DK := D1.out k
    have c12 := oi.out.hi.cell h12
    by_cases hlt : k < d.mem.length
    · have hlt' : (k : Int) < d.mem.length := by omega
      have hle9 : (d.mem.length : Int) ≤ 300 := by have := HLE.out.1; omega
      have cy := oi.out.hy.cell ey
      obtain ⟨a1, o1, rfl, -⟩ := oi.out.ra.get (by rw [flatOf_length wordL_len]; omega)
      obtain ⟨a2, o2, ha2, -⟩ := oi.out.rb.get (by rw [flatOf_length wordL_len]; omega)
      have e1 : ∀ u, Gr wr u → u.cell? ⟨a1, o1 + k, none⟩ = some (.int .u32 (m.getD k 0)) := fun u g => by
        have h0 := (oi.out.ra.later g).cell wordL_len (i := k) (by omega) 0 0 (by omega)
        simpa [wordL] using h0
      have e2 : ∀ u, Gr wr u → u.cell? ⟨a2, o2 + k, none⟩ = some (.int .u32 (d.mem.getD k 0)) := fun u g => by
        have h0 := oi.out.rb.later g
        rw [ha2] at h0
        have := h0.cell wordL_len (i := k) hlt 0 0 (by omega)
        simpa [wordL] using this
      have c1 := e1 wr (Gr.refl wr)
      have c2 := e2 wr (Gr.refl wr)
      have DS : Hid (diffN m d.mem (k + 1) = diffN m d.mem k + (if m.getD k 0 != d.mem.getD k 0 then 1 else 0)) := rfl
      rw [ha2] at c12
      generalize m.getD k 0 = v1 at c1 DS
      generalize d.mem.getD k 0 = v2 at c2 DS
      clear e1 e2
      generalize diffN m d.mem k = n0 at DK DS ⊢
      have hn0 : (n0 : Int) ≤ 1 := by omega
      cases hx : (v1 != v2)
      · have DS2 : Hid (diffN m d.mem (k + 1) = n0) := by have := DS.out; rw [hx] at this; show _ = _; simpa using this
        go_wp2_with (fail)
        go_quiet (fail)
        have OI := hide (oi.out.later ((Gr.refl wr).drewN nq))
        clear oi cy c1 c2 c12
        generalize wr.drewN nq = wr2 at OI ⊢
        go_wp2_with (fail)
        go_roundw
        case rel => exact ⟨k + 1, by omega, by go_num, by rw [DS2.out], OI⟩
        case measure => simp [intOf]; omega
      · have DS2 : Hid (diffN m d.mem (k + 1) = n0 + 1) := by have := DS.out; rw [hx] at this; show _ = _; simpa using this
        go_wp2_with (fail)
        go_quiet (fail)
        have OI := hide (oi.out.later ((Gr.refl wr).drewN nq))
        clear oi cy c1 c2 c12
        generalize wr.drewN nq = wr2 at OI ⊢
        go_wp2_with (fail)
        go_roundw
        case rel => exact ⟨k + 1, by omega, by go_num, by rw [DS2.out]; go_num, OI⟩
        case measure => simp [intOf]; omega
    · have hkn : k = d.mem.length := by omega
      have hlt' : decide ((k : Int) < (d.mem.length : Int)) = false := by simp; omega
      generalize diffN m d.mem k = n0 at DK ⊢
      have DK' : decide ((n0 : Int) ≤ 1) = true := by simp; omega
      go_wp2_with (fail)
      go_ret
      exact ⟨rfl, oi.out.gr⟩
end Go.Proofs.YtbmlliohepidaaaDoor
