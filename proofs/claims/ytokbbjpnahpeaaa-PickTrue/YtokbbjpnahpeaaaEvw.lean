/-
  What Even answers: the even script, by lists. No condition but that there may be such threads, such a window and so many picks, and that the wishes' cells hold them.
-/
import Derived.Test.YtokbbjpnahpeaaaOff
import Derived.Deep.Cut
namespace Go.Proofs.Ytokbbjpnahpeaaa
open Go.ChangeShapes Go.WideShapes Go.ChangeAt Go.RowKit
set_option linter.unusedVariables false

/-- the script of n picks of which i are there -/
def outL (f : Nat → Pk) (i n : Nat) : List Pk := (List.range n).map fun j => if j < i then f j else p0
theorem outL_len (f : Nat → Pk) (i n : Nat) : (outL f i n).length = n := by simp [outL]
theorem outL_zero (f : Nat → Pk) (n : Nat) : outL f 0 n = List.replicate n p0 := by
  apply List.ext_getElem <;> simp [outL]
theorem outL_end (f : Nat → Pk) (n : Nat) : outL f n n = (List.range n).map f := by
  apply List.ext_getElem
  · simp [outL]
  · intro j h1 h2
    simp [outL] at h1
    simp [outL, h1]
theorem outL_set (f : Nat → Pk) (i n : Nat) : (outL f i n).set i (f i) = outL f (i + 1) n := by
  apply List.ext_getElem
  · simp [outL]
  · intro j h1 h2
    rw [List.getElem_set]
    simp only [outL, List.getElem_map, List.getElem_range]
    by_cases e : i = j
    · subst e; simp
    · rw [if_neg e]
      by_cases q : j < i
      · rw [if_pos q, if_pos (by omega)]
      · rw [if_neg q, if_neg (by omega)]

/-- what is so ahead of each pick -/
structure EvI (w : World) (d G : Nat) (ws : List Pk) (t : Nat) (wi : Int) (n : Nat) (i : Nat) (v : Value) (l : List Du) (wr : World) : Prop where
  ds : Ds wr w.heap.size d v l
  len : l.length = 2 * t
  rel : Rel (fn l) (evS ws t wi i).B (2 * t)
  out : Has wr G (flatP (outL (evP ws t wi) i n)).toArray 23
  fr : Fr w.heap.size w wr
theorem EvI.step {w wr w2 w3 : World} {d G t n i : Nat} {ws : List Pk} {wi : Int} {v : Value} {l : List Du} (s : EvI w d G ws t wi n i v l wr) (x : Pk) (hx : evP ws t wi i = x)
    (h2 : Has w2 G (flatP ((outL (evP ws t wi) i n).set i x)).toArray 23) (f2 : Fr w.heap.size w w2) (e : Ending) (h : OffP w2 w.heap.size d l x ((i : Int) + 1) e w3) : e = .returned (.tuple #[]) ∧ ∃ v' l', EvI w d G ws t wi n (i + 1) v' l' w3 := by
  obtain ⟨⟨rfl, f3⟩, v', l', d3, len3, hp3, in3, po⟩ := h
  rw [s.len] at len3 hp3 in3 po
  refine ⟨rfl, v', l', d3, len3, ?_, ?_, f2.trans f3⟩
  · have := s.rel.putOff po in3 hp3
    subst hx
    exact this
  · have := f3.kept _ _ _ (by decide) (by decide) h2
    rw [← hx, outL_set] at this
    exact this

theorem Ds.pk {w : World} {base d g : Nat} {v : Value} {l : List Du} {C : Array Value} (h : Ds w base d v l) (hg : Has w g C 23) (o : Nat) (x y : Value) : Ds (w.setCells g o [x, y]) base d v l :=
  ⟨h.head.setCells (h.head.apart hg (by decide)) o x y, own_move h.row fun k D _ hk => ((hk.setCells (hk.apart hg (by decide)) o x y) : Has _ _ _ _).trans hk.symm, h.low⟩
theorem Fr.pk {g : Nat} {w0 w : World} (h : Fr w0.heap.size w0 w) (hn : w0.heap.size ≤ g) (o : Nat) (x y : Value) : Fr w0.heap.size w0 (w.setCells g o [x, y]) :=
  ⟨Below.setCell (Below.setCell h.below hn x) hn y, fun k D u h1 h2 hk => (h.kept k D u h1 h2 hk).setCells (by have := hk.lt; omega) o x y⟩
theorem pk_at {L : List Pk} {n i : Nat} {x : Pk} (h : L.length = n) (hi : i < n) : (flatP (L.set i x)).toArray[i * 2]? = some (.int .i64 x.1) ∧ (flatP (L.set i x)).toArray[i * 2 + 1]? = some (.int .i64 x.2) := by
  have e : (L.set i x).getD i p0 = x := by simp [List.getD_eq_getElem?_getD, h, hi]
  have h1 := flatPC_a (L.set i x) i (by simp; omega)
  have h2 := flatPC_v (L.set i x) i (by simp; omega)
  rw [e] at h1 h2
  exact ⟨h1, h2⟩

theorem set_mid {w w0 : World} {d G i : Nat} {v : Value} {l : List Du} {L : List Pk} (ds : Ds w w0.heap.size d v l) (out : Has w G (flatP L).toArray 23) (fr : Fr w0.heap.size w0 w) (hG : w0.heap.size ≤ G) (x : Pk) :
    Ds (w.setCells G (i * 2) [.int .i64 x.1, .int .i64 x.2]) w0.heap.size d v l ∧ Has (w.setCells G (i * 2) [.int .i64 x.1, .int .i64 x.2]) G (flatP (L.set i x)).toArray 23 ∧ Fr w0.heap.size w0 (w.setCells G (i * 2) [.int .i64 x.1, .int .i64 x.2]) :=
  ⟨ds.pk out _ _ _, out.setPk i x, fr.pk hG _ _ _⟩
theorem new_mid {w w0 : World} {d G : Nat} {v : Value} {l : List Du} {D : Array Value} (h : Ds w w0.heap.size d v l ∧ Has w G D 23 ∧ Fr w0.heap.size w0 w) (C : Array Value) :
    Ds (w.alloc (.cells C 49)) w0.heap.size d v l ∧ Has (w.alloc (.cells C 49)) G D 23 ∧ Fr w0.heap.size w0 (w.alloc (.cells C 49)) :=
  ⟨h.1.later ((Gr.refl w).alloc _ _), h.2.1.alloc _ _, h.2.2.trans (Fr.gr ((Gr.refl w).alloc _ _) h.1.size)⟩

set_option maxHeartbeats 1000000 in
theorem even_calls (a : Option Addr) (ca : Nat) (ws : List Pk) (hws : ws.length ≤ 400) (t : Nat) (ht : 1 ≤ t) (h8 : t ≤ 8) (wi : Int) (hwi : 4 * (t : Int) ≤ wi) (hwm : wi ≤ 9223372036854775807) (n : Nat) (hn : n ≤ 100000) (w : World) (ha : PicksAt w a ws) :
    Calls Try.prog 15 #[.slice a ws.length ca, .int .i64 t, .int .i64 wi, .int .i64 n] w fun e w' => ∃ G, (e = .returned (.tuple #[.slice (some ⟨G, 0, none⟩) n n, .int .i64 0]) ∧ Gr w w') ∧ Has w' G (flatP (evL ws t wi n)).toArray 23 := by
  have HA := hide ha
  have ht' : (t : Int) ≤ 8 := by omega
  have ht1 : 1 ≤ (t : Int) := by omega
  have hn' : (n : Int) ≤ 100000 := by omega
  have hws' : (ws.length : Int) ≤ 400 := by omega
  have HM : Hid (mayB t wi = true) := by show mayB t wi = true; unfold mayB; simp; omega
  have MB := hide (fun w => (mayBe_calls (t : Int) wi w))
  clear ha
  go_enter Try.func15, Try.ntmps15
  go_wp2_with (first
    | (go_at_call 18; refine (MB.out _).mono ?_; rintro e w1 ⟨rfl, hw⟩; subst w1; rw [HM.out]))
  refine (first_calls t h8 _).mono ?_
  rintro e w1 ⟨v0, l0, ⟨rfl, g1⟩, r0, len0, rel0⟩
  obtain ⟨a0, c0, rfl⟩ := r0.slice
  have mk := make_picks n (by omega)
  have ds0 : Ds (w1.alloc (.cells #[.slice a0 l0.length c0] 46)) w.heap.size w1.heap.size (.slice a0 l0.length c0) l0 := ⟨Has.new _ _ _, r0.later ((Gr.refl _).alloc _ _), g1.size⟩
  have gd := g1.alloc #[.slice a0 l0.length c0] 46
  have hG : (w1.alloc (.cells #[.slice a0 l0.length c0] 46)).heap.size = w1.heap.size + 1 := by simp
  have out0 := Has.new (w1.alloc (.cells #[.slice a0 l0.length c0] 46)) (flatP (List.replicate n p0)).toArray 23
  rw [hG] at out0
  have start : EvI w w1.heap.size (w1.heap.size + 1) ws t wi n 0 (.slice a0 l0.length c0) l0 ((w1.alloc (.cells #[.slice a0 l0.length c0] 46)).alloc (.cells (flatP (List.replicate n p0)).toArray 23)) :=
    ⟨ds0.later ((Gr.refl _).alloc _ _), len0, rel0, by rw [outL_zero]; exact out0, Fr.gr (gd.alloc _ _) (Nat.le_refl _)⟩
  have hdw : w.heap.size ≤ w1.heap.size := g1.size
  have START := hide start
  clear r0 start out0 ds0 gd hG rel0 len0
  go_wp2_with (fail)
  generalize w1.heap.size = d at START hdw ⊢
  go_loopw [12, 32] (fun s12 s32 wr => ∃ i : Nat, i ≤ n ∧ s12 = .int .i64 ((evS ws t wi i).n : Nat) ∧ s32 = .int .i64 i ∧ Hid (∃ v l, EvI w d (d + 1) ws t wi n i v l wr)) (fun _ s32 _ => n - (intOf s32).toNat)
  case atStart => exact ⟨0, by omega, rfl, rfl, _, _, START.out⟩
  case round =>
    clear START mk g1
    obtain ⟨i, hi, rfl, rfl, hI⟩ := hrel
    by_cases hlt : i < n
    · have hlt' : (i : Int) < n := by omega
      obtain ⟨v, l, s⟩ := hI.out
      have SS := hide s
      obtain ⟨g, cap, cur, rfl, hbg, hg, hc, hm, hs, htk⟩ := s.ds.row.open (by rw [s.len]; omega)
      have hfront := s.rel.front (by omega) (evS_inj ws t wi i)
      have hpx : evP ws t wi i = if evW ws t wi i (evS ws t wi i) then ws.getD ((evS ws t wi i).n % ws.length) p0 else itm (mn (evS ws t wi i).B (2 * t)) := rfl
      have hwx : evW ws t wi i (evS ws t wi i) = (decide (0 < ws.length) && decide ((i : Int) + 2 * (t : Int) - wi < (evS ws t wi i).B (mn (evS ws t wi i).B (2 * t)))) := rfl
      have hns := evS_n ws t wi i
      have HS := hide (show (evS ws t wi (i + 1)).n = if evW ws t wi i (evS ws t wi i) then (evS ws t wi i).n + 1 else (evS ws t wi i).n from rfl)
      generalize itm (mn (evS ws t wi i).B (2 * t)) = x0 at hfront hpx
      have hbl := evS_le ws t wi i (mn (evS ws t wi i).B (2 * t))
      generalize (evS ws t wi i).B (mn (evS ws t wi i).B (2 * t)) = b0 at hfront hwx hbl
      have hlen := s.len
      obtain ⟨e1, e2, e3⟩ := dc_at htk 0 (by omega)
      rw [hfront] at e1 e2 e3
      simp only at e1 e2 e3
      have q1 := hg.cell e1
      have q2 := hg.cell e2
      have q3 := hg.cell e3
      have q0 := s.ds.head.cell (o := 0) rfl
      obtain ⟨xk, xw⟩ := x0
      simp only at q1 q2 q3
      have hl0 : (0 : Int) < (l.length : Int) := by omega
      have hdG := s.out.lt
      have hdgG : g ≠ d + 1 := hg.apart s.out (by decide)
      have hddG : d ≠ d + 1 := by omega
      have k1 := s.out.cell (flatPC_a _ i (by rw [outL_len]; exact hlt))
      have k2 := s.out.cell (flatPC_v _ i (by rw [outL_len]; exact hlt))
      have z1 := s.out.free (i * 2)
      have z2 := s.out.free (i * 2 + 1)
      generalize (outL (evP ws t wi) i n).getD i p0 = old at k1 k2
      simp only [Nat.zero_mul, Nat.zero_add] at q1 q2 q3
      have HB := hide hbl
      have HPX := hide hpx
      have HWX := hide hwx
      have HL := hide hlen
      have L5 := hide (outL_len (evP ws t wi) i n)
      have HHP : Hid (Heap (fn l) l.length ∧ Inj (fn l) l.length) := by rw [hlen]; exact ⟨SS.out.rel.heap, SS.out.rel.inj⟩
      have hl100 : l.length ≤ 100 := by omega
      have HL1 := hide hl100
      clear s hg htk hs hm hc e1 e2 e3 hfront
      generalize hnw : (evS ws t wi i).n = nw at hpx hns HS HPX
      have HNW := hide hnw
      have HNS := hide hns
      clear hpx hwx hnw hns hbl hI hlen hl100
      by_cases h0 : ws.length = 0
      · have h0' : ¬ 0 < (ws.length : Int) := by omega
        have HX : Hid (evP ws t wi i = (xk, xw)) := by
          show evP ws t wi i = _
          rw [HPX.out, HWX.out]; simp [h0]
        have HN : Hid ((evS ws t wi (i + 1)).n = nw) := by
          show _ = nw
          rw [HS.out, HWX.out]; simp [h0]
        clear h0
        have M := new_mid (set_mid (i := i) SS.out.ds SS.out.out SS.out.fr (show w.heap.size ≤ d + 1 by omega) (xk, xw)) #[.int .i64 xk, .int .i64 xw, .int .i64 b0]
        go_wp2_with (fail)
        refine (putOff_calls M.1 (xk, xw) ((i : Int) + 1) HL1.out HHP.out.1 HHP.out.2).mono ?_
        rintro e w3 h3
        obtain ⟨rfl, v', l', s3⟩ := SS.out.step (xk, xw) HX.out M.2.1 M.2.2 e h3
        have S3 := hide s3
        clear s3 h3 M k1 k2 z1 z2 q0 q1 q2 q3
        go_wp2_with (fail)
        exact ⟨⟨i + 1, by omega, by rw [HN.out], by go_num, v', l', S3.out⟩, by simp [intOf]; omega⟩
      · have h0' : 0 < (ws.length : Int) := by omega
        by_cases hb : (i : Int) + 2 * (t : Int) - wi < b0
        · have HX : Hid (evP ws t wi i = ws.getD (nw % ws.length) p0) := by
            show evP ws t wi i = _
            rw [HPX.out, HWX.out]; simp [show 0 < ws.length by omega, hb]
          have HN : Hid ((evS ws t wi (i + 1)).n = nw + 1) := by
            show _ = nw + 1
            rw [HS.out, HWX.out]; simp [show 0 < ws.length by omega, hb]
          have hnr : nw % ws.length < ws.length := Nat.mod_lt _ (by omega)
          have hmod : (nw : Int).tmod (ws.length : Int) = ((nw % ws.length : Nat) : Int) := by rw [Int.tmod_eq_emod_of_nonneg (by omega)]; exact (Int.natCast_emod _ _).symm
          have hmod2 : (nw : Int) % (ws.length : Int) = ((nw % ws.length : Nat) : Int) := (Int.natCast_emod _ _).symm
          obtain ⟨wb, wo, rfl, y1', y2'⟩ := HA.out.get hnr
          have gw : Gr w wr := SS.out.fr.below
          have hwb : wb < w.heap.size := block_lt_of_cell (a := ⟨wb, wo + nw % ws.length * 2, none⟩) y1'
          have y0a := y1'
          have y0b := y2'
          have y1 := (cell_same _ (gw.block wb hwb)).trans y1'
          have y2 := (cell_same _ (gw.block wb hwb)).trans y2'
          have hwb3 : wb < wr.heap.size := Nat.lt_of_lt_of_le hwb gw.size
          clear y1' y2'
          have hwb2 : wb ≠ d + 1 := by omega
          generalize ws.getD (nw % ws.length) p0 = y at y1 y2 y0a y0b HX
          generalize nw % ws.length = r at hnr hmod hmod2 y1 y2 y0a y0b
          have hnr' : (r : Int) < ws.length := by omega
          obtain ⟨yk, yw⟩ := y
          simp only at y1 y2 y0a y0b
          have hnw9 : (nw : Int) ≤ 100000 := by have := HNS.out; omega
          have M1 := new_mid (set_mid (i := i) SS.out.ds SS.out.out SS.out.fr (show w.heap.size ≤ d + 1 by omega) (xk, xw)) #[.int .i64 xk, .int .i64 xw, .int .i64 b0]
          clear h0
          go_upto_if 56 with (fail)
          have hW : ((wr.setCell ⟨d + 1, i * 2, none⟩ (.int .i64 xk)).setCell ⟨d + 1, i * 2 + 1, none⟩ (.int .i64 xw)).alloc (.cells #[.int .i64 xk, .int .i64 xw, .int .i64 b0] 49) = (wr.setCells (d + 1) (i * 2) [.int .i64 xk, .int .i64 xw]).alloc (.cells #[.int .i64 xk, .int .i64 xw, .int .i64 b0] 49) := rfl
          rw [hW]
          clear hW
          simp only at M1
          generalize (wr.setCells (d + 1) (i * 2) [.int .i64 xk, .int .i64 xw]).alloc (.cells #[.int .i64 xk, .int .i64 xw, .int .i64 b0] 49) = w2 at M1 ⊢
          have gw2 : Gr w w2 := M1.2.2.below
          have u1 := (cell_same (wo + r * 2) (gw2.block wb hwb)).trans y0a
          have u2 := (cell_same (wo + r * 2 + 1) (gw2.block wb hwb)).trans y0b
          have hlL : i < ((outL (evP ws t wi) i n).set i (xk, xw)).length := by rw [List.length_set, L5.out]; exact hlt
          have m1 := M1.2.1.cell (flatPC_a _ i hlL)
          have m2 := M1.2.1.cell (flatPC_v _ i hlL)
          have v1 := M1.2.1.free (i * 2)
          have v2 := M1.2.1.free (i * 2 + 1)
          generalize ((outL (evP ws t wi) i n).set i (xk, xw)).getD i p0 = old2 at m1 m2
          have M := set_mid (i := i) M1.1 M1.2.1 M1.2.2 (show w.heap.size ≤ d + 1 by omega) (yk, yw)
          rw [List.set_set] at M
          have HM := hide M
          clear M M1 k1 k2 z1 z2 q0 q1 q2 q3 y1 y2 hlL
          go_wp2_with (fail)
          refine (putOff_calls HM.out.1 (yk, yw) ((i : Int) + 1) HL1.out HHP.out.1 HHP.out.2).mono ?_
          rintro e w3 h3
          obtain ⟨rfl, v', l', s3⟩ := SS.out.step (yk, yw) HX.out HM.out.2.1 HM.out.2.2 e h3
          have S3 := hide s3
          clear s3 h3 m1 m2 v1 v2 u1 u2
          go_wp2_with (fail)
          exact ⟨⟨i + 1, by omega, by rw [HN.out]; congr 1, by go_num, v', l', S3.out⟩, by simp [intOf]; omega⟩
        · have HX : Hid (evP ws t wi i = (xk, xw)) := by
            show evP ws t wi i = _
            rw [HPX.out, HWX.out]; simp [hb]
          have HN : Hid ((evS ws t wi (i + 1)).n = nw) := by
            show _ = nw
            rw [HS.out, HWX.out]; simp [hb]
          have M := new_mid (set_mid (i := i) SS.out.ds SS.out.out SS.out.fr (show w.heap.size ≤ d + 1 by omega) (xk, xw)) #[.int .i64 xk, .int .i64 xw, .int .i64 b0]
          clear h0
          go_wp2_with (fail)
          refine (putOff_calls M.1 (xk, xw) ((i : Int) + 1) HL1.out HHP.out.1 HHP.out.2).mono ?_
          rintro e w3 h3
          obtain ⟨rfl, v', l', s3⟩ := SS.out.step (xk, xw) HX.out M.2.1 M.2.2 e h3
          have S3 := hide s3
          clear s3 h3 M k1 k2 z1 z2 q0 q1 q2 q3
          go_wp2_with (fail)
          exact ⟨⟨i + 1, by omega, by rw [HN.out], by go_num, v', l', S3.out⟩, by simp [intOf]; omega⟩
    · obtain rfl : i = n := by omega
      obtain ⟨v, l, s⟩ := hI.out
      have SS := hide s
      clear s hI
      go_wp2_with (fail)
      go_ret2
      refine ⟨d + 1, ⟨rfl, SS.out.fr.below⟩, ?_⟩
      have := SS.out.out
      rw [outL_end] at this
      exact this
end Go.Proofs.Ytokbbjpnahpeaaa
