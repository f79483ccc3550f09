/-
  Flushes, one behind the other, by plain lists; what a flush keeps of the step's own boxes. No condition but what each law names.
-/
import Derived.Test.YtfhplbmgjgfihaaGreatDoorZzbvWlH
import Derived.Test.YtfhplbmgjgfihaaGreatDoorZzbb
import Derived.Test.YtfhplbmgjgfihaaGreatDoorZzbh
import Derived.Test.YtfhplbmgjgfihaaGreatDoorZzaa
import Derived.BigQuiet
import Derived.Deep.QuietTactic
namespace Go.Proofs.YtfhplbmgjgfihaaGreatDoor.Wl
open Go.Proofs.YtfhplbmgjgfihaaGreatDoor.Mc Go.ChangeShapes Go.WideShapes Go.ChangeAt Go.RowKit
set_option linter.unusedVariables false
set_option maxRecDepth 20000
theorem drain_flush : ∀ (n : Nat) (s : Ms) (i : Nat), (s.drain i n).flush i = s.drain i (n + 1)
  | 0, s, i => rfl
  | n + 1, s, i => drain_flush n (s.flush i) i
/-- how far a state has been flushed: of each buffer so many entries -/
structure Dr (s s' : Ms) (d : Nat → Nat) (c : Nat) : Prop where
  num : s'.sides.length = s.sides.length
  mem : s'.mem.length = s.mem.length
  evs : s'.evs.length ≤ s.evs.length + c
  buf : ∀ j, (s'.side j).buf = (s.side j).buf.drop (d j)
theorem Dr.refl (s : Ms) : Dr s s (fun _ => 0) 0 := ⟨rfl, rfl, Nat.le_refl _, fun j => by simp⟩
theorem Dr.flush {s s' : Ms} {d : Nat → Nat} {c : Nat} (h : Dr s s' d c) {i : Nat} (hi : i < s.sides.length) : Dr s (s'.flush i) (fun j => if j = i then d j + 1 else d j) (c + 1) := by
  have hi' : i < s'.sides.length := by rw [h.num]; exact hi
  have hbi := h.buf i
  unfold Ms.flush
  cases hb : (s'.side i).buf with
  | nil =>
    refine ⟨h.num, h.mem, Nat.le_succ_of_le h.evs, fun j => ?_⟩
    by_cases hj : j = i
    · subst hj
      rw [hb] at hbi
      rw [hb, if_pos rfl, ← List.drop_drop, ← hbi]
      rfl
    · rw [if_neg hj]
      exact h.buf j
  | cons x l =>
    have hs : ∀ j, ((s'.setB i l).side j).buf = if j = i then l else (s'.side j).buf := fun j => by
      unfold Ms.setB
      rw [side_set hi']
      by_cases hj : j = i
      · rw [if_pos hj, if_pos hj]
      · rw [if_neg hj, if_neg hj]
    refine ⟨?_, ?_, ?_, fun j => ?_⟩
    · show (s'.sides.set i _).length = _
      rw [List.length_set]
      exact h.num
    · show (s'.mem.set _ _).length = _
      rw [List.length_set]
      exact h.mem
    · show (s'.evs ++ [_]).length ≤ _
      rw [List.length_append]
      have := h.evs
      simp
      omega
    · show ((s'.setB i l).side j).buf = _
      rw [hs j]
      by_cases hj : j = i
      · subst hj
        rw [hb] at hbi
        rw [if_pos rfl, if_pos rfl, ← List.drop_drop, ← hbi]
        rfl
      · rw [if_neg hj, if_neg hj]
        exact h.buf j
theorem Dr.drain {s s' : Ms} {d : Nat → Nat} {c : Nat} (h : Dr s s' d c) {i : Nat} (hi : i < s.sides.length) : ∀ n, Dr s (s'.drain i n) (fun j => if j = i then d j + n else d j) (c + n)
  | 0 => ⟨h.num, h.mem, h.evs, fun j => by
      have := h.buf j
      by_cases hj : j = i
      · rw [if_pos hj]; exact this
      · rw [if_neg hj]; exact this⟩
  | n + 1 => by
    have q := (Dr.drain h hi n).flush hi
    rw [drain_flush] at q
    refine ⟨q.num, q.mem, q.evs, fun j => ?_⟩
    rw [q.buf j]
    by_cases hj : j = i
    · rw [if_pos hj, if_pos hj, if_pos hj]
      rfl
    · rw [if_neg hj, if_neg hj, if_neg hj]
/-- the buffers below this one are empty -/
def remoteP (s : Ms) (j : Nat) : Ms := (List.range j).foldl (fun s i => s.drain i (s.side i).buf.length) s
theorem remoteP_succ (s : Ms) (j : Nat) : remoteP s (j + 1) = (remoteP s j).drain j ((remoteP s j).side j).buf.length := by
  unfold remoteP
  rw [List.range_succ, List.foldl_append]
  rfl
theorem remoteP_dr (s : Ms) (hok : ∀ j, (s.side j).buf.length ≤ 16) : ∀ j, j ≤ s.sides.length → Dr s (remoteP s j) (fun q => if q < j then (s.side q).buf.length else 0) (16 * j)
  | 0, _ => ⟨rfl, rfl, Nat.le_refl _, fun q => by show _ = List.drop (if q < 0 then _ else 0) _; rw [if_neg (Nat.not_lt_zero q)]; rfl⟩
  | j + 1, hj => by
    have h := remoteP_dr s hok j (by omega)
    have hb : ((remoteP s j).side j).buf = (s.side j).buf := by
      rw [h.buf j, if_neg (Nat.lt_irrefl j)]
      rfl
    have q := h.drain (i := j) (by omega) ((remoteP s j).side j).buf.length
    rw [← remoteP_succ] at q
    refine ⟨q.num, q.mem, ?_, fun p => ?_⟩
    · have := q.evs
      rw [hb] at this
      have := hok j
      omega
    · rw [q.buf p]
      by_cases hp : p = j
      · subst hp
        rw [if_pos rfl, if_neg (Nat.lt_irrefl p), if_pos (Nat.lt_succ_self p), hb, Nat.zero_add]
      · rw [if_neg hp]
        by_cases hlt : p < j
        · rw [if_pos hlt, if_pos (by omega)]
        · rw [if_neg hlt, if_neg (by omega)]
theorem remote_is (s : Ms) : s.remote = remoteP s s.sides.length := rfl
/-- what is so around the loops of flushes: the world, the step's own boxes -/
def RmR (k : Wk) (tv bv mv : Value) (s : Ms) (tx ex ix : Nat) (ct ce ci : Array Value) (w : World) : Prop :=
  ∃ v, Ws k v s w ∧ (v.tv = tv ∧ v.bv = bv ∧ v.mv = mv) ∧ (Has w tx ct 46 ∧ Has w ex ce 79 ∧ Has w ix ci 53) ∧ ex ∉ ob v.ev
theorem not_flF {k : Wk} {v : Wv} {s : Ms} {w : World} (h : Ws k v s w) {x : Nat} {C : Array Value} {t : TypeId} (hx : Has w x C t) (h1 : 41 ≠ t) (h2 : 47 ≠ t) (h3 : 43 ≠ t) (h4 : x ∉ ob v.ev) : x ∉ flF k v := fun z => by
  rcases List.mem_cons.1 z with z | z
  · exact (h.box.apart hx h1) z.symm
  · rcases List.mem_append.1 z with z | z
    · exact own_aside h.bf hx h2 z
    · rcases List.mem_append.1 z with z | z
      · exact own_aside h.mem hx h3 z
      · exact h4 z
theorem RmR.flush {k : Wk} {tv bv mv : Value} {s s0 : Ms} {tx ex ix : Nat} {ct ce ci : Array Value} {w : World} (h : RmR k tv bv mv s tx ex ix ct ce ci w) {d : Nat → Nat} {c : Nat} (hd : Dr s0 s d c) (hc : c ≤ 4000) (he : s0.evs.length ≤ 90000) (hrg : ∀ i, ∀ e ∈ (s0.side i).buf, 0 ≤ e.a ∧ e.a < s0.mem.length) (hbl : ∀ i, (s0.side i).buf.length ≤ 16) (i : Nat) (hi : i < s0.sides.length) :
    Calls Tryz.prog 31 #[.pointer (some ⟨k.g, 0, none⟩), .int .i64 i] w fun r w' => r = .returned (.tuple #[]) ∧ RmR k tv bv mv (s.flush i) tx ex ix ct ce ci w' := by
  obtain ⟨v, hw, ⟨e1, e2, e3⟩, ⟨hT, hE, hI⟩, hx⟩ := h
  have b := hd.buf i
  refine (flush_keeps k v s w hw i (by rw [hd.num]; exact hi) (by have := hd.evs; omega) (fun e he => ?_) (by rw [b, List.length_drop]; have := hbl i; omega)).mono ?_
  · rw [b] at he
    rw [hd.mem]
    exact hrg i e (List.mem_of_mem_drop he)
  rintro r w' ⟨rfl, v2, h2, ⟨a1, a2, a3⟩, kp, hob⟩
  refine ⟨rfl, v2, h2, ⟨a1.trans e1, a2.trans e2, a3.trans e3⟩, ⟨hT.kept kp (not_flF hw hT (by decide) (by decide) (by decide) (own_aside hw.evs hT (by decide))), hE.kept kp (not_flF hw hE (by decide) (by decide) (by decide) hx), hI.kept kp (not_flF hw hI (by decide) (by decide) (by decide) (own_aside hw.evs hI (by decide)))⟩, fun z => ?_⟩
  rcases hob _ z with q | q
  · exact hx q
  · exact absurd hE.lt (by omega)
/-- how long a buffer's slice is, where it lies -/
def lenAt (w : World) (b j : Nat) : Nat := match w.cell? ⟨b, j, none⟩ with
  | some (.slice _ n _) => n
  | _ => 0
theorem RmR.cells {k : Wk} {tv mv : Value} {bb bc n : Nat} {s : Ms} {tx ex ix : Nat} {ct ce ci : Array Value} {w : World} (h : RmR k tv (.slice (some ⟨bb, 0, none⟩) n bc) mv s tx ex ix ct ce ci w) (hn : s.sides.length = n) {j : Nat} (hj : j < n) :
    w.cell? ⟨k.g, 2, none⟩ = some (.slice (some ⟨bb, 0, none⟩) n bc) ∧ ∃ a c, w.cell? ⟨bb, j, none⟩ = some (.slice a (s.side j).buf.length c) := by
  obtain ⟨v, hw, ⟨e1, e2, e3⟩, -, -⟩ := h
  have c2 := hw.box.cell (o := 2) (v := v.bv) rfl
  rw [e2] at c2
  refine ⟨c2, ?_⟩
  obtain ⟨b', c', C', hbv, -, -, hbr⟩ := hw.bfAt (by omega)
  rw [e2] at hbv
  simp only [Value.slice.injEq, Option.some.injEq, Addr.mk.injEq] at hbv
  obtain rfl : bb = b' := hbv.1.1
  obtain ⟨a, c, hbi, -, -⟩ := hw.buf (i := j) (by omega)
  exact ⟨a, c, row_nth hbr hbi⟩
theorem RmR.len {k : Wk} {tv mv : Value} {bb bc n : Nat} {s : Ms} {tx ex ix : Nat} {ct ce ci : Array Value} {w : World} (h : RmR k tv (.slice (some ⟨bb, 0, none⟩) n bc) mv s tx ex ix ct ce ci w) (hn : s.sides.length = n) {j : Nat} (hj : j < n) : lenAt w bb j = (s.side j).buf.length := by
  obtain ⟨-, a, c, e⟩ := h.cells hn hj
  unfold lenAt
  rw [e]
set_option maxHeartbeats 16000000 in
theorem step_go25 (k : Wk) (v : Wv) (s : Ms) (w : World) (h : Ws k v s w) (f : Fit k.p s) (i : Nat) (hi : i < s.sides.length) (N : Int) (hN : N = s.mem.length) (hst : (s.side i).t.st = 0) (pn : Nat) (hpce : (s.side i).t.pc = pn)
    (x : Cd) (hxc : k.p.codes.getD i cd0 = x) (hpl : pn < x.l.length) (ca cb2 cc2 ck : Int) (hcc : x.l.getD pn ins0 = ⟨25, ca, cb2, cc2, ck⟩) (hri : rightB 25 ca cb2 cc2 ck (x.l.length : Int) = true) (hna : askB 25 = false) (hb : (s.side i).buf.length = 0) (hheld : heldM (port N i) ⟨25, ca, cb2, cc2, ck⟩ s = false) :
    Calls Tryz.prog 30 #[.pointer (some ⟨k.g, 0, none⟩), .int .i64 i] w (WlP k (s.step N i)) := by
  obtain ⟨tv, bv, mv, sv, ev, bl⟩ := v
  have HB0 := hide hb
  clear hb
  have hi0 : ¬ (i : Int) < 0 := by omega
  have hi1 : (i : Int) < s.sides.length := by omega
  have hi2 : ¬ (s.sides.length : Int) ≤ i := by omega
  obtain ⟨tb, tc, rfl, hBt, c1, cs, cfz, RT, thr, T1, G1, HTX, HEX, HTH⟩ := pre1 h f hi hst
  have iT := infoT10 HTH.out
  have iT2 : (Tryz.prog.info? 46).map (·.size) = some (thC (s.side i).t).size := infoT_of HTH.out
  have IT2 := hide iT2
  have one := thC_one (s.side i).t
  have HH := hide h
  have HF := hide f
  have HN := hide hN
  have HST := hide hst
  have hsz := h.sz
  have HRI := hide hri
  clear h f hN hst hri
  go_enter Tryz.func30, Tryz.ntmps30
  go_upto_region 2 with (first
    | (refine wpList_load_mid rfl 46 _ rfl tb (i * 10) rfl (thL (s.side i).t) _ RT Tryz.underlying46 rfl iT ?_)
    | (refine wpList_store_mid rfl 46 _ _ rfl w.heap.size 0 (thC (s.side i).t) rfl rfl thr iT2 one ?_))
  change Code.wp _ _ _ _ ((w.alloc (.cells (thC thZ) 46)).setCells w.heap.size 0 (thC (s.side i).t).toList)
  clear thr RT iT iT2 one cs cfz c1
  generalize (w.alloc (.cells (thC thZ) 46)).setCells w.heap.size 0 (thC (s.side i).t).toList = w1 at T1 G1 ⊢
  obtain ⟨hic, hxsh, HXC, HXA, htpc, cb, co, c0, cC⟩ := pre2 HH.out HF.out G1.out hi hxc T1.out hpce
  have hic' : (i : Int) < k.p.codes.length := by omega
  have e0 := Has.new w1 (evA ⟨0, i, (pn : Int), 0, 0, 0, 0, false⟩) 79
  have g2 := (Gr.refl w1).alloc (evA ⟨0, i, (pn : Int), 0, 0, 0, 0, false⟩) 79
  have hexs := HEX.out w1.heap.size G1.out.size
  have hexb : k.w0.heap.size ≤ w1.heap.size := Nat.le_trans hsz G1.out.size
  have HPC := hide hpce
  clear hpce hxc
  go_upto_region 4 with (fail)
  change Code.wp _ _ _ _ (w1.alloc (.cells (evA ⟨0, i, (pn : Int), 0, 0, 0, 0, false⟩) 79))
  generalize w1.alloc (.cells (evA ⟨0, i, (pn : Int), 0, 0, 0, 0, false⟩) 79) = w2 at e0 g2 ⊢
  generalize w1.heap.size = ex at e0 hexs hexb ⊢
  generalize hw0s : w.heap.size = tx at T1 HTX ⊢
  have E2 := hide e0
  have T2 := hide (T1.out.later g2)
  have H2 := hide (HH.out.later (G1.out.trans g2))
  have d0 := T2.out.cell (o := 0) (v := .int .i64 (pn : Int)) (by rw [← HPC.out]; rfl)
  have htxB : k.w0.heap.size ≤ tx := by rw [← hw0s]; exact hsz
  clear c0 cC htpc e0 g2 T1 G1 hic hic' hw0s HEX
  have HAT := at3 (N := N) HST.out HPC.out HXC.out hpl hcc
  have hpl' : (pn : Int) < x.l.length := by omega
  have hpn0 : ¬ (pn : Int) < 0 := by omega
  have hpn1 : ¬ (x.l.length : Int) ≤ pn := by omega
  obtain ⟨hcok, ib, io, hia, x0, x1, x2, x3, x4⟩ := pre3 H2.out HXA.out hpl hcc
  have i0 := Has.new w2 (insA ⟨25, ca, cb2, cc2, ck⟩) 53
  have g3 := (Gr.refl w2).alloc (insA ⟨25, ca, cb2, cc2, ck⟩) 53
  have RI := hide (fun u => Nm.refright_calls 25 ca cb2 cc2 ck (x.l.length : Int) hcok.k0 hcok.k1 u)
  have HCO := hide hcok
  rw [hia]
  clear hcok hia hcc
  go_upto_region 7 with (fail)
  change Code.wp _ _ _ _ (w2.alloc (.cells (insA ⟨25, ca, cb2, cc2, ck⟩) 53))
  generalize w2.alloc (.cells (insA ⟨25, ca, cb2, cc2, ck⟩) 53) = w3 at i0 g3 ⊢
  generalize w2.heap.size = ix at i0 ⊢
  have I3 := hide i0
  have T3 := hide (T2.out.later g3)
  have E3 := hide (E2.out.later g3)
  have H3 := hide (H2.out.later g3)
  obtain ⟨j0, j1, j2, j3, j4⟩ := five i0
  clear d0 x0 x1 x2 x3 x4 g3 i0
  go_wp2_with (fail)
  refine (RI.out _).mono ?_
  rintro r w4 ⟨rfl, g4⟩
  rw [HRI.out]
  obtain ⟨I4, T4, E4, H4⟩ := later4 I3 T3 E3 H3 g4
  clear j0 j1 j2 j3 j4 I3 T3 E3 H3 T2 E2 H2 g4 RI
  have HA := hide (fun u => Nm.has_calls 25 77 u)
  rw [Nm.has_is] at HA
  have j0 := I4.out.cell (o := 0) (v := .int .i64 25) rfl
  have HGO := hide (step_go (N := N) (i := i) (show stepM (port N i) (s.side i).t (s.side i).code s = _ by rw [HXC.out, HAT.out]) (HRI.out) (fun h => by rw [hna] at h; cases h) hheld)
  clear hheld
  rw [hna] at HA
  go_wp2_with (fail)
  refine (HA.out _).mono ?_
  rintro r w7 ⟨rfl, g7⟩
  obtain ⟨I7, T7, E7, H7⟩ := later4 I4 T4 E4 H4 g7
  clear j0 HA I4 T4 E4 H4 g7
  obtain ⟨bb, bc, ba, bcc, rfl, ci, c2, c4, c7⟩ := buf7 H7.out hi
  have j0 := I7.out.cell (o := 0) (v := .int .i64 25) rfl
  have hb := HB0.out
  have l1 : ¬ (0 : Int) < ((s.side i).buf.length : Int) := by omega
  have l2 : decide ((0 : Int) < ((s.side i).buf.length : Int)) = false := by simp [hb]
  have l3 : decide (0 < (s.side i).buf.length) = false := by simp [hb]
  clear hb
  generalize hbng : (s.side i).buf.length = bn at ci l1 l2 l3
  go_upto_region 17 with (fail)
  go_quiet (fail)
  have g8 := (Gr.refl w7).drewN nq
  obtain ⟨I8, T8, E8, H8⟩ := later4 I7 T7 E7 H7 g8
  clear ci c2 c4 c7 j0 l1 l2 l3 g8 I7 T7 E7 H7 hbng
  generalize w7.drewN nq = w8 at I8 T8 E8 H8 ⊢
  obtain ⟨an, rfl, han⟩ := reg_nat (right_a HRI.out)
  have han' : (an : Int) < 8 := by omega
  have han0 : ¬ (an : Int) < 0 := by omega
  have hpw : pn < 100000 := by omega
  obtain ⟨j0, j1, j2, j3, j4⟩ := five I8.out
  have d0 := T8.out.cell (thC_pc (s.side i).t)
  rw [HPC.out] at d0
  have cr := T8.out.cell (thC_reg HTH.out an han)
  have rf := T8.out.free (1 + an)
  have HS : Hid (s.step N i = (s.remote.setT i ((s.side i).t.at ((pn : Int) + 1))).note i ⟨10, i, (pn : Int), 0, 0, 0, 0, false⟩) := by
    show _ = _
    rw [HGO.out]
    show (s.remote.setT i ((s.side i).t.at ((s.side i).t.pc + 1))).note i (evt 10 (s.side i).t.pc) = _
    rw [HPC.out]
    rfl
  have hok := ok_side HF.out.ok
  have h8 : s.sides.length ≤ 8 := (ok_room HF.out.ok).2
  have HRL : Hid (s.remote.sides.length = s.sides.length) := (remoteP_dr s hok _ (Nat.le_refl _)).num
  have HEV : Hid (s.remote.evs.length ≤ 95000) := by
    show s.remote.evs.length ≤ 95000
    have q1 : s.remote.evs.length ≤ _ := (remoteP_dr s hok _ (Nat.le_refl _)).evs
    have q2 := HF.out.evs
    omega
  have HOK := hide hok
  clear HGO hok
  have HOK9 := HTH
  go_upto_region 81 with (fail)
  clear cr rf d0 j1 j2 j3 j4
  have HR : Hid (RmR k (.slice (some ⟨tb, 0, none⟩) s.sides.length tc) (.slice (some ⟨bb, 0, none⟩) s.sides.length bc) mv s tx ex ix (thC (s.side i).t) (evA ⟨0, i, (pn : Int), 0, 0, 0, 0, false⟩) (insA ⟨25, an, cb2, cc2, ck⟩) w8) := ⟨_, H8.out, ⟨rfl, rfl, rfl⟩, ⟨T8.out, E8.out, I8.out⟩, hexs⟩
  clear T8 E8 H8 I8 j0
  generalize w8 = wa at HR ⊢
  go_wp2_with (fail)
  go_loopw [17] (fun q wr => ∃ j : Nat, j ≤ s.sides.length ∧ q = .int .i64 j ∧ Hid (RmR k (.slice (some ⟨tb, 0, none⟩) s.sides.length tc) (.slice (some ⟨bb, 0, none⟩) s.sides.length bc) mv (remoteP s j) tx ex ix (thC (s.side i).t) (evA ⟨0, i, (pn : Int), 0, 0, 0, 0, false⟩) (insA ⟨25, an, cb2, cc2, ck⟩) wr)) (fun q _ => s.sides.length - (intOf q).toNat)
  case atStart => exact ⟨0, by omega, rfl, HR.out⟩
  case round =>
    clear HR
    obtain ⟨j, hj, rfl, hR⟩ := hrel
    have DR := remoteP_dr s HOK.out j hj
    by_cases hlt : j < s.sides.length
    · have hlt' : (j : Int) < s.sides.length := by omega
      have hj0 : ¬ (j : Int) < 0 := by omega
      obtain ⟨c2, -⟩ := hR.out.cells DR.num hlt
      have hj8 : j ≤ 8 := by omega
      have DR2 := hide (fun c => DR.drain (i := j) hlt c)
      have hb0 : ∀ c, (((remoteP s j).drain j c).side j).buf = (s.side j).buf.drop c := fun c => by
        rw [(DR2.out c).buf j, if_pos rfl, if_neg (Nat.lt_irrefl j), Nat.zero_add]
      have HB0' := hide hb0
      have HSU : Hid (remoteP s (j + 1) = (remoteP s j).drain j (s.side j).buf.length) := by
        show _ = _
        rw [remoteP_succ]
        have := hb0 0
        rw [show (remoteP s j).drain j 0 = remoteP s j from rfl, List.drop_zero] at this
        rw [this]
      clear DR hb0
      have h16 := HOK.out j
      generalize hL : (s.side j).buf.length = L at h16 HSU
      have HL := hide hL
      clear hL
      go_upto_region 84 with (fail)
      clear c2
      go_loopw [] (fun wy => ∃ c : Nat, c ≤ L ∧ Hid (RmR k (.slice (some ⟨tb, 0, none⟩) s.sides.length tc) (.slice (some ⟨bb, 0, none⟩) s.sides.length bc) mv ((remoteP s j).drain j c) tx ex ix (thC (s.side i).t) (evA ⟨0, i, (pn : Int), 0, 0, 0, 0, false⟩) (insA ⟨25, an, cb2, cc2, ck⟩) wy)) (fun wy => lenAt wy bb j)
      case atStart => exact ⟨0, by omega, hR.out⟩
      case round =>
        clear hR
        obtain ⟨c, hc, hR2⟩ := hrel
        obtain ⟨c2, ba, bcd, ci⟩ := hR2.out.cells (DR2.out c).num hlt
        rw [HB0'.out c, List.length_drop, HL.out] at ci
        have HM1 : Hid (lenAt wr bb j = L - c) := by
          show _ = _
          rw [hR2.out.len (DR2.out c).num hlt, HB0'.out c, List.length_drop, HL.out]
        by_cases hcl : c < L
        · have hpos : (0 : Int) < ((L - c : Nat) : Int) := by omega
          have FL := hide (hR2.out.flush (DR2.out c) (by omega) HF.out.evs (fun q e he => (HF.out.ent q e he).1) HOK.out j hlt)
          clear hR2
          generalize hlc : L - c = lc at ci hpos HM1
          have HLC := hide hlc
          clear hlc
          go_wp2_with (fail)
          refine FL.out.mono ?_
          rintro r wz ⟨rfl, hz⟩
          rw [drain_flush] at hz
          have HM2 : Hid (lenAt wz bb j = L - (c + 1)) := by
            show _ = _
            rw [hz.len (DR2.out (c + 1)).num hlt, HB0'.out (c + 1), List.length_drop, HL.out]
          have HZ := hide hz
          clear hz FL c2 ci hpos
          go_wp2_with (fail)
          exact ⟨⟨c + 1, by omega, HZ.out⟩, by have := HLC.out; rw [HM1.out, HM2.out]; omega⟩
        · obtain rfl : c = L := by omega
          have hpos : ¬ (0 : Int) < ((c - c : Nat) : Int) := by omega
          have hR3 : Hid (RmR k (.slice (some ⟨tb, 0, none⟩) s.sides.length tc) (.slice (some ⟨bb, 0, none⟩) s.sides.length bc) mv (remoteP s (j + 1)) tx ex ix (thC (s.side i).t) (evA ⟨0, i, (pn : Int), 0, 0, 0, 0, false⟩) (insA ⟨25, an, cb2, cc2, ck⟩) wr) := by
            show RmR k (.slice (some ⟨tb, 0, none⟩) s.sides.length tc) (.slice (some ⟨bb, 0, none⟩) s.sides.length bc) mv (remoteP s (j + 1)) tx ex ix (thC (s.side i).t) (evA ⟨0, i, (pn : Int), 0, 0, 0, 0, false⟩) (insA ⟨25, an, cb2, cc2, ck⟩) wr
            rw [HSU.out]
            exact hR2.out
          clear hR2 HM1
          rw [Nat.sub_self] at ci
          go_wp2_with (fail)
          exact ⟨⟨j + 1, by omega, by go_num, hR3.out⟩, by simp [intOf]; omega⟩
    · obtain rfl : j = s.sides.length := by omega
      obtain ⟨⟨tv9, bv9, mv9, sv9, ev9, bl9⟩, hM, ⟨e1, e2, e3⟩, ⟨hT, hE, hI⟩, hx⟩ := hR.out
      simp only at e1 e2 e3 hx
      subst e1 e2 e3
      rw [← remote_is] at hM
      have c2 := hM.box.cell (o := 2) (v := (.slice (some ⟨bb, 0, none⟩) s.sides.length bc)) rfl
      have HA := hide hM
      have TA := hide hT
      have EA := hide hE
      have IA := hide hI
      have hexs := hx
      clear hM hT hE hI hR DR hx
      go_upto_region 86 with (fail)
      clear c2
      have q0 := EA.out.cell (o := 0) (v := .int .i64 0) rfl
      have f0 := EA.out.free (0)
      have b9 : Has (wr.setCell ⟨ex, 0, none⟩ (.int .i64 10)) ex (evA ⟨10, i, (pn : Int), 0, 0, 0, 0, false⟩) 79 := by
        have z := (EA.out.set (0) (.int .i64 10))
        exact z
      have kq : Kp [ex] wr (wr.setCell ⟨ex, 0, none⟩ (.int .i64 10)) := Kp.setCell wr ex (0) (.int .i64 10)
      have o9 := TA.out.kept kq (fun z => (TA.out.apart EA.out (by decide)) (by simpa using z))
      have h9 := HA.out.asideV EA.out hexb hexs kq
      have i9 := IA.out.kept kq (fun z => (IA.out.apart EA.out (by decide)) (by simpa using z))
      clear kq
      go_upto_region 89 with (fail)
      generalize wr.setCell ⟨ex, 0, none⟩ (.int .i64 10) = w9 at b9 o9 h9 i9 ⊢
      have E9 := hide b9
      have T9 := hide o9
      have H9 := hide h9
      have I9 := hide i9
      clear b9 o9 h9 i9  TA EA HA IA q0 f0
      clear I9
      have z0 := T9.out.cell (thC_pc (s.side i).t)
      have zf := T9.out.free 0
      have tq := T9.out.set 0 (.int .i64 ((pn : Int) + 1))
      rw [thC_at] at tq
      have kq := Kp.setCell w9 tx 0 (.int .i64 ((pn : Int) + 1))
      have eq := E9.out.kept kq (fun z => (E9.out.apart T9.out (by decide)) (by simpa using z))
      have hq := H9.out.asideT T9.out htxB HTX.out kq
      clear kq
      go_upto_region 90 with (fail)
      generalize w9.setCell ⟨tx, 0, none⟩ (.int .i64 ((pn : Int) + 1)) = w10 at tq eq hq ⊢
      have HK := hide (ThOk.at' HOK9.out ((pn : Int) + 1))
      generalize hth9 : ((s.side i).t).at ((pn : Int) + 1) = t9 at tq HK HS
      have h11 := hq.later (Gr.refl w10).drew
      have t11 := tq.drew
      have e11 := eq.drew
      have q1 := h11.box.cell (o := 1) (v := .slice (some ⟨tb, 0, none⟩) s.sides.length tc) rfl
      have thr := thr12 h11 rfl (show s.remote.sides.length = s.sides.length from HRL.out) hi HK.out
      have iT2 : (Tryz.prog.info? 46).map (·.size) = some (thC t9).size := infoT_of HK.out
      have one := thC_one t9
      clear z0 zf tq eq hq hth9
      refine begin_late 8 [7] (fun w' => w' = w10.drew) (by kernel_rfl) rfl ?_
      have hH : w10.drew = w10.drew := rfl
      refine AnyL.pp 0 483 (.pointer (some ⟨k.g, 0, none⟩)) rfl rfl (by kernel_rfl) (fun _ _ _ h => h) (fun _ => by go_simp) hH ?_
      simp only [pz, pz0, pzs]
      refine AnyL.pp 1 484 (.pointer (some ⟨k.g, 0, none⟩)) rfl rfl (by kernel_rfl) (fun _ _ _ h => h) (fun _ => by go_simp) hH ?_
      simp only [pz, pz0, pzs]
      refine AnyL.pp 2 485 (.pointer (some ⟨k.g, 1, none⟩)) rfl rfl (by kernel_rfl) (fun _ _ _ h => h) (fun _ => by go_simp) hH ?_
      simp only [pz, pz0, pzs]
      refine AnyL.tt 3 486 (.slice (some ⟨tb, 0, none⟩) s.sides.length tc) rfl rfl (by kernel_rfl) (fun _ _ _ h => h) (fun w' hw' => by subst hw'; go_simp) hH ?_
      simp only [pz, pz0, pzs]
      refine AnyL.pp 4 487 (.int .i64 i) rfl rfl (by kernel_rfl) (fun _ _ _ h => h) (fun _ => by go_simp) hH ?_
      simp only [pz, pz0, pzs]
      refine AnyL.yy 5 488 (.agg (thC t9)) rfl rfl (by kernel_rfl) (fun _ _ _ h => h) (yieldsIf_load_mid (by kernel_rfl) 46 _ rfl tx 0 rfl (thL t9) _ (fun w' hw' => by subst hw'; exact fun j v hv => (by rw [Nat.zero_add]; exact t11.cell (by simpa [thC] using hv))) Tryz.underlying46 rfl (infoT10 HK.out)) hH ?_
      simp only [pz, pz0, pzs]
      refine AnyL.pp 6 489 (.pointer (some ⟨tb, i * 10, none⟩)) rfl rfl (by kernel_rfl) (fun _ _ _ h => h) (fun _ => by go_simp) hH ?_
      simp only [pz, pz0, pzs]
      refine AnyL.one 7 (by kernel_rfl) rfl (by kernel_rfl) ?_
      refine wp_store_mid 46 _ _ rfl tb (i * 10) (thC t9) (by kernel_rfl) (by kernel_rfl) thr iT2 one ?_
      refine ⟨late (by kernel_rfl), ?_⟩
      refine AnyL.done (by kernel_rfl) ?_
      obtain ⟨h12, e12⟩ := late12 h11 rfl (show s.remote.sides.length = s.sides.length from HRL.out) hi HK.out e11
      replace h12 : Ws k _ ((s.remote).setT i t9) (w10.drew.setCells tb (i * 10) (thC t9).toList) := h12
      clear h11 t11 e11 q1 thr iT2 one hH
      generalize w10.drew.setCells tb (i * 10) (thC t9).toList = w12 at h12 e12 ⊢
      have z0 := e12.cell (o := 0) (v := .int .i64 10) rfl
      clear z0
      have z0 := e12.cell (o := 0) (v := .int .i64 10) rfl
      go_upto_region 92 with (fail)
      clear z0
      have h13 := h12.later (Gr.refl w12).drew
      have e13 := e12.drew
      obtain ⟨ad, cap, he, -, -, -, -⟩ := own_at h13.evs
      simp only at he
      have neg : k.g ∉ ob ev9 := fun z => own_aside h13.evs h13.box (by decide) z
      have HX := hide (fun w' (q : Kp (ob ev9) w12.drew w') => e13.kept q hexs)
      have HE := hide (fun w' (q : Kp (ob ev9) w12.drew w') => (h13.box.kept q neg).cell (o := 6) (v := ev9) rfl)
      refine begin_late 11 [10] (fun w' => Kp (ob ev9) w12.drew w') (by kernel_rfl) rfl ?_
      have hH : Kp (ob ev9) w12.drew w12.drew := Kp.refl _ _
      refine AnyL.pp 0 493 (.pointer (some ⟨k.g, 0, none⟩)) rfl rfl (by kernel_rfl) (fun _ _ _ h => h) (fun _ => by go_simp) hH ?_
      simp only [pz, pz0, pzs]
      refine AnyL.pp 1 494 (.pointer (some ⟨k.g, 0, none⟩)) rfl rfl (by kernel_rfl) (fun _ _ _ h => h) (fun _ => by go_simp) hH ?_
      simp only [pz, pz0, pzs]
      refine AnyL.pp 2 495 (.pointer (some ⟨k.g, 0, none⟩)) rfl rfl (by kernel_rfl) (fun _ _ _ h => h) (fun _ => by go_simp) hH ?_
      simp only [pz, pz0, pzs]
      refine AnyL.pp 3 496 (.pointer (some ⟨k.g, 6, none⟩)) rfl rfl (by kernel_rfl) (fun _ _ _ h => h) (fun _ => by go_simp) hH ?_
      simp only [pz, pz0, pzs]
      refine AnyL.tt 4 497 (ev9) rfl rfl (by kernel_rfl) (fun _ _ _ h => h) (fun w' hw' => by have c1 := HE.out w' hw'; go_simp) hH ?_
      simp only [pz, pz0, pzs]
      refine AnyL.yy 5 498 (.agg (evA ⟨10, i, (pn : Int), 0, 0, 0, 0, false⟩)) rfl rfl (by kernel_rfl) (fun _ _ _ h => h) (take_ev (by kernel_rfl) _ rfl ex rfl ⟨10, i, (pn : Int), 0, 0, 0, 0, false⟩ (fun w' hw' => HX.out w' hw')) hH ?_
      simp only [pz, pz0, pzs]
      refine AnyL.one 6 (by kernel_rfl) rfl (by kernel_rfl) ?_
      refine wp_made (some 499) rfl _ _ (build_ev _ rfl ⟨10, i, (pn : Int), 0, 0, 0, 0, false⟩ (by kernel_rfl)) ?_
      refine ⟨fun _ => (((Gr.refl w12.drew).alloc (evA ⟨10, i, (pn : Int), 0, 0, 0, 0, false⟩) 79).kp _), ?_⟩
      simp only [pz, pz0, pzs]
      obtain ⟨e'', w'', hr2, hk2, ⟨ea2, ec2, hev2⟩, hws⟩ := h13.gather (ty := 39) (by have q2 := HEV.out; show s.remote.evs.length ≤ 95000; exact q2) i ⟨10, i, (pn : Int), 0, 0, 0, 0, false⟩ rfl
      subst hev2
      refine AnyL.one 7 (by kernel_rfl) rfl (by kernel_rfl) ?_
      refine wp_app (some 500) rfl _ _ 39 rfl ev9 _ (by kernel_rfl) rfl _ w'' hr2 ?_
      refine ⟨fun _ => hk2, ?_⟩
      simp only [pz, pz0, pzs]
      replace hH := hk2
      refine AnyL.pp 8 501 (.pointer (some ⟨k.g, 0, none⟩)) rfl rfl (by kernel_rfl) (fun _ _ _ h => h) (fun _ => by go_simp) hH ?_
      simp only [pz, pz0, pzs]
      refine AnyL.pp 9 502 (.pointer (some ⟨k.g, 6, none⟩)) rfl rfl (by kernel_rfl) (fun _ _ _ h => h) (fun _ => by go_simp) hH ?_
      simp only [pz, pz0, pzs]
      have cg := HE.out w'' hk2
      rw [he] at cg
      have cf := (h13.box.kept hk2 neg).free 6
      refine AnyL.one 10 (by kernel_rfl) rfl (by kernel_rfl) ?_
      refine wp_store_evs rfl _ _ rfl k.g 6 (by kernel_rfl) ea2 ((s.remote.setT i t9).evs.length + 1) ec2 (by kernel_rfl) _ _ _ cg cf ?_
      refine ⟨late (by kernel_rfl), ?_⟩
      refine AnyL.done (by kernel_rfl) ?_
      have HW := hide (hws _ rfl)
      clear hws hk2 hr2 hH HX HE cg cf h13 e13 h12 e12
      generalize w''.setCell ⟨k.g, 6, none⟩ (.slice ea2 ((s.remote.setT i t9).evs.length + 1) ec2) = w15 at HW ⊢
      go_wp2_with (fail)
      go_end0
      exact ⟨rfl, _, by rw [HS.out]; exact HW.out⟩
end Go.Proofs.YtfhplbmgjgfihaaGreatDoor.Wl
