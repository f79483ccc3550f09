/-
  Whom a sifting takes and leaves; where the sides' pointers lie. No condition but what each law names.
-/
import Derived.Test.YtfhplbmgjgfihaaGreatDoorZzao
import Derived.Test.YtfhplbmgjgfihaaGreatDoorZzaa
import Derived.Test.YtfhplbmgjgfihaaGreatDoorZzam
namespace Go.Proofs.YtfhplbmgjgfihaaGreatDoor.Mc
open Go.ChangeShapes Go.WideShapes Go.ChangeAt Go.RowKit
set_option linter.unusedVariables false
set_option maxRecDepth 20000
theorem sift_sub (st : Nat → Ent → Bool) (nx : Nat → Ent → Nat) : ∀ (l : List Ent) (s : Kq.S3), ∃ m, (l.foldl (Kq.sift1 st nx) s).left = s.left ++ m ∧ m.Sublist l
  | [], s => ⟨[], by simp, List.Sublist.refl _⟩
  | x :: l, s => by
    obtain ⟨m, h1, h2⟩ := sift_sub st nx l (Kq.sift1 st nx s x)
    by_cases h : st s.n x = true
    · exact ⟨m, by rw [List.foldl_cons, h1]; simp [Kq.sift1, h], h2.cons x⟩
    · exact ⟨x :: m, by rw [List.foldl_cons, h1]; simp [Kq.sift1, h], h2.cons_cons x⟩
theorem sift_left {l : List Ent} (st : Nat → Ent → Bool) (nx : Nat → Ent → Nat) (n : Nat) : (Kq.siftS st nx n l).left.Sublist l := by
  obtain ⟨m, h1, h2⟩ := sift_sub st nx l ⟨n, [], []⟩
  unfold Kq.siftS
  rw [h1]
  simpa using h2
theorem sift_ok {l : List Ent} (h : Kn.Ok l) (st : Nat → Ent → Bool) (nx : Nat → Ent → Nat) (n : Nat) : Kn.Ok (Kq.siftS st nx n l).left :=
  ⟨List.Nodup.sublist (List.Sublist.map _ (sift_left st nx n)) h.1, fun x hx => h.2 x ((sift_left st nx n).subset hx)⟩
theorem sift_out (st : Nat → Ent → Bool) (nx : Nat → Ent → Nat) : ∀ (l : List Ent) (s : Kq.S3) (z : Int), z ∈ (l.foldl (Kq.sift1 st nx) s).out → z ∈ s.out ∨ ∃ x ∈ l, x.a = z
  | [], s, z, h => .inl h
  | x :: l, s, z, h => by
    rcases sift_out st nx l (Kq.sift1 st nx s x) z h with h1 | ⟨y, hy, e⟩
    · by_cases hs : st s.n x = true
      · simp only [Kq.sift1, hs, if_true, List.mem_append, List.mem_singleton] at h1
        rcases h1 with h1 | rfl
        · exact .inl h1
        · exact .inr ⟨x, List.mem_cons_self .., rfl⟩
      · simp only [Kq.sift1, hs] at h1
        exact .inl (by simpa using h1)
    · exact .inr ⟨y, List.mem_cons_of_mem _ hy, e⟩
/-- who is woken is a side -/
theorem Mw.out {k : Mk} {s : Ms} {e : Value} {w : World} (h : Mw k s e w) (m : Int) (n : Nat) {z : Int} (hz : z ∈ (s.sift m n).out) : 0 ≤ z ∧ ∃ x, k.ss[z.toNat]? = some x := by
  rcases sift_out _ _ s.slp ⟨n, [], []⟩ z hz with y | ⟨x, hx, rfl⟩
  · cases y
  · have h0 := (h.slp.2 x hx).1
    have h1 := h.few x hx
    have : x.a.toNat < k.ss.length := by rw [h.len]; omega
    exact ⟨h0, _, List.getElem?_eq_getElem this⟩
def sideP (x : Sk) : List Value := [.pointer (some ⟨x.g, 0, none⟩)]
theorem sideP_len (x : Sk) : (sideP x).length = 1 := rfl
theorem sideP_flat : ∀ l : List Sk, l.map (fun x => Value.pointer (some ⟨x.g, 0, none⟩)) = flatOf sideP l
  | [] => rfl
  | x :: l => by rw [flatOf_cons, ← sideP_flat l]; rfl
/-- where a side's pointer lies -/
theorem Mw.sideAt {k : Mk} {s : Ms} {e : Value} {w : World} (h : Mw k s e w) {j : Nat} {x : Sk} (hx : k.ss[j]? = some x) : ∃ b c, k.sv = .slice (some ⟨b, 0, none⟩) k.ss.length c ∧ w.cell? ⟨b, j, none⟩ = some (.pointer (some ⟨x.g, 0, none⟩)) := by
  obtain ⟨hj, rfl⟩ := List.getElem?_eq_some_iff.1 hx
  have hr0 := h.row
  rw [sideP_flat] at hr0
  obtain ⟨a, c, hv, hr, -, -, hb⟩ := own_at hr0
  obtain ⟨b, o, rfl, -⟩ := hr.get (by rw [flatOf_length sideP_len]; omega)
  obtain ⟨-, ho, hob⟩ := hb _ rfl
  cases ho
  have hc := hr.cell sideP_len (i := j) hj (k.ss[j]) 0 (by omega)
  refine ⟨b, c, hv, ?_⟩
  simpa [sideP, List.getElem?_eq_getElem hj, hj] using hc
theorem take_snoc (l : List Int) (j : Nat) (h : j < l.length) (s : Ms) : (l.take (j + 1)).foldl Ms.rise s = ((l.take j).foldl Ms.rise s).rise (l.getD j 0) := by
  rw [List.take_succ_eq_append_getElem h, List.foldl_append, List.getD_eq_getElem?_getD, List.getElem?_eq_getElem h]
  rfl

set_option maxHeartbeats 1000000 in
theorem wake_does (k : Mk) (i : Nat) (x : Sk) (hx : k.ss[i]? = some x) (s : Ms) (m : Int) (n : Nat) (hn : n < 4294967296) (w : World) :
    Does (MI k) s w 48 #[.pointer (some ⟨x.g, 0, none⟩), .int .i64 m, .int .u32 (n : Int)] (.int .u32 (s.woken m n)) (s.wake m n) := by
  rintro F ⟨e, h, rfl⟩
  obtain ⟨B, sr, -⟩ := h.sr hx
  have HH := hide h
  have c0 := sr.c0
  have HO : Hid (∀ z ∈ (s.sift m n).out, 0 ≤ z ∧ ∃ x, k.ss[z.toNat]? = some x) := fun z hz => h.out m n hz
  have HW : Hid (s.woken m n = IntKind.u32.wrap ((s.sift m n).out.length : Int)) := by show _ = _; simp [Ms.woken]
  have HS : Hid (s.wake m n = (s.sift m n).out.foldl Ms.rise (s.setQ (s.sift m n).left)) := by show _ = _; simp [Ms.wake]
  have HL : Hid (Kn.Ok (s.sift m n).left ∧ ∀ x ∈ (s.sift m n).left, x.a < s.sides.length) := ⟨sift_ok h.slp _ _ _, fun x hx => h.few x ((sift_left _ _ _).subset hx)⟩
  have HN : Hid ((s.sift m n).out.length ≤ 8) := by
    have := (Kq.siftS_len (Kq.stW m) (Kq.nxW m) n s.slp).2
    have h8 := Kn.few 8 (s.slp.map Ent.a) h.slp.1 (fun z hz => by obtain ⟨y, hy, rfl⟩ := List.mem_map.1 hz; exact h.slp.2 y hy)
    rw [List.length_map] at h8
    exact Nat.le_trans this h8
  have HC := hide (fun u => Kq.wake_calls (w := u) (l := s.slp) (g := k.mb) (a := k.sv) (b := k.bv) (e := e))
  rw [HW.out, HS.out]
  have HC2 := hide (Kq.wake_calls h.q m n hn)
  change Hid (Calls _ _ _ _ fun r w' => ∃ v, (r = .returned v ∧ Kp [k.mb] w w') ∧ Kn.Nown w' w.heap.size v (s.sift m n).out ∧ Kq.Q w' k.mb k.sv k.bv e (s.sift m n).left) at HC2
  generalize s.sift m n = s3 at HO HL HN HC2 ⊢
  clear h sr HW HS HC
  go_enter Tryz.func48, Tryz.ntmps48
  go_wp2_with (fail)
  refine HC2.out.mono ?_
  rintro r u ⟨v, ⟨rfl, k2⟩, on, q2⟩
  have h2 := HH.out.setQ k2 q2 HL.out.1 HL.out.2
  have kp2 : Kp (k.foot e) w u := k2.trans (Kp.refl (k.foot e) _) (fun y hy => mem_foot.2 (.inl (by simpa using hy))) (fun _ h => .inl h)
  obtain ⟨ad, cap, rfl, hna, -, hlow⟩ := on.at
  have HM := hide hn
  have N8 := HN.out
  clear hn c0 k2 q2
  have HX := hide (fun (z : Int) hz => HO.out z hz)
  have hgx : ∀ (j : Nat) y, k.ss[j]? = some y → y.g < w.heap.size := fun j y hy => by
    obtain ⟨B, sr, -⟩ := HH.out.sr hy
    exact sr.has.lt
  have HG := hide hgx
  have HLOW := hide hlow
  clear hgx hlow
  go_wp2_with (fail)
  go_loopw [21] (fun i wr => ∃ j : Nat, j ≤ s3.out.length ∧ i = .int .i64 j ∧ Mw k ((s3.out.take j).foldl Ms.rise (s.setQ s3.left)) e wr ∧ Kp (k.foot e) w wr ∧ Kn.NumsAt wr ad s3.out) (fun i _ => s3.out.length - (intOf i).toNat)
  case atStart => exact ⟨0, by omega, rfl, by simpa using h2, kp2, hna⟩
  case round =>
    clear h2 kp2 hna on
    obtain ⟨j, hj, rfl, hM, hK, hnu⟩ := hrel
    by_cases hlt : j < s3.out.length
    · have hlt' : (j : Int) < s3.out.length := by omega
      have HT := hide (take_snoc s3.out j hlt (s.setQ s3.left))
      obtain ⟨z0, y, hy⟩ := HO.out (s3.out.getD j 0) (by rw [List.getD_eq_getElem?_getD, List.getElem?_eq_getElem hlt]; exact List.getElem_mem hlt)
      obtain ⟨b, off, rfl, hca⟩ := hnu.get hlt
      generalize s3.out.getD j 0 = z at hca HT z0 hy
      obtain ⟨q, rfl⟩ : ∃ q : Nat, z = q := ⟨z.toNat, by omega⟩
      have hy' : k.ss[q]? = some y := by simpa using hy
      obtain ⟨bs, cs, hsv, hcs⟩ := hM.sideAt hy'
      have hql : (q : Int) < k.ss.length := by have := (List.getElem?_eq_some_iff.1 hy').1; omega
      have hq0 : ¬ (q : Int) < 0 := by omega
      obtain ⟨B1, sr1, -⟩ := hM.sr hx
      obtain ⟨B2, sr2, -⟩ := hM.sr hy'
      have c0 := sr1.c0
      have c1 := hM.mach.2.1
      rw [hsv] at c1
      have f12 := sr2.has.free 12
      have c12 := sr2.has.cell ((side_th sr2.th (j := 9) (by decide)).trans (thL_st sr2.th))
      obtain ⟨h4, k4⟩ := hM.rise hy'
      have hn4 := hnu.kept k4 (fun a ha => by
        have h1 := HLOW.out a ha
        have h2 := HG.out q y hy'
        intro hm
        have : a.block = y.g := by simpa using hm
        omega)
      have hk4 := hide (hK.trans (kp_side hM hy' k4) (fun _ h => h) (fun _ h => .inl h))
      have H4 := hide h4
      have HN4 := hide hn4
      clear hM hK hnu sr1 sr2 h4 k4 hn4 hy
      go_wp2_with (fail)
      exact ⟨⟨j + 1, by omega, by simp, by rw [HT.out]; exact H4.out, hk4.out, HN4.out⟩, by simp [intOf]; omega⟩
    · have hj' : j = s3.out.length := by omega
      subst hj'
      have HM2 := hide hM
      rw [List.take_length] at hM
      have HP := hide (mi_post HH.out hM hK foot_evs)
      clear hM hK hnu
      go_wp2_with (fail)
      go_ret
      have hw : IntKind.u32.wrap (s3.out.length : Int) = s3.out.length := by rw [IntKind.wrap_u32]; omega
      exact ⟨by rw [hw]; rfl, HP.out⟩
theorem flush_buf {s : Ms} {i : Nat} (hi : i < s.sides.length) : ((s.flush i).side i).buf = (s.side i).buf.tail := by
  unfold Ms.flush
  cases hb : (s.side i).buf with
  | nil => simp [hb]
  | cons x l =>
    show ((s.setB i l).side i).buf = l
    unfold Ms.setB
    rw [side_set hi, if_pos rfl]
def rem1 (s : Ms) (i : Nat) : Ms := s.drain i (s.side i).buf.length
theorem rem_snoc (j : Nat) (s : Ms) : (List.range (j + 1)).foldl rem1 s = rem1 ((List.range j).foldl rem1 s) j := by
  rw [List.range_succ, List.foldl_append]; rfl
theorem rem_few (j : Nat) (s : Ms) (h : s.okB = true) : ((List.range j).foldl rem1 s).okB = true ∧ ((List.range j).foldl rem1 s).evs.length ≤ s.evs.length + j * 16 := by
  have := remote_fold (List.range j) s h
  rwa [List.length_range] at this
theorem Pst.mw {k : Mk} {F L : List Nat} {w w' : World} {s : Ms} (p : Pst (MI k) F w L s w') : ∃ e, Mw k s e w' := by
  obtain ⟨F', ⟨e, h, -⟩, -⟩ := p
  exact ⟨e, h⟩

set_option maxHeartbeats 1000000 in
theorem remote_does (k : Mk) (i : Nat) (x : Sk) (hx : k.ss[i]? = some x) (s : Ms) (hq : 200 ≤ s.fuel) (w : World) :
    Does (MI k) s w 49 #[.pointer (some ⟨x.g, 0, none⟩)] (.tuple #[]) s.remote := by
  rintro F ⟨e, h, rfl⟩
  obtain ⟨B, sr, -⟩ := h.sr hx
  have HR : Hid (s.remote = (List.range k.ss.length).foldl rem1 s) := by show _ = _; rw [h.len]; rfl
  have h8 : s.sides.length ≤ 8 := (ok_room h.ok).2
  rw [← h.len] at h8
  have hev : s.evs.length + 200 ≤ 95000 := by
    unfold Ms.fuel at hq
    rw [if_pos h.ok] at hq
    omega
  have HF := hide (fun j => rem_few j s h.ok)
  have p0 := mi_same h (Gr.refl w)
  have c0 := sr.c0
  have c1 := h.mach.2.1
  obtain ⟨bs, cs, hsv, -⟩ := h.sideAt hx
  have HSV := hide hsv
  rw [hsv] at c1
  rw [HR.out]
  have hxl : i < k.ss.length := (List.getElem?_eq_some_iff.1 hx).1
  clear h sr hq HR hsv
  go_enter Tryz.func49, Tryz.ntmps49
  go_wp2_with (fail)
  go_loopw [12] (fun v wr => ∃ j : Nat, j ≤ k.ss.length ∧ v = .int .i64 j ∧ Pst (MI k) (k.foot e) w [] ((List.range j).foldl rem1 s) wr) (fun v _ => k.ss.length - (intOf v).toNat)
  case atStart => exact ⟨0, by omega, rfl, p0⟩
  case round =>
    clear p0 c0 c1
    obtain ⟨j, hj, rfl, p⟩ := hrel
    by_cases hlt : j < k.ss.length
    · have hlt' : (j : Int) < k.ss.length := by omega
      have hee := (HF.out j).2
      have HT := hide (rem_snoc j s)
      generalize (List.range j).foldl rem1 s = sj at p HT hee
      have hej : sj.evs.length ≤ 94928 := by omega
      obtain ⟨y, hy⟩ : ∃ y, k.ss[j]? = some y := ⟨_, List.getElem?_eq_getElem hlt⟩
      obtain ⟨e1, h1⟩ := Pst.mw p
      obtain ⟨bs', cs', hsv, hcs⟩ := h1.sideAt hy
      rw [HSV.out] at hsv
      cases hsv
      have hb16 := ok_side h1.ok j
      have HY := hide hy
      have P := hide p
      clear h1 hee hy
      clear p
      go_wp2_with (fail)
      go_loopg [18] (sj.side j).buf.length (fun g _ wx => ∃ sx : Ms, (sx.side j).buf.length = g ∧ sx.drain j g = rem1 sj j ∧ sx.evs.length + g ≤ 94944 ∧ Pst (MI k) (k.foot e) w [] sx wx)
      case atStart => exact ⟨sj, rfl, rfl, by omega, P.out⟩
      case round =>
        clear hcs
        obtain ⟨sx, hg, hd, hxe, px⟩ := hrel
        obtain ⟨e2, h2⟩ := Pst.mw px
        have hjs := h2.lt HY.out
        have hfb := flush_buf hjs
        have hfe := evs_flush sx j
        have HD := hide hd
        have HE := hide ((empty_does k j y HY.out sx _).go px)
        clear h2 hjs hd px
        go_wp2_with (fail)
        refine HE.out.mono ?_
        rintro r u1 ⟨⟨rfl, -⟩, p1⟩
        cases hl : (sx.side j).buf with
        | nil =>
          rw [hl] at hg
          subst hg
          have HP := hide p1
          have HR : Hid (sx = rem1 sj j) := HD.out
          clear p1
          go_wp2_with (fail)
          exact ⟨⟨j + 1, by omega, by go_num, by rw [HT.out, ← HR.out]; exact HP.out⟩, by simp [intOf]; omega⟩
        | cons z l =>
          rw [hl] at hg hfb
          subst hg
          have HP := hide ((flush_does k j y HY.out sx (by omega) u1).go p1)
          have hz : (((z :: l).length : Int) == 0) = false := by simp; omega
          clear p1
          go_wp2_with (fail)
          refine HP.out.mono ?_
          rintro r u2 ⟨⟨rfl, -⟩, p2⟩
          have P2 := hide p2
          clear p2
          go_wp2_with (fail)
          have hlen : (z :: l).length = l.length + 1 := rfl
          go_roundg l.length
          case measure => omega
          case rel => exact ⟨sx.flush j, by rw [hfb]; rfl, HD.out, by omega, P2.out⟩
    · have hj' : j = k.ss.length := by omega
      subst hj'
      have HP := hide p
      clear p
      go_wp2_with (fail)
      go_end0
      exact ⟨rfl, HP.out⟩
theorem findR_mem (m : Int) : ∀ (l : List Ent) (v : Int), Bf.findR m l = some v → ∃ c ∈ l, c.v = v
  | [], v, h => by simp [Bf.findR] at h
  | x :: l, v, h => by
    unfold Bf.findR at h
    cases hf : Bf.findR m l with
    | some u =>
      rw [hf] at h
      obtain ⟨c, hc, e⟩ := findR_mem m l u hf
      exact ⟨c, List.mem_cons_of_mem _ hc, e.trans (Option.some.inj h)⟩
    | none =>
      rw [hf] at h
      by_cases hx : x.a = m
      · exact ⟨x, List.mem_cons_self .., by simpa [hx] using h⟩
      · simp [hx] at h
theorem fuel_evs {s : Ms} (h : 200 ≤ s.fuel) : s.evs.length ≤ 95000 := by
  unfold Ms.fuel at h; split at h <;> omega
theorem nat_of {m : Int} (h : 0 ≤ m) : ∃ n : Nat, m = n := ⟨m.toNat, by omega⟩
theorem load_u {k : Mk} {s : Ms} {e : Value} {w : World} (h : Mw k s e w) {i : Nat} {x : Sk} (hx : k.ss[i]? = some x) (m : Int) : U32 (s.load i m) := by
  unfold Ms.load
  cases hf : Bf.findR m (s.side i).buf with
  | some v =>
    obtain ⟨c, hc, rfl⟩ := findR_mem m _ v hf
    exact ((h.side i x hx).ent c hc).2
  | none =>
    show U32 (s.mem.getD m.toNat 0)
    rw [List.getD_eq_getElem?_getD]
    rcases Nat.lt_or_ge m.toNat s.mem.length with q | q
    · rw [List.getElem?_eq_getElem q]; exact h.wrd _ (List.getElem_mem q)
    · rw [List.getElem?_eq_none q]; exact ⟨by decide, by decide⟩
theorem port_ok (k : Mk) (i : Nat) (x : Sk) (hx : k.ss[i]? = some x) (hk : k.N ≤ 100000) : Mp.PortOk (MI k) (port k.N i) (fnsT x.g) where
  inv := mi_inv k
  size := ⟨by show (0 : Int) ≤ k.N; omega, by show (k.N : Int) ≤ _; omega⟩
  load := fun s w m h0 h1 hq => by
    obtain ⟨n, rfl⟩ := nat_of h0
    exact ⟨fun _ _ => by simp [fnsT, go_sem], load_does k i x hx s n (by have : (n : Int) < k.N := h1; omega) w⟩
  loadU := fun F s w m h => by
    obtain ⟨e, h, -⟩ := h
    exact load_u h hx m
  loadF := fun s m => Nat.le_add_right _ _
  room := fun s w hq => ⟨fun _ _ => by simp [fnsT, go_sem], room_does k i x hx s w⟩
  store := fun s w m v h0 h1 hu hr hq => ⟨fun _ _ => by simp [fnsT, go_sem], store_does k i x hx s m v h0 h1 hu w⟩
  storeF := fun s m v => fuel_store s i m v
  empty := fun s w hq => ⟨fun _ _ => by simp [fnsT, go_sem], empty_does k i x hx s w⟩
  flush := fun s w hq => ⟨fun _ _ => by simp [fnsT, go_sem], flush_does k i x hx s (fuel_evs hq) w⟩
  swap := fun s w m v h0 h1 hu hq => by
    obtain ⟨n, rfl⟩ := nat_of h0
    exact ⟨fun _ _ => by simp [fnsT, go_sem], swap_does k i x hx s n (by have : (n : Int) < k.N := h1; omega) v hu w⟩
  swapF := fun s m v => fuel_swap s m v
  sleep := fun s w m h0 h1 hq => ⟨fun _ _ => by simp [fnsT, go_sem], sleep_does k i x hx s m w⟩
  wake := fun s w m v h0 h1 hu hq => by
    obtain ⟨n, rfl, hn⟩ := u32_nat hu
    exact ⟨fun _ _ => by simp [fnsT, go_sem], wake_does k i x hx s m n hn w⟩
  wakeU := fun F s w m v h => by
    show U32 (IntKind.u32.wrap _)
    rw [IntKind.wrap_u32]
    exact ⟨by omega, by omega⟩
  wakeF := fun s m v => fuel_wake s m v
  remote := fun s w hq => ⟨fun _ _ => by simp [fnsT, go_sem], remote_does k i x hx s hq w⟩
  remoteF := fun s => fuel_remote s
  note := fun s w v hq => ⟨fun _ _ => by simp [fnsT, go_sem], note_does k i x hx s v (fuel_evs hq) w⟩
  noteF := fun s v => fuel_note s i v
theorem infoT10 {t : Th} (h : ThOk t) : (Tryz.prog.info? 46).map (·.size) = some (thL t).length := by rw [thL_len h]; kernel_rfl
theorem infoP11 (z : Int) (f : Mp.Fns) : (Tryz.prog.info? 90).map (·.size) = some (Mp.portA z f).toList.length := by
  show _ = some 11
  kernel_rfl
set_option maxHeartbeats 1000000 in
theorem step_does (k : Mk) (i : Nat) (x : Sk) (hx : k.ss[i]? = some x) (s : Ms) (hq : 1000 ≤ s.fuel) (hc : (s.side i).code.length ≤ 100000) (w : World) :
    Does (MI k) s w 19 #[.pointer (some ⟨x.g, 0, none⟩)] (.tuple #[]) (s.step k.N i) := by
  rintro F ⟨e, h, rfl⟩
  have h1 := h.later (Gr.refl w).drew
  obtain ⟨B, sr, -⟩ := h1.sr hx
  have hs := h1.side i x hx
  obtain ⟨ad, cap, hcv, hrow, -, -, -⟩ := own_at hs.code
  have HC := Mp.step_does (port_ok k i x hx h.most) hs.th (s.side i).code hs.ins (by omega) ad cap s hq w.drew hrow (k.foot e) ⟨e, h1, rfl⟩
  have HH := hide h
  have rT := sr.rT
  have rP := sr.rP
  have c2 := sr.c2
  rw [hcv] at c2
  have iT := infoT10 hs.th
  have iP := infoP11 k.N (fnsT x.g)
  have HST : Hid (s.step k.N i = (stepM (port k.N i) (s.side i).t (s.side i).code s).2.setT i (stepM (port k.N i) (s.side i).t (s.side i).code s).1) := by show _ = _; rfl
  rw [HST.out]
  have HT : Hid (ThOk (stepM (port k.N i) (s.side i).t (s.side i).code s).1) := by
    exact Mp.stepM_ok (port_ok k i x hx h.most) ⟨e, h1, rfl⟩ hs.th _ hs.ins
  generalize stepM (port k.N i) (s.side i).t (s.side i).code s = r2 at HC HT ⊢
  obtain ⟨t2, s2⟩ := r2
  clear h h1 sr hs
  go_enter Tryz.func19, Tryz.ntmps19
  go_wp2_with (fail)
  refine begin_late 17 [13, 14, 15, 16] (fun w' => w' = w.drew) (by kernel_rfl) rfl ?_
  have hH : w.drew = w.drew := rfl
  refine AnyL.pp 0 2 (.pointer (some ⟨x.g, 0, none⟩)) rfl rfl (by kernel_rfl) (fun _ _ _ h => h) (fun _ => by go_simp) hH ?_
  simp only [pz, pz0, pzs]
  refine AnyL.pp 1 3 (.pointer (some ⟨x.g, 0, none⟩)) rfl rfl (by kernel_rfl) (fun _ _ _ h => h) (fun _ => by go_simp) hH ?_
  simp only [pz, pz0, pzs]
  refine AnyL.pp 2 4 (.pointer (some ⟨x.g, 0, none⟩)) rfl rfl (by kernel_rfl) (fun _ _ _ h => h) (fun _ => by go_simp) hH ?_
  simp only [pz, pz0, pzs]
  refine AnyL.pp 3 5 (.pointer (some ⟨x.g, 3, none⟩)) rfl rfl (by kernel_rfl) (fun _ _ _ h => h) (fun _ => by go_simp) hH ?_
  simp only [pz, pz0, pzs]
  refine AnyL.yy 4 6 (.agg (thC (s.side i).t)) rfl rfl (by kernel_rfl) (fun _ _ _ h => h) (yieldsIf_load_mid (by kernel_rfl) 46 _ rfl x.g 3 rfl (thL (s.side i).t) _ (fun w' hw' => by subst hw'; exact rT) Tryz.underlying46 rfl iT) hH ?_
  simp only [pz, pz0, pzs]
  refine AnyL.pp 5 7 (.pointer (some ⟨x.g, 0, none⟩)) rfl rfl (by kernel_rfl) (fun _ _ _ h => h) (fun _ => by go_simp) hH ?_
  simp only [pz, pz0, pzs]
  refine AnyL.pp 6 8 (.pointer (some ⟨x.g, 0, none⟩)) rfl rfl (by kernel_rfl) (fun _ _ _ h => h) (fun _ => by go_simp) hH ?_
  simp only [pz, pz0, pzs]
  refine AnyL.pp 7 9 (.pointer (some ⟨x.g, 2, none⟩)) rfl rfl (by kernel_rfl) (fun _ _ _ h => h) (fun _ => by go_simp) hH ?_
  simp only [pz, pz0, pzs]
  refine AnyL.tt 8 10 (.slice ad (s.side i).code.length cap) rfl rfl (by kernel_rfl) (fun _ _ _ h => h) (fun w' hw' => by subst hw'; go_simp) hH ?_
  simp only [pz, pz0, pzs]
  refine AnyL.pp 9 11 (.pointer (some ⟨x.g, 0, none⟩)) rfl rfl (by kernel_rfl) (fun _ _ _ h => h) (fun _ => by go_simp) hH ?_
  simp only [pz, pz0, pzs]
  refine AnyL.pp 10 12 (.pointer (some ⟨x.g, 0, none⟩)) rfl rfl (by kernel_rfl) (fun _ _ _ h => h) (fun _ => by go_simp) hH ?_
  simp only [pz, pz0, pzs]
  refine AnyL.pp 11 13 (.pointer (some ⟨x.g, 48, none⟩)) rfl rfl (by kernel_rfl) (fun _ _ _ h => h) (fun _ => by go_simp) hH ?_
  simp only [pz, pz0, pzs]
  refine AnyL.yy 12 14 (.agg (Mp.portA k.N (fnsT x.g))) rfl rfl (by kernel_rfl) (fun _ _ _ h => h) (yieldsIf_load_mid (by kernel_rfl) 90 _ rfl x.g 48 rfl (Mp.portA k.N (fnsT x.g)).toList _ (fun w' hw' => by subst hw'; exact rP) Tryz.underlying90 rfl iP) hH ?_
  simp only [pz, pz0, pzs]
  refine AnyL.one 13 (by kernel_rfl) rfl (by kernel_rfl) ?_
  refine wp_call (some 15) rfl _ _ (by kernel_rfl) HC ?_
  rintro r u ⟨rfl, p⟩
  refine ⟨_, rfl, late (by kernel_rfl), ?_⟩
  obtain ⟨F', ⟨e2, h2, rfl⟩, kp, nn, -, -⟩ := p
  obtain ⟨B2, sr2, iB2⟩ := h2.sr hx
  have q := Kq.kp_setCells (b := x.g) (thL t2) 3 u
  have hB := Kq.setCells_has (thL t2) 3 u _ sr2.has
  rw [side_setT sr2.th HT.out] at hB
  have h4 := h2.setS hx q (B := B2) (d := ⟨(s2.side i).code, t2, (s2.side i).buf⟩) hB iB2 rfl HT.out (h2.side i x hx).ent
  have thr := sr2.has.there 3 (thC t2).size (by rw [side_size sr2.th sr2.sz]; unfold thC; rw [List.size_toArray, thL_len HT.out]; omega)
  have i2 : (Tryz.prog.info? 46).map (·.size) = some (thC t2).size := by unfold thC; rw [List.size_toArray]; exact infoT10 HT.out
  have o2 : (thC t2).all (·.oneCell') = true := by
    simp [thC, thL, Value.oneCell']
  have kp3 := (((Gr.refl w).drew.kp (k.foot e)).trans kp (fun _ h => h) (fun _ h => .inl h))
  have hp := mi_post HH.out h4 (kp3.trans q (fun _ h => h) (fun y hy => (nn y (mem_foot.2 (.inr (.inr (.inr (.inr (.inl ⟨x, mem_get hx, by rw [show y = x.g by simpa using hy]⟩))))))).1)) (fun y hy => (nn y (mem_foot.2 (.inr (.inr (.inr (.inl hy)))))).1)
  have HP := hide hp
  refine AnyL.one 14 (by kernel_rfl) rfl (by kernel_rfl) ?_
  refine wp_value (some 16) rfl (.pointer (some ⟨x.g, 0, none⟩)) (by go_simp) ?_
  refine ⟨late (by kernel_rfl), ?_⟩
  refine AnyL.one 15 (by kernel_rfl) rfl (by kernel_rfl) ?_
  refine wp_value (some 17) rfl (.pointer (some ⟨x.g, 3, none⟩)) (by go_simp) ?_
  refine ⟨late (by kernel_rfl), ?_⟩
  refine AnyL.one 16 (by kernel_rfl) rfl (by kernel_rfl) ?_
  refine wp_store_mid 46 _ _ rfl x.g 3 (thC t2) (by kernel_rfl) (by kernel_rfl) thr i2 o2 ?_
  refine ⟨late (by kernel_rfl), ?_⟩
  refine AnyL.done (by kernel_rfl) ?_
  clear HC rT rP c2 iT iP hp h4 hB q kp kp3 nn sr2 h2 iB2 thr i2 o2 hH hrow
  go_wp2_with (fail)
  go_end0
  exact ⟨rfl, HP.out⟩
def hasB (s : Ms) (who : Int) : Bool := decide (0 ≤ who) && decide (who < s.sides.length)
theorem Mw.svAt {k : Mk} {s : Ms} {e : Value} {w : World} (h : Mw k s e w) : ∃ a c, k.sv = .slice a s.sides.length c := by
  have hr0 := h.row
  rw [sideP_flat] at hr0
  obtain ⟨a, c, hv, -⟩ := own_at hr0
  exact ⟨a, c, by rw [hv, h.len]⟩

set_option maxHeartbeats 400000 in
theorem has_calls {k : Mk} {s : Ms} {e : Value} {w : World} (h : Mw k s e w) (who : Int) :
    Calls Tryz.prog 18 #[.pointer (some ⟨k.mb, 0, none⟩), .int .i64 who] w fun r w' => r = .returned (.bool (hasB s who)) ∧ Gr w w' := by
  obtain ⟨a, c, hsv⟩ := h.svAt
  have c0 := h.mach.2.1
  rw [hsv] at c0
  have HP := hide (Gr.refl w)
  clear h hsv
  by_cases h0 : 0 ≤ who
  · have HB : Hid (hasB s who = decide (who < s.sides.length)) := by show _ = _; simp [hasB, h0]
    rw [HB.out]
    generalize s.sides.length = n at c0 ⊢
    go_enter Tryz.func18, Tryz.ntmps18
    go_wp2_with (fail)
    go_ret
    exact ⟨rfl, HP.out⟩
  · have HB : Hid (hasB s who = false) := by show _ = _; simp [hasB, h0]
    rw [HB.out]
    go_enter Tryz.func18, Tryz.ntmps18
    go_wp2_with (fail)
    go_ret
    exact ⟨rfl, HP.out⟩
end Go.Proofs.YtfhplbmgjgfihaaGreatDoor.Mc
