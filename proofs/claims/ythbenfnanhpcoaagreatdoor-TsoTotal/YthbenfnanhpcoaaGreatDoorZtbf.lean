/-
  Whom a sifting takes and leaves; where the sides' pointers lie. No condition but what each law names.
-/
import Derived.Test.YthbenfnanhpcoaaGreatDoorZtbeMchR
namespace Go.Proofs.YthbenfnanhpcoaaGreatDoor.Mc
open Go.ChangeShapes Go.WideShapes Go.ChangeAt Go.RowKit
set_option linter.unusedVariables false
set_option maxRecDepth 20000

theorem sift_sub (st : Nat → Ent → Bool) (nx : Nat → Ent → Nat) : ∀ (l : List Ent) (s : Kq.S3), ∃ m, (l.foldl (Kq.sift1 st nx) s).left = s.left ++ m ∧ m.Sublist l
  | [], s => ⟨[], by simp, List.Sublist.refl _⟩
  | x :: l, s => by
    obtain ⟨m, h1, h2⟩ := sift_sub st nx l (Kq.sift1 st nx s x)
    by_cases h : st s.n x = true
    · exact ⟨m, by rw [List.foldl_cons, h1]; simp [Kq.sift1, h], h2.cons x⟩
    · exact ⟨x :: m, by rw [List.foldl_cons, h1]; simp [Kq.sift1, h], h2.cons_cons x⟩
theorem sift_left {l : List Ent} (st : Nat → Ent → Bool) (nx : Nat → Ent → Nat) (n : Nat) : (Kq.siftS st nx n l).left.Sublist l := by
  obtain ⟨m, h1, h2⟩ := sift_sub st nx l ⟨n, [], []⟩
  unfold Kq.siftS
  rw [h1]
  simpa using h2
theorem sift_ok {l : List Ent} (h : Kn.Ok l) (st : Nat → Ent → Bool) (nx : Nat → Ent → Nat) (n : Nat) : Kn.Ok (Kq.siftS st nx n l).left :=
  ⟨List.Nodup.sublist (List.Sublist.map _ (sift_left st nx n)) h.1, fun x hx => h.2 x ((sift_left st nx n).subset hx)⟩
theorem sift_out (st : Nat → Ent → Bool) (nx : Nat → Ent → Nat) : ∀ (l : List Ent) (s : Kq.S3) (z : Int), z ∈ (l.foldl (Kq.sift1 st nx) s).out → z ∈ s.out ∨ ∃ x ∈ l, x.a = z
  | [], s, z, h => .inl h
  | x :: l, s, z, h => by
    rcases sift_out st nx l (Kq.sift1 st nx s x) z h with h1 | ⟨y, hy, e⟩
    · by_cases hs : st s.n x = true
      · simp only [Kq.sift1, hs, if_true, List.mem_append, List.mem_singleton] at h1
        rcases h1 with h1 | rfl
        · exact .inl h1
        · exact .inr ⟨x, List.mem_cons_self .., rfl⟩
      · simp only [Kq.sift1, hs] at h1
        exact .inl (by simpa using h1)
    · exact .inr ⟨y, List.mem_cons_of_mem _ hy, e⟩
/-- who is woken is a side -/
theorem Mw.out {k : Mk} {s : Ms} {e : Value} {w : World} (h : Mw k s e w) (m : Int) (n : Nat) {z : Int} (hz : z ∈ (s.sift m n).out) : 0 ≤ z ∧ ∃ x, k.ss[z.toNat]? = some x := by
  rcases sift_out _ _ s.slp ⟨n, [], []⟩ z hz with y | ⟨x, hx, rfl⟩
  · cases y
  · have h0 := (h.slp.2 x hx).1
    have h1 := h.few x hx
    have : x.a.toNat < k.ss.length := by rw [h.len]; omega
    exact ⟨h0, _, List.getElem?_eq_getElem this⟩
def sideP (x : Sk) : List Value := [.pointer (some ⟨x.g, 0, none⟩)]
theorem sideP_len (x : Sk) : (sideP x).length = 1 := rfl
theorem sideP_flat : ∀ l : List Sk, l.map (fun x => Value.pointer (some ⟨x.g, 0, none⟩)) = flatOf sideP l
  | [] => rfl
  | x :: l => by rw [flatOf_cons, ← sideP_flat l]; rfl
/-- where a side's pointer lies -/
theorem Mw.sideAt {k : Mk} {s : Ms} {e : Value} {w : World} (h : Mw k s e w) {j : Nat} {x : Sk} (hx : k.ss[j]? = some x) : ∃ b c, k.sv = .slice (some ⟨b, 0, none⟩) k.ss.length c ∧ w.cell? ⟨b, j, none⟩ = some (.pointer (some ⟨x.g, 0, none⟩)) := by
  obtain ⟨hj, rfl⟩ := List.getElem?_eq_some_iff.1 hx
  have hr0 := h.row
  rw [sideP_flat] at hr0
  obtain ⟨a, c, hv, hr, -, -, hb⟩ := own_at hr0
  obtain ⟨b, o, rfl, -⟩ := hr.get (by rw [flatOf_length sideP_len]; omega)
  obtain ⟨-, ho, hob⟩ := hb _ rfl
  cases ho
  have hc := hr.cell sideP_len (i := j) hj (k.ss[j]) 0 (by omega)
  refine ⟨b, c, hv, ?_⟩
  simpa [sideP, List.getElem?_eq_getElem hj, hj] using hc
end Go.Proofs.YthbenfnanhpcoaaGreatDoor.Mc

namespace Go.Proofs.YthbenfnanhpcoaaGreatDoor.Mc
open Go.ChangeShapes Go.WideShapes Go.ChangeAt Go.RowKit
set_option linter.unusedVariables false
set_option maxRecDepth 20000

theorem rise_slp : ∀ (l : List Int) (s : Ms), (l.foldl Ms.rise s).slp = s.slp
  | [], s => rfl
  | x :: l, s => by rw [List.foldl_cons, rise_slp l]; rfl
theorem take_snoc (l : List Int) (j : Nat) (h : j < l.length) (s : Ms) : (l.take (j + 1)).foldl Ms.rise s = ((l.take j).foldl Ms.rise s).rise (l.getD j 0) := by
  rw [List.take_succ_eq_append_getElem h, List.foldl_append, List.getD_eq_getElem?_getD, List.getElem?_eq_getElem h]
  rfl

set_option maxHeartbeats 1000000 in
theorem wake_does (k : Mk) (i : Nat) (x : Sk) (hx : k.ss[i]? = some x) (s : Ms) (m : Int) (n : Nat) (hn : n < 4294967296) (w : World) :
    Does (MI k) s w 80 #[.pointer (some ⟨x.g, 0, none⟩), .int .i64 m, .int .u32 (n : Int)] (.int .u32 (s.woken m n)) (s.wake m n) := by
  rintro F ⟨e, h, rfl⟩
  obtain ⟨B, sr, -⟩ := h.sr hx
  have HH := hide h
  have c0 := sr.c0
  have HO : Hid (∀ z ∈ (s.sift m n).out, 0 ≤ z ∧ ∃ x, k.ss[z.toNat]? = some x) := fun z hz => h.out m n hz
  have HW : Hid (s.woken m n = IntKind.u32.wrap ((s.sift m n).out.length : Int)) := by show _ = _; simp [Ms.woken]
  have HS : Hid (s.wake m n = (s.sift m n).out.foldl Ms.rise (s.setQ (s.sift m n).left)) := by show _ = _; simp [Ms.wake]
  have HL : Hid (Kn.Ok (s.sift m n).left ∧ ∀ x ∈ (s.sift m n).left, x.a < s.sides.length) := ⟨sift_ok h.slp _ _ _, fun x hx => h.few x ((sift_left _ _ _).subset hx)⟩
  have HN : Hid ((s.sift m n).out.length ≤ 8) := by
    have := (Kq.siftS_len (Kq.stW m) (Kq.nxW m) n s.slp).2
    have h8 := Kn.few 8 (s.slp.map Ent.a) h.slp.1 (fun z hz => by obtain ⟨y, hy, rfl⟩ := List.mem_map.1 hz; exact h.slp.2 y hy)
    rw [List.length_map] at h8
    exact Nat.le_trans this h8
  have HC := hide (fun u => Kq.wake_calls (w := u) (l := s.slp) (g := k.mb) (a := k.sv) (b := k.bv) (e := e))
  rw [HW.out, HS.out]
  have HC2 := hide (Kq.wake_calls h.q m n hn)
  change Hid (Calls _ _ _ _ fun r w' => ∃ v, (r = .returned v ∧ Kp [k.mb] w w') ∧ Kn.Nown w' w.heap.size v (s.sift m n).out ∧ Kq.Q w' k.mb k.sv k.bv e (s.sift m n).left) at HC2
  generalize s.sift m n = s3 at HO HL HN HC2 ⊢
  clear h sr HW HS HC
  go_enter Tryz.func80, Tryz.ntmps80
  go_wp2_with (fail)
  refine HC2.out.mono ?_
  rintro r u ⟨v, ⟨rfl, k2⟩, on, q2⟩
  have h2 := HH.out.setQ k2 q2 HL.out.1 HL.out.2
  have kp2 : Kp (k.foot e) w u := k2.trans (Kp.refl (k.foot e) _) (fun y hy => mem_foot.2 (.inl (by simpa using hy))) (fun _ h => .inl h)
  obtain ⟨ad, cap, rfl, hna, -, hlow⟩ := on.at
  have HM := hide hn
  have N8 := HN.out
  clear hn c0 k2 q2
  have HX := hide (fun (z : Int) hz => HO.out z hz)
  have hgx : ∀ (j : Nat) y, k.ss[j]? = some y → y.g < w.heap.size := fun j y hy => by
    obtain ⟨B, sr, -⟩ := HH.out.sr hy
    exact sr.has.lt
  have HG := hide hgx
  have HLOW := hide hlow
  clear hgx hlow
  go_wp2_with (fail)
  go_loopw [21] (fun i wr => ∃ j : Nat, j ≤ s3.out.length ∧ i = .int .i64 j ∧ Mw k ((s3.out.take j).foldl Ms.rise (s.setQ s3.left)) e wr ∧ Kp (k.foot e) w wr ∧ Kn.NumsAt wr ad s3.out) (fun i _ => s3.out.length - (intOf i).toNat)
  case atStart => exact ⟨0, by omega, rfl, by simpa using h2, kp2, hna⟩
  case round =>
    clear h2 kp2 hna on
    obtain ⟨j, hj, rfl, hM, hK, hnu⟩ := hrel
    by_cases hlt : j < s3.out.length
    · have hlt' : (j : Int) < s3.out.length := by omega
      have HT := hide (take_snoc s3.out j hlt (s.setQ s3.left))
      obtain ⟨z0, y, hy⟩ := HO.out (s3.out.getD j 0) (by rw [List.getD_eq_getElem?_getD, List.getElem?_eq_getElem hlt]; exact List.getElem_mem hlt)
      obtain ⟨b, off, rfl, hca⟩ := hnu.get hlt
      generalize s3.out.getD j 0 = z at hca HT z0 hy
      obtain ⟨q, rfl⟩ : ∃ q : Nat, z = q := ⟨z.toNat, by omega⟩
      have hy' : k.ss[q]? = some y := by simpa using hy
      obtain ⟨bs, cs, hsv, hcs⟩ := hM.sideAt hy'
      have hql : (q : Int) < k.ss.length := by have := (List.getElem?_eq_some_iff.1 hy').1; omega
      have hq0 : ¬ (q : Int) < 0 := by omega
      obtain ⟨B1, sr1, -⟩ := hM.sr hx
      obtain ⟨B2, sr2, -⟩ := hM.sr hy'
      have c0 := sr1.c0
      have c1 := hM.mach.2.1
      rw [hsv] at c1
      have f12 := sr2.has.free 12
      have c12 := sr2.has.cell ((side_th sr2.th (j := 9) (by decide)).trans (thL_st sr2.th))
      obtain ⟨h4, k4⟩ := hM.rise hy'
      have hn4 := hnu.kept k4 (fun a ha => by
        have h1 := HLOW.out a ha
        have h2 := HG.out q y hy'
        intro hm
        have : a.block = y.g := by simpa using hm
        omega)
      have hk4 := hide (hK.trans (kp_side hM hy' k4) (fun _ h => h) (fun _ h => .inl h))
      have H4 := hide h4
      have HN4 := hide hn4
      clear hM hK hnu sr1 sr2 h4 k4 hn4 hy
      go_wp2_with (fail)
      exact ⟨⟨j + 1, by omega, by simp, by rw [HT.out]; exact H4.out, hk4.out, HN4.out⟩, by simp [intOf]; omega⟩
    · have hj' : j = s3.out.length := by omega
      subst hj'
      have HM2 := hide hM
      rw [List.take_length] at hM
      have HP := hide (mi_post HH.out hM hK foot_evs)
      clear hM hK hnu
      go_wp2_with (fail)
      go_ret
      have hw : IntKind.u32.wrap (s3.out.length : Int) = s3.out.length := by rw [IntKind.wrap_u32]; omega
      exact ⟨by rw [hw]; rfl, HP.out⟩
end Go.Proofs.YthbenfnanhpcoaaGreatDoor.Mc
