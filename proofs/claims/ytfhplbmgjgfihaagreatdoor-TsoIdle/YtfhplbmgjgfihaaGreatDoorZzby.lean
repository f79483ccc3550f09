/-
  What a step of a thread does to the document's world, whatever stands there. No condition but what the law names.
-/
import Derived.Test.YtfhplbmgjgfihaaGreatDoorZzbg
import Derived.Test.YtfhplbmgjgfihaaGreatDoorZzbh
import Derived.Test.YtfhplbmgjgfihaaGreatDoorZzbiWlTi
import Derived.Test.YtfhplbmgjgfihaaGreatDoorZzbj
import Derived.Test.YtfhplbmgjgfihaaGreatDoorZzbkWlG2
import Derived.Test.YtfhplbmgjgfihaaGreatDoorZzblWlG3
import Derived.Test.YtfhplbmgjgfihaaGreatDoorZzbmWlG4
import Derived.Test.YtfhplbmgjgfihaaGreatDoorZzbnWlG5
import Derived.Test.YtfhplbmgjgfihaaGreatDoorZzboWlG6
import Derived.Test.YtfhplbmgjgfihaaGreatDoorZzbpWlG7
import Derived.Test.YtfhplbmgjgfihaaGreatDoorZzbqWlG8
import Derived.Test.YtfhplbmgjgfihaaGreatDoorZzbrWlG9
import Derived.Test.YtfhplbmgjgfihaaGreatDoorZzbsWlGa
import Derived.Test.YtfhplbmgjgfihaaGreatDoorZzbtWlGb
import Derived.Test.YtfhplbmgjgfihaaGreatDoorZzbuWlGc
import Derived.Test.YtfhplbmgjgfihaaGreatDoorZzbw
import Derived.Test.YtfhplbmgjgfihaaGreatDoorZzbxWlGe
import Derived.BigQuiet
import Derived.Deep.QuietTactic
import Derived.Test.YtfhplbmgjgfihaaGreatDoorZzaa
import Derived.Test.YtfhplbmgjgfihaaGreatDoorZzbb
namespace Go.Proofs.YtfhplbmgjgfihaaGreatDoor.Wl
open Go.Proofs.YtfhplbmgjgfihaaGreatDoor.Mc Go.ChangeShapes Go.WideShapes Go.ChangeAt Go.RowKit
set_option linter.unusedVariables false
set_option maxRecDepth 20000
theorem held_drain {s : Ms} {N : Int} {i : Nat} (h : (!(((s.side i).buf.length : Int) == 0)) = true) : 0 < (s.side i).buf.length := by
  simp at h
  exact Nat.pos_of_ne_zero (fun z => by simp [List.eq_nil_of_length_eq_zero z] at h)
theorem free_drain {s : Ms} {N : Int} {i : Nat} (h : (!(((s.side i).buf.length : Int) == 0)) = false) : (s.side i).buf.length = 0 := by
  simp at h
  simp [h]
theorem held_store {s : Ms} {i : Nat} (h : (!(!(Bf.fullB (s.side i).buf s.room))) = true) : s.room ≤ (s.side i).buf.length := by
  simp [Bf.fullB] at h
  omega
theorem free_store {s : Ms} {i : Nat} (hr : (s.side i).buf.length ≤ s.room) (h : (!(!(Bf.fullB (s.side i).buf s.room))) = false) : (s.side i).buf.length < s.room := by
  simp [Bf.fullB] at h
  omega
set_option maxHeartbeats 4000000 in
theorem step_calls (k : Wk) (v : Wv) (s : Ms) (w : World) (h : Ws k v s w) (f : Fit k.p s) (hroom : ∀ i, (s.side i).buf.length ≤ s.room) (i : Nat) (hi : i < s.sides.length) (N : Int) (hN : N = s.mem.length) :
    Calls Tryz.prog 30 #[.pointer (some ⟨k.g, 0, none⟩), .int .i64 i] w (WlP k (s.step N i)) := by
  by_cases hst : (s.side i).t.st = 0
  rotate_left
  · exact step_stopped k v s w h f i hi N hN hst
  by_cases hpo : 0 ≤ (s.side i).t.pc ∧ (s.side i).t.pc < (s.side i).code.length
  rotate_left
  · exact step_outside k v s w h f i hi N hN hst hpo
  have hcode := f.code i hi
  obtain ⟨pn, hpce⟩ : ∃ n : Nat, (s.side i).t.pc = n := ⟨(s.side i).t.pc.toNat, by omega⟩
  have hpl : pn < (k.p.codes.getD i cd0).l.length := by rw [← hcode]; omega
  obtain ⟨op, ca, cb, cc, ck, hcc⟩ : ∃ op ca cb cc ck, (k.p.codes.getD i cd0).l.getD pn ins0 = ⟨op, ca, cb, cc, ck⟩ := ⟨_, _, _, _, _, rfl⟩
  cases hri : rightB op ca cb cc ck ((k.p.codes.getD i cd0).l.length : Int) with
  | false => exact step_wrong k v s w h f i hi N hN hst pn hpce _ rfl hpl op ca cb cc ck hcc hri
  | true =>
    by_cases hout : askB op = true ∧ ¬ addrM (s.side i).t ⟨op, ca, cb, cc, ck⟩ < N
    · exact step_far k v s w h f i hi N hN hst pn hpce _ rfl hpl op ca cb cc ck hcc hri hout.1 hout.2
    have hin : askB op = true → addrM (s.side i).t ⟨op, ca, cb, cc, ck⟩ < N := fun q => Classical.byContradiction fun z => hout ⟨q, z⟩
    clear hout hpo hcode
    obtain ⟨n, hopn, hn⟩ := isB_nat (right_parts hri).1
    have h28 : op = 0 ∨ op = 1 ∨ op = 2 ∨ op = 3 ∨ op = 4 ∨ op = 5 ∨ op = 6 ∨ op = 7 ∨ op = 8 ∨ op = 9 ∨ op = 10 ∨ op = 11 ∨ op = 12 ∨ op = 13 ∨ op = 14 ∨ op = 15 ∨ op = 16 ∨ op = 17 ∨ op = 18 ∨ op = 19 ∨ op = 20 ∨ op = 21 ∨ op = 22 ∨ op = 23 ∨ op = 24 ∨ op = 25 ∨ op = 26 ∨ op = 27 := by omega
    clear hopn hn
    rcases h28 with rfl | rfl | rfl | rfl | rfl | rfl | rfl | rfl | rfl | rfl | rfl | rfl | rfl | rfl | rfl | rfl | rfl | rfl | rfl | rfl | rfl | rfl | rfl | rfl | rfl | rfl | rfl | rfl
    · cases hheld : heldM (port N i) ⟨0, ca, cb, cc, ck⟩ s with
      | true => exact absurd (show false = true from hheld) (by decide)
      | false =>
        exact step_go0 k v s w h f i hi N hN hst pn hpce _ rfl hpl ca cb cc ck hcc hri rfl hheld
    · cases hheld : heldM (port N i) ⟨1, ca, cb, cc, ck⟩ s with
      | true => exact absurd (show false = true from hheld) (by decide)
      | false =>
        exact step_go1 k v s w h f i hi N hN hst pn hpce _ rfl hpl ca cb cc ck hcc hri rfl hheld
    · cases hheld : heldM (port N i) ⟨2, ca, cb, cc, ck⟩ s with
      | true => exact absurd (show false = true from hheld) (by decide)
      | false =>
        exact step_go2 k v s w h f i hi N hN hst pn hpce _ rfl hpl ca cb cc ck hcc hri rfl hheld
    · cases hheld : heldM (port N i) ⟨3, ca, cb, cc, ck⟩ s with
      | true => exact absurd (show false = true from hheld) (by decide)
      | false =>
        exact step_goalu k v s w h f i hi N hN hst pn hpce _ rfl hpl 3 ca cb cc ck hcc hri rfl hheld (by decide) (by decide)
    · cases hheld : heldM (port N i) ⟨4, ca, cb, cc, ck⟩ s with
      | true => exact absurd (show false = true from hheld) (by decide)
      | false =>
        exact step_goalu k v s w h f i hi N hN hst pn hpce _ rfl hpl 4 ca cb cc ck hcc hri rfl hheld (by decide) (by decide)
    · cases hheld : heldM (port N i) ⟨5, ca, cb, cc, ck⟩ s with
      | true => exact absurd (show false = true from hheld) (by decide)
      | false =>
        exact step_goalu k v s w h f i hi N hN hst pn hpce _ rfl hpl 5 ca cb cc ck hcc hri rfl hheld (by decide) (by decide)
    · cases hheld : heldM (port N i) ⟨6, ca, cb, cc, ck⟩ s with
      | true => exact absurd (show false = true from hheld) (by decide)
      | false =>
        exact step_goalu k v s w h f i hi N hN hst pn hpce _ rfl hpl 6 ca cb cc ck hcc hri rfl hheld (by decide) (by decide)
    · cases hheld : heldM (port N i) ⟨7, ca, cb, cc, ck⟩ s with
      | true => exact absurd (show false = true from hheld) (by decide)
      | false =>
        exact step_goalu k v s w h f i hi N hN hst pn hpce _ rfl hpl 7 ca cb cc ck hcc hri rfl hheld (by decide) (by decide)
    · cases hheld : heldM (port N i) ⟨8, ca, cb, cc, ck⟩ s with
      | true => exact absurd (show false = true from hheld) (by decide)
      | false =>
        exact step_goalu k v s w h f i hi N hN hst pn hpce _ rfl hpl 8 ca cb cc ck hcc hri rfl hheld (by decide) (by decide)
    · cases hheld : heldM (port N i) ⟨9, ca, cb, cc, ck⟩ s with
      | true => exact absurd (show false = true from hheld) (by decide)
      | false =>
        exact step_goalu k v s w h f i hi N hN hst pn hpce _ rfl hpl 9 ca cb cc ck hcc hri rfl hheld (by decide) (by decide)
    · cases hheld : heldM (port N i) ⟨10, ca, cb, cc, ck⟩ s with
      | true => exact absurd (show false = true from hheld) (by decide)
      | false =>
        exact step_goalu k v s w h f i hi N hN hst pn hpce _ rfl hpl 10 ca cb cc ck hcc hri rfl hheld (by decide) (by decide)
    · cases hheld : heldM (port N i) ⟨11, ca, cb, cc, ck⟩ s with
      | true => exact absurd (show false = true from hheld) (by decide)
      | false =>
        exact step_goalu k v s w h f i hi N hN hst pn hpce _ rfl hpl 11 ca cb cc ck hcc hri rfl hheld (by decide) (by decide)
    · cases hheld : heldM (port N i) ⟨12, ca, cb, cc, ck⟩ s with
      | true => exact absurd (show false = true from hheld) (by decide)
      | false =>
        exact step_goalu k v s w h f i hi N hN hst pn hpce _ rfl hpl 12 ca cb cc ck hcc hri rfl hheld (by decide) (by decide)
    · cases hheld : heldM (port N i) ⟨13, ca, cb, cc, ck⟩ s with
      | true => exact absurd (show false = true from hheld) (by decide)
      | false =>
        exact step_go13 k v s w h f i hi N hN hst pn hpce _ rfl hpl ca cb cc ck hcc hri rfl hheld
    · cases hheld : heldM (port N i) ⟨14, ca, cb, cc, ck⟩ s with
      | true => exact absurd (show false = true from hheld) (by decide)
      | false =>
        by_cases hreg : (s.side i).t.reg ca = 0
        · exact step_go14a k v s w h f i hi N hN hst pn hpce _ rfl hpl ca cb cc ck hcc hri rfl hheld hreg
        · exact step_go14b k v s w h f i hi N hN hst pn hpce _ rfl hpl ca cb cc ck hcc hri rfl hheld hreg
    · cases hheld : heldM (port N i) ⟨15, ca, cb, cc, ck⟩ s with
      | true => exact absurd (show false = true from hheld) (by decide)
      | false =>
        by_cases hreg : (s.side i).t.reg ca = 0
        · exact step_go15a k v s w h f i hi N hN hst pn hpce _ rfl hpl ca cb cc ck hcc hri rfl hheld hreg
        · exact step_go15b k v s w h f i hi N hN hst pn hpce _ rfl hpl ca cb cc ck hcc hri rfl hheld hreg
    · cases hheld : heldM (port N i) ⟨16, ca, cb, cc, ck⟩ s with
      | true => exact absurd (show false = true from hheld) (by decide)
      | false =>
        exact step_go16 k v s w h f i hi N hN hst pn hpce _ rfl hpl ca cb cc ck hcc hri rfl (hin rfl) hheld
    · cases hheld : heldM (port N i) ⟨17, ca, cb, cc, ck⟩ s with
      | true => exact step_held17 k v s w h f i hi N hN hst pn hpce _ rfl hpl ca cb cc ck hcc hri rfl (hin rfl) (held_store hheld) hheld
      | false =>
        exact step_go17 k v s w h f i hi N hN hst pn hpce _ rfl hpl ca cb cc ck hcc hri rfl (hin rfl) (free_store (hroom i) hheld) hheld
    · cases hheld : heldM (port N i) ⟨18, ca, cb, cc, ck⟩ s with
      | true => exact step_held18 k v s w h f i hi N hN hst pn hpce _ rfl hpl ca cb cc ck hcc hri rfl (held_drain (N := N) hheld) hheld
      | false =>
        exact step_go18 k v s w h f i hi N hN hst pn hpce _ rfl hpl ca cb cc ck hcc hri rfl (free_drain (N := N) hheld) hheld
    · cases hheld : heldM (port N i) ⟨19, ca, cb, cc, ck⟩ s with
      | true => exact step_held19 k v s w h f i hi N hN hst pn hpce _ rfl hpl ca cb cc ck hcc hri rfl (hin rfl) (held_drain (N := N) hheld) hheld
      | false =>
        exact step_go19 k v s w h f i hi N hN hst pn hpce _ rfl hpl ca cb cc ck hcc hri rfl (hin rfl) (free_drain (N := N) hheld) hheld
    · cases hheld : heldM (port N i) ⟨20, ca, cb, cc, ck⟩ s with
      | true => exact step_held20 k v s w h f i hi N hN hst pn hpce _ rfl hpl ca cb cc ck hcc hri rfl (hin rfl) (held_drain (N := N) hheld) hheld
      | false =>
        exact step_go20 k v s w h f i hi N hN hst pn hpce _ rfl hpl ca cb cc ck hcc hri rfl (hin rfl) (free_drain (N := N) hheld) hheld
    · cases hheld : heldM (port N i) ⟨21, ca, cb, cc, ck⟩ s with
      | true => exact step_held21 k v s w h f i hi N hN hst pn hpce _ rfl hpl ca cb cc ck hcc hri rfl (hin rfl) (held_drain (N := N) hheld) hheld
      | false =>
        cases hreg : (s.mem.getD (addrM (s.side i).t ⟨21, ca, cb, cc, ck⟩).toNat 0 == (s.side i).t.reg ca) with
        | true => exact step_go21a k v s w h f i hi N hN hst pn hpce _ rfl hpl ca cb cc ck hcc hri rfl (hin rfl) (free_drain (N := N) hheld) hheld hreg
        | false => exact step_go21b k v s w h f i hi N hN hst pn hpce _ rfl hpl ca cb cc ck hcc hri rfl (hin rfl) (free_drain (N := N) hheld) hheld hreg
    · cases hheld : heldM (port N i) ⟨22, ca, cb, cc, ck⟩ s with
      | true => exact absurd (show false = true from hheld) (by decide)
      | false =>
        exact step_go22 k v s w h f i hi N hN hst pn hpce _ rfl hpl ca cb cc ck hcc hri rfl hheld
    · cases hheld : heldM (port N i) ⟨23, ca, cb, cc, ck⟩ s with
      | true => exact step_held23 k v s w h f i hi N hN hst pn hpce _ rfl hpl ca cb cc ck hcc hri rfl (hin rfl) (held_drain (N := N) hheld) hheld
      | false =>
        cases hreg : (s.mem.getD (addrM (s.side i).t ⟨23, ca, cb, cc, ck⟩).toNat 0 == (s.side i).t.reg ca) with
        | true => exact step_go23a k v s w h f i hi N hN hst pn hpce _ rfl hpl ca cb cc ck hcc hri rfl (hin rfl) (free_drain (N := N) hheld) hheld hreg
        | false => exact step_go23b k v s w h f i hi N hN hst pn hpce _ rfl hpl ca cb cc ck hcc hri rfl (hin rfl) (free_drain (N := N) hheld) hheld hreg
    · cases hheld : heldM (port N i) ⟨24, ca, cb, cc, ck⟩ s with
      | true => exact step_held24 k v s w h f i hi N hN hst pn hpce _ rfl hpl ca cb cc ck hcc hri rfl (hin rfl) (held_drain (N := N) hheld) hheld
      | false =>
        exact step_go24 k v s w h f i hi N hN hst pn hpce _ rfl hpl ca cb cc ck hcc hri rfl (hin rfl) (free_drain (N := N) hheld) hheld
    · cases hheld : heldM (port N i) ⟨25, ca, cb, cc, ck⟩ s with
      | true => exact step_held25 k v s w h f i hi N hN hst pn hpce _ rfl hpl ca cb cc ck hcc hri rfl (held_drain (N := N) hheld) hheld
      | false =>
        exact step_go25 k v s w h f i hi N hN hst pn hpce _ rfl hpl ca cb cc ck hcc hri rfl (free_drain (N := N) hheld) hheld
    · cases hheld : heldM (port N i) ⟨26, ca, cb, cc, ck⟩ s with
      | true => exact absurd (show false = true from hheld) (by decide)
      | false =>
        exact step_go26 k v s w h f i hi N hN hst pn hpce _ rfl hpl ca cb cc ck hcc hri rfl hheld
    · cases hheld : heldM (port N i) ⟨27, ca, cb, cc, ck⟩ s with
      | true => exact absurd (show false = true from hheld) (by decide)
      | false =>
        exact step_go27 k v s w h f i hi N hN hst pn hpce _ rfl hpl ca cb cc ck hcc hri rfl hheld
set_option maxHeartbeats 2000000 in
theorem pick_step (k : Wk) (v : Wv) (s : Ms) (w : World) (h : Ws k v s w) (f : Fit k.p s) (hroom : ∀ i, (s.side i).buf.length ≤ s.room) (N : Int) (hN : N = s.mem.length) (i : Nat) (hi : i < s.sides.length) :
    Calls Tryz.prog 17 #[.pointer (some ⟨k.g, 0, none⟩), .agg #[.int .i64 0, .int .i64 i]] w (WlP k (s.pick N 0 i)) := by
  obtain ⟨tv, bv, mv, sv, ev, bl⟩ := v
  have HS : Hid (s.pick N 0 i = s.step N i) := by
    show _ = _
    unfold Ms.pick
    rw [if_pos ⟨by omega, by omega⟩, Int.toNat_natCast]
    rfl

  have hi0 : ¬ (i : Int) < 0 := by omega
  have hi1 : ¬ (s.sides.length : Int) ≤ i := by omega
  have hi2 : (i : Int) < s.sides.length := by omega
  obtain ⟨ta, tc, htv, -⟩ := own_at h.th
  rw [ths_len] at htv
  simp only at htv
  subst htv
  have HH := hide h
  have HF := hide f
  have HN := hide hN
  have HRM := hide hroom
  clear hN hroom
  have g1 := (Gr.refl w).alloc #[.int .i64 0, .int .i64 i] 28
  have b1 := Has.new w #[.int .i64 0, .int .i64 i] 28
  clear h f
  go_enter Tryz.func17, Tryz.ntmps17
  go_upto_region 1 with (fail)
  change Code.wp _ _ _ _ (w.alloc (.cells #[.int .i64 0, .int .i64 i] 28))
  generalize w.alloc (.cells #[.int .i64 0, .int .i64 i] 28) = w1 at g1 b1 ⊢
  generalize w.heap.size = xb at b1 ⊢
  have H1 := hide (HH.out.later g1)
  have d0 := b1.cell (o := 0) (v := .int .i64 0) rfl
  have d1 := b1.cell (o := 1) (v := .int .i64 i) rfl
  have c1 := H1.out.box.cell (o := 1) (v := .slice ta s.sides.length tc) rfl
  have B1 := hide b1
  clear b1 g1
  go_quiet (fail)
  have H2 := hide (H1.out.later ((Gr.refl w1).drewN nq))
  have B2 := hide (B1.out.later ((Gr.refl w1).drewN nq))
  clear d0 d1 c1 H1 B1
  generalize w1.drewN nq = w2 at H2 B2 ⊢
  have d0 := B2.out.cell (o := 0) (v := .int .i64 0) rfl
  have d1 := B2.out.cell (o := 1) (v := .int .i64 i) rfl
  have CC := hide (fun (_ : Unit) => step_calls k _ s w2 H2.out HF.out HRM.out i hi N HN.out)
  go_wp2_with (fail)
  refine (CC.out ()).mono ?_
  rintro r w3 ⟨rfl, v3, h3⟩
  have H3 := hide h3
  clear h3
  go_wp2_with (fail)
  exact bodyPost_ret (results_none rfl _ _ _) rfl ⟨rfl, _, by rw [HS.out]; exact H3.out⟩
theorem rouse_cut (who : Int) : ∀ l : List Ent, (l.map Ent.a).Nodup → Kn.idx who l < l.length → Kq.rouseL who l = l.take (Kn.idx who l) ++ l.drop (Kn.idx who l + 1)
  | [], _, h => absurd h (Nat.not_lt_zero _)
  | x :: l, hn, h => by
    rw [List.map_cons, List.nodup_cons] at hn
    by_cases hx : x.a = who
    · have e : Kn.idx who (x :: l) = 0 := by simp [Kn.idx, hx]
      rw [e]
      show (List.filter _ (x :: l)) = l
      rw [List.filter_cons_of_neg (by simp [hx])]
      refine List.filter_eq_self.2 fun y hy => ?_
      have : y.a ≠ who := fun z => hn.1 (by rw [hx, ← z]; exact List.mem_map_of_mem hy)
      simpa using this
    · have e : Kn.idx who (x :: l) = Kn.idx who l + 1 := by simp [Kn.idx, hx]
      rw [e] at h ⊢
      have q := rouse_cut who l hn.2 (by simpa using h)
      rw [List.take_succ_cons, List.drop_succ_cons, List.cons_append, ← q]
      show List.filter _ (x :: l) = x :: List.filter _ l
      rw [List.filter_cons_of_pos (by simp [hx])]

set_option maxHeartbeats 2000000 in
theorem pick_rouse0 (k : Wk) (v : Wv) (s : Ms) (w : World) (h : Ws k v s w) (f : Fit k.p s) (hroom : ∀ i, (s.side i).buf.length ≤ s.room) (N : Int) (hN : N = s.mem.length) (i : Nat) (hi : i < s.sides.length) (hns : ¬ Kn.idx (i : Int) s.slp < s.slp.length) :
    Calls Tryz.prog 17 #[.pointer (some ⟨k.g, 0, none⟩), .agg #[.int .i64 2, .int .i64 i]] w (WlP k (s.pick N 2 i)) := by
  obtain ⟨tv, bv, mv, sv, ev, bl⟩ := v
  have HS : Hid (s.pick N 2 i = s) := by
    show _ = _
    unfold Ms.pick
    rw [if_pos ⟨by omega, by omega⟩, Int.toNat_natCast]
    show s.rouse i = s
    unfold Ms.rouse
    rw [if_neg hns]

  have hi0 : ¬ (i : Int) < 0 := by omega
  have hi1 : ¬ (s.sides.length : Int) ≤ i := by omega
  have hi2 : (i : Int) < s.sides.length := by omega
  have hfx : Kn.fidx (i : Int) s.slp = -1 := by unfold Kn.fidx; rw [if_neg hns]
  clear hns
  obtain ⟨ta, tc, htv, -⟩ := own_at h.th
  rw [ths_len] at htv
  simp only at htv
  subst htv
  have HH := hide h
  have HF := hide f
  have HN := hide hN
  have HRM := hide hroom
  clear hN hroom
  have g1 := (Gr.refl w).alloc #[.int .i64 2, .int .i64 i] 28
  have b1 := Has.new w #[.int .i64 2, .int .i64 i] 28
  clear h f
  go_enter Tryz.func17, Tryz.ntmps17
  go_upto_region 1 with (fail)
  change Code.wp _ _ _ _ (w.alloc (.cells #[.int .i64 2, .int .i64 i] 28))
  generalize w.alloc (.cells #[.int .i64 2, .int .i64 i] 28) = w1 at g1 b1 ⊢
  generalize w.heap.size = xb at b1 ⊢
  have H1 := hide (HH.out.later g1)
  have d0 := b1.cell (o := 0) (v := .int .i64 2) rfl
  have d1 := b1.cell (o := 1) (v := .int .i64 i) rfl
  have c1 := H1.out.box.cell (o := 1) (v := .slice ta s.sides.length tc) rfl
  have B1 := hide b1
  clear b1 g1
  go_quiet (fail)
  have H2 := hide (H1.out.later ((Gr.refl w1).drewN nq))
  have B2 := hide (B1.out.later ((Gr.refl w1).drewN nq))
  clear d0 d1 c1 H1 B1
  generalize w1.drewN nq = w2 at H2 B2 ⊢
  have d0 := B2.out.cell (o := 0) (v := .int .i64 2) rfl
  have d1 := B2.out.cell (o := 1) (v := .int .i64 i) rfl
  have hs8 : s.slp.length ≤ 8 := by
    have h8 := Kn.few 8 (s.slp.map Ent.a) HF.out.slp.1 (fun z hz => by obtain ⟨y, hy, rfl⟩ := List.mem_map.1 hz; exact HF.out.slp.2 y hy)
    rwa [List.length_map] at h8
  obtain ⟨sa, sc, hsv, hse, -, -⟩ := Kn.Eown.at (show Kn.Eown w2 k.w0.heap.size sv s.slp from H2.out.slp)
  have hcap : s.slp.length ≤ sc := by
    obtain ⟨a', c', e', -, -, hle, -⟩ := own_at H2.out.slp
    rw [hsv] at e'
    cases e'
    exact hle
  subst hsv
  have HSE := hide hse
  have RF := hide (fun (u : World) (g : Gr w2.drew u) => Kn.rfind_calls sa sc s.slp (by omega) (i : Int) u ((HSE.out.later (Gr.refl w2).drew).later g))
  go_upto_region 8 with (fail)
  have K5 := hide (fun w' (q : Gr w2.drew w') => ((H2.out.later (Gr.refl w2).drew).later q).box.cell (o := 5) (v := .slice sa s.slp.length sc) rfl)
  have KD := hide (fun w' (q : Gr w2.drew w') => (B2.out.drew.later q).cell (o := 1) (v := .int .i64 i) rfl)
  refine begin_late 8 [] (fun w' => Gr w2.drew w') (by kernel_rfl) rfl ?_
  have hH : Gr w2.drew w2.drew := Gr.refl _
  refine AnyL.pp 0 34 (.pointer (some ⟨k.g, 0, none⟩)) rfl rfl (by kernel_rfl) (fun _ _ _ h => h) (fun _ => by go_simp) hH ?_
  simp only [pz, pz0, pzs]
  refine AnyL.pp 1 35 (.pointer (some ⟨k.g, 0, none⟩)) rfl rfl (by kernel_rfl) (fun _ _ _ h => h) (fun _ => by go_simp) hH ?_
  simp only [pz, pz0, pzs]
  refine AnyL.pp 2 36 (.pointer (some ⟨k.g, 5, none⟩)) rfl rfl (by kernel_rfl) (fun _ _ _ h => h) (fun _ => by go_simp) hH ?_
  simp only [pz, pz0, pzs]
  refine AnyL.tt 3 37 (.slice sa s.slp.length sc) rfl rfl (by kernel_rfl) (fun _ _ _ h => h) (fun w' hw' => by have c1 := K5.out w' hw'; go_simp) hH ?_
  simp only [pz, pz0, pzs]
  refine AnyL.pp 4 38 (.pointer (some ⟨xb, 1, none⟩)) rfl rfl (by kernel_rfl) (fun _ _ _ h => h) (fun _ => by go_simp) hH ?_
  simp only [pz, pz0, pzs]
  refine AnyL.tt 5 39 (.int .i64 i) rfl rfl (by kernel_rfl) (fun _ _ _ h => h) (fun w' hw' => by have c1 := KD.out w' hw'; go_simp) hH ?_
  simp only [pz, pz0, pzs]
  refine AnyL.one 6 (by kernel_rfl) rfl (by kernel_rfl) ?_
  refine wp_call (some 40) rfl _ _ (by kernel_rfl) (RF.out _ hH) ?_
  rintro r wa ⟨rfl, rfl⟩
  refine ⟨_, rfl, fun _ => hH, ?_⟩
  simp only [pz, pz0, pzs]
  rw [hfx]
  refine AnyL.pp 7 4 (.int .i64 (-1)) rfl rfl (by kernel_rfl) (fun _ _ _ h => h) (fun _ => by go_simp) hH ?_
  simp only [pz, pz0, pzs]
  refine AnyL.done (by kernel_rfl) ?_
  have H4 := hide (H2.out.later (Gr.refl w2).drew)
  clear hH K5 KD RF
  go_wp2_with (fail)
  exact bodyPost_ret (results_none rfl _ _ _) rfl ⟨rfl, _, by rw [HS.out]; exact H4.out⟩

set_option maxHeartbeats 2000000 in
theorem pick_rouse1 (k : Wk) (v : Wv) (s : Ms) (w : World) (h : Ws k v s w) (f : Fit k.p s) (hroom : ∀ i, (s.side i).buf.length ≤ s.room) (N : Int) (hN : N = s.mem.length) (i : Nat) (hi : i < s.sides.length) (p : Nat) (hpi : Kn.idx (i : Int) s.slp = p) (hp : p < s.slp.length) :
    Calls Tryz.prog 17 #[.pointer (some ⟨k.g, 0, none⟩), .agg #[.int .i64 2, .int .i64 i]] w (WlP k (s.pick N 2 i)) := by
  obtain ⟨tv, bv, mv, sv, ev, bl⟩ := v
  have HS : Hid (s.pick N 2 i = ((s.setQ (s.slp.take p ++ s.slp.drop (p + 1))).setT i (((s.setQ (s.slp.take p ++ s.slp.drop (p + 1))).side i).t.is 0)).note i ⟨11, i, 0, 0, 0, 0, 0, false⟩) := by
    show _ = _
    unfold Ms.pick
    rw [if_pos ⟨by omega, by omega⟩, Int.toNat_natCast]
    show s.rouse i = _
    unfold Ms.rouse
    rw [if_pos (by rw [hpi]; exact hp), rouse_cut _ _ f.slp.1 (by rw [hpi]; exact hp), hpi]
    rfl

  have hi0 : ¬ (i : Int) < 0 := by omega
  have hi1 : ¬ (s.sides.length : Int) ≤ i := by omega
  have hi2 : (i : Int) < s.sides.length := by omega
  have hfx : Kn.fidx (i : Int) s.slp = (p : Int) := by unfold Kn.fidx; rw [if_pos (by rw [hpi]; exact hp), hpi]
  have hp0 : (0 : Int) ≤ p := by omega
  clear hpi
  obtain ⟨ta, tc, htv, -⟩ := own_at h.th
  rw [ths_len] at htv
  simp only at htv
  subst htv
  have HH := hide h
  have HF := hide f
  have HN := hide hN
  have HRM := hide hroom
  clear hN hroom
  have g1 := (Gr.refl w).alloc #[.int .i64 2, .int .i64 i] 28
  have b1 := Has.new w #[.int .i64 2, .int .i64 i] 28
  clear h f
  go_enter Tryz.func17, Tryz.ntmps17
  go_upto_region 1 with (fail)
  change Code.wp _ _ _ _ (w.alloc (.cells #[.int .i64 2, .int .i64 i] 28))
  generalize w.alloc (.cells #[.int .i64 2, .int .i64 i] 28) = w1 at g1 b1 ⊢
  generalize w.heap.size = xb at b1 ⊢
  have H1 := hide (HH.out.later g1)
  have d0 := b1.cell (o := 0) (v := .int .i64 2) rfl
  have d1 := b1.cell (o := 1) (v := .int .i64 i) rfl
  have c1 := H1.out.box.cell (o := 1) (v := .slice ta s.sides.length tc) rfl
  have B1 := hide b1
  clear b1 g1
  go_quiet (fail)
  have H2 := hide (H1.out.later ((Gr.refl w1).drewN nq))
  have B2 := hide (B1.out.later ((Gr.refl w1).drewN nq))
  clear d0 d1 c1 H1 B1
  generalize w1.drewN nq = w2 at H2 B2 ⊢
  have d0 := B2.out.cell (o := 0) (v := .int .i64 2) rfl
  have d1 := B2.out.cell (o := 1) (v := .int .i64 i) rfl
  have hs8 : s.slp.length ≤ 8 := by
    have h8 := Kn.few 8 (s.slp.map Ent.a) HF.out.slp.1 (fun z hz => by obtain ⟨y, hy, rfl⟩ := List.mem_map.1 hz; exact HF.out.slp.2 y hy)
    rwa [List.length_map] at h8
  obtain ⟨sa, sc, hsv, hse, -, -⟩ := Kn.Eown.at (show Kn.Eown w2 k.w0.heap.size sv s.slp from H2.out.slp)
  have hcap : s.slp.length ≤ sc := by
    obtain ⟨a', c', e', -, -, hle, -⟩ := own_at H2.out.slp
    rw [hsv] at e'
    cases e'
    exact hle
  subst hsv
  have HSE := hide hse
  have RF := hide (fun (u : World) (g : Gr w2.drew u) => Kn.rfind_calls sa sc s.slp (by omega) (i : Int) u ((HSE.out.later (Gr.refl w2).drew).later g))
  go_upto_region 8 with (fail)
  have K5 := hide (fun w' (q : Gr w2.drew w') => ((H2.out.later (Gr.refl w2).drew).later q).box.cell (o := 5) (v := .slice sa s.slp.length sc) rfl)
  have KD := hide (fun w' (q : Gr w2.drew w') => (B2.out.drew.later q).cell (o := 1) (v := .int .i64 i) rfl)
  refine begin_late 8 [] (fun w' => Gr w2.drew w') (by kernel_rfl) rfl ?_
  have hH : Gr w2.drew w2.drew := Gr.refl _
  refine AnyL.pp 0 34 (.pointer (some ⟨k.g, 0, none⟩)) rfl rfl (by kernel_rfl) (fun _ _ _ h => h) (fun _ => by go_simp) hH ?_
  simp only [pz, pz0, pzs]
  refine AnyL.pp 1 35 (.pointer (some ⟨k.g, 0, none⟩)) rfl rfl (by kernel_rfl) (fun _ _ _ h => h) (fun _ => by go_simp) hH ?_
  simp only [pz, pz0, pzs]
  refine AnyL.pp 2 36 (.pointer (some ⟨k.g, 5, none⟩)) rfl rfl (by kernel_rfl) (fun _ _ _ h => h) (fun _ => by go_simp) hH ?_
  simp only [pz, pz0, pzs]
  refine AnyL.tt 3 37 (.slice sa s.slp.length sc) rfl rfl (by kernel_rfl) (fun _ _ _ h => h) (fun w' hw' => by have c1 := K5.out w' hw'; go_simp) hH ?_
  simp only [pz, pz0, pzs]
  refine AnyL.pp 4 38 (.pointer (some ⟨xb, 1, none⟩)) rfl rfl (by kernel_rfl) (fun _ _ _ h => h) (fun _ => by go_simp) hH ?_
  simp only [pz, pz0, pzs]
  refine AnyL.tt 5 39 (.int .i64 i) rfl rfl (by kernel_rfl) (fun _ _ _ h => h) (fun w' hw' => by have c1 := KD.out w' hw'; go_simp) hH ?_
  simp only [pz, pz0, pzs]
  refine AnyL.one 6 (by kernel_rfl) rfl (by kernel_rfl) ?_
  refine wp_call (some 40) rfl _ _ (by kernel_rfl) (RF.out _ hH) ?_
  rintro r wa ⟨rfl, rfl⟩
  refine ⟨_, rfl, fun _ => hH, ?_⟩
  simp only [pz, pz0, pzs]
  rw [hfx]
  refine AnyL.pp 7 4 (.int .i64 p) rfl rfl (by kernel_rfl) (fun _ _ _ h => h) (fun _ => by go_simp) hH ?_
  simp only [pz, pz0, pzs]
  refine AnyL.done (by kernel_rfl) ?_
  have H3 := hide (H2.out.later (Gr.refl w2).drew)
  have B3 := hide B2.out.drew
  have WO := hide (Kn.rwithout_calls sa sc s.slp (by omega) p hp hcap w2.drew (HSE.out.later (Gr.refl w2).drew))
  generalize hQL : (s.slp.take p ++ s.slp.drop (p + 1)) = QL at WO HS
  clear hH K5 KD RF d0 d1 B2 H2 HSE hse hQL
  generalize w2.drew = w3 at H3 B3 WO ⊢
  have c5 := H3.out.box.cell (o := 5) (v := .slice sa s.slp.length sc) rfl
  go_wp2_with (fail)
  refine WO.out.mono ?_
  rintro r wa ⟨vl, ⟨rfl, ga⟩, oe⟩
  obtain ⟨la, lc, rfl, -⟩ := Kn.Eown.at oe
  have HB := hide (H3.out.later ga)
  have f5 := HB.out.box.free 5
  have c5b := HB.out.box.cell (o := 5) (v := .slice sa s.slp.length sc) rfl
  have hq := HB.out.setQ QL (.slice la QL.length lc) (own_lower oe H3.out.sz)
  have bq := (B3.out.later ga).kept (Kp.setCell wa k.g 5 (.slice la QL.length lc)) (fun z => ((B3.out.later ga).apart HB.out.box (by decide)) (by simpa using z))
  clear c5 WO oe
  go_upto_region 11 with (fail)
  clear f5 c5b HB ga H3 B3
  generalize wa.setCell ⟨k.g, 5, none⟩ (.slice la QL.length lc) = wb at hq bq ⊢
  have hD := hq.later (Gr.refl wb).drew
  have bD := bq.drew
  obtain ⟨tb, tc', C9, htv, -, hC9, -⟩ := hD.thAt (by show 0 < s.sides.length; omega)
  simp only [Value.slice.injEq] at htv
  obtain ⟨rfl, -, rfl⟩ := htv
  obtain ⟨st0, st1⟩ := hD.stCell rfl (i := i) hi
  have c1 := hD.box.cell (o := 1) (v := .slice (some ⟨tb, 0, none⟩) s.sides.length tc) rfl
  have d1 := bD.cell (o := 1) (v := .int .i64 i) rfl
  refine begin_late 9 [8] (fun w' => w' = wb.drew) (by kernel_rfl) rfl ?_
  have hH : wb.drew = wb.drew := rfl
  refine AnyL.pp 0 52 (.pointer (some ⟨k.g, 0, none⟩)) rfl rfl (by kernel_rfl) (fun _ _ _ h => h) (fun _ => by go_simp) hH ?_
  simp only [pz, pz0, pzs]
  refine AnyL.pp 1 53 (.pointer (some ⟨k.g, 0, none⟩)) rfl rfl (by kernel_rfl) (fun _ _ _ h => h) (fun _ => by go_simp) hH ?_
  simp only [pz, pz0, pzs]
  refine AnyL.pp 2 54 (.pointer (some ⟨k.g, 1, none⟩)) rfl rfl (by kernel_rfl) (fun _ _ _ h => h) (fun _ => by go_simp) hH ?_
  simp only [pz, pz0, pzs]
  refine AnyL.tt 3 55 (.slice (some ⟨tb, 0, none⟩) s.sides.length tc) rfl rfl (by kernel_rfl) (fun _ _ _ h => h) (fun w' hw' => by subst hw'; go_simp) hH ?_
  simp only [pz, pz0, pzs]
  refine AnyL.pp 4 56 (.pointer (some ⟨xb, 1, none⟩)) rfl rfl (by kernel_rfl) (fun _ _ _ h => h) (fun _ => by go_simp) hH ?_
  simp only [pz, pz0, pzs]
  refine AnyL.tt 5 57 (.int .i64 i) rfl rfl (by kernel_rfl) (fun _ _ _ h => h) (fun w' hw' => by subst hw'; go_simp) hH ?_
  simp only [pz, pz0, pzs]
  refine AnyL.pp 6 58 (.pointer (some ⟨tb, i * 10, none⟩)) rfl rfl (by kernel_rfl) (fun _ _ _ h => h) (fun _ => by go_simp) hH ?_
  simp only [pz, pz0, pzs]
  refine AnyL.pp 7 59 (.pointer (some ⟨tb, i * 10 + 9, none⟩)) rfl rfl (by kernel_rfl) (fun _ _ _ h => h) (fun _ => by go_simp) hH ?_
  simp only [pz, pz0, pzs]
  refine AnyL.one 8 (by kernel_rfl) rfl (by kernel_rfl) ?_
  refine wp_store_int rfl _ _ rfl tb (i * 10 + 9) (by kernel_rfl) 0 (by kernel_rfl) _ st0 st1 ?_
  refine ⟨late (by kernel_rfl), ?_⟩
  refine AnyL.done (by kernel_rfl) ?_
  have h12 := hD.setSt rfl i hi 0
  have b12 := bD.kept (Kp.setCell wb.drew tb (i * 10 + 9) (.int .i64 0)) (fun z => (bD.apart hC9 (by decide)) (by simpa using z))
  clear st0 st1 c1 d1 hH hD bD hC9 hq bq
  generalize wb.drew.setCell ⟨tb, i * 10 + 9, none⟩ (.int .i64 0) = w12 at h12 b12 ⊢
  go_upto_region 12 with (fail)
  have h13 := h12.later (Gr.refl w12).drew
  have b13 := b12.drew
  obtain ⟨ad, cap, he, -, -, -, -⟩ := own_at h13.evs
  simp only at he
  have HEE := hide he
  clear he
  have neg : k.g ∉ ob ev := fun z => own_aside h13.evs h13.box (by decide) z
  have nex : xb ∉ ob ev := fun z => own_aside h13.evs b13 (by decide) z
  have HX := hide (fun w' (q : Kp (ob ev) w12.drew w') => (b13.kept q nex).cell (o := 1) (v := .int .i64 i) rfl)
  have HE := hide (fun w' (q : Kp (ob ev) w12.drew w') => (h13.box.kept q neg).cell (o := 6) (v := ev) rfl)
  refine begin_late 13 [12] (fun w' => Kp (ob ev) w12.drew w') (by kernel_rfl) rfl ?_
  have hH : Kp (ob ev) w12.drew w12.drew := Kp.refl _ _
  refine AnyL.pp 0 60 (.pointer (some ⟨k.g, 0, none⟩)) rfl rfl (by kernel_rfl) (fun _ _ _ h => h) (fun _ => by go_simp) hH ?_
  simp only [pz, pz0, pzs]
  refine AnyL.pp 1 61 (.pointer (some ⟨k.g, 0, none⟩)) rfl rfl (by kernel_rfl) (fun _ _ _ h => h) (fun _ => by go_simp) hH ?_
  simp only [pz, pz0, pzs]
  refine AnyL.pp 2 62 (.pointer (some ⟨k.g, 0, none⟩)) rfl rfl (by kernel_rfl) (fun _ _ _ h => h) (fun _ => by go_simp) hH ?_
  simp only [pz, pz0, pzs]
  refine AnyL.pp 3 63 (.pointer (some ⟨k.g, 6, none⟩)) rfl rfl (by kernel_rfl) (fun _ _ _ h => h) (fun _ => by go_simp) hH ?_
  simp only [pz, pz0, pzs]
  refine AnyL.tt 4 64 (ev) rfl rfl (by kernel_rfl) (fun _ _ _ h => h) (fun w' hw' => by have c1 := HE.out w' hw'; go_simp) hH ?_
  simp only [pz, pz0, pzs]
  refine AnyL.pp 5 65 (.pointer (some ⟨xb, 1, none⟩)) rfl rfl (by kernel_rfl) (fun _ _ _ h => h) (fun _ => by go_simp) hH ?_
  simp only [pz, pz0, pzs]
  refine AnyL.tt 6 66 (.int .i64 i) rfl rfl (by kernel_rfl) (fun _ _ _ h => h) (fun w' hw' => by have c1 := HX.out w' hw'; go_simp) hH ?_
  simp only [pz, pz0, pzs]
  refine AnyL.pp 7 67 (.agg (evA ⟨11, i, 0, 0, 0, 0, 0, false⟩)) rfl rfl (by kernel_rfl) (fun _ _ _ h => h) (fun _ => by go_simp) hH ?_
  simp only [pz, pz0, pzs]
  refine AnyL.one 8 (by kernel_rfl) rfl (by kernel_rfl) ?_
  refine wp_made (some 68) rfl _ _ (build_ev _ rfl ⟨11, i, 0, 0, 0, 0, 0, false⟩ (by kernel_rfl)) ?_
  refine ⟨fun _ => (((Gr.refl w12.drew).alloc (evA ⟨11, i, 0, 0, 0, 0, 0, false⟩) 79).kp _), ?_⟩
  simp only [pz, pz0, pzs]
  obtain ⟨e'', w'', hr2, hk2, ⟨ea2, ec2, hev2⟩, hws⟩ := h13.gather (ty := 39) (by have q := HF.out.evs; show s.evs.length ≤ 95000; omega) i ⟨11, i, 0, 0, 0, 0, 0, false⟩ rfl
  replace hev2 : e'' = .slice ea2 (s.evs.length + 1) ec2 := hev2
  subst hev2
  refine AnyL.one 9 (by kernel_rfl) rfl (by kernel_rfl) ?_
  refine wp_app (some 69) rfl _ _ 39 rfl ev _ (by kernel_rfl) rfl _ w'' hr2 ?_
  refine ⟨fun _ => hk2, ?_⟩
  simp only [pz, pz0, pzs]
  replace hH := hk2
  refine AnyL.pp 10 70 (.pointer (some ⟨k.g, 0, none⟩)) rfl rfl (by kernel_rfl) (fun _ _ _ h => h) (fun _ => by go_simp) hH ?_
  simp only [pz, pz0, pzs]
  refine AnyL.pp 11 71 (.pointer (some ⟨k.g, 6, none⟩)) rfl rfl (by kernel_rfl) (fun _ _ _ h => h) (fun _ => by go_simp) hH ?_
  simp only [pz, pz0, pzs]
  have cg := HE.out w'' hk2
  rw [HEE.out] at cg
  have cf := (h13.box.kept hk2 neg).free 6
  refine AnyL.one 12 (by kernel_rfl) rfl (by kernel_rfl) ?_
  refine wp_store_evs rfl _ _ rfl k.g 6 (by kernel_rfl) ea2 (s.evs.length + 1) ec2 (by kernel_rfl) _ _ _ cg cf ?_
  refine ⟨late (by kernel_rfl), ?_⟩
  refine AnyL.done (by kernel_rfl) ?_
  have HW := hide (hws _ rfl)
  clear hws hk2 hr2 hH HX HE cg cf h13 b13 h12 b12
  generalize w''.setCell ⟨k.g, 6, none⟩ (.slice ea2 (s.evs.length + 1) ec2) = w15 at HW ⊢
  go_wp2_with (fail)
  go_end0
  exact ⟨rfl, _, by rw [HS.out]; exact HW.out⟩
end Go.Proofs.YtfhplbmgjgfihaaGreatDoor.Wl
