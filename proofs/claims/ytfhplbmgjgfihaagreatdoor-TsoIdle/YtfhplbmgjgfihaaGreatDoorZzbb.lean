/-
  What the law's own functions answer: numbers that are the same, the document's Find. No condition but that the slices' cells hold the lists.
-/
import Derived.Test.YtfhplbmgjgfihaaGreatDoorZzag
import Derived.Test.YtfhplbmgjgfihaaGreatDoorZzaf
import Derived.Test.YtfhplbmgjgfihaaGreatDoorZzaz
import Derived.Test.YtfhplbmgjgfihaaGreatDoorZzbaRrig
import Derived.Test.YtfhplbmgjgfihaaGreatDoorZzap
namespace Go.Proofs.YtfhplbmgjgfihaaGreatDoor.Kn
open Go.Proofs.YtfhplbmgjgfihaaGreatDoor.Kq Go.ChangeShapes Go.WideShapes Go.ChangeAt Go.RowKit
set_option linter.unusedVariables false
set_option maxRecDepth 20000
/-- what the document's Find answers -/
def fidx (who : Int) (l : List Ent) : Int := if idx who l < l.length then (idx who l : Int) else -1
theorem idx_drop (who : Int) : ∀ (l : List Ent) (k : Nat), k ≤ idx who l → idx who l = k + idx who (l.drop k)
  | l, 0, _ => by simp
  | [], k + 1, h => by simp [idx] at h
  | x :: l, k + 1, h => by
    unfold idx at h
    split at h
    · omega
    · rename_i hx
      have := idx_drop who l k (by omega)
      simp only [idx, hx, if_false, List.drop_succ_cons]
      omega

set_option maxHeartbeats 1000000 in
theorem rfind_calls (a : Option Addr) (ca : Nat) (l : List Ent) (hl : l.length ≤ 1000) (who : Int) (w : World) (ha : EntsAt w a l) :
    Calls Tryz.prog 32 #[.slice a l.length ca, .int .i64 who] w fun e w' => e = .returned (.int .i64 (fidx who l)) ∧ w' = w := by
  have HA := hide ha
  clear ha
  go_enter Tryz.func32, Tryz.ntmps32
  go_wp2_with (fail)
  go_loop [5] (fun i => ∃ k : Nat, k ≤ l.length ∧ i = .int .i64 k ∧ Hid (k ≤ idx who l)) (fun i => l.length - (intOf i).toNat)
  case atStart => exact ⟨0, by omega, rfl, Nat.zero_le _⟩
  case round =>
    obtain ⟨k, hk, rfl, hn⟩ := hrel
    by_cases hlt : k < l.length
    · have hlt' : (k : Int) < l.length := by omega
      obtain ⟨b1, o1, h1, c1, c2⟩ := HA.out.get hlt
      have HD := hide (drop_get l k hlt)
      have HI := hide (idx_drop who l k hn.out)
      subst h1
      generalize l.getD k ent0 = x at c1 c2 HD
      by_cases hx : x.a = who
      · have hx' : (x.a == who) = true := by simp [hx]
        have HR : Hid (fidx who l = (k : Int)) := by
          have e : idx who l = k := by rw [HI.out, HD.out]; simp [idx, hx]
          show fidx who l = _
          unfold fidx
          rw [e, if_pos hlt]
        clear hn HD HI hx
        go_wp2_with (fail)
        go_ret
        exact ⟨by rw [HR.out]; rfl, rfl⟩
      · have hx' : (x.a == who) = false := by simp [hx]
        have HR : Hid (k + 1 ≤ idx who l) := by
          show k + 1 ≤ idx who l
          rw [HI.out, HD.out]
          simp only [idx, hx, if_false]
          omega
        clear hn HD HI hx
        go_wp2_with (fail)
        exact ⟨⟨k + 1, by omega, by go_num, HR⟩, by simp [intOf]; omega⟩
    · obtain rfl : k = l.length := by omega
      have HR : Hid (fidx who l = -1) := by
        have h1 := hn.out
        show fidx who l = -1
        unfold fidx
        rw [if_neg (by omega)]
      clear hn
      go_wp2_with (fail)
      go_ret
      exact ⟨by rw [HR.out]; rfl, rfl⟩
/-- what the document's Wake answers -/
def RWakeP (w : World) (s : S3) (e : Ending) (w' : World) : Prop := ∃ v u, (e = .returned (.tuple #[v, u]) ∧ Gr w w') ∧ Eown w' w.heap.size v s.left ∧ Nown w' w.heap.size u s.out

set_option maxHeartbeats 2000000 in
theorem rwake_calls (a : Option Addr) (ca : Nat) (l : List Ent) (hl : l.length ≤ 1000) (addr : Int) (n : Nat) (hn : n < 4294967296) (w : World) (ha : EntsAt w a l) :
    Calls Tryz.prog 56 #[.slice a l.length ca, .int .i64 addr, .int .u32 (n : Int)] w (RWakeP w (siftS (stW addr) (nxW addr) n l)) := by
  have HA := hide ha
  clear ha
  go_enter Tryz.func56, Tryz.ntmps56
  go_wp2_with (fail)
  go_loopw [2, 8, 9, 10] (fun m v u i wr => ∃ k : Nat, k ≤ l.length ∧ i = .int .i64 k ∧ Gr w wr ∧ Hid (Eown wr w.heap.size v (siftS (stW addr) (nxW addr) n (l.take k)).left ∧ Nown wr w.heap.size u (siftS (stW addr) (nxW addr) n (l.take k)).out ∧ m = .int .u32 ((siftS (stW addr) (nxW addr) n (l.take k)).n : Int) ∧ (siftS (stW addr) (nxW addr) n (l.take k)).n ≤ n)) (fun _ _ _ i _ => l.length - (intOf i).toNat)
  case atStart => exact ⟨0, by omega, rfl, Gr.refl w, by exact ⟨Eown.nil _ _, Nown.nil _ _, rfl, Nat.le_refl _⟩⟩
  case round =>
    obtain ⟨k, hk, rfl, gr, ho⟩ := hrel
    by_cases hlt : k < l.length
    · have hlt' : (k : Int) < l.length := by omega
      obtain ⟨b1, o1, h1, c1, c2⟩ := (HA.out.later gr).get hlt
      subst h1
      have HT : Hid (siftS (stW addr) (nxW addr) n (l.take (k + 1)) = sift1 (stW addr) (nxW addr) (siftS (stW addr) (nxW addr) n (l.take k)) (l.getD k ent0)) := by
        show siftS (stW addr) (nxW addr) n (l.take (k + 1)) = _
        rw [take_get l k hlt, siftS_snoc]
      have hsl := siftS_len (stW addr) (nxW addr) n (l.take k)
      rw [List.length_take, Nat.min_eq_left hk] at hsl
      have HL := hide hsl
      clear hsl
      generalize l.getD k ent0 = x at c1 c2 HT
      generalize siftS (stW addr) (nxW addr) n (l.take k) = s3 at ho HT HL
      obtain ⟨o1, o2, rfl, hm⟩ := ho.out
      have O1 := hide o1
      have O2 := hide o2
      clear ho o1 o2
      have hw1 := gr.size
      by_cases hs : stW addr s3.n x = true
      · have HX : Hid (sift1 (stW addr) (nxW addr) s3 x = ⟨s3.n - 1, s3.out ++ [x.a], s3.left⟩) := by show sift1 _ _ s3 x = _; simp [sift1, nxW, hs]
        have hs2 : x.v = addr ∧ 0 < s3.n := by simpa [stW] using hs
        obtain ⟨hv, h0⟩ := hs2
        subst hv
        obtain ⟨v2, w2, r2, p2, q2⟩ := app_num O2.out x.a (by have := HL.out.2; omega) hw1
        have hz : (0 : Int) < (s3.n : Int) := by omega
        have ga := (Gr.refl wr).alloc #[.int .i64 x.a] 3
        have P2 := hide p2
        have Q2 := hide q2
        have OW := hide (O2.out.later ga)
        have GR := hide (gr.alloc #[.int .i64 x.a] 3)
        have EW := hide (O1.out.later ga)
        have hwr := wrap_less s3.n (by omega) h0
        clear p2 q2 ga hs
        go_wp2_with (first
          | (refine step_app rfl (some 35) rfl _ _ _ rfl _ _ rfl rfl v2 w2 r2 ?_))
        refine ⟨⟨k + 1, by omega, by go_num, grown_gr GR.out OW.out Q2.out (Nat.le_refl _), ?_⟩, by simp [intOf]; omega⟩
        rw [HT.out, HX.out]
        exact ⟨EW.out.nums OW.out Q2.out, P2.out, rfl, by show s3.n - 1 ≤ n; omega⟩
      · have hs' : stW addr s3.n x = false := by simpa using hs
        have HX : Hid (sift1 (stW addr) (nxW addr) s3 x = ⟨s3.n, s3.out, s3.left ++ [x]⟩) := by show sift1 _ _ s3 x = _; simp [sift1, nxW, hs']
        obtain ⟨v2, w2, r2, p2, q2⟩ := app_ent O1.out x (by have := HL.out.1; omega) hw1
        have ga := (Gr.refl wr).alloc #[.int .i64 x.a, .int .i64 x.v] 80
        have P2 := hide p2
        have Q2 := hide q2
        have OW := hide (O1.out.later ga)
        have GR := hide (gr.alloc #[.int .i64 x.a, .int .i64 x.v] 80)
        have EW := hide (O2.out.later ga)
        clear p2 q2 ga hs
        have hs2 : x.v ≠ addr ∨ s3.n = 0 := by
          by_cases hv : x.v = addr
          · right
            simpa [stW, hv] using hs'
          · exact .inl hv
        clear hs'
        by_cases hv : x.v = addr
        · have hn0 : s3.n = 0 := by
            rcases hs2 with h | h
            · exact absurd hv h
            · exact h
          have hz : ¬ (0 : Int) < (s3.n : Int) := by omega
          subst hv
          clear hs2
          go_wp2_with (first
            | (refine step_app rfl (some 44) rfl _ _ _ rfl _ _ rfl rfl v2 w2 r2 ?_))
          refine ⟨⟨k + 1, by omega, by go_num, grown_gr GR.out OW.out Q2.out (Nat.le_refl _), ?_⟩, by simp [intOf]; omega⟩
          rw [HT.out, HX.out]
          exact ⟨P2.out, EW.out.ents OW.out Q2.out, by simp [hn0], by show s3.n ≤ n; omega⟩
        · have hv' : (x.v == addr) = false := by simp [hv]
          clear hs2 hv
          go_wp2_with (first
            | (refine step_app rfl (some 44) rfl _ _ _ rfl _ _ rfl rfl v2 w2 r2 ?_))
          refine ⟨⟨k + 1, by omega, by go_num, grown_gr GR.out OW.out Q2.out (Nat.le_refl _), ?_⟩, by simp [intOf]; omega⟩
          rw [HT.out, HX.out]
          exact ⟨P2.out, EW.out.ents OW.out Q2.out, rfl, by show s3.n ≤ n; omega⟩
    · obtain rfl : k = l.length := by omega
      rw [List.take_length] at ho
      obtain ⟨o1, o2, rfl, hm⟩ := ho.out
      have O1 := hide o1
      have O2 := hide o2
      clear ho o1 o2
      go_wp2_with (fail)
      go_ret2
      exact ⟨_, _, ⟨rfl, gr⟩, O1.out, O2.out⟩
/-- what the document's Without answers -/
def WithP (w : World) (l : List Ent) (e : Ending) (w' : World) : Prop := ∃ v, (e = .returned v ∧ Gr w w') ∧ Eown w' w.heap.size v l

set_option maxHeartbeats 1000000 in
theorem rwithout_calls (a : Option Addr) (ca : Nat) (l : List Ent) (hl : l.length ≤ 1000) (p : Nat) (hp : p < l.length) (hc : l.length ≤ ca) (w : World) (ha : EntsAt w a l) :
    Calls Tryz.prog 33 #[.slice a l.length ca, .int .i64 p] w (WithP w (l.take p ++ l.drop (p + 1))) := by
  obtain ⟨b, off, rfl, -, -⟩ := ha.get hp
  have HA := hide ha
  clear ha
  have hp' : (p : Int) < l.length := by omega
  have hown : Eown (w.alloc (.cells #[] 80)) w.heap.size (.slice (some ⟨w.heap.size, 0, none⟩) 0 0) [] := World.ownsRow_made w #[] 0 (Nat.le_refl _) (Nat.zero_le _) rfl
  have HO := hide hown
  have g1 := (Gr.refl w).alloc #[] 80
  clear hown
  obtain ⟨v1, w1, r1, o1, q1⟩ := app_ents 38 HO.out (some ⟨b, off, none⟩) ca (l.take p) ((HA.out.later g1).take p) (by simp) (by simp; omega) (by simp)
  have e1 : (l.take p).length = p := by rw [List.length_take]; omega
  rw [e1] at r1
  rw [List.nil_append] at o1
  have gr1 := grown_gr g1 HO.out q1 (Nat.le_refl _)
  have O1 := hide o1
  clear e1 q1 o1
  have e2 : (l.drop (p + 1)).length = l.length - (p + 1) := List.length_drop
  have E1 := hide (HA.out.later gr1)
  have hs1 := gr1.size
  clear HA HO g1
  by_cases hca : ca = p + 1
  · have hd : l.drop (p + 1) = [] := List.drop_eq_nil_of_le (by omega)
    obtain ⟨v2, w2, r2, o2, q2⟩ := app_ents 38 O1.out (some ⟨b, off, none⟩) 0 (l.drop (p + 1)) (.inl hd) (by simp) (by rw [e2, List.length_take]; omega) hs1
    rw [e2, show l.length - (p + 1) = 0 by omega] at r2
    have gr2 := grown_gr gr1 O1.out q2 (Nat.le_refl _)
    have O2 := hide o2
    subst hca
    clear e2 q2 o2 hd
    go_enter Tryz.func33, Tryz.ntmps33
    go_wp2_with (first
      | (refine step_app rfl (some 10) rfl _ _ _ rfl _ _ rfl rfl v1 w1 r1 ?_)
      | (refine step_app rfl (some 16) rfl _ _ _ rfl _ _ rfl rfl v2 w2 r2 ?_))
    go_ret
    exact ⟨_, ⟨rfl, gr2⟩, O2.out⟩
  · have hca' : p + 1 < ca := by omega
    obtain ⟨v2, w2, r2, o2, q2⟩ := app_ents 38 O1.out (some ⟨b, off + (p + 1) * 2, none⟩) (ca - (p + 1)) (l.drop (p + 1)) (E1.out.drop (p + 1)) (by simp) (by rw [e2, List.length_take]; omega) hs1
    rw [e2] at r2
    have gr2 := grown_gr gr1 O1.out q2 (Nat.le_refl _)
    have O2 := hide o2
    clear e2 q2 o2 hca
    go_enter Tryz.func33, Tryz.ntmps33
    go_wp2_with (first
      | (refine step_app rfl (some 10) rfl _ _ _ rfl _ _ rfl rfl v1 w1 r1 ?_)
      | (refine step_app rfl (some 16) rfl _ _ _ rfl _ _ rfl rfl v2 w2 r2 ?_))
    go_ret
    exact ⟨_, ⟨rfl, gr2⟩, O2.out⟩
end Go.Proofs.YtfhplbmgjgfihaaGreatDoor.Kn
namespace Go.Proofs.YtfhplbmgjgfihaaGreatDoor.Wl
open Go.Proofs.YtfhplbmgjgfihaaGreatDoor.Mc Go.ChangeShapes Go.WideShapes Go.ChangeAt Go.RowKit
set_option linter.unusedVariables false
set_option maxRecDepth 20000
/-- what is known of a state -/
structure Fit (p : Pgm) (s : Ms) : Prop where
  num : p.codes.length = s.sides.length
  code : ∀ i, i < s.sides.length → (s.side i).code = (p.codes.getD i cd0).l
  short : ∀ x ∈ p.codes, x.l.length ≤ 100000
  th : ∀ i, i < s.sides.length → ThOk (s.side i).t
  ent : ∀ i, ∀ e ∈ (s.side i).buf, (0 ≤ e.a ∧ e.a < s.mem.length) ∧ U32 e.v
  wrd : ∀ x ∈ s.mem, U32 x
  ok : s.okB = true
  mem : s.mem.length ≤ 100000
  evs : s.evs.length ≤ 90000
  slp : Kn.Ok s.slp
  few : ∀ x ∈ s.slp, x.a < s.sides.length
  run : ∀ i, i < s.sides.length → ((s.side i).t.st = 1 ↔ Kn.idx (i : Int) s.slp < s.slp.length)
theorem setT_same (s : Ms) (i : Nat) : s.setT i (s.side i).t = s := by
  unfold Ms.setT Ms.setS
  have : s.sides.set i ⟨(s.side i).code, (s.side i).t, (s.side i).buf⟩ = s.sides := by
    apply List.ext_getElem?
    intro j
    rw [List.getElem?_set]
    split
    · rename_i e
      subst e
      split
      · rename_i hi
        unfold Ms.side
        rw [List.getD_eq_getElem?_getD, List.getElem?_eq_getElem hi]
        rfl
      · rename_i hi
        rw [List.getElem?_eq_none (by omega)]
    · rfl
  rw [this]
/-- an end of a step: the thread stands there, and says so -/
theorem step_ended {s : Ms} {N : Int} {i : Nat} {st kd : Int} (h : stepM (port N i) (s.side i).t (s.side i).code s = endM (port N i) (s.side i).t s st kd) :
    s.step N i = (s.setT i ((s.side i).t.is st)).note i ⟨kd, 0, (s.side i).t.pc, 0, 0, 0, 0, false⟩ := by
  unfold Ms.step
  rw [h]
  rfl
theorem step_still {s : Ms} {N : Int} {i : Nat} (h : (s.side i).t.st ≠ 0) : s.step N i = s := by
  have : stepM (port N i) (s.side i).t (s.side i).code s = ((s.side i).t, s) := by
    unfold stepM
    rw [if_pos (by simpa using h)]
  unfold Ms.step
  rw [this]
  exact setT_same s i
theorem step_at {s : Ms} {N : Int} {i : Nat} (h : (s.side i).t.st = 0) (hp : 0 ≤ (s.side i).t.pc ∧ (s.side i).t.pc < (s.side i).code.length) :
    stepM (port N i) (s.side i).t (s.side i).code s = atM (port N i) (s.side i).t ((s.side i).code.getD (s.side i).t.pc.toNat ins0) (s.side i).code.length s := by
  unfold stepM
  rw [if_neg (by simp [h]), if_neg (by simp; omega)]
theorem step_out {s : Ms} {N : Int} {i : Nat} (h : (s.side i).t.st = 0) (hp : ¬ (0 ≤ (s.side i).t.pc ∧ (s.side i).t.pc < (s.side i).code.length)) :
    stepM (port N i) (s.side i).t (s.side i).code s = endM (port N i) (s.side i).t s 2 12 := by
  unfold stepM
  rw [if_neg (by simp [h]), if_pos (by simp; omega)]
theorem flush_t (s : Ms) (i : Nat) (hi : i < s.sides.length) : (s.flush i).setT i (s.side i).t = s.flush i := by
  have e : ((s.flush i).side i).t = (s.side i).t := by
    unfold Ms.flush
    cases hb : (s.side i).buf with
    | nil => rfl
    | cons x l =>
      show ((s.setB i l).side i).t = _
      unfold Ms.setB
      rw [side_set hi, if_pos rfl]
  rw [← e]
  exact setT_same _ i
theorem step_held {s : Ms} {N : Int} {i : Nat} (hi : i < s.sides.length) (h : stepM (port N i) (s.side i).t (s.side i).code s = ((s.side i).t, s.flush i)) : s.step N i = s.flush i := by
  unfold Ms.step
  rw [h]
  exact flush_t s i hi
theorem fits_reg {u n : Int} (hu : u = 0 ∨ u = 1) (h : fitsB u n = true) : regB n = true := by
  rcases hu with rfl | rfl
  · have : n = 0 := by simpa [fitsB] using h
    subst this
    rfl
  · simpa [fitsB] using h
theorem kA_one : ∀ n : Fin 28, kA n.val = 0 ∨ kA n.val = 1 := by decide
theorem right_parts {op a b c k size : Int} (h : rightB op a b c k size = true) : isB op = true ∧ (fitsB (kA op.toNat) a = true ∧ fitsB (kB op.toNat) b = true) ∧ (fitsB (kC op.toNat) c = true ∧ holdsB (kK op.toNat) k size = true) := by
  unfold rightB at h
  simp only [Bool.and_eq_true] at h
  exact ⟨h.1, ⟨h.2.1.1.1, h.2.1.1.2⟩, h.2.1.2, h.2.2⟩
theorem right_a {op a b c k size : Int} (h : rightB op a b c k size = true) : regB a = true := by
  obtain ⟨h1, ⟨h2, -⟩, -⟩ := right_parts h
  obtain ⟨n, rfl, hn⟩ := isB_nat h1
  exact fits_reg (kA_one ⟨n, hn⟩) h2
theorem right_b {op a b c k size : Int} (h : rightB op a b c k size = true) (hk : kB op.toNat = 1) : regB b = true := by
  obtain ⟨h1, ⟨-, h2⟩, -⟩ := right_parts h
  exact fits_reg (.inr hk) h2
theorem right_c {op a b c k size : Int} (h : rightB op a b c k size = true) (hk : kC op.toNat = 1) : regB c = true := by
  obtain ⟨h1, -, h2, -⟩ := right_parts h
  exact fits_reg (.inr hk) h2
/-- a step that is done -/
theorem step_go {s : Ms} {N : Int} {i : Nat} {c : Ins} {n : Int} (h : stepM (port N i) (s.side i).t (s.side i).code s = atM (port N i) (s.side i).t c n s) (hr : rightB c.op c.a c.b c.c c.k n = true) (hm : askB c.op = true → addrM (s.side i).t c < N) (hh : heldM (port N i) c s = false) :
    s.step N i = (doneM (port N i) (s.side i).t c s).2.setT i (doneM (port N i) (s.side i).t c s).1 := by
  unfold Ms.step
  rw [h]
  unfold atM inMemM
  rw [hr, hh, show (port N i).size = N from rfl]
  cases ha : askB c.op with
  | false => rfl
  | true => rw [decide_eq_true (hm ha)]; rfl
/-- where a row of one's own has room -/
theorem own_there {w : World} {B sz n : Nat} {t : TypeId} {b c : Nat} {xs : List Value} (h : w.ownsRow B t sz (.slice (some ⟨b, 0, none⟩) n c) n xs) (o m : Nat) (ho : o + m ≤ n * sz) : w.there b o m := by
  rcases h.2 with ⟨q, -⟩ | ⟨g, cap, cur, q, hb, hg, h1, h2, h3, h4⟩
  · cases q
  · cases q
    refine Has.there hg o m ?_
    have e := congrArg List.length h4
    rw [h.1, List.length_take] at e
    have : (cur.toList.length) = cur.size := by simp
    omega
theorem ThOk.at' {t : Th} (h : ThOk t) (n : Int) : ThOk (t.at n) := ⟨h.len, h.u32⟩
theorem ThOk.is' {t : Th} (h : ThOk t) (n : Int) : ThOk (t.is n) := ⟨h.len, h.u32⟩
theorem alu_kinds : ∀ n : Fin 28, 3 ≤ n.val → n.val ≤ 12 → kB n.val = 1 ∧ kC n.val = 1 ∧ (kK n.val == 4) = false ∧ (kB n.val == 2) = false := by decide
theorem alu_at {op : Int} (h3 : 3 ≤ op) (h12 : op ≤ 12) : kB op.toNat = 1 ∧ kC op.toNat = 1 ∧ jumpB op = false ∧ askB op = false := by
  obtain ⟨n, rfl⟩ := Int.eq_ofNat_of_zero_le (show 0 ≤ op by omega)
  obtain ⟨h1, h2, h4, h5⟩ := alu_kinds ⟨n, by omega⟩ (by show 3 ≤ n; omega) (by show n ≤ 12; omega)
  refine ⟨h1, h2, ?_, ?_⟩
  · unfold jumpB
    rw [Int.toNat_natCast, h4, Bool.and_false]
  · unfold askB
    rw [Int.toNat_natCast, h5, Bool.and_false]
theorem done_alu {S : Type} (M : Prt S) (t : Th) (s : S) {op a b c k : Int} (h3 : 3 ≤ op) (h12 : op ≤ 12) : doneM M t ⟨op, a, b, c, k⟩ s = ((t.put a (doI op (t.reg b) (t.reg c))).at (t.pc + 1), s) := by
  obtain ⟨-, -, h1, h2⟩ := alu_at h3 h12
  have h0 : (op == 0) = false := by simp; omega
  have ha : aluB op = true := by simp [aluB, h3, h12]
  simp only [doneM, h0, h1, h2, ha, Bool.false_eq_true, if_false, if_true]
  rfl
theorem snoc_fresh {α : Type} {f : α → List Value} {sz : Nat} (hf : ∀ x, (f x).length = sz) (h1 : ∀ x, ∀ u ∈ f x, u.oneCell' = true) {T t ty ty2 : TypeId} {zero : Value} {bytes : Nat} (hT : Tryz.prog.underlying T = some (.slice t)) (info : (Tryz.prog.info? t).map (fun i => (i.zero, i.size, i.bytes)) = some (some zero, sz, bytes)) (hz : zero.cells.size = sz) (hsz : 0 < sz) (hby : bytes ≤ 1000) {wb u : World} {base : Nat} (hB : base ≤ wb.heap.size) (g : Gr wb u) {eb xb : Nat} (hE : u.ownsRow wb.heap.size t sz (.slice (some ⟨eb, 0, none⟩) 0 0) 0 []) (x : α) (hX : Has u xb (f x).toArray t) (hne : xb ≠ eb)
    (ad : Option Addr) (c : Nat) (l : List α) (hm : RowAt wb ad (flatOf f l)) (hc : ad = none → c = 0 ∧ l = []) (hn : l.length ≤ 1000) :
    ∃ e1 w1 e2 w2, (Builtin.append_ #[T, T] ty #[.slice (some ⟨eb, 0, none⟩) 0 0, .slice ad l.length c]).run Tryz.prog u = .ok e1 w1 ∧ (Builtin.append_ #[T, T] ty2 #[e1, .slice (some ⟨xb, 0, none⟩) 1 1]).run Tryz.prog w1 = .ok e2 w2 ∧
      (w2.ownsRow base t sz e2 (l ++ [x]).length (flatOf f (l ++ [x])) ∧ ∃ a c, e2 = .slice a (l.length + 1) c) ∧ Gr wb w1 ∧ Gr wb w2 := by
  obtain ⟨e1, w1, r1, o1, g1, -⟩ := app_recs (ty := ty) hf h1 hT info hz hsz hby (l := ([] : List α)) hE ad c l (hm.later g) hc (by simp; omega) g.size
  rw [List.nil_append] at o1
  have G1 : Gr wb w1 := grown_gr (base := wb.heap.size) g hE g1 (Nat.le_refl _)
  have X1 : RowAt w1 (some ⟨xb, 0, none⟩) (flatOf f [x]) := by
    have q := (hX.kept (Kp.grown g1) (fun z => hne (by have := mem_ob.1 z; cases this; rfl))).rowAt
    rw [flatOf_cons, show flatOf f ([] : List α) = [] from rfl, List.append_nil]
    exact q
  obtain ⟨e2, w2, r2, o2, g2, -⟩ := app_recs (ty := ty2) hf h1 hT info hz hsz hby o1 (some ⟨xb, 0, none⟩) 1 [x] X1 (fun q => by cases q) (by simp; omega) G1.size
  obtain ⟨a2, c2, hv, -⟩ := own_at o2
  exact ⟨e1, w1, e2, w2, r1, r2, ⟨own_lower o2 hB, a2, c2, by rw [hv]; simp⟩, G1, grown_gr (base := wb.heap.size) G1 o1 g2 (Nat.le_refl _)⟩
theorem snoc_late {α : Type} {f : α → List Value} {sz : Nat} (hf : ∀ x, (f x).length = sz) (h1 : ∀ x, ∀ u ∈ f x, u.oneCell' = true) {T t ty ty2 : TypeId} {zero : Value} {bytes : Nat} (hT : Tryz.prog.underlying T = some (.slice t)) (info : (Tryz.prog.info? t).map (fun i => (i.zero, i.size, i.bytes)) = some (some zero, sz, bytes)) (hz : zero.cells.size = sz) (hsz : 0 < sz) (hby : bytes ≤ 1000) {wb u : World} {base : Nat} (hB : base ≤ wb.heap.size) (g : Gr wb u) {eb : Nat} (hE : u.ownsRow wb.heap.size t sz (.slice (some ⟨eb, 0, none⟩) 0 0) 0 []) (x : α)
    (ad : Option Addr) (c : Nat) (l : List α) (hm : RowAt wb ad (flatOf f l)) (hc : ad = none → c = 0 ∧ l = []) (hn : l.length ≤ 1000) :
    ∃ e1 w1 e2 w2, (Builtin.append_ #[T, T] ty #[.slice (some ⟨eb, 0, none⟩) 0 0, .slice ad l.length c]).run Tryz.prog u = .ok e1 w1 ∧ (Builtin.append_ #[T, T] ty2 #[e1, .slice (some ⟨w1.heap.size, 0, none⟩) 1 1]).run Tryz.prog (w1.alloc (.cells (f x).toArray t)) = .ok e2 w2 ∧
      (w2.ownsRow base t sz e2 (l ++ [x]).length (flatOf f (l ++ [x])) ∧ ∃ a c, e2 = .slice a (l.length + 1) c) ∧ Gr wb w1 ∧ Gr wb w2 := by
  obtain ⟨e1, w1, r1, o1, g1, -⟩ := app_recs (ty := ty) hf h1 hT info hz hsz hby (l := ([] : List α)) hE ad c l (hm.later g) hc (by simp; omega) g.size
  rw [List.nil_append] at o1
  have G1 : Gr wb w1 := grown_gr (base := wb.heap.size) g hE g1 (Nat.le_refl _)
  obtain ⟨e2, w2, r2, o2, g2, -⟩ := app_rec (ty := ty2) hf h1 hT info hz hsz hby o1 x (f x).toArray rfl (by omega) G1.size
  obtain ⟨a2, c2, hv, -⟩ := own_at o2
  exact ⟨e1, w1, e2, w2, r1, r2, ⟨own_lower o2 hB, a2, c2, by rw [hv]; simp⟩, G1, grown_gr (base := wb.heap.size) (G1.alloc _ _) (own_later o1 ((Gr.refl w1).alloc _ _)) g2 (Nat.le_refl _)⟩
theorem build_e1 {o : Oper} {a : Act} {w : World} (x : Operand) (ho : o.op = .buildSlice 47 1 #[(0, x)]) (e : Ent) (hx : a.eval x = .agg #[.int .i64 e.a, .int .u32 e.v]) :
    (execOp a.eval o).run Tryz.prog w = .ok (.value (.slice (some ⟨w.heap.size, 0, none⟩) 1 1)) (w.alloc (.cells #[.int .i64 e.a, .int .u32 e.v] 77)) := by
  unfold execOp
  simp only [ho, List.map_toArray, List.map_cons, List.map_nil, hx]
  clear hx
  go_simp
theorem mem_u32 {p : Pgm} {s : Ms} (f : Fit p s) {m : Nat} (hm : m < s.mem.length) : U32 (s.mem.getD m 0) := by
  rw [List.getD_eq_getElem?_getD, List.getElem?_eq_getElem hm]
  exact f.wrd _ (List.getElem_mem hm)
theorem load_u32 {p : Pgm} {s : Ms} (f : Fit p s) (i : Nat) {m : Nat} (hm : m < s.mem.length) : U32 (s.load i m) := by
  unfold Ms.load
  cases ho : Bf.findR (m : Int) (s.side i).buf with
  | some v =>
    obtain ⟨e, he, rfl⟩ := findR_mem _ _ _ ho
    exact (f.ent i e he).2
  | none => exact mem_u32 f hm
end Go.Proofs.YtfhplbmgjgfihaaGreatDoor.Wl
