/-
  What is due at first; one is put off. No condition but what each law names.
-/
import Derived.Test.YtokbbjpnahpeaaaRm
namespace Go.Proofs.Ytokbbjpnahpeaaa
open Go.ChangeShapes Go.WideShapes Go.ChangeAt Go.RowKit
set_option linter.unusedVariables false

theorem con_app (l : List Du) (y z : Du) : Con (fn (l ++ [y])) (l.length + 1) z ↔ Con (fn l) l.length z ∨ z = y := by
  constructor
  · rintro ⟨k, hk, rfl⟩
    by_cases e : k = l.length
    · subst e; exact .inr (fn_app l y)
    · exact .inl ⟨k, by omega, (fn_appl l y k (by omega)).symm⟩
  · rintro (⟨k, hk, rfl⟩ | rfl)
    · exact ⟨k, by omega, fn_appl l y k hk⟩
    · exact ⟨l.length, by omega, fn_app l z⟩
theorem inj_app {l : List Du} {y : Du} (h : Inj (fn l) l.length) (hy : ∀ z, Con (fn l) l.length z → ¬ (z.k = y.k ∧ z.who = y.who)) : Inj (fn (l ++ [y])) (l.length + 1) := by
  intro a b ha hb h1 h2
  by_cases ea : a = l.length <;> by_cases eb : b = l.length
  · omega
  · subst ea
    rw [fn_app, fn_appl _ _ _ (by omega)] at h1 h2
    exact absurd ⟨h1.symm, h2.symm⟩ (hy _ ⟨b, by omega, rfl⟩)
  · subst eb
    rw [fn_app, fn_appl _ _ _ (by omega)] at h1 h2
    exact absurd ⟨h1, h2⟩ (hy _ ⟨a, by omega, rfl⟩)
  · rw [fn_appl _ _ _ (by omega), fn_appl _ _ _ (by omega)] at h1 h2
    exact h a b (by omega) (by omega) h1 h2
theorem put_off {l l1 l2 : List Du} {n i : Nat} {x : Pk} {b : Int} (hi : i < n + 1) (hx : (fn l i).k = x.1 ∧ (fn l i).who = x.2) (hI : Inj (fn l) (n + 1))
    (h1 : Alike n (swp (fn l) i n) (fun k => if k < n then fn l1 k else swp (fn l) i n k)) (len1 : l1.length = n) (h2 : Alike (n + 1) (fn (l1 ++ [⟨x.1, x.2, b⟩])) (fn l2)) : PutO (n + 1) (fn l) (fn l2) x b ∧ Inj (fn l2) (n + 1) := by
  have aS := Alike.swp (fn l) (n := n + 1) (i := i) (j := n) hi (by omega)
  have IS := aS.inj hI
  have c1 : ∀ z, Con (fn l1) n z ↔ Con (fn l) (n + 1) z ∧ ¬ (z.k = x.1 ∧ z.who = x.2) := by
    intro z
    have e1 : Con (fn l1) n z ↔ Con (fun k => if k < n then fn l1 k else swp (fn l) i n k) n z := by
      constructor
      · rintro ⟨k, hk, rfl⟩; exact ⟨k, hk, by simp [hk]⟩
      · rintro ⟨k, hk, rfl⟩; exact ⟨k, hk, by simp [hk]⟩
    rw [e1, h1.con, con_last IS, swp_j, aS.con, hx.1, hx.2]
  have i1 : Inj (fn l1) n := (h1.inj (IS.less (by omega))).congr (fun k hk => by simp [hk])
  subst len1
  constructor
  · intro z
    rw [h2.con, con_app, c1]
    constructor
    · rintro (h | rfl)
      · exact .inl h
      · exact .inr ⟨rfl, fn l i, ⟨i, hi, rfl⟩, hx.1, hx.2⟩
    · rintro (h | ⟨rfl, _⟩)
      · exact .inl h
      · exact .inr rfl
  · exact h2.inj (inj_app i1 fun z hz => ((c1 z).1 hz).2)
theorem put_none {l : List Du} {n : Nat} {x : Pk} {b : Int} (h : ∀ k, k < n → ¬ ((fn l k).k = x.1 ∧ (fn l k).who = x.2)) : PutO n (fn l) (fn l) x b := by
  intro z
  constructor
  · rintro ⟨k, hk, rfl⟩
    exact .inl ⟨⟨k, hk, rfl⟩, h k hk⟩
  · rintro (h1 | ⟨rfl, y, ⟨k, hk, rfl⟩, h2⟩)
    · exact h1.1
    · exact absurd h2 (h k hk)
theorem Rel.push {l l' : List Du} {B : Nat → Int} {n : Nat} (hn : l.length = n) (h : Rel (fn l) B n) (hh : Heap (fn l') (n + 1)) (al : Alike (n + 1) (fn (l ++ [⟨(itm n).1, (itm n).2, B n⟩])) (fn l')) : Rel (fn l') B (n + 1) := by
  subst hn
  refine ⟨fun z => ?_, al.inj (inj_app h.inj fun z hz q => ?_), hh⟩
  · rw [al.con, con_app, h.con]
    constructor
    · rintro (⟨m, hm, rfl⟩ | rfl)
      · exact ⟨m, by omega, rfl⟩
      · exact ⟨l.length, by omega, rfl⟩
    · rintro ⟨m, hm, rfl⟩
      by_cases e : m = l.length
      · subst e; exact .inr rfl
      · exact .inl ⟨m, by omega, rfl⟩
  · obtain ⟨m, hm, rfl⟩ := (h.con z).1 hz
    have : m = l.length := itm_inj (Prod.ext q.1 q.2)
    omega

/-- what comes of putting off -/
def OffP (w : World) (base d : Nat) (l : List Du) (x : Pk) (b : Int) (e : Ending) (w' : World) : Prop :=
  (e = .returned (.tuple #[]) ∧ Fr base w w') ∧ ∃ v' l', Ds w' base d v' l' ∧ l'.length = l.length ∧ Heap (fn l') l.length ∧ Inj (fn l') l.length ∧ PutO l.length (fn l) (fn l') x b

set_option maxHeartbeats 1000000 in
theorem putOff_calls {w : World} {base d : Nat} {v : Value} {l : List Du} (h : Ds w base d v l) (x : Pk) (b : Int) (hl : l.length ≤ 100) (hh : Heap (fn l) l.length) (hI : Inj (fn l) l.length) :
    Calls Try.prog 21 #[.pointer (some ⟨d, 0, none⟩), pkV x, .int .i64 b] w (OffP w base d l x b) := by
  obtain ⟨a, c, rfl⟩ := h.row.slice
  obtain ⟨xk, xw⟩ := x
  have HD := hide h
  have HH := hide hh
  have HI := hide hI
  have hb0 := h.size
  have hd1 := (h.head.alloc #[.int .i64 xk, .int .i64 xw] 23).cell (o := 0) rfl
  have hx1 := Has.new w #[.int .i64 xk, .int .i64 xw] 23
  have g1 := (Gr.refl w).alloc #[.int .i64 xk, .int .i64 xw] 23
  clear h hh hI
  go_enter Try.func21, Try.ntmps21
  go_wp2_with (fail)
  generalize hw1 : w.alloc (.cells #[.int .i64 xk, .int .i64 xw] 23) = w1 at hd1 hx1 g1 ⊢
  go_loopw [12] (fun s12 wr => ∃ k : Nat, k ≤ l.length ∧ s12 = .int .i64 k ∧ Gr w1 wr ∧ Hid (∀ j, j < k → ¬ ((fn l j).k = xk ∧ (fn l j).who = xw))) (fun s12 _ => l.length - (intOf s12).toNat)
  case atStart => exact ⟨0, by omega, rfl, Gr.refl _, fun j hj => by omega⟩
  case round =>
    clear hd1 hw1
    obtain ⟨k, hk, rfl, gr, hn⟩ := hrel
    have gw := g1.trans gr
    by_cases hlt : k < l.length
    · have hlt' : (k : Int) < l.length := by omega
      obtain ⟨g, cap, cur, hv, hbg, hg, hc, hm, hs, ht⟩ := (HD.out.row.later gw).open (by omega)
      obtain ⟨rfl, -, rfl⟩ : a = some ⟨g, 0, none⟩ ∧ l.length = l.length ∧ c = cap := by simpa using hv
      obtain ⟨e1, e2, e3⟩ := dc_at ht k hlt
      have q1 := hg.cell e1
      have q2 := hg.cell e2
      have q3 := hg.cell e3
      clear hg ht hs hm hc e1 e2 e3 hv
      have hxr := (hx1.later gr)
      have HP := hide (show fn l k = fn l k from rfl)
      generalize hy : fn l k = y at q1 q2 q3
      have HY := hide hy
      clear hy HP
      have hxa := hxr.alloc #[.int .i64 y.k, .int .i64 y.who, .int .i64 y.b] 49
      have p1 := hxa.cell (o := 0) rfl
      have p2 := hxa.cell (o := 1) rfl
      have gA := gr.alloc #[.int .i64 y.k, .int .i64 y.who, .int .i64 y.b] 49
      by_cases hm : y.k = xk ∧ y.who = xw
      · obtain ⟨m1, m2⟩ := hm
        obtain ⟨yk, yw, yb⟩ := y
        simp only at m1 m2
        subst m1 m2
        clear hn
        obtain ⟨n, hln⟩ : ∃ n, l.length = n + 1 := ⟨l.length - 1, by omega⟩
        have HLN := hide hln
        have hn9 : n ≤ 900 := by omega
        have hkn : k < n + 1 := by omega
        have DA := hide (HD.out.later (g1.trans gA))
        have R := remove_calls DA.out n k hln (by omega) (by omega) (by rw [← hln]; exact HH.out)
        clear hln
        go_wp2_with (first
          | (go_at_call 23; refine R.mono ?_))
        rintro e w2 ⟨r, ⟨rfl, f2⟩, v2, l2, d2, len2, hp2, al2⟩
        have hx2 := f2.kept _ _ _ (by decide) (by decide) hxa
        have c1 := hx2.cell (o := 0) rfl
        have c2 := hx2.cell (o := 1) rfl
        have U := hpush_calls d2 ⟨yk, yw, b⟩ (by omega) (by rw [len2]; exact hp2)
        have L2 := hide len2
        have A2 := hide al2
        clear p1 p2 q1 q2 q3 hxa hxr R len2 al2 hp2 d2
        go_wp2_with (first
          | (go_at_call 22; refine U.mono ?_))
        rintro e w3 ⟨⟨rfl, f3⟩, v3, l3, d3, len3, hp3, al3⟩
        clear U c1 c2
        go_wp2_with (fail)
        go_end0
        have P := put_off (x := (yk, yw)) (b := b) hkn (by rw [HY.out]; exact ⟨rfl, rfl⟩) (by rw [← HLN.out]; exact HI.out) A2.out L2.out (by rw [L2.out] at al3; exact al3)
        rw [L2.out] at len3 hp3
        refine ⟨⟨rfl, ((Fr.gr (g1.trans gA) hb0).trans f2).trans f3⟩, v3, l3, d3, by rw [HLN.out]; exact len3, by rw [HLN.out]; exact hp3, by rw [HLN.out]; exact P.2, by rw [HLN.out]; exact P.1⟩
      · have HM := hide hm
        have HN : Hid (∀ j, j < k + 1 → ¬ ((fn l j).k = xk ∧ (fn l j).who = xw)) := by
          intro j hj
          by_cases e : j = k
          · subst e; rw [HY.out]; exact HM.out
          · exact hn.out j (by omega)
        rcases Classical.em (y.k = xk) with q | q
        · have h2 : (y.who == xw) = false := by simpa using fun z => hm ⟨q, z⟩
          subst q
          clear hm
          go_wp2_with (fail)
          exact ⟨⟨k + 1, by omega, by go_num, gr.alloc _ _, HN⟩, by simp [intOf]; omega⟩
        · have h2 : (y.k == xk) = false := by simpa using q
          clear hm q
          go_wp2_with (fail)
          exact ⟨⟨k + 1, by omega, by go_num, gr.alloc _ _, HN⟩, by simp [intOf]; omega⟩
    · obtain rfl : k = l.length := by omega
      go_wp2_with (fail)
      go_end0
      exact ⟨⟨rfl, Fr.gr gw hb0⟩, _, l, HD.out.later gw, rfl, HH.out, HI.out, put_none hn.out⟩

/-- what is due at first -/
def FirP (w : World) (t : Nat) (e : Ending) (w' : World) : Prop :=
  ∃ v l, (e = .returned v ∧ Gr w w') ∧ Dw w' w.heap.size v l ∧ l.length = 2 * t ∧ Rel (fn l) (fun m => -(m : Int)) (2 * t)
/-- what is so while they are pushed -/
def FirI (w : World) (k : Nat) (wr : World) : Prop :=
  ∃ v l, Ds wr w.heap.size w.heap.size v l ∧ l.length = 2 * k ∧ Fr w.heap.size w wr ∧ Rel (fn l) (fun m => -(m : Int)) (2 * k)

set_option maxHeartbeats 1000000 in
theorem first_calls (t : Nat) (ht : t ≤ 8) (w : World) : Calls Try.prog 20 #[.int .i64 t] w (FirP w t) := by
  have ht' : (t : Int) ≤ 8 := by omega
  have start : FirI w 0 (w.alloc (.cells #[.slice none 0 0] 46)) :=
    ⟨.slice none 0 0, [], ⟨Has.new w _ _, Dw.nil _ _, Nat.le_refl _⟩, rfl, Fr.gr ((Gr.refl w).alloc _ _) (Nat.le_refl _), ⟨fun x => ⟨fun ⟨k, hk, _⟩ => by omega, fun ⟨m, hm, _⟩ => by omega⟩, fun a b ha => by omega, fun k h0 hk => by omega⟩⟩
  go_enter Try.func20, Try.ntmps20
  go_wp2_with (fail)
  go_loopw [6] (fun s6 wr => ∃ k : Nat, k ≤ t ∧ s6 = .int .i64 k ∧ Hid (FirI w k wr)) (fun s6 _ => t - (intOf s6).toNat)
  case atStart => exact ⟨0, by omega, rfl, start⟩
  case round =>
    clear start
    obtain ⟨k, hk, rfl, hI⟩ := hrel
    by_cases hlt : k < t
    · have hlt' : (k : Int) < t := by omega
      obtain ⟨v, l, ds, hl, fr, rel⟩ := hI.out
      have U := hpush_calls ds ⟨0, (k : Int), -2 * (k : Int)⟩ (by omega) (by rw [hl]; exact rel.heap)
      have R0 := hide rel
      have L0 := hide hl
      have hkk : (k : Int) ≤ 8 := by omega
      clear hI ds rel hl
      go_wp2_with (first
        | (go_at_call 22; refine U.mono ?_))
      rintro e w1 ⟨⟨rfl, f1⟩, v1, l1, d1, len1, hp1, al1⟩
      rw [L0.out] at len1 hp1 al1
      have r1 : Rel (fn l1) (fun m => -(m : Int)) (2 * k + 1) := R0.out.push L0.out hp1 (by
        have e : (⟨(itm (2 * k)).1, (itm (2 * k)).2, -((2 * k : Nat) : Int)⟩ : Du) = ⟨0, (k : Int), -2 * (k : Int)⟩ := by
          unfold itm
          rw [show 2 * k % 2 = 0 by omega, show 2 * k / 2 = k by omega]
          congr 1
        rw [e]
        exact al1)
      have U2 := hpush_calls d1 ⟨1, (k : Int), -2 * (k : Int) - 1⟩ (by omega) (by rw [len1]; exact hp1)
      have R1 := hide r1
      have L1 := hide len1
      clear U d1 hp1 al1 r1 len1
      go_wp2_with (first
        | (go_at_call 22; refine U2.mono ?_))
      rintro e w2 ⟨⟨rfl, f2⟩, v2, l2, d2, len2, hp2, al2⟩
      rw [L1.out] at len2 hp2 al2
      have r2 : Rel (fn l2) (fun m => -(m : Int)) (2 * k + 1 + 1) := R1.out.push L1.out hp2 (by
        have e : (⟨(itm (2 * k + 1)).1, (itm (2 * k + 1)).2, -((2 * k + 1 : Nat) : Int)⟩ : Du) = ⟨1, (k : Int), -2 * (k : Int) - 1⟩ := by
          unfold itm
          rw [show (2 * k + 1) % 2 = 1 by omega, show (2 * k + 1) / 2 = k by omega]
          congr 1
          omega
        rw [e]
        exact al2)
      have R2 := hide r2
      have L2 := hide len2
      clear U2 hp2 al2 r2 len2
      go_wp2_with (fail)
      exact ⟨⟨k + 1, by omega, by go_num, _, l2, d2, by rw [L2.out]; omega, (fr.trans f1).trans f2, R2.out⟩, by simp [intOf]; omega⟩
    · obtain rfl : k = t := by omega
      obtain ⟨v, l, ds, hl, fr, rel⟩ := hI.out
      obtain ⟨a, c, rfl⟩ := ds.row.slice
      have c1 := ds.head.cell (o := 0) rfl
      have R0 := hide rel
      have D0 := hide ds.row
      have L0 := hide hl
      clear hI rel ds hl
      go_wp2_with (fail)
      go_ret
      exact ⟨_, l, ⟨rfl, fr.below⟩, D0.out, L0.out, R0.out⟩
end Go.Proofs.Ytokbbjpnahpeaaa
