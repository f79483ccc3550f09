/-
  Even scripts by plain functions: what is due by when, what is picked; no two are due by the same; whatever is wished, all come up in each window. No condition but what each law names.
-/
import Derived.Test.YtokbbjpnahpeaaaPur
namespace Go.Proofs.Ytokbbjpnahpeaaa
set_option linter.unusedVariables false

/-- a pick: its kind and its thread -/
abbrev Pk := Int × Int
def p0 : Pk := (0, 0)
/-- the pick at place m: a Step, a Flush, a Step .. -/
def itm (m : Nat) : Pk := (((m % 2 : Nat) : Int), ((m / 2 : Nat) : Int))
theorem itm_inj {a b : Nat} (h : itm a = itm b) : a = b := by
  have h1 := congrArg Prod.fst h
  have h2 := congrArg Prod.snd h
  simp only [itm] at h1 h2
  omega

/-- the first of the least -/
def mn (B : Nat → Int) : Nat → Nat
  | 0 => 0
  | n + 1 => if B n < B (mn B n) then n else mn B n
theorem mn_le (B : Nat → Int) : ∀ (n m : Nat), m < n → B (mn B n) ≤ B m
  | 0, m, h => by omega
  | n + 1, m, h => by
    unfold mn
    by_cases e : m = n
    · subst e; split <;> omega
    · have := mn_le B n m (by omega)
      split <;> omega
theorem mn_lt (B : Nat → Int) : ∀ n : Nat, 0 < n → mn B n < n
  | 0, h => by omega
  | n + 1, h => by
    unfold mn
    split
    · omega
    · by_cases e : n = 0
      · subst e; simp [mn]
      · have := mn_lt B n (by omega); omega

/-- what is so behind some picks: by when each is due, and how many wishes were taken -/
structure Ev where
  B : Nat → Int
  n : Nat
section
variable (ws : List Pk) (t : Nat) (w : Int)
/-- is it a wish? -/
def evW (i : Nat) (s : Ev) : Bool := decide (0 < ws.length) && decide ((i : Int) + 2 * (t : Int) - w < s.B (mn s.B (2 * t)))
def evX (i : Nat) (s : Ev) : Pk := if evW ws t w i s then ws.getD (s.n % ws.length) p0 else itm (mn s.B (2 * t))
def evN (i : Nat) (s : Ev) : Ev := ⟨fun m => if itm m = evX ws t w i s then (i : Int) + 1 else s.B m, if evW ws t w i s then s.n + 1 else s.n⟩
def evS : Nat → Ev
  | 0 => ⟨fun m => -(m : Int), 0⟩
  | i + 1 => evN ws t w i (evS i)
def evP (i : Nat) : Pk := evX ws t w i (evS ws t w i)
def evL (n : Nat) : List Pk := (List.range n).map (evP ws t w)
theorem evL_len (n : Nat) : (evL ws t w n).length = n := by simp [evL]
theorem evL_get (n i : Nat) (h : i < n) : (evL ws t w n).getD i p0 = evP ws t w i := by simp [evL, List.getD_eq_getElem?_getD, h]
theorem evS_le : ∀ i m : Nat, (evS ws t w i).B m ≤ i
  | 0, m => by simp [evS]
  | i + 1, m => by
    have := evS_le i m
    simp only [evS, evN]
    split <;> omega
theorem evS_inj : ∀ (i a b : Nat), (evS ws t w i).B a = (evS ws t w i).B b → a = b
  | 0, a, b, h => by simp only [evS] at h; omega
  | i + 1, a, b, h => by
    have ha := evS_le ws t w i a
    have hb := evS_le ws t w i b
    simp only [evS, evN] at h
    split at h <;> split at h
    · rename_i h1 h2; exact itm_inj (h1.trans h2.symm)
    · omega
    · omega
    · exact evS_inj i a b h
theorem evS_n : ∀ i : Nat, (evS ws t w i).n ≤ i
  | 0 => by simp [evS]
  | i + 1 => by
    have := evS_n i
    simp only [evS, evN]
    split <;> omega
/-- by when it is due tells when it was picked last -/
theorem evS_last : ∀ (i m : Nat), (evS ws t w i).B m ≤ 0 ∨ ∃ j, j < i ∧ (evS ws t w i).B m = (j : Int) + 1 ∧ evP ws t w j = itm m
  | 0, m => by left; simp only [evS]; omega
  | i + 1, m => by
    simp only [evS, evN]
    split
    · rename_i h
      exact .inr ⟨i, by omega, rfl, h.symm⟩
    · rcases evS_last i m with h | ⟨j, h1, h2, h3⟩
      · exact .inl h
      · exact .inr ⟨j, by omega, h2, h3⟩
end

/-- how many of the first T are at most x -/
def cnt (B : Nat → Int) (x : Int) : Nat → Nat
  | 0 => 0
  | n + 1 => cnt B x n + if B n ≤ x then 1 else 0
theorem cnt_le (B : Nat → Int) (x : Int) : ∀ n, cnt B x n ≤ n
  | 0 => Nat.le_refl _
  | n + 1 => by have := cnt_le B x n; unfold cnt; split <;> omega
theorem cnt_zero {B : Nat → Int} {x : Int} : ∀ {n : Nat}, (∀ m, m < n → x < B m) → cnt B x n = 0
  | 0, _ => rfl
  | n + 1, h => by
    have h1 := cnt_zero (n := n) fun m hm => h m (by omega)
    have h2 := h n (by omega)
    unfold cnt
    rw [h1, if_neg (by omega)]
theorem cnt_pos {B : Nat → Int} {x : Int} : ∀ {n m : Nat}, m < n → B m ≤ x → 0 < cnt B x n
  | 0, m, h, _ => by omega
  | n + 1, m, h, hb => by
    unfold cnt
    by_cases e : m = n
    · subst e; rw [if_pos hb]; omega
    · have := cnt_pos (n := n) (m := m) (by omega) hb; omega
theorem cnt_same {B C : Nat → Int} {x : Int} : ∀ {n : Nat}, (∀ m, m < n → B m = C m) → cnt B x n = cnt C x n
  | 0, _ => rfl
  | n + 1, h => by
    unfold cnt
    rw [cnt_same (n := n) fun m hm => h m (by omega), h n (by omega)]
/-- one of them is otherwise -/
theorem cnt_set {B C : Nat → Int} {x : Int} {a : Nat} : ∀ {n : Nat}, a < n → (∀ m, m ≠ a → C m = B m) → cnt C x n + (if B a ≤ x then 1 else 0) = cnt B x n + (if C a ≤ x then 1 else 0)
  | 0, h, _ => by omega
  | n + 1, h, hc => by
    unfold cnt
    by_cases e : a = n
    · subst e
      rw [cnt_same (B := C) (C := B) (n := a) fun m hm => hc m (by omega)]
      omega
    · have := cnt_set (B := B) (C := C) (x := x) (a := a) (n := n) (by omega) hc
      rw [hc n (by omega)]
      omega
theorem cnt_start (x : Int) : ∀ n : Nat, (cnt (fun m => -(m : Int)) x n : Int) ≤ (n : Int) + x ∨ cnt (fun m => -(m : Int)) x n = 0
  | 0 => .inr rfl
  | n + 1 => by
    unfold cnt
    rcases cnt_start x n with h | h <;> split
    · left; omega
    · left; omega
    · left; omega
    · right; omega

/-- however many picks on, no more are due than there are picks -/
theorem ev_room (ws : List Pk) (t : Nat) (w : Int) (ht : 1 ≤ t) (hw : 4 * (t : Int) ≤ w) : ∀ (i k : Nat), cnt (evS ws t w i).B ((i : Int) + k - w) (2 * t) ≤ k
  | 0, k => by
    rcases cnt_start ((0 : Nat) + (k : Int) - w) (2 * t) with h | h
    · show cnt (fun m => -(m : Int)) _ _ ≤ k
      omega
    · show cnt (fun m => -(m : Int)) _ _ ≤ k
      omega
  | i + 1, k => by
    have ih := ev_room ws t w ht hw i (k + 1)
    have hT := cnt_le (evS ws t w (i + 1)).B (((i + 1 : Nat) : Int) + k - w) (2 * t)
    by_cases hk : 2 * t ≤ k
    · omega
    have ei : ((i + 1 : Nat) : Int) + k - w = (i : Int) + (k + 1 : Nat) - w := by omega
    rw [ei] at hT ⊢
    generalize hx : (i : Int) + (k + 1 : Nat) - w = x at ih hT ⊢
    have hnew : ¬ ((i : Int) + 1 ≤ x) := by omega
    generalize hs : evS ws t w i = s at ih
    have hB : ∀ m, (evS ws t w (i + 1)).B m = if itm m = evX ws t w i s then (i : Int) + 1 else s.B m := fun m => by
      simp only [evS, evN, hs]
    by_cases hz : ∃ m, m < 2 * t ∧ itm m = evX ws t w i s
    · obtain ⟨a, ha, hax⟩ := hz
      have hset := cnt_set (B := s.B) (C := (evS ws t w (i + 1)).B) (x := x) (a := a) ha (fun m hm => by
        rw [hB, if_neg (fun q => hm (itm_inj (q.trans hax.symm)))])
      rw [hB a, if_pos hax, if_neg hnew] at hset
      by_cases hv : evW ws t w i s = true
      · have hlow : (i : Int) + 2 * (t : Int) - w < s.B (mn s.B (2 * t)) := by
          unfold evW at hv
          simp only [Bool.and_eq_true, decide_eq_true_eq] at hv
          exact hv.2
        have h0 : cnt s.B x (2 * t) = 0 := cnt_zero fun m hm => by
          have := mn_le s.B (2 * t) m hm
          omega
        omega
      · have hm : evX ws t w i s = itm (mn s.B (2 * t)) := by unfold evX; rw [if_neg hv]
        have ea : a = mn s.B (2 * t) := itm_inj (hax.trans hm)
        by_cases hle : s.B a ≤ x
        · rw [if_pos hle] at hset; omega
        · have h0 : cnt s.B x (2 * t) = 0 := cnt_zero fun m hm => by
            have := mn_le s.B (2 * t) m hm
            rw [← ea] at this
            omega
          omega
    · have hsame : cnt (evS ws t w (i + 1)).B x (2 * t) = cnt s.B x (2 * t) := cnt_same fun m hm => by
        rw [hB, if_neg (fun q => hz ⟨m, hm, q⟩)]
      rw [hsame]
      have hv : evW ws t w i s = true := by
        cases e : evW ws t w i s with
        | true => rfl
        | false =>
          refine absurd ⟨mn s.B (2 * t), mn_lt _ _ (by omega), ?_⟩ hz
          unfold evX
          simp [e]
      have hlow : (i : Int) + 2 * (t : Int) - w < s.B (mn s.B (2 * t)) := by
        unfold evW at hv
        simp only [Bool.and_eq_true, decide_eq_true_eq] at hv
        exact hv.2
      have h0 : cnt s.B x (2 * t) = 0 := cnt_zero fun m hm => by
        have := mn_le s.B (2 * t) m hm
        omega
      omega
theorem ev_due (ws : List Pk) (t : Nat) (w : Int) (ht : 1 ≤ t) (hw : 4 * (t : Int) ≤ w) (i m : Nat) (hm : m < 2 * t) : (i : Int) - w < (evS ws t w i).B m := by
  have h := ev_room ws t w ht hw i 0
  rcases Int.lt_or_le ((i : Int) - w) ((evS ws t w i).B m) with q | q
  · exact q
  · have := cnt_pos (B := (evS ws t w i).B) (x := (i : Int) + (0 : Nat) - w) hm (by omega)
    omega

/-- a pick is in the window from a on; in each window -/
def WinAt (l : List Pk) (x : Pk) (w a : Nat) : Prop := ∃ k, a ≤ k ∧ k < a + w ∧ l.getD k p0 = x
def Win (l : List Pk) (x : Pk) (w : Nat) : Prop := ∀ a, a + w ≤ l.length → WinAt l x w a
/-- a script is fair -/
def FairP (l : List Pk) (t w : Int) : Prop := (1 ≤ t ∧ t ≤ 8 ∧ 4 * t ≤ w) ∧ ∀ m : Nat, (m : Int) < 2 * t → Win l (itm m) w.toNat
def winB (l : List Pk) (x : Pk) (w : Nat) : Bool := (List.range (l.length + 1)).all fun a => !(decide (a + w ≤ l.length)) || (List.range w).any fun k => decide (l.getD (a + k) p0 = x)
theorem winB_iff (l : List Pk) (x : Pk) (w : Nat) : winB l x w = true ↔ Win l x w := by
  unfold winB
  rw [List.all_eq_true]
  constructor
  · intro h a ha
    have h1 := h a (List.mem_range.2 (by omega))
    rw [Bool.or_eq_true] at h1
    rcases h1 with h1 | h1
    · simp [ha] at h1
    · obtain ⟨k, hk, e⟩ := List.any_eq_true.1 h1
      exact ⟨a + k, by omega, by have := List.mem_range.1 hk; omega, of_decide_eq_true e⟩
  · intro h a ha
    rw [Bool.or_eq_true]
    by_cases q : a + w ≤ l.length
    · obtain ⟨k, h1, h2, h3⟩ := h a q
      exact .inr (List.any_eq_true.2 ⟨k - a, List.mem_range.2 (by omega), decide_eq_true (by rw [show a + (k - a) = k by omega]; exact h3)⟩)
    · exact .inl (by simp [q])
theorem winB_true {l : List Pk} {x : Pk} {w : Nat} (h : Win l x w) : winB l x w = true := (winB_iff l x w).2 h
theorem winB_is {l : List Pk} {x : Pk} {w : Nat} (h : winB l x w = true) : Win l x w := (winB_iff l x w).1 h
theorem winB_false {l : List Pk} {x : Pk} {w : Nat} (h : ¬ Win l x w) : winB l x w = false := by
  cases e : winB l x w with
  | false => rfl
  | true => exact absurd (winB_is e) h
theorem winB_not {l : List Pk} {x : Pk} {w : Nat} (h : winB l x w = false) : ¬ Win l x w := fun q => by rw [winB_true q] at h; cases h
def fairB (l : List Pk) (t w : Int) : Bool := decide (1 ≤ t ∧ t ≤ 8 ∧ 4 * t ≤ w) && (List.range (2 * t).toNat).all fun m => winB l (itm m) w.toNat
theorem fairB_true {l : List Pk} {t w : Int} (h : FairP l t w) : fairB l t w = true := by
  unfold fairB
  rw [Bool.and_eq_true, List.all_eq_true]
  exact ⟨decide_eq_true h.1, fun m hm => winB_true (h.2 m (by have := List.mem_range.1 hm; omega))⟩
theorem fairB_false {l : List Pk} {t w : Int} (h : ¬ FairP l t w) : fairB l t w = false := by
  cases e : fairB l t w with
  | false => rfl
  | true =>
    refine absurd ?_ h
    unfold fairB at e
    rw [Bool.and_eq_true, List.all_eq_true] at e
    exact ⟨of_decide_eq_true e.1, fun m hm => winB_is (e.2 m (List.mem_range.2 (by omega)))⟩

/-- an even script is fair -/
theorem ev_win (ws : List Pk) (t : Nat) (w : Nat) (ht : 1 ≤ t) (hw : 4 * t ≤ w) (n m : Nat) (hm : m < 2 * t) : Win (evL ws t w n) (itm m) w := by
  intro a ha
  rw [evL_len] at ha
  have h := ev_due ws t w ht (by omega) (a + w) m hm
  rcases evS_last ws t w (a + w) m with q | ⟨j, h1, h2, h3⟩
  · omega
  · refine ⟨j, by omega, by omega, ?_⟩
    rw [evL_get _ _ _ _ _ (by omega)]
    exact h3
theorem ev_fair (ws : List Pk) (t : Nat) (w : Nat) (ht : 1 ≤ t) (h8 : t ≤ 8) (hw : 4 * t ≤ w) (n : Nat) : FairP (evL ws t w n) t w :=
  ⟨⟨by omega, by omega, by omega⟩, fun m hm => by rw [Int.toNat_natCast]; exact ev_win ws t w ht hw n m (by omega)⟩
/-- wider windows; pieces; fewer threads -/
theorem Win.wide {l : List Pk} {x : Pk} {w v : Nat} (h : Win l x w) (hv : w ≤ v) : Win l x v := fun a ha => by
  obtain ⟨k, h1, h2, h3⟩ := h a (by omega)
  exact ⟨k, h1, by omega, h3⟩
theorem Win.piece {l : List Pk} {x : Pk} {w : Nat} (h : Win l x w) (a n : Nat) : Win ((l.drop a).take n) x w := fun b hb => by
  rw [List.length_take, List.length_drop] at hb
  by_cases h0 : w = 0
  · subst h0
    obtain ⟨k, h1, h2, h3⟩ := h 0 (by omega)
    omega
  obtain ⟨k, h1, h2, h3⟩ := h (a + b) (by omega)
  refine ⟨k - a, by omega, by omega, ?_⟩
  rw [← h3, List.getD_eq_getElem?_getD, List.getD_eq_getElem?_getD, List.getElem?_take, if_pos (by omega), List.getElem?_drop, show a + (k - a) = k by omega]
theorem FairP.wide {l : List Pk} {t w v : Int} (h : FairP l t w) (hv : w ≤ v) : FairP l t v :=
  ⟨⟨h.1.1, h.1.2.1, by have := h.1; omega⟩, fun m hm => (h.2 m hm).wide (by omega)⟩
theorem FairP.piece {l : List Pk} {t w : Int} (h : FairP l t w) (a n : Nat) : FairP ((l.drop a).take n) t w := ⟨h.1, fun m hm => (h.2 m hm).piece a n⟩
theorem FairP.fewer {l : List Pk} {t w : Int} (h : FairP l t w) (ht : 2 ≤ t) : FairP l (t - 1) w :=
  ⟨⟨by omega, by have := h.1; omega, by have := h.1; omega⟩, fun m hm => h.2 m (by omega)⟩

/-- how many misses there are at the end of the first k -/
structure Miss (l : List Pk) (x : Pk) (w k m : Nat) : Prop where
  le : m ≤ k
  lt : m < w
  not : ∀ j, k - m ≤ j → j < k → l.getD j p0 ≠ x
  is : m < k → l.getD (k - m - 1) p0 = x
  win : ∀ a, a + w ≤ k → WinAt l x w a
theorem Miss.start (l : List Pk) (x : Pk) {w : Nat} (h : 0 < w) : Miss l x w 0 0 := ⟨by omega, h, fun j _ _ => by omega, fun q => by omega, fun a ha => by omega⟩
theorem Miss.hit {l : List Pk} {x : Pk} {w k m : Nat} (h : Miss l x w k m) (hx : l.getD k p0 = x) : Miss l x w (k + 1) 0 := by
  have := h.lt
  refine ⟨by omega, by omega, fun j _ _ => by omega, fun _ => by simpa using hx, fun a ha => ?_⟩
  by_cases q : a + w ≤ k
  · exact h.win a q
  · exact ⟨k, by omega, by omega, hx⟩
theorem Miss.miss {l : List Pk} {x : Pk} {w k m : Nat} (h : Miss l x w k m) (hx : l.getD k p0 ≠ x) (hm : m + 1 ≠ w) : Miss l x w (k + 1) (m + 1) := by
  have h1 := h.lt
  have h2 := h.le
  refine ⟨by omega, by omega, fun j hj hk => ?_, fun q => ?_, fun a ha => ?_⟩
  · by_cases e : j = k
    · subst e; exact hx
    · exact h.not j (by omega) (by omega)
  · rw [show k + 1 - (m + 1) - 1 = k - m - 1 by omega]
    exact h.is (by omega)
  · by_cases q : a + w ≤ k
    · exact h.win a q
    · exact ⟨k - m - 1, by omega, by omega, h.is (by omega)⟩
theorem Miss.end {l : List Pk} {x : Pk} {w m : Nat} (h : Miss l x w l.length m) : Win l x w := h.win
theorem Miss.fail {l : List Pk} {x : Pk} {w k m : Nat} (h : Miss l x w k m) (hx : l.getD k p0 ≠ x) (hm : m + 1 = w) (hk : k < l.length) : ¬ Win l x w := by
  intro q
  have h2 := h.le
  obtain ⟨j, h3, h4, h5⟩ := q (k - m) (by omega)
  by_cases e : j = k
  · subst e; exact hx h5
  · exact h.not j (by omega) (by omega) h5

/-- what the heap holds is what is due -/
structure Rel (A : Nat → Du) (B : Nat → Int) (T : Nat) : Prop where
  con : ∀ x, Con A T x ↔ ∃ m, m < T ∧ x = ⟨(itm m).1, (itm m).2, B m⟩
  inj : Inj A T
  heap : Heap A T
theorem Rel.front {A : Nat → Du} {B : Nat → Int} {T : Nat} (h : Rel A B T) (hT : 0 < T) (hB : ∀ a b, B a = B b → a = b) : A 0 = ⟨(itm (mn B T)).1, (itm (mn B T)).2, B (mn B T)⟩ := by
  obtain ⟨m, hm, e⟩ := (h.con (A 0)).1 ⟨0, hT, rfl⟩
  obtain ⟨k, hk, e2⟩ := (h.con _).2 ⟨mn B T, mn_lt B T hT, rfl⟩
  have h1 := h.heap.first k hk
  have h2 := mn_le B T m hm
  rw [e, e2] at h1
  have : m = mn B T := hB _ _ (Int.le_antisymm h1 h2)
  rw [e, this]
/-- one is put off, if it is one of them -/
def PutO (n : Nat) (A A' : Nat → Du) (x : Pk) (b : Int) : Prop :=
  ∀ y, Con A' n y ↔ (Con A n y ∧ ¬ (y.k = x.1 ∧ y.who = x.2)) ∨ (y = ⟨x.1, x.2, b⟩ ∧ ∃ z, Con A n z ∧ z.k = x.1 ∧ z.who = x.2)
theorem Rel.putOff {A A' : Nat → Du} {B : Nat → Int} {T : Nat} {x : Pk} {b : Int} (h : Rel A B T) (hp : PutO T A A' x b) (hi : Inj A' T) (hh : Heap A' T) : Rel A' (fun m => if itm m = x then b else B m) T := by
  refine ⟨fun y => (hp y).trans ⟨?_, ?_⟩, hi, hh⟩
  · rintro (⟨h1, h2⟩ | ⟨rfl, z, h1, h2, h3⟩)
    · obtain ⟨m, hm, rfl⟩ := (h.con y).1 h1
      refine ⟨m, hm, ?_⟩
      have : ¬ itm m = x := fun q => h2 (by rw [← q]; exact ⟨rfl, rfl⟩)
      simp [this]
    · obtain ⟨m, hm, rfl⟩ := (h.con z).1 h1
      have : itm m = x := Prod.ext h2 h3
      exact ⟨m, hm, by simp [this]⟩
  · rintro ⟨m, hm, rfl⟩
    by_cases q : itm m = x
    · right
      refine ⟨by simp [q], ⟨(itm m).1, (itm m).2, B m⟩, (h.con _).2 ⟨m, hm, rfl⟩, by rw [← q], by rw [← q]⟩
    · left
      simp only [q, if_false]
      refine ⟨(h.con _).2 ⟨m, hm, rfl⟩, fun z => q (Prod.ext z.1 z.2)⟩
end Go.Proofs.Ytokbbjpnahpeaaa
