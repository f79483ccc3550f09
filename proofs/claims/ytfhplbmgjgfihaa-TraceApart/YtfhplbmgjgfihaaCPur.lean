/-
  The document's calls, by lists; that a thread's calls, gathered event by event, are those of them that are the thread's; that what is sorted is one list. No condition but what each law names.
-/
import Derived.Test.YtfhplbmgjgfihaaCl
namespace Go.Proofs.Ytfhplbmgjgfihaa
open Go.ChangeShapes Go.WideShapes Go.ChangeAt Go.RowKit
set_option linter.unusedVariables false

/-- what becomes of a call, by the events from place i on -/
def oneF : Ca → Nat → List Ev → Ca
  | q, _, [] => q
  | q, i, x :: r =>
    if x.who = q.who then
      if x.kind = 7 then
        if x.k % 2 = 0 then q else if x.k / 2 = q.site then { q with ended := i, result := x.value } else oneF q (i + 1) r
      else if x.kind = 3 then oneF q (i + 1) r else oneF { q with inner := q.inner ++ [(i : Int)] } (i + 1) r
    else oneF q (i + 1) r
/-- the call that begins with an event -/
def begE (x : Ev) (i : Nat) : Ca := ⟨x.k / 2, x.who, i, -1, 0, []⟩
/-- an event that begins a call, of a thread -/
def beg8 (x : Ev) : Bool := x.kind == 7 && x.k % 2 == 0 && decide (0 ≤ x.who) && decide (x.who < 8)
def refF : Nat → List Ev → List Ca
  | _, [] => []
  | i, x :: r => if beg8 x = true then oneF (begE x i) (i + 1) r :: refF (i + 1) r else refF (i + 1) r

theorem oneF_who : ∀ (q : Ca) (i : Nat) (l : List Ev), (oneF q i l).who = q.who
  | q, i, [] => rfl
  | q, i, x :: r => by
    unfold oneF
    split
    · split
      · split
        · rfl
        · split
          · rfl
          · exact oneF_who q (i + 1) r
      · split
        · exact oneF_who q (i + 1) r
        · exact oneF_who _ (i + 1) r
    · exact oneF_who q (i + 1) r
theorem oneF_began : ∀ (q : Ca) (i : Nat) (l : List Ev), (oneF q i l).began = q.began
  | q, i, [] => rfl
  | q, i, x :: r => by
    unfold oneF
    split
    · split
      · split
        · rfl
        · split
          · rfl
          · exact oneF_began q (i + 1) r
      · split
        · exact oneF_began q (i + 1) r
        · exact oneF_began _ (i + 1) r
    · exact oneF_began q (i + 1) r
def cont (q : Ca) (i : Nat) (l : List Ev) : Ca := if q.ended = -1 then oneF q i l else q
theorem hearsQ_who (q : Ca) (a : Int) (x : Ev) : (hearsQ q a x).who = q.who := by
  unfold hearsQ
  split
  · rfl
  · split
    · split <;> rfl
    · rfl
theorem begB_7 {x : Ev} (h : begB x = true) : x.kind = 7 ∧ x.k % 2 = 0 := by
  simpa [begB] using h
theorem cont_step {q : Ca} {i : Nat} {x : Ev} {r : List Ev} (h : x.who = q.who) (hb : begB x = false) (he : q.ended = -1) : cont (hearsQ q i x) (i + 1) r = cont q i (x :: r) := by
  have hcont : cont q i (x :: r) = oneF q i (x :: r) := by unfold cont; rw [if_pos he]
  have hq : cont q (i + 1) r = oneF q (i + 1) r := by unfold cont; rw [if_pos he]
  rw [hcont]
  unfold oneF hearsQ
  rw [if_pos h]
  by_cases h3 : x.kind = 3
  · have h7 : ¬ x.kind = 7 := by omega
    rw [if_pos h3, if_neg h7, if_pos h3]
    exact hq
  · by_cases h7 : x.kind = 7
    · have hk : ¬ x.k % 2 = 0 := by
        intro hk
        simp [begB, h7, hk] at hb
      rw [if_neg h3, if_pos h7, if_pos h7, if_neg hk]
      by_cases hs : x.k / 2 = q.site
      · rw [if_pos hs, if_pos hs]
        unfold cont
        rw [if_neg (by show ¬ ((i : Int) = -1); omega)]
      · rw [if_neg hs, if_neg hs]
        exact hq
    · rw [if_neg h3, if_neg h7, if_neg h7, if_neg h3]
      unfold cont
      rw [if_pos (by exact he)]
def ofT (t : Int) (q : Ca) : Bool := q.who == t
theorem fold_cont (t : Int) (h0 : 0 ≤ t) (h8 : t < 8) : ∀ (l : List Ev) (i : Nat) (hl : ∀ x ∈ l, EvOk x) (q : Ca) (r : List Ca), q.who = t →
    ((plc t i l hl).foldl (stepC t) (q :: r)).reverse = r.reverse ++ [cont q i l] ++ (refF i l).filter (ofT t)
  | [], i, hl, q, r, hq => by
    simp [plc, refF, cont, oneF]
  | x :: l, i, hl, q, r, hq => by
    have hl' : ∀ y ∈ l, EvOk y := fun y hy => hl y (List.mem_cons_of_mem _ hy)
    by_cases hw : x.who = t
    · have ep : plc t i (x :: l) hl = ⟨i, x, hl x (List.mem_cons_self ..)⟩ :: plc t (i + 1) l hl' := by
        conv => lhs; unfold plc
        rw [if_pos hw]
      rw [ep, List.foldl_cons]
      cases hb : begB x with
      | true =>
        obtain ⟨k7, k2⟩ := begB_7 hb
        have e1 : stepC t (q :: r) ⟨i, x, hl x (List.mem_cons_self ..)⟩ = begE x i :: q :: r := by
          unfold stepC
          rw [if_pos hb]
          simp [begQ, begE, hw]
        have e2 : beg8 x = true := by simp [beg8, k7, k2, hw, h0, h8]
        have e3 : cont q i (x :: l) = q := by
          unfold cont
          split
          · unfold oneF
            rw [if_pos (by rw [hw, hq]), if_pos k7, if_pos k2]
          · rfl
        have e4 : cont (begE x i) (i + 1) l = oneF (begE x i) (i + 1) l := by unfold cont; rw [if_pos (show (begE x i).ended = -1 from rfl)]
        have e5 : refF i (x :: l) = oneF (begE x i) (i + 1) l :: refF (i + 1) l := by
          conv => lhs; unfold refF
          rw [if_pos e2]
        rw [e1, fold_cont t h0 h8 l (i + 1) hl' (begE x i) (q :: r) hw, e3, e4, e5, List.filter_cons, if_pos (by simp [ofT, oneF_who, begE, hw])]
        simp
      | false =>
        have e2 : beg8 x = false := by
          cases h : beg8 x with
          | false => rfl
          | true => simp [beg8] at h; simp [begB, h] at hb
        have e5 : refF i (x :: l) = refF (i + 1) l := by
          conv => lhs; unfold refF
          rw [if_neg (by rw [e2]; decide)]
        rw [e5]
        by_cases he : q.ended = -1
        · have e1 : stepC t (q :: r) ⟨i, x, hl x (List.mem_cons_self ..)⟩ = hearsQ q i x :: r := by
            unfold stepC
            rw [if_neg (by rw [hb]; decide)]
            simp [he]
          rw [e1, fold_cont t h0 h8 l (i + 1) hl' (hearsQ q i x) r (by rw [hearsQ_who]; exact hq), cont_step (by rw [hw, hq]) hb he]
        · have e1 : stepC t (q :: r) ⟨i, x, hl x (List.mem_cons_self ..)⟩ = q :: r := by
            unfold stepC
            rw [if_neg (by rw [hb]; decide)]
            simp [he]
          rw [e1, fold_cont t h0 h8 l (i + 1) hl' q r hq]
          simp [cont, he]
    · have ep : plc t i (x :: l) hl = plc t (i + 1) l hl' := by
        conv => lhs; unfold plc
        rw [if_neg hw]
      have e3 : cont q i (x :: l) = cont q (i + 1) l := by
        unfold cont
        split
        · conv => lhs; unfold oneF
          rw [if_neg (by rw [hq]; exact hw)]
        · rfl
      have e5 : (refF i (x :: l)).filter (ofT t) = (refF (i + 1) l).filter (ofT t) := by
        conv => lhs; unfold refF
        split
        · rw [List.filter_cons, if_neg (by simp [ofT, oneF_who, begE, hw])]
        · rfl
      rw [ep, fold_cont t h0 h8 l (i + 1) hl' q r hq, e3, e5]
theorem fold_nil (t : Int) (h0 : 0 ≤ t) (h8 : t < 8) : ∀ (l : List Ev) (i : Nat) (hl : ∀ x ∈ l, EvOk x),
    (callsR t (plc t i l hl)).reverse = (refF i l).filter (ofT t)
  | [], i, hl => by simp [plc, refF, callsR]
  | x :: l, i, hl => by
    have hl' : ∀ y ∈ l, EvOk y := fun y hy => hl y (List.mem_cons_of_mem _ hy)
    by_cases hw : x.who = t
    · have ep : plc t i (x :: l) hl = ⟨i, x, hl x (List.mem_cons_self ..)⟩ :: plc t (i + 1) l hl' := by
        conv => lhs; unfold plc
        rw [if_pos hw]
      unfold callsR
      rw [ep, List.foldl_cons]
      cases hb : begB x with
      | true =>
        obtain ⟨k7, k2⟩ := begB_7 hb
        have e1 : stepC t [] ⟨i, x, hl x (List.mem_cons_self ..)⟩ = [begE x i] := by
          unfold stepC
          rw [if_pos hb]
          simp [begQ, begE, hw]
        have e2 : beg8 x = true := by simp [beg8, k7, k2, hw, h0, h8]
        have e4 : cont (begE x i) (i + 1) l = oneF (begE x i) (i + 1) l := by unfold cont; rw [if_pos (show (begE x i).ended = -1 from rfl)]
        have e5 : refF i (x :: l) = oneF (begE x i) (i + 1) l :: refF (i + 1) l := by
          conv => lhs; unfold refF
          rw [if_pos e2]
        rw [e1, fold_cont t h0 h8 l (i + 1) hl' (begE x i) [] hw, e4, e5, List.filter_cons, if_pos (by simp [ofT, oneF_who, begE, hw])]
        simp
      | false =>
        have e2 : beg8 x = false := by
          cases h : beg8 x with
          | false => rfl
          | true => simp [beg8] at h; simp [begB, h] at hb
        have e5 : refF i (x :: l) = refF (i + 1) l := by
          conv => lhs; unfold refF
          rw [if_neg (by rw [e2]; decide)]
        have e1 : stepC t [] ⟨i, x, hl x (List.mem_cons_self ..)⟩ = [] := by
          unfold stepC
          rw [if_neg (by rw [hb]; decide)]
        rw [e5, e1]
        exact fold_nil t h0 h8 l (i + 1) hl'
    · have ep : plc t i (x :: l) hl = plc t (i + 1) l hl' := by
        conv => lhs; unfold plc
        rw [if_neg hw]
      have e5 : (refF i (x :: l)).filter (ofT t) = (refF (i + 1) l).filter (ofT t) := by
        conv => lhs; unfold refF
        split
        · rw [List.filter_cons, if_neg (by simp [ofT, oneF_who, begE, hw])]
        · rfl
      rw [ep, e5]
      exact fold_nil t h0 h8 l (i + 1) hl'

/-- each thread's, one thread behind the other, are all -/
theorem parts_perm : ∀ (n : Nat) (L : List Ca), ((List.range n).flatMap fun (t : Nat) => L.filter (ofT (t : Int))).Perm (L.filter fun q => decide (0 ≤ q.who) && decide (q.who < (n : Int)))
  | 0, L => by
    have : L.filter (fun q => decide (0 ≤ q.who) && decide (q.who < ((0 : Nat) : Int))) = [] := by
      rw [List.filter_eq_nil_iff]
      intro q _ h
      simp at h
      omega
    rw [this]
    exact List.Perm.refl _
  | n + 1, L => by
    have ih := parts_perm n L
    rw [List.range_succ, List.flatMap_append, List.flatMap_cons, List.flatMap_nil, List.append_nil]
    have e : (L.filter (fun q => decide (0 ≤ q.who) && decide (q.who < (n : Int))) ++ L.filter (ofT n)).Perm (L.filter fun q => decide (0 ≤ q.who) && decide (q.who < ((n + 1 : Nat) : Int))) := by
      clear ih
      induction L with
      | nil => exact List.Perm.refl _
      | cons q L ih =>
        rw [List.filter_cons, List.filter_cons, List.filter_cons]
        by_cases h1 : 0 ≤ q.who
        · by_cases h2 : q.who < n
          · rw [if_pos (by simp [h1, h2]), if_neg (by simp [ofT]; omega), if_pos (by simp [h1]; omega)]
            exact List.Perm.cons _ ih
          · by_cases h3 : q.who = n
            · rw [if_neg (by simp; omega), if_pos (by simp [ofT, h3]), if_pos (by simp [h1]; omega)]
              exact List.perm_middle.trans (List.Perm.cons _ ih)
            · rw [if_neg (by simp; omega), if_neg (by simp [ofT, h3]), if_neg (by simp; omega)]
              exact ih
        · rw [if_neg (by simp [h1]), if_neg (by simp [ofT]; omega), if_neg (by simp [h1])]
          exact ih
    exact (ih.append_right _).trans e
theorem refF_who : ∀ (i : Nat) (l : List Ev), ∀ q ∈ refF i l, 0 ≤ q.who ∧ q.who < 8
  | i, [], q, h => by simp [refF] at h
  | i, x :: l, q, h => by
    unfold refF at h
    split at h
    · rename_i hb
      rcases List.mem_cons.1 h with rfl | h
      · rw [oneF_who]
        simp [beg8] at hb
        exact ⟨hb.1.2, hb.2⟩
      · exact refF_who (i + 1) l q h
    · exact refF_who (i + 1) l q h
theorem refF_lo : ∀ (i : Nat) (l : List Ev), ∀ q ∈ refF i l, (i : Int) ≤ q.began
  | i, [], q, h => by simp [refF] at h
  | i, x :: l, q, h => by
    unfold refF at h
    split at h
    · rcases List.mem_cons.1 h with rfl | h
      · rw [oneF_began]
        exact Int.le_refl _
      · have := refF_lo (i + 1) l q h; omega
    · have := refF_lo (i + 1) l q h; omega
theorem refF_up : ∀ (i : Nat) (l : List Ev), (refF i l).Pairwise fun a b => a.began < b.began
  | i, [] => List.Pairwise.nil
  | i, x :: l => by
    unfold refF
    split
    · refine List.Pairwise.cons (fun q hq => ?_) (refF_up (i + 1) l)
      rw [oneF_began]
      have := refF_lo (i + 1) l q hq
      show (i : Int) < _
      omega
    · exact refF_up (i + 1) l
/-- what is sorted by a number that no two have is one list -/
theorem sorted_one : ∀ (B A : List Ca), A.Perm B → (B.Pairwise fun a b => a.began < b.began) → (A.Pairwise fun a b => ¬ b.began < a.began) → A = B
  | [], A, hp, _, _ => hp.eq_nil
  | b :: B, [], hp, _, _ => by have := hp.symm.eq_nil; cases this
  | b :: B, a :: A, hp, hB, hA => by
    have h1 : a ∈ b :: B := hp.mem_iff.1 (List.mem_cons_self ..)
    have h2 : b ∈ a :: A := hp.mem_iff.2 (List.mem_cons_self ..)
    have e : a = b := by
      rcases List.mem_cons.1 h1 with e | h1
      · exact e
      · rcases List.mem_cons.1 h2 with e | h2
        · exact e.symm
        · have q1 := List.rel_of_pairwise_cons hB h1
          have q2 := List.rel_of_pairwise_cons hA h2
          exact absurd q1 q2
    subst e
    rw [sorted_one B A (List.Perm.cons_inv hp) (List.Pairwise.of_cons hB) (List.Pairwise.of_cons hA)]
/-- each thread's calls, sorted, are the document's -/
theorem sorted_ref (l : List Ev) (hl : ∀ x ∈ l, EvOk x) (A : List Ca) (hp : A.Perm ((List.range 8).flatMap fun (t : Nat) => (callsR (t : Int) (plc t 0 l hl)).reverse)) (hA : A.Pairwise fun a b => ¬ b.began < a.began) : A = refF 0 l := by
  have e : ((List.range 8).flatMap fun (t : Nat) => (callsR (t : Int) (plc t 0 l hl)).reverse) = (List.range 8).flatMap fun (t : Nat) => (refF 0 l).filter (ofT (t : Int)) := by
    rw [List.flatMap_def, List.flatMap_def]
    congr 1
    apply List.map_congr_left
    intro t ht
    rw [List.mem_range] at ht
    exact fold_nil t (by omega) (by omega) l 0 hl
  rw [e] at hp
  have q := hp.trans (parts_perm 8 (refF 0 l))
  rw [List.filter_eq_self.2 (fun x hx => by have := refF_who 0 l x hx; simp; omega)] at q
  exact sorted_one _ _ q (refF_up 0 l) hA
end Go.Proofs.Ytfhplbmgjgfihaa
