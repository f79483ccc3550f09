/-
  A thread's calls lie apart, and their inner places within: said of the document's calls. No condition but what each law names.
-/
import Derived.Test.YtfhplbmgjgfihaaCPur
namespace Go.Proofs.Ytfhplbmgjgfihaa
open Go.ChangeShapes Go.WideShapes Go.ChangeAt Go.RowKit
set_option linter.unusedVariables false

/-- a call is over where its thread's next one begins -/
theorem oneF_cut (p : Nat) (x : Ev) (h2 : begB x = true) : ∀ (q : Ca) (i : Nat) (l : List Ev), i ≤ p → l[p - i]? = some x → x.who = q.who → (∀ y ∈ q.inner, y < (p : Int)) → q.ended < (p : Int) →
    (∀ y ∈ (oneF q i l).inner, y < (p : Int)) ∧ (oneF q i l).ended < (p : Int)
  | q, i, [], hp, hx, hw, hin, hen => by simp at hx
  | q, i, y :: r, hp, hx, hw, hin, hen => by
    rcases Nat.eq_or_lt_of_le hp with rfl | hp
    · rw [Nat.sub_self, List.getElem?_cons_zero] at hx
      obtain rfl := Option.some.inj hx
      obtain ⟨k7, k2⟩ := begB_7 h2
      unfold oneF
      rw [if_pos hw, if_pos k7, if_pos k2]
      exact ⟨hin, hen⟩
    · have hx' : r[p - (i + 1)]? = some x := by
        obtain ⟨m, hm⟩ : ∃ m, p - i = m + 1 := ⟨p - i - 1, by omega⟩
        rw [hm, List.getElem?_cons_succ] at hx
        rw [show p - (i + 1) = m by omega]
        exact hx
      unfold oneF
      split
      · split
        · split
          · exact ⟨hin, hen⟩
          · split
            · exact ⟨hin, by show (i : Int) < p; omega⟩
            · exact oneF_cut p x h2 q (i + 1) r hp hx' hw hin hen
        · split
          · exact oneF_cut p x h2 q (i + 1) r hp hx' hw hin hen
          · refine oneF_cut p x h2 _ (i + 1) r hp hx' hw (fun z hz => ?_) hen
            rcases List.mem_append.1 hz with hz | hz
            · exact hin z hz
            · rw [List.mem_singleton.1 hz]; omega
      · exact oneF_cut p x h2 q (i + 1) r hp hx' hw hin hen
/-- where the inner places of a call lie -/
theorem oneF_in (W : Int → Prop) : ∀ (q : Ca) (i : Nat) (l : List Ev), (∀ (j : Nat) x, l[j]? = some x → x.who = q.who → W ((i + j : Nat) : Int)) → q.ended = -1 → q.began < (i : Int) → (∀ y ∈ q.inner, q.began < y ∧ y < (i : Int) ∧ W y) →
    ∀ y ∈ (oneF q i l).inner, q.began < y ∧ y < ((i + l.length : Nat) : Int) ∧ W y ∧ (0 ≤ (oneF q i l).ended → y < (oneF q i l).ended)
  | q, i, [], hW, he, hb, hin, y, hy => by
    have := hin y hy
    exact ⟨this.1, by simpa using this.2.1, this.2.2, fun h => by unfold oneF at h; omega⟩
  | q, i, x :: r, hW, he, hb, hin, y, hy => by
    have hW' : ∀ (j : Nat) z, r[j]? = some z → z.who = q.who → W ((i + 1 + j : Nat) : Int) := fun j z hz hw => by
      have := hW (j + 1) z (by rw [List.getElem?_cons_succ]; exact hz) hw
      rw [show i + 1 + j = i + (j + 1) by omega]
      exact this
    have hin' : ∀ y ∈ q.inner, q.began < y ∧ y < ((i + 1 : Nat) : Int) ∧ W y := fun y hy => by
      obtain ⟨h1, h2, h3⟩ := hin y hy
      exact ⟨h1, by omega, h3⟩
    have next : y ∈ (oneF q (i + 1) r).inner → q.began < y ∧ y < ((i + (x :: r).length : Nat) : Int) ∧ W y ∧ (0 ≤ (oneF q (i + 1) r).ended → y < (oneF q (i + 1) r).ended) := fun hy => by
      obtain ⟨h1, h2, h3, h4⟩ := oneF_in W q (i + 1) r hW' he (by omega) hin' y hy
      exact ⟨h1, by rw [List.length_cons]; omega, h3, h4⟩
    unfold oneF at hy ⊢
    split
    · rename_i hw
      rw [if_pos hw] at hy
      split
      · rename_i h7
        rw [if_pos h7] at hy
        split
        · rename_i h2
          rw [if_pos h2] at hy
          obtain ⟨z1, z2, z3⟩ := hin y hy
          exact ⟨z1, by rw [List.length_cons]; omega, z3, fun h => by omega⟩
        · rename_i h2
          rw [if_neg h2] at hy
          split
          · rename_i hs
            rw [if_pos hs] at hy
            obtain ⟨z1, z2, z3⟩ := hin y hy
            exact ⟨z1, by rw [List.length_cons]; omega, z3, fun _ => z2⟩
          · rename_i hs
            rw [if_neg hs] at hy
            exact next hy
      · rename_i h7
        rw [if_neg h7] at hy
        split
        · rename_i h3
          rw [if_pos h3] at hy
          exact next hy
        · rename_i h3
          rw [if_neg h3] at hy
          obtain ⟨z1, z2, z3, z4⟩ := oneF_in W { q with inner := q.inner ++ [(i : Int)] } (i + 1) r hW' he (by show q.began < _; omega) (fun y hy => by
            rcases List.mem_append.1 hy with hy | hy
            · exact hin' y hy
            · rw [List.mem_singleton.1 hy]
              exact ⟨hb, by omega, by have := hW 0 x rfl hw; simpa using this⟩) y hy
          exact ⟨z1, by rw [List.length_cons]; omega, z3, z4⟩
    · rename_i hw
      rw [if_neg hw] at hy
      exact next hy
theorem refF_mem : ∀ (i : Nat) (l : List Ev), ∀ b ∈ refF i l, ∃ p x, b.began = ((i + p : Nat) : Int) ∧ l[p]? = some x ∧ begB x = true ∧ x.who = b.who
  | i, [], b, h => by simp [refF] at h
  | i, x :: l, b, h => by
    unfold refF at h
    have next : b ∈ refF (i + 1) l → ∃ p y, b.began = ((i + p : Nat) : Int) ∧ (x :: l)[p]? = some y ∧ begB y = true ∧ y.who = b.who := fun h => by
      obtain ⟨p, y, h1, h2, h3, h4⟩ := refF_mem (i + 1) l b h
      exact ⟨p + 1, y, by rw [h1]; congr 1; omega, h2, h3, h4⟩
    split at h
    · rename_i hb
      rcases List.mem_cons.1 h with rfl | h
      · refine ⟨0, x, by rw [oneF_began]; rfl, rfl, ?_, by rw [oneF_who]; rfl⟩
        simp [beg8] at hb
        simp [begB, hb]
      · exact next h
    · exact next h
def apartQ (a b : Ca) : Prop := a.who = b.who → a.ended ≤ b.began ∧ ∀ y ∈ a.inner, y ≤ b.began
theorem refF_apart : ∀ (i : Nat) (l : List Ev), (refF i l).Pairwise apartQ
  | i, [] => List.Pairwise.nil
  | i, x :: l => by
    unfold refF
    split
    · refine List.Pairwise.cons (fun b hb hw => ?_) (refF_apart (i + 1) l)
      obtain ⟨p, y, h1, h2, h3, h4⟩ := refF_mem (i + 1) l b hb
      rw [oneF_who] at hw
      have q := oneF_cut (i + 1 + p) y h3 (begE x i) (i + 1) l (by omega) (by rw [show i + 1 + p - (i + 1) = p by omega]; exact h2) (by rw [h4, ← hw]) (fun y hy => by cases hy) (by show (-1 : Int) < _; omega)
      rw [h1]
      exact ⟨Int.le_of_lt q.2, fun y hy => Int.le_of_lt (q.1 y hy)⟩
    · exact refF_apart (i + 1) l
theorem refF_in : ∀ (i : Nat) (l : List Ev) (W : Int → Int → Prop), (∀ (j : Nat) x, l[j]? = some x → W x.who ((i + j : Nat) : Int)) → ∀ b ∈ refF i l, ∀ y ∈ b.inner, b.began < y ∧ y < ((i + l.length : Nat) : Int) ∧ W b.who y ∧ (0 ≤ b.ended → y < b.ended)
  | i, [], W, hW, b, h => by simp [refF] at h
  | i, x :: l, W, hW, b, h => by
    have hW' : ∀ (j : Nat) z, l[j]? = some z → W z.who ((i + 1 + j : Nat) : Int) := fun j z hz => by
      have := hW (j + 1) z (by rw [List.getElem?_cons_succ]; exact hz)
      rw [show i + 1 + j = i + (j + 1) by omega]
      exact this
    unfold refF at h
    have next : b ∈ refF (i + 1) l → ∀ y ∈ b.inner, b.began < y ∧ y < ((i + (x :: l).length : Nat) : Int) ∧ W b.who y ∧ (0 ≤ b.ended → y < b.ended) := fun h y hy => by
      obtain ⟨h1, h2, h3, h4⟩ := refF_in (i + 1) l W hW' b h y hy
      exact ⟨h1, by rw [List.length_cons]; omega, h3, h4⟩
    split at h
    · rcases List.mem_cons.1 h with rfl | h
      · intro y hy
        have q := oneF_in (W x.who) (begE x i) (i + 1) l (fun j z hz hw => by rw [← show z.who = x.who from hw]; exact hW' j z hz) rfl (by show (i : Int) < _; omega) (fun y hy => by cases hy) y hy
        rw [oneF_began, oneF_who]
        exact ⟨q.1, by have := q.2.1; rw [List.length_cons]; omega, q.2.2.1, q.2.2.2⟩
      · exact next h
    · exact next h
/-- what TraceApart looks at -/
theorem refF_whole (l : List Ev) (b : Ca) (hb : b ∈ refF 0 l) : 0 ≤ b.began ∧ ∀ y ∈ b.inner, b.began < y ∧ y < (l.length : Int) ∧ (l.getD y.toNat ev0).who = b.who ∧ (0 ≤ b.ended → y < b.ended) := by
  obtain ⟨p, x, h1, -⟩ := refF_mem 0 l b hb
  have h0 : 0 ≤ b.began := by rw [h1]; omega
  refine ⟨h0, fun y hy => ?_⟩
  obtain ⟨z1, z2, z3, z4⟩ := refF_in 0 l (fun t y => (l.getD y.toNat ev0).who = t) (fun j x hx => by
    rw [Nat.zero_add, Int.toNat_natCast, List.getD_eq_getElem?_getD, hx]
    rfl) b hb y hy
  exact ⟨z1, by simpa using z2, z3, z4⟩
end Go.Proofs.Ytfhplbmgjgfihaa
