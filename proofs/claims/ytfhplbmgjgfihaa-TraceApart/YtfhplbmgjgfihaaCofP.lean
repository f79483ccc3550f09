/-
  A thread's calls as a row in memory, while they are gathered: the inner places of each lie apart from those of the others. No condition but what each law names.
-/
import Derived.Test.YtfhplbmgjgfihaaHear
import Derived.Test.YtfhplbmgjgfihaaOutW
namespace Go.Proofs.Ytfhplbmgjgfihaa
open Go.ChangeShapes Go.WideShapes Go.ChangeAt Go.RowKit
set_option linter.unusedVariables false

/-- rows abide what befalls blocks of no cells -/
theorem own_own {A B : World} {row : Option Nat} {B0 base sz n : Nat} {t : TypeId} {v : Value} {xs : List Value} (h : A.ownsRow base t sz v n xs) (hg : A.grownBy B row) (hr : ∀ r, row = some r → B0 ≤ r ∧ ∃ o : Obj, A.heap[r]? = some o ∧ o.isCells = false) : B.ownsRow base t sz v n xs :=
  own_move h fun k C _ _ hk => Eq.trans (has_own hk hg hr) (Eq.symm hk)
theorem keeps_kp {e : List Nat} {W W' : World} (k : Kp e W W') (he : ∀ x ∈ e, ∃ C t, Has W x C t) : KeepsOthers W W' :=
  ⟨k.size, fun i o hi ho => (k.block i (Array.getElem?_eq_some_iff.1 hi).1 (fun q => by
    obtain ⟨C, t, hC⟩ := he i q
    have z := (show W.heap[i]? = _ from hC).symm.trans hi
    cases z
    cases ho)).trans hi⟩
theorem stay_kp {e : List Nat} {W W' : World} {g : Nat} (k : Kp e W W') (hg : g < W.heap.size) (hn : g ∉ e) : Stay g W W' := k.block g hg hn

/-- the inner places of each call lie apart -/
def InnP (W : World) (base : Nat) (cs : List Cl) : Prop :=
  cs = [] ∨ ∃ ds c m, cs = ds ++ [c] ∧ base ≤ m ∧ m ≤ W.heap.size ∧ (∀ d ∈ ds, NumsO W base (slI d) d.q.inner ∧ ∀ g, (slI d).ownBlock = some g → g < m) ∧ NumsO W m (slI c) c.q.inner
theorem InnP.later {W W' : World} {base : Nat} {cs : List Cl} (h : InnP W base cs) (g : Gr W W') : InnP W' base cs := by
  rcases h with h | ⟨ds, c, m, h1, h2, h3, h4, h5⟩
  · exact .inl h
  · exact .inr ⟨ds, c, m, h1, h2, Nat.le_trans h3 g.size, fun d hd => ⟨own_later (h4 d hd).1 g, (h4 d hd).2⟩, own_later h5 g⟩
theorem InnP.own {A B : World} {row : Option Nat} {B0 base : Nat} {cs : List Cl} (h : InnP A base cs) (hg : A.grownBy B row) (hr : ∀ r, row = some r → B0 ≤ r ∧ ∃ o : Obj, A.heap[r]? = some o ∧ o.isCells = false) : InnP B base cs := by
  rcases h with h | ⟨ds, c, m, h1, h2, h3, h4, h5⟩
  · exact .inl h
  · exact .inr ⟨ds, c, m, h1, h2, Nat.le_trans h3 hg.size, fun d hd => ⟨own_own (h4 d hd).1 hg hr, (h4 d hd).2⟩, own_own h5 hg hr⟩
/-- blocks of another type are written -/
theorem InnP.kept {W W' : World} {base : Nat} {cs : List Cl} {e : List Nat} (h : InnP W base cs) (k : Kp e W W') (he : ∀ x ∈ e, ∃ C t, Has W x C t ∧ t ≠ 3) : InnP W' base cs := by
  have q : ∀ {b : Nat} {v : Value} {l : List Int}, NumsO W b v l → NumsO W' b v l := fun {b v l} hv => own_kept hv k (fun g hg hm => by
    obtain ⟨C, t, hC, ht⟩ := he g hm
    obtain ⟨D, hD⟩ := own_has hv (mem_ob.2 hg)
    exact hC.apart hD ht rfl)
  rcases h with h | ⟨ds, c, m, h1, h2, h3, h4, h5⟩
  · exact .inl h
  · exact .inr ⟨ds, c, m, h1, h2, Nat.le_trans h3 k.size, fun d hd => ⟨q (h4 d hd).1, (h4 d hd).2⟩, q h5⟩
theorem own_ltb {w : World} {base sz n g : Nat} {t : TypeId} {v : Value} {xs : List Value} (h : w.ownsRow base t sz v n xs) (hg : v.ownBlock = some g) : base ≤ g ∧ g < w.heap.size := by
  obtain ⟨C, hC⟩ := own_has h (mem_ob.2 hg)
  exact ⟨(h.lt g hg).1, hC.lt⟩
/-- one call more, that has no inner place yet -/
theorem InnP.push {W : World} {base : Nat} {cs : List Cl} (h : InnP W base cs) (hb : base ≤ W.heap.size) (q : Ca) (hq : q.inner = []) : InnP W base (cs ++ [⟨q, none, 0⟩]) := by
  refine .inr ⟨cs, _, W.heap.size, rfl, hb, Nat.le_refl _, ?_, by show World.ownsRow _ _ _ _ (.slice none q.inner.length 0) q.inner.length (flatOf numL q.inner); rw [hq]; exact own_nil _ _ _ _⟩
  rcases h with rfl | ⟨ds, c, m, rfl, h2, h3, h4, h5⟩
  · intro d hd; cases hd
  · intro d hd
    rcases List.mem_append.1 hd with hd | hd
    · exact ⟨(h4 d hd).1, fun g hg => Nat.lt_of_lt_of_le ((h4 d hd).2 g hg) h3⟩
    · rw [List.mem_singleton.1 hd]
      exact ⟨own_lower h5 h2, fun g hg => (own_ltb h5 hg).2⟩
/-- each call's inner places, as they are read -/
theorem InnP.each {W : World} {base : Nat} {cs : List Cl} (h : InnP W base cs) : ∀ c ∈ cs, NumsO W base (slI c) c.q.inner := by
  rcases h with rfl | ⟨ds, c, m, rfl, h2, h3, h4, h5⟩
  · intro d hd; cases hd
  · intro d hd
    rcases List.mem_append.1 hd with hd | hd
    · exact (h4 d hd).1
    · rw [List.mem_singleton.1 hd]
      exact own_lower h5 h2

/-- what is behind an event, by lists -/
theorem stepC_len (t : Int) (qs : List Ca) (p : Pl) : (stepC t qs p).length ≤ qs.length + 1 := by
  unfold stepC
  split
  · simp
  · split
    · simp
    · split <;> simp
theorem callsR_len (t : Int) (l : List Pl) : (callsR t l).length ≤ l.length := by
  have : ∀ (l : List Pl) (qs : List Ca), (l.foldl (stepC t) qs).length ≤ qs.length + l.length := by
    intro l
    induction l with
    | nil => intro qs; simp
    | cons p l ih =>
      intro qs
      have h1 := ih (stepC t qs p)
      have h2 := stepC_len t qs p
      simp only [List.foldl_cons, List.length_cons]
      omega
  have := this l []
  simpa [callsR] using this
theorem hearsQ_inner (q : Ca) (at' : Int) (x : Ev) : (hearsQ q at' x).inner.length ≤ q.inner.length + 1 := by
  unfold hearsQ
  split
  · omega
  · split
    · split <;> simp
    · simp
theorem callsR_inner (t : Int) (l : List Pl) : ∀ q ∈ callsR t l, q.inner.length ≤ l.length := by
  have : ∀ (l : List Pl) (qs : List Ca) (n : Nat), (∀ q ∈ qs, q.inner.length ≤ n) → ∀ q ∈ l.foldl (stepC t) qs, q.inner.length ≤ n + l.length := by
    intro l
    induction l with
    | nil => intro qs n h q hq; exact h q hq
    | cons p l ih =>
      intro qs n h q1 hq1
      have := ih (stepC t qs p) (n + 1) (by
        intro q hq
        unfold stepC at hq
        split at hq
        · rcases List.mem_cons.1 hq with rfl | hq
          · simp [begQ]
          · have := h q hq; omega
        · split at hq
          · cases hq
          · rename_i q0 r
            split at hq
            · rcases List.mem_cons.1 hq with rfl | hq
              · have h1 := hearsQ_inner q0 p.pos p.ev
                have h2 := h q0 (List.mem_cons_self ..)
                omega
              · have := h q (List.mem_cons_of_mem _ hq); omega
            · have := h q hq; omega) q1 hq1
      simp only [List.length_cons]
      omega
  intro q hq
  have := this l [] 0 (fun q hq => by cases hq) q hq
  omega
end Go.Proofs.Ytfhplbmgjgfihaa
