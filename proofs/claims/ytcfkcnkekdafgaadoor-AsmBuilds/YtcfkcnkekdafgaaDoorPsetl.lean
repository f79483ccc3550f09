/-
  What a parser's code is when its jumps have been settled, one after the other. Lists and worlds alone: no condition on inputs.
-/
import Derived.Test.YtcfkcnkekdafgaaDoorPread
namespace Go.Proofs.YtcfkcnkekdafgaaDoor
open Go.ChangeShapes Go.WideShapes Go.ChangeAt Go.RowKit
set_option linter.unusedVariables false

theorem codeV_len (l : List Ins) : (codeV l).length = l.length * 5 := by
  induction l with
  | nil => rfl
  | cons x xs ih => simp [codeV] at ih ⊢; omega
theorem codeV_at (l : List Ins) (n r : Nat) (i : Ins) (hr : r < 5) (h : l[n]? = some i) : (codeV l)[n * 5 + r]? = i.vals[r]? := by
  induction l generalizing n with
  | nil => simp at h
  | cons x xs ih =>
    have e : codeV (x :: xs) = x.vals ++ codeV xs := rfl
    cases n with
    | zero =>
      simp at h
      subst h
      rw [e, List.getElem?_append_left (by simp; omega)]
      simp
    | succ n =>
      rw [List.getElem?_cons_succ] at h
      rw [e, List.getElem?_append_right (by simp; omega), ← ih n h]
      congr 1
      simp
      omega
theorem codeV_set (l : List Ins) (n : Nat) (i : Ins) (k : Int) (h : l[n]? = some i) : (codeV l).set (n * 5 + 4) (.int .u32 k) = codeV (l.set n ⟨i.op, i.a, i.b, i.c, k⟩) := by
  induction l generalizing n with
  | nil => simp at h
  | cons x xs ih =>
    have e : codeV (x :: xs) = x.vals ++ codeV xs := rfl
    cases n with
    | zero =>
      simp at h
      subst h
      rfl
    | succ n =>
      rw [List.getElem?_cons_succ] at h
      have e2 : codeV ((x :: xs).set (n + 1) ⟨i.op, i.a, i.b, i.c, k⟩) = x.vals ++ codeV (xs.set n ⟨i.op, i.a, i.b, i.c, k⟩) := rfl
      rw [e, e2, ← ih n h, List.set_append_right _ _ (by simp; omega)]
      congr 2
      simp
      omega
theorem jumpsV_at (l : List (Nat × Bs)) (n : Nat) (j : Nat × Bs) (h : l[n]? = some j) : (jumpsV l)[n * 2]? = some (.int .i64 j.1) ∧ (jumpsV l)[n * 2 + 1]? = some (strV j.2) := by
  induction l generalizing n with
  | nil => simp at h
  | cons x xs ih =>
    have e : jumpsV (x :: xs) = .int .i64 x.1 :: strV x.2 :: jumpsV xs := rfl
    cases n with
    | zero => simp at h; subst h; exact ⟨rfl, rfl⟩
    | succ n =>
      rw [List.getElem?_cons_succ] at h
      rw [e, show (n + 1) * 2 = n * 2 + 1 + 1 by omega]
      simpa using ih n h

/-- a row that is not empty: where it lies -/
theorem own_some {w : World} {B sz n : Nat} {t : TypeId} {v : Value} {xs : List Value} (h : w.ownsRow B t sz v n xs) (hn : 0 < n) : ∃ q cap, v = .slice (some ⟨q, 0, none⟩) n cap ∧ B ≤ q ∧ n ≤ cap ∧ (∃ cur, w.heap[q]? = some (.cells cur t)) ∧ ∀ j x, xs[j]? = some x → w.cell? ⟨q, j, none⟩ = some x := by
  rcases h.2 with ⟨rfl, h0⟩ | ⟨q, cap, cur, rfl, hb, hq, h1, h2, h3, h4⟩
  · omega
  · refine ⟨q, cap, rfl, hb, h1, ⟨cur, hq⟩, fun j x hx => ?_⟩
    have := World.ownsRow.cells h (g := q) rfl j x hx
    rw [Addr.add_mid] at this
    simpa using this
theorem own_set {w : World} {B sz n q cap : Nat} {t : TypeId} {xs : List Value} (h : w.ownsRow B t sz (.slice (some ⟨q, 0, none⟩) n cap) n xs) (j : Nat) (hj : j < xs.length) (u : Value) : (w.setCell ⟨q, j, none⟩ u).ownsRow B t sz (.slice (some ⟨q, 0, none⟩) n cap) n (xs.set j u) := by
  refine ⟨by rw [List.length_set]; exact h.1, ?_⟩
  rcases h.2 with ⟨hv, h0⟩ | ⟨q', cap', cur, hv, hb, hq, h1, h2, h3, h4⟩
  · cases hv
  · cases hv
    refine .inr ⟨q, cap, cur.setIfInBounds j u, rfl, hb, row_set hq j u, h1, h2, by simpa using h3, ?_⟩
    rw [← h4]
    simp [List.take_set]
theorem PRow.setK {w : World} {B g m q cap : Nat} {vl vj : Value} {st : St} (h : PRow w B g m (.slice (some ⟨q, 0, none⟩) st.code.length cap) vl vj st) (n : Nat) (i : Ins) (hi : st.code[n]? = some i) (k : Int) :
    PRow (w.setCell ⟨q, n * 5 + 4, none⟩ (.int .u32 k)) B g m (.slice (some ⟨q, 0, none⟩) st.code.length cap) vl vj ⟨st.code.set n ⟨i.op, i.a, i.b, i.c, k⟩, st.lines, st.names, st.jumps⟩ ∧ Kp B w (w.setCell ⟨q, n * 5 + 4, none⟩ (.int .u32 k)) := by
  have hn : n < st.code.length := (List.getElem?_eq_some_iff.1 hi).1
  obtain ⟨q', cap', hv, hb, _, ⟨cur, hq⟩, _⟩ := own_some h.oc (by omega)
  cases hv
  have k2 : Kept 28 B w (w.setCell ⟨q, n * 5 + 4, none⟩ (.int .u32 k)) := Kept.setCell B hq hb _
  have ho := own_set h.oc (n * 5 + 4) (by rw [codeV_len]; omega) (.int .u32 k)
  rw [codeV_set st.code n i k hi] at ho
  refine ⟨⟨k2.row (by decide) h.row, ?_, k2.own (by decide) h.ol, k2.own (by decide) h.oj, k2.map h.mp, h.hg, h.hm⟩, Kp.of_kept k2 (by decide)⟩
  simpa using ho
theorem PRow.codeAt {w : World} {B g m q cap : Nat} {vl vj : Value} {st : St} (h : PRow w B g m (.slice (some ⟨q, 0, none⟩) st.code.length cap) vl vj st) (n : Nat) (i : Ins) (hi : st.code[n]? = some i) :
    w.cell? ⟨q, n * 5, none⟩ = some (.int .i64 i.op) ∧ w.cell? ⟨q, n * 5 + 1, none⟩ = some (.int .i64 i.a) ∧ w.cell? ⟨q, n * 5 + 2, none⟩ = some (.int .i64 i.b) ∧ w.cell? ⟨q, n * 5 + 3, none⟩ = some (.int .i64 i.c) ∧ w.cell? ⟨q, n * 5 + 4, none⟩ = some (.int .u32 i.k) ∧ w.frozen? ⟨q, n * 5 + 4, none⟩ = false := by
  have hn : n < st.code.length := (List.getElem?_eq_some_iff.1 hi).1
  obtain ⟨q', cap', hv, hb, _, ⟨cur, hq⟩, hc⟩ := own_some h.oc (by omega)
  cases hv
  exact ⟨hc _ _ (codeV_at st.code n 0 i (by omega) hi), hc _ _ (codeV_at st.code n 1 i (by omega) hi), hc _ _ (codeV_at st.code n 2 i (by omega) hi), hc _ _ (codeV_at st.code n 3 i (by omega) hi), hc _ _ (codeV_at st.code n 4 i (by omega) hi), row_frozen hq _⟩
theorem setK_eq (code : List Ins) (n : Nat) (i : Ins) (k : Int) (h : code[n]? = some i) : setK code n k = code.set n ⟨i.op, i.a, i.b, i.c, k⟩ := by
  unfold setK
  rw [List.getD_eq_getElem?_getD, h]
  rfl
theorem look_le {ns : List (Bs × Nat)} {b : Nat} (h : ∀ x ∈ ns, x.2 ≤ b) {s : Bs} {v : Nat} (hl : look ns s = some v) : v ≤ b := by
  induction ns with
  | nil => simp [look] at hl
  | cons x xs ih =>
    simp only [look] at hl
    split at hl
    · cases hl; exact h x (by simp)
    · exact ih (fun y hy => h y (by simp [hy])) hl
def SettleP (B g : Nat) (st : St) (w : World) (e : Ending) (w' : World) : Prop :=
  e = .returned (.tuple #[.int .i64 (settleL st.names st.lines st.jumps st.code).2.1, .int .i64 (settleL st.names st.lines st.jumps st.code).1]) ∧ ((settleL st.names st.lines st.jumps st.code).1 = 0 → PAt w' B g ⟨(settleL st.names st.lines st.jumps st.code).2.2, st.lines, st.names, st.jumps⟩) ∧ Kp B w w'
end Go.Proofs.YtcfkcnkekdafgaaDoor
