/-
  For any two codes that lie in memory: the law's 'same' tells whether they are one. Conditions: at most 2^31 instructions each.
-/
import Derived.Test.YtcfkcnkekdafgaaDoorPsetl
import Derived.Deep.QuietTactic
import Derived.BigQuiet
namespace Go.Proofs.YtcfkcnkekdafgaaDoor
open Go.ChangeShapes Go.WideShapes Go.ChangeAt Go.RowKit
set_option linter.unusedVariables false

/-- a code lies where a slice says -/
def CodeAt (w : World) (v : Value) (l : List Ins) : Prop := ∃ a cap, v = .slice a l.length cap ∧ (l = [] ∨ ∃ b off, a = some ⟨b, off, none⟩ ∧ ∀ n i, l[n]? = some i →
  w.cell? ⟨b, off + n * 5, none⟩ = some (.int .i64 i.op) ∧ w.cell? ⟨b, off + n * 5 + 1, none⟩ = some (.int .i64 i.a) ∧ w.cell? ⟨b, off + n * 5 + 2, none⟩ = some (.int .i64 i.b) ∧ w.cell? ⟨b, off + n * 5 + 3, none⟩ = some (.int .i64 i.c) ∧ w.cell? ⟨b, off + n * 5 + 4, none⟩ = some (.int .u32 i.k))
theorem CodeAt.gr {w w' : World} {v : Value} {l : List Ins} (h : CodeAt w v l) (g : Gr w w') : CodeAt w' v l := by
  obtain ⟨a, cap, hv, h⟩ := h
  refine ⟨a, cap, hv, ?_⟩
  rcases h with h | ⟨b, off, ha, h⟩
  · exact .inl h
  · exact .inr ⟨b, off, ha, fun n i hi => by
      obtain ⟨h0, h1, h2, h3, h4⟩ := h n i hi
      exact ⟨cell_later g h0, cell_later g h1, cell_later g h2, cell_later g h3, cell_later g h4⟩⟩
theorem codeAt_own {w : World} {B : Nat} {v : Value} {l : List Ins} (h : w.ownsRow B 28 5 v l.length (codeV l)) : CodeAt w v l := by
  rcases h.2 with ⟨rfl, h0⟩ | ⟨q, cap, cur, rfl, hb, hq, h1, h2, h3, h4⟩
  · exact ⟨none, 0, by rw [h0], .inl (List.eq_nil_of_length_eq_zero h0)⟩
  · refine ⟨_, cap, rfl, .inr ⟨q, 0, rfl, fun n i hi => ?_⟩⟩
    have hn : n < l.length := (List.getElem?_eq_some_iff.1 hi).1
    obtain ⟨q', cap', hv, _, _, _, hc⟩ := own_some h (by omega)
    cases hv
    have e : ∀ r, 0 + n * 5 + r = n * 5 + r := by intro r; omega
    rw [e, e, e, e, Nat.zero_add]
    exact ⟨hc _ _ (codeV_at l n 0 i (by omega) hi), hc _ _ (codeV_at l n 1 i (by omega) hi), hc _ _ (codeV_at l n 2 i (by omega) hi), hc _ _ (codeV_at l n 3 i (by omega) hi), hc _ _ (codeV_at l n 4 i (by omega) hi)⟩
def insEq (i j : Ins) : Bool := (i.op == j.op) && (i.a == j.a) && (i.b == j.b) && (i.c == j.c) && (i.k == j.k)
theorem insEq_iff (i j : Ins) : insEq i j = true ↔ i = j := by
  obtain ⟨a, b, c, d, e⟩ := i
  obtain ⟨a', b', c', d', e'⟩ := j
  simp [insEq, and_assoc]
def sameB (l r : List Ins) : Bool := decide (l.length = r.length) && (l.zip r).all fun p => insEq p.1 p.2
theorem sameB_self (l : List Ins) : sameB l l = true := by
  unfold sameB
  simp only [decide_true, Bool.true_and]
  rw [List.all_eq_true]
  intro p hp
  rw [insEq_iff]
  have : ∀ (l : List Ins) (p : Ins × Ins), p ∈ l.zip l → p.1 = p.2 := by
    intro l
    induction l with
    | nil => intro p h; simp at h
    | cons x xs ih =>
      intro p h
      simp only [List.zip_cons_cons, List.mem_cons] at h
      rcases h with rfl | h
      · rfl
      · exact ih p h
  exact this l p hp

set_option maxRecDepth 20000 in
set_option maxHeartbeats 800000 in
theorem same_calls (v1 v2 : Value) (l : List Ins) (w : World) (h1 : CodeAt w v1 l) (h2 : CodeAt w v2 l) (hl : l.length ≤ 2147483648) :
    Calls Tryd.prog 12 #[v1, v2] w fun e w' => e = .returned (.bool true) ∧ Gr w w' := by
  obtain ⟨a1, c1, rfl, h1⟩ := h1
  obtain ⟨a2, c2, rfl, h2⟩ := h2
  have H1 := hide h1
  have H2 := hide h2
  clear h1 h2
  go_enter Tryd.func12, Tryd.ntmps12
  go_wp2
  go_loopw [5] (fun i wr => ∃ k : Nat, k ≤ l.length ∧ i = .int .i64 k ∧ Hid (Gr w wr)) (fun i _ => l.length - (intOf i).toNat)
  case atStart => exact ⟨0, by omega, rfl, Gr.refl _⟩
  case round =>
    obtain ⟨k, hk, rfl, hG⟩ := hrel
    by_cases hlt : k < l.length
    · obtain ⟨i, hi⟩ : ∃ i, l[k]? = some i := ⟨_, List.getElem?_eq_getElem hlt⟩
      rcases H1.out with h | ⟨b1, o1, ha1, h1⟩
      · rw [h] at hlt; simp at hlt
      rcases H2.out with h | ⟨b2, o2, ha2, h2⟩
      · rw [h] at hlt; simp at hlt
      obtain ⟨x0, x1, x2, x3, x4⟩ := h1 k i hi
      obtain ⟨y0, y1, y2, y3, y4⟩ := h2 k i hi
      have x0 := cell_later hG.out x0
      have x1 := cell_later hG.out x1
      have x2 := cell_later hG.out x2
      have x3 := cell_later hG.out x3
      have x4 := cell_later hG.out x4
      have y0 := cell_later hG.out y0
      have y1 := cell_later hG.out y1
      have y2 := cell_later hG.out y2
      have y3 := cell_later hG.out y3
      have y4 := cell_later hG.out y4
      have b0 : (k : Int) < l.length := by omega
      clear hi h1 h2
      subst ha1 ha2
      go_wp2_with (fail)
      go_quiet (fail)
      have hG2 := hide (hG.out.drewN nq)
      go_wp2
      go_roundw
      case rel => exact ⟨k + 1, by omega, by go_num, hG2⟩
      case measure => simp [intOf]; omega
    · obtain rfl : k = l.length := by omega
      go_wp2
      go_ret
      exact ⟨rfl, hG.out⟩
end Go.Proofs.YtcfkcnkekdafgaaDoor
