/-
  Codes appended to a code of one's own; codes without jumps, by lists: which are right, and their texts. No condition but what each law names.
-/
import Derived.Test.YtcfkcnkekdafgaaDoorPrnt
import Derived.Test.YtcfkcnkekdafgaaDoorRrig
import Derived.Test.YtcfkcnkekdafgaaDoorSam
import Derived.Laws.AppendOwn
import Derived.Laws.OwnMore
namespace Go.Proofs.YtcfkcnkekdafgaaDoor
open Go.ChangeShapes Go.WideShapes Go.ChangeAt Go.RowKit
set_option linter.unusedVariables false

def flatI (l : List Ins) : List Value := l.flatMap Ins.vals
theorem flatI_cons (i : Ins) (l : List Ins) : flatI (i :: l) = .int .i64 i.op :: .int .i64 i.a :: .int .i64 i.b :: .int .i64 i.c :: .int .u32 i.k :: flatI l := rfl
theorem flatI_append (a b : List Ins) : flatI (a ++ b) = flatI a ++ flatI b := by simp [flatI]
theorem flatI_length : ∀ l : List Ins, (flatI l).length = l.length * 5
  | [] => rfl
  | i :: l => by rw [flatI_cons]; simp [flatI_length l]; omega
theorem flatI_one (l : List Ins) : ∀ v ∈ flatI l, v.oneCell' = true := by
  intro v hv
  obtain ⟨x, _, hx⟩ := List.mem_flatMap.1 hv
  simp only [Ins.vals, List.mem_cons, List.not_mem_nil, or_false] at hx
  rcases hx with rfl | rfl | rfl | rfl | rfl <;> rfl
theorem flatI_at : ∀ (l : List Ins) (n : Nat) (i : Ins), l[n]? = some i →
    (flatI l)[n * 5]? = some (.int .i64 i.op) ∧ (flatI l)[n * 5 + 1]? = some (.int .i64 i.a) ∧ (flatI l)[n * 5 + 2]? = some (.int .i64 i.b) ∧ (flatI l)[n * 5 + 3]? = some (.int .i64 i.c) ∧ (flatI l)[n * 5 + 4]? = some (.int .u32 i.k)
  | [], n, i, h => by simp at h
  | j :: l, 0, i, h => by
    simp only [List.getElem?_cons_zero, Option.some.injEq] at h
    subst h
    exact ⟨rfl, rfl, rfl, rfl, rfl⟩
  | j :: l, n + 1, i, h => by
    have ih := flatI_at l n i (by simpa using h)
    have e : ∀ r, (flatI (j :: l))[(n + 1) * 5 + r]? = (flatI l)[n * 5 + r]? := by
      intro r
      rw [flatI_cons, show (n + 1) * 5 + r = n * 5 + r + 1 + 1 + 1 + 1 + 1 from by omega]
      simp only [List.getElem?_cons_succ]
    exact ⟨(e 0).trans ih.1, (e 1).trans ih.2.1, (e 2).trans ih.2.2.1, (e 3).trans ih.2.2.2.1, (e 4).trans ih.2.2.2.2⟩

abbrev zInst : Value := .agg #[.int .i64 0, .int .i64 0, .int .i64 0, .int .i64 0, .int .u32 0]
theorem infoI3 : (Tryd.prog.info? 28).map (fun i => (i.zero, i.size, i.bytes)) = some (some zInst, 5, 40) := by kernel_rfl
/-- a row of instructions of one's own -/
def Iown (w : World) (base : Nat) (v : Value) (l : List Ins) : Prop := w.ownsRow base 28 5 v l.length (flatI l)
theorem Iown.code {w : World} {base : Nat} {v : Value} {l : List Ins} (h : Iown w base v l) : CodeAt w v l := by
  rcases h.2 with ⟨rfl, h0⟩ | ⟨g, cap, cur, rfl, hb, hg, hnc, hcm, hs, ht⟩
  · have : l = [] := List.length_eq_zero_iff.1 h0
    subst this
    exact ⟨none, 0, rfl, .inl rfl⟩
  · refine ⟨_, _, rfl, .inr ⟨g, 0, rfl, fun n i hi => ?_⟩⟩
    have hn : n < l.length := (List.getElem?_eq_some_iff.1 hi).1
    obtain ⟨h0, h1, h2, h3, h4⟩ := flatI_at l n i hi
    have hc : ∀ j v, j < l.length * 5 → (flatI l)[j]? = some v → w.cell? ⟨g, 0 + j, none⟩ = some v := by
      intro j v hj hv
      rw [← ht, List.getElem?_take, if_pos hj] at hv
      rw [Nat.zero_add, cell_of_row w g j cur _ _ hg]
      simpa using hv
    exact ⟨hc _ _ (by omega) h0, hc _ _ (by omega) h1, hc _ _ (by omega) h2, hc _ _ (by omega) h3, hc _ _ (by omega) h4⟩

theorem code_src {w : World} {a : Addr} {m c : Nat} {l : List Ins} (h : CodeAt w (.slice (some a) m c) l) (hm : m = l.length) : ∀ j u, (flatI l)[j]? = some u → w.cell? (a.add j) = some u := by
  intro j u hj
  have hj' : j < l.length * 5 := by have := (List.getElem?_eq_some_iff.1 hj).1; rw [flatI_length] at this; exact this
  obtain ⟨a', c', hv, h⟩ := h
  cases hv
  rcases h with rfl | ⟨b, off, h, hcc⟩
  · simp at hj'
  · cases h
    have hn : j / 5 < l.length := by omega
    have e := List.getElem?_eq_getElem hn
    obtain ⟨d0, d1, d2, d3, d4⟩ := hcc (j / 5) _ e
    obtain ⟨f0, f1, f2, f3, f4⟩ := flatI_at l (j / 5) _ e
    rw [Addr.add_mid, ← hj]
    rcases (by omega : j = j / 5 * 5 ∨ j = j / 5 * 5 + 1 ∨ j = j / 5 * 5 + 2 ∨ j = j / 5 * 5 + 3 ∨ j = j / 5 * 5 + 4) with e | e | e | e | e
    · rw [← e] at d0 f0; rw [d0, f0]
    · rw [Nat.add_assoc, ← e] at d1; rw [← e] at f1; rw [d1, f1]
    · rw [Nat.add_assoc, ← e] at d2; rw [← e] at f2; rw [d2, f2]
    · rw [Nat.add_assoc, ← e] at d3; rw [← e] at f3; rw [d3, f3]
    · rw [Nat.add_assoc, ← e] at d4; rw [← e] at f4; rw [d4, f4]

/-- a code is appended -/
theorem app_code {w : World} {base : Nat} {v : Value} {xs : List Ins} (hown : Iown w base v xs) (s : Value) (l : List Ins) (hm : CodeAt w s l) (hc : ∀ n c, s = .slice none n c → c = 0)
    (hn : xs.length + l.length ≤ 100000) (hb : base ≤ w.heap.size) :
    ∃ v' w', (Builtin.append_ #[22, 22] 22 #[v, s]).run Tryd.prog w = .ok v' w' ∧ Iown w' base v' (xs ++ l) ∧ w.grownBy w' v.ownBlock := by
  unfold Iown at *
  obtain ⟨i, h1, h2, h3, h4⟩ := info_parts infoI3
  obtain ⟨ad, c, rfl, hm'⟩ := id hm
  cases ad with
  | none =>
    obtain rfl : l = [] := by
      rcases hm' with h | ⟨b, off, h, _⟩
      · exact h
      · cases h
    obtain rfl := hc _ _ rfl
    refine ⟨v, w, run_append_owned_none w base _ _ _ i 5 Tryd.underlying22 h1 v _ _ hown, by simpa [flatI] using hown, ⟨rfl, rfl, rfl, Nat.le_refl _, fun k _ _ => rfl⟩⟩
  | some a =>
    obtain ⟨v', w', hr, ho, hg, _⟩ := run_append_own (P := Tryd.prog) w base 22 22 28 i zInst 5 40 Tryd.underlying22 h1 h2 h3 h4 rfl (by omega) v _ _ hown a l.length c (flatI l) (flatI_length l) (code_src hm rfl) (flatI_one l) (by unfold maxLen; omega) (by omega) hb
    rw [← flatI_append, ← List.length_append] at ho
    exact ⟨v', w', hr, ho, hg⟩

/-- who does not jump has no place -/
theorem noT : ∀ n : Fin 28, hasB (n.val : Int) 84 = false → kK n.val ≠ 4 := by decide
theorem right_size {op a b c k : Int} (h : hasB op 84 = false) (m n : Int) : rightB op a b c k m = rightB op a b c k n := by
  unfold rightB
  cases hi : isB op
  · rfl
  · have hr : 0 ≤ op ∧ op < 28 := by simpa [isB] using hi
    have h4 : kK op.toNat ≠ 4 := by
      have := noT ⟨op.toNat, by omega⟩
      simp only at this
      rw [show ((op.toNat : Nat) : Int) = op by omega] at this
      exact this h
    simp [holdsB, h4]
/-- codes without jumps: the joined one is right if both are -/
theorem join_right (a b : List Ins) (h : ∀ i ∈ a ++ b, hasB i.op 84 = false) : (a ++ b).all (rightsI (a ++ b).length) = (a.all (rightsI a.length) && b.all (rightsI b.length)) := by
  rw [List.all_append]
  congr 1
  · apply Bool.eq_iff_iff.2
    simp only [List.all_eq_true]
    exact ⟨fun q i hi => by rw [rightsI, right_size (h i (by simp [hi])) _ (a ++ b).length]; exact q i hi, fun q i hi => by rw [rightsI, right_size (h i (by simp [hi])) _ a.length]; exact q i hi⟩
  · apply Bool.eq_iff_iff.2
    simp only [List.all_eq_true]
    exact ⟨fun q i hi => by rw [rightsI, right_size (h i (by simp [hi])) _ (a ++ b).length]; exact q i hi, fun q i hi => by rw [rightsI, right_size (h i (by simp [hi])) _ b.length]; exact q i hi⟩
theorem text_join (a b : List Ins) : textL (a ++ b) = textL a ++ textL b := by simp [textL]
/-- a right instruction's line is short -/
theorem lineI_len {i : Ins} {n : Nat} (hr : rightsI n i = true) (hk : i.ok) : (lineI i).length ≤ 124 := by
  obtain ⟨o, p, q, r, m, eo, ea, eb, ec, ek, ho, hp8, hq8, hr8, hm, hTk⟩ := right_tells hr hk.1 hk.2
  have hli : lineI i = lineF (fB o).data.toList p q r m (nameB o).data.toList := by
    unfold lineI
    rw [eo, ea, eb, ec, ek]
    rfl
  rw [hli, line_eq o p q r m ho]
  exact line_len ho
theorem text_len {n : Nat} : ∀ (l : List Ins), l.all (rightsI n) = true → (∀ i ∈ l, i.ok) → (textL l).length ≤ 125 * l.length
  | [], _, _ => by simp [textL]
  | i :: l, hr, hk => by
    rw [List.all_cons, Bool.and_eq_true] at hr
    have ih := text_len l hr.2 (fun j hj => hk j (by simp [hj]))
    have h1 := lineI_len hr.1 (hk i (by simp))
    have e : textL (i :: l) = lineI i ++ [10] ++ textL l := by simp [textL]
    rw [e, List.length_append, List.length_append]
    simp only [List.length_cons, List.length_nil]
    omega
end Go.Proofs.YtcfkcnkekdafgaaDoor
