/-
  What holds of a program that Check lets by: its numbers fit into their bytes. Lists and numbers alone.
-/
import Derived.Test.YthooopcoemdphaaDoorPgAt
import Derived.Test.YthooopcoemdphaaDoorPure2
namespace Go.Proofs.YthooopcoemdphaaDoor
open Go.ChangeShapes Go.WideShapes Go.ChangeAt Go.RowKit Go.Deep
set_option linter.unusedVariables false

theorem firstBad_spec (f : Nat → Ins) (size : Int) (m k : Nat) : (firstBad f size m k = k + m ∧ ∀ j, k ≤ j → j < k + m → okB (f j) size = true) ∨ firstBad f size m k < k + m := by
  induction m generalizing k with
  | zero => exact .inl ⟨rfl, fun j h1 h2 => by omega⟩
  | succ m ih =>
    cases h : okB (f k) size
    · right; rw [firstBad_hit f size m k h]; omega
    · rw [firstBad_skip f size m k h]
      rcases ih (k + 1) with ⟨h1, h2⟩ | h1
      · refine .inl ⟨by omega, fun j hj1 hj2 => ?_⟩
        by_cases hjk : j = k
        · subst hjk; exact h
        · exact h2 j (by omega) (by omega)
      · right; omega
theorem firstT_spec (L : Nat → Nat) (F : Nat → Nat → Ins) (m k : Nat) : (firstT L F m k = k + m ∧ ∀ j, k ≤ j → j < k + m → cErr (F j) (L j) = 0) ∨ (firstT L F m k < k + m ∧ cErr (F (firstT L F m k)) (L (firstT L F m k)) ≠ 0) := by
  induction m generalizing k with
  | zero => exact .inl ⟨rfl, fun j h1 h2 => by omega⟩
  | succ m ih =>
    by_cases h : cErr (F k) (L k) = 0
    · rw [firstT_skip L F m k h]
      rcases ih (k + 1) with ⟨h1, h2⟩ | ⟨h1, h2⟩
      · refine .inl ⟨by omega, fun j hj1 hj2 => ?_⟩
        by_cases hjk : j = k
        · subst hjk; exact h
        · exact h2 j (by omega) (by omega)
      · exact .inr ⟨by omega, h2⟩
    · right; rw [firstT_hit L F m k h]; exact ⟨by omega, h⟩
theorem cErr_zero {f : Nat → Ins} {len : Nat} (h : cErr f len = 0) : len ≤ 4000 ∧ ∀ j, j < len → okB (f j) len = true := by
  unfold cErr at h
  split at h
  · cases h
  · split at h
    · cases h
    · rename_i h1 h2
      refine ⟨by omega, fun j hj => ?_⟩
      rcases firstBad_spec f len len 0 with ⟨_, h4⟩ | h4
      · exact h4 j (by omega) (by omega)
      · unfold bad at h2; omega
theorem okB_in {i : Ins} {size : Int} (h : okB i size = true) : inB i.op ∧ inB i.a ∧ inB i.b ∧ inB i.c := by
  unfold okB rightB at h
  simp only [Bool.and_eq_true] at h
  obtain ⟨h0, ⟨⟨h1, h2⟩, h3⟩, _⟩ := h
  have fits : ∀ u n, fitsB u n = true → inB n := by
    intro u n h
    unfold fitsB regB at h
    split at h
    · simp at h; exact ⟨h.1, by omega⟩
    · split at h
      · simp at h
        rcases h with h | h
        · exact ⟨h.1, by omega⟩
        · subst h; exact ⟨by omega, by omega⟩
      · simp at h
        subst h; exact ⟨by omega, by omega⟩
  refine ⟨?_, fits _ _ h1, fits _ _ h2, fits _ _ h3⟩
  unfold isB at h0
  simp at h0
  exact ⟨h0.1, by omega⟩

/-- its numbers fit into their bytes -/
structure Okay (p : Pg) : Prop where
  codes1 : 1 ≤ p.codes.length
  codes : p.codes.length ≤ 8
  room0 : 0 ≤ p.room
  room : p.room ≤ 16
  mem : p.mem.length ≤ 1024
  word : ∀ x ∈ p.mem, 0 ≤ x ∧ x < 4294967296
  code : ∀ c ∈ p.codes, c.length ≤ 4000
  ins : ∀ c ∈ p.codes, ∀ i ∈ c, (inB i.op ∧ inB i.a ∧ inB i.b ∧ inB i.c) ∧ i.ok

theorem okay_of {w : World} {v : Value} {p : Pg} (h : ProgAt w v p) (he : p.err = 0) : Okay p := by
  obtain ⟨a, cap, A, C, ma, mc, _, hC, hM⟩ := h
  unfold Pg.err pErr at he
  split at he
  · cases he
  · split at he
    · cases he
    · rename_i h1 h2
      have hall : ∀ r, r < p.codes.length → cErr (p.F r) (p.L r) = 0 := by
        rcases firstT_spec p.L p.F p.codes.length 0 with ⟨_, h4⟩ | ⟨h4, h5⟩
        · exact fun r hr => h4 r (by omega) (by omega)
        · have hb : badT p.L p.F p.codes.length < p.codes.length := by unfold badT; omega
          rw [if_pos hb] at he
          exact absurd he h5
      have hins : ∀ r, r < p.codes.length → (p.codes.getD r []).length ≤ 4000 ∧ ∀ i ∈ p.codes.getD r [], (inB i.op ∧ inB i.a ∧ inB i.b ∧ inB i.c) ∧ i.ok := by
        intro r hr
        obtain ⟨h3, h4⟩ := cErr_zero (hall r hr)
        refine ⟨h3, fun i hi => ?_⟩
        obtain ⟨j, hj, rfl⟩ := List.mem_iff_getElem.1 hi
        have hF : p.F r j = (p.codes.getD r [])[j] := by
          unfold Pg.F
          rw [List.getD_eq_getElem?_getD, List.getElem?_eq_getElem hj]
          rfl
        refine ⟨?_, ?_⟩
        · rw [← hF]; exact okB_in (h4 j hj)
        · rcases hC.2 with h0 | ⟨b, off, _, hr'⟩
          · omega
          · rcases (hr' r hr).2.2 with h0 | ⟨b2, off2, _, hl⟩
            · have : p.L r = 0 := h0
              unfold Pg.L at this
              omega
            · rw [← hF]; exact (hl j hj).2
      have toMem : ∀ c ∈ p.codes, ∃ r, r < p.codes.length ∧ p.codes.getD r [] = c := by
        intro c hc
        obtain ⟨r, hr, rfl⟩ := List.mem_iff_getElem.1 hc
        exact ⟨r, hr, by rw [List.getD_eq_getElem?_getD, List.getElem?_eq_getElem hr]; rfl⟩
      unfold argP at h1
      refine ⟨by omega, by omega, by omega, by omega, by omega, hM.2.2, fun c hc => ?_, fun c hc => ?_⟩
      · obtain ⟨r, hr, rfl⟩ := toMem c hc; exact (hins r hr).1
      · obtain ⟨r, hr, rfl⟩ := toMem c hc; exact (hins r hr).2

theorem flat_len {α : Type} (f : α → List Int) (M : Nat) (l : List α) (h : ∀ x ∈ l, (f x).length ≤ M) : (l.flatMap f).length ≤ l.length * M := by
  induction l with
  | nil => simp
  | cons x l ih =>
    rw [List.flatMap_cons, List.length_append, List.length_cons, Nat.succ_mul]
    have h1 := h x (by simp)
    have h2 := ih (fun y hy => h y (by simp [hy]))
    omega
theorem insBy_len (i : Ins) : (insBy i).length = 8 := insB_len _ _ _ _ _
theorem code_len (c : List Ins) : (c.flatMap insBy).length = 8 * c.length := by
  induction c with
  | nil => rfl
  | cons x c ih => rw [List.flatMap_cons, List.length_append, ih, insBy_len, List.length_cons]; omega
theorem codeBy_len (c : List Ins) : (codeBy c).length = 2 + 8 * c.length := by unfold codeBy; rw [List.length_append, leB_len, code_len]
theorem mem_len (m : List Int) : (memBy m).length = 4 * m.length := by
  induction m with
  | nil => rfl
  | cons x c ih =>
    show (leB x 4 ++ memBy c).length = _
    rw [List.length_append, ih, leB_len, List.length_cons]
    omega
end Go.Proofs.YthooopcoemdphaaDoor
