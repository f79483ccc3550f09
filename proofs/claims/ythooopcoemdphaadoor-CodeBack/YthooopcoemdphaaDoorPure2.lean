/-
  Bytes that tell a program are its bytes; a program's bytes tell it again, whatever stands behind, and a front of them tells none. Lists and numbers alone. Conditions: bytes are from 0 to 255; the program is one that Check lets by.
-/
import Derived.Test.YthooopcoemdphaaDoorPure
namespace Go.Proofs.YthooopcoemdphaaDoor
open Go.ChangeShapes Go.WideShapes Go.ChangeAt Go.RowKit
set_option linter.unusedVariables false

theorem leB_leAt {L : List Int} (hb : isBytes L) (i n : Nat) (h : i + n ≤ L.length) : leB (leAt L i n) n = (L.drop i).take n := by
  induction n generalizing i with
  | zero => simp [leB]
  | succ n ih =>
    have hx := getD_byte hb i
    have e : leAt L i (n + 1) = L.getD i 0 + 256 * leAt L (i + 1) n := rfl
    have h1 : (L.getD i 0 + 256 * leAt L (i + 1) n) % 256 = L.getD i 0 := by omega
    have h2 : (L.getD i 0 + 256 * leAt L (i + 1) n) / 256 = leAt L (i + 1) n := by omega
    rw [e, show leB (L.getD i 0 + 256 * leAt L (i + 1) n) (n + 1) = ((L.getD i 0 + 256 * leAt L (i + 1) n) % 256) :: leB ((L.getD i 0 + 256 * leAt L (i + 1) n) / 256) n from rfl, h1, h2, ih (i + 1) (by omega)]
    rw [show L.drop i = L[i]'(by omega) :: L.drop (i + 1) from List.drop_eq_getElem_cons (by omega), List.take_succ_cons]
    congr 1
    rw [List.getD_eq_getElem?_getD, List.getElem?_eq_getElem (by omega)]
    rfl
theorem getD_drop {L : List Int} {i : Nat} (h : i < L.length) : L.drop i = L.getD i 0 :: L.drop (i + 1) := by
  rw [List.getD_eq_getElem?_getD, List.getElem?_eq_getElem h, Option.getD_some]
  exact List.drop_eq_getElem_cons h
theorem insB_take {L : List Int} (hb : isBytes L) (i : Nat) (h : i + 8 ≤ L.length) : insBy (insAt L i) = (L.drop i).take 8 := by
  unfold insBy insAt insB
  simp only
  rw [leB_leAt hb (i + 4) 4 (by omega), getD_drop (show i < L.length by omega), getD_drop (show i + 1 < L.length by omega), getD_drop (show i + 1 + 1 < L.length by omega), getD_drop (show i + 1 + 1 + 1 < L.length by omega)]
  simp only [List.take_succ_cons, List.cons_append, List.nil_append]
/-- a piece of a list -/
theorem seg_add {α : Type} (L : List α) (i n m : Nat) : (L.drop i).take (n + m) = (L.drop i).take n ++ (L.drop (i + n)).take m := by
  rw [List.take_add, List.drop_drop]
theorem mem_seg {L : List Int} (hb : isBytes L) (i n : Nat) (h : i + 4 * n ≤ L.length) : memBy (memAt L i n) = (L.drop i).take (4 * n) := by
  induction n with
  | zero => simp [memBy, memAt]
  | succ n ih =>
    have e : memBy (memAt L i (n + 1)) = memBy (memAt L i n) ++ leB (leAt L (i + 4 * n) 4) 4 := by
      rw [memAt_succ]; simp [memBy]
    rw [e, ih (by omega), leB_leAt hb _ 4 (by omega), show 4 * (n + 1) = 4 * n + 4 by omega, seg_add]
theorem code_seg {L : List Int} (hb : isBytes L) (i n : Nat) (h : i + 8 * n ≤ L.length) : (codeAt L i n).flatMap insBy = (L.drop i).take (8 * n) := by
  induction n with
  | zero => simp [codeAt]
  | succ n ih =>
    rw [codeAt_succ, List.flatMap_append, ih (by omega), show 8 * (n + 1) = 8 * n + 8 by omega, seg_add]
    congr 1
    simpa using insB_take hb (i + 8 * n) (by omega)
theorem cnt_int {L : List Int} (hb : isBytes L) (i : Nat) : ((cntAt L i : Nat) : Int) = leAt L i 2 := by
  have := leAt_bounds hb i 2
  unfold cntAt
  omega
theorem codes_seg {L : List Int} (hb : isBytes L) (e t : Nat) (he : e ≤ L.length) (cs : List (List Ins)) (q : Nat) (h : codesTo L e t = some (cs, q)) : e ≤ q ∧ q ≤ L.length ∧ cs.length = t ∧ cs.flatMap codeBy = (L.drop e).take (q - e) := by
  induction t generalizing cs q with
  | zero => simp [codesTo] at h; obtain ⟨rfl, rfl⟩ := h; exact ⟨Nat.le_refl _, he, rfl, by simp⟩
  | succ t ih =>
    simp only [codesTo] at h
    cases hc : codesTo L e t with
    | none => rw [hc] at h; simp at h
    | some x =>
      obtain ⟨cs', q'⟩ := x
      rw [hc] at h
      obtain ⟨h1, h2, h3, h4⟩ := ih cs' q' hc
      simp only at h
      split at h
      · cases h
      · rename_i hn
        simp only [Option.some.injEq, Prod.mk.injEq] at h
        obtain ⟨rfl, rfl⟩ := h
        refine ⟨by omega, by omega, by simp [h3], ?_⟩
        rw [List.flatMap_append, h4, show q' + 2 + 8 * cntAt L q' - e = (q' - e) + (2 + 8 * cntAt L q') by omega, seg_add, show e + (q' - e) = q' by omega]
        congr 1
        simp only [List.flatMap_cons, List.flatMap_nil, List.append_nil]
        unfold codeBy
        rw [codeAt_len, cnt_int hb, leB_leAt hb q' 2 (by omega), code_seg hb _ _ (by omega), seg_add]

/-- WHAT IS READ IS WRITTEN AS IT WAS -/
theorem write_tell {L : List Int} (hb : isBytes L) (hh : isHead L) (cs : List (List Ins)) (q : Nat) (h : tell L = some (cs, q)) : q ≤ L.length ∧ writeB (pgOf L cs) = L.take q := by
  unfold tell at h
  split at h
  · cases h
  split at h
  · cases h
  rename_i h7 hw
  obtain ⟨h1, h2, h3, h4⟩ := codes_seg hb _ _ (by omega) cs q h
  refine ⟨h2, ?_⟩
  have hT : ((cs.length : Nat) : Int) = L.getD 3 0 := by
    have := getD_byte hb 3
    rw [h3]
    unfold thr
    omega
  have hW : ((memAt L 7 (words L)).length : Int) = leAt L 5 2 := by
    rw [memAt_len]
    exact cnt_int hb 5
  unfold writeB pgOf
  simp only
  rw [hT, hW, h4, leB_leAt hb 5 2 (by omega), mem_seg hb 7 (words L) (by omega), ← hh.1, ← hh.2.1, ← hh.2.2]
  have e0 : L.take q = (L.drop 0).take (5 + (2 + (4 * words L + (q - (7 + 4 * words L))))) := by
    rw [List.drop_zero]
    congr 1
    omega
  rw [e0, seg_add, seg_add, seg_add, getD_drop (show 0 < L.length by omega), getD_drop (show 0 + 1 < L.length by omega), getD_drop (show 0 + 1 + 1 < L.length by omega), getD_drop (show 0 + 1 + 1 + 1 < L.length by omega), getD_drop (show 0 + 1 + 1 + 1 + 1 < L.length by omega)]
  simp only [List.take_succ_cons, List.take_zero, List.append_assoc, List.cons_append, List.nil_append]
end Go.Proofs.YthooopcoemdphaaDoor
