/-
  For any string, in any world: the reference's address tells the base and K as addrOf says; where it is none, one of them is below 0. Memory is as it was but for drawn orders. Conditions: strings of at most 2^31 bytes.
-/
import Derived.Test.YtcfkcnkekdafgaaDoorRefo
import Derived.Test.YtcfkcnkekdafgaaDoorLine
namespace Go.Proofs.YtcfkcnkekdafgaaDoor
open Go.ChangeShapes Go.WideShapes Go.ChangeAt Go.RowKit
set_option linter.unusedVariables false

theorem cut_none {m : Bs} (h : 43 ∉ m) : Lib.cut m [43] = (m, [], false) := by
  unfold Lib.cut
  rcases index_one m 43 with ⟨e, _⟩ | ⟨i, e, h1, h2⟩
  · rw [e]; rfl
  · exact absurd (by rw [h2]; simp) h
theorem cut_some {m : Bs} {k : Nat} (hk : m[k]? = some 43) (h : ∀ j, j < k → m[j]? ≠ some 43) : Lib.cut m [43] = (m.take k, m.drop (k + 1), true) := by
  unfold Lib.cut
  rcases index_one m 43 with ⟨e, h1⟩ | ⟨i, e, h1, h2⟩
  · exact absurd (List.mem_of_getElem? hk) h1
  · have hi : i = k := by
      by_cases hlt : i < k
      · exfalso
        apply h i hlt
        have hl : (m.take i).length = i := by
          have := (List.getElem?_eq_some_iff.mp hk).1
          rw [List.length_take]; omega
        rw [h2, List.getElem?_append_right (by omega), hl]
        simp
      · by_cases hgt : k < i
        · exfalso
          apply h1
          apply List.mem_of_getElem? (i := k)
          rw [List.getElem?_take, if_pos hgt]
          exact hk
        · omega
    subst hi
    rw [e, if_pos (by omega)]
    rfl
theorem addr_mid (m : Bs) : addrOf (91 :: (m ++ [93])) = if (Lib.cut m [43]).2.2 = true then
      match regOf (Lib.cut m [43]).1, numOf (Lib.cut m [43]).2.1 with
      | some b, some k => some (b, k)
      | _, _ => none
    else (numOf m).map fun k => (8, k) := by
  have e1 : Lib.hasPrefix (91 :: (m ++ [93])) [91] = true := by simp [Lib.hasPrefix]
  have e2 : Lib.trimPrefix (91 :: (m ++ [93])) [91] = m ++ [93] := by unfold Lib.trimPrefix; rw [if_pos e1]; rfl
  have e3 : Lib.hasSuffix (m ++ [93]) [93] = true := by simp [Lib.hasSuffix]
  have e4 : Lib.trimSuffix (m ++ [93]) [93] = m := by unfold Lib.trimSuffix; rw [if_pos e3]; simp
  rw [addr_yes ⟨e1, by rw [e2]; exact e3⟩, e2, e4]
  rfl
theorem addr_shut {l : Bs} (h : ¬ ∃ m, l = 91 :: (m ++ [93])) : addrOf l = none := by
  apply addr_no
  rintro ⟨h1, h2⟩
  apply h
  match l, h1 with
  | x :: xs, h1 =>
    have hx : x = 91 := by
      have h4 := h1
      simp only [Lib.hasPrefix, List.isPrefixOf, Bool.and_true, beq_iff_eq] at h4
      exact h4.symm
    subst hx
    have e2 : Lib.trimPrefix (91 :: xs) [91] = xs := by unfold Lib.trimPrefix; rw [if_pos h1]; rfl
    rw [e2] at h2
    have h3 : [93] <:+ xs := by simpa [Lib.hasSuffix] using h2
    obtain ⟨m, hm⟩ := h3
    exact ⟨m, by rw [← hm]⟩
/-- the base and K of an address, or one of them below 0 -/
def AdrOk (l : Bs) (b k : Int) : Prop := match addrOf l with | some p => b = p.1 ∧ k = p.2 | none => b < 0 ∨ k < 0
theorem AdrOk.shut {l : Bs} (h : ¬ ∃ m, l = 91 :: (m ++ [93])) : AdrOk l (-1) (-1) := by
  unfold AdrOk
  rw [addr_shut h]
  exact Or.inl (by omega)
theorem AdrOk.bare {m : Bs} (h : 43 ∉ m) : AdrOk (91 :: (m ++ [93])) 8 (orNo (numOf m)) := by
  unfold AdrOk
  rw [addr_mid, cut_none h]
  simp only [Bool.false_eq_true, if_false]
  cases numOf m with
  | none => exact Or.inr (by simp [orNo])
  | some n => exact ⟨rfl, rfl⟩
theorem AdrOk.bad {m : Bs} {k : Nat} (hk : m[k]? = some 43) (h : ∀ j, j < k → m[j]? ≠ some 43) (hb : orNo (regOf (m.take k)) < 0) : AdrOk (91 :: (m ++ [93])) (-1) (-1) := by
  unfold AdrOk
  rw [addr_mid, cut_some hk h]
  simp only [if_true]
  cases hr : regOf (m.take k) with
  | none => exact Or.inl (by omega)
  | some b => rw [hr] at hb; simp [orNo] at hb; omega
theorem AdrOk.plus {m : Bs} {k : Nat} (hk : m[k]? = some 43) (h : ∀ j, j < k → m[j]? ≠ some 43) (hb : ¬ orNo (regOf (m.take k)) < 0) : AdrOk (91 :: (m ++ [93])) (orNo (regOf (m.take k))) (orNo (numOf (m.drop (k + 1)))) := by
  unfold AdrOk
  rw [addr_mid, cut_some hk h]
  simp only [if_true]
  cases hr : regOf (m.take k) with
  | none => rw [hr] at hb; exact absurd (by simp [orNo]) hb
  | some b =>
    cases numOf (m.drop (k + 1)) with
    | none => exact Or.inr (by simp [orNo])
    | some n => exact ⟨rfl, rfl⟩
theorem mid_of (s : ByteArray) (h3 : 3 ≤ s.size) (c0 : s[0] = 91) (c1 : s[s.size - 1] = 93) : s.data.toList = 91 :: ((s.extract 1 (s.size - 1)).data.toList ++ [93]) := by
  obtain ⟨⟨l⟩⟩ := s
  match l, h3, c0, c1 with
  | x :: xs, h3, c0, c1 =>
    have hx : x = 91 := c0
    subst hx
    have hl : (ByteArray.mk (91 :: xs).toArray).size = xs.length + 1 := by rw [size_mk]; rfl
    have hne : xs ≠ [] := by intro h; subst h; rw [hl] at h3; simp at h3
    have hlast : xs.getLast hne = 93 := by
      have h2 : (91 :: xs)[(ByteArray.mk (91 :: xs).toArray).size - 1]? = some 93 := (at_list (ByteArray.mk (91 :: xs).toArray) _ (by omega)).trans (congrArg some c1)
      rw [hl] at h2
      rw [Nat.add_sub_cancel, List.getElem?_cons] at h2
      split at h2
      · rename_i h0
        exact absurd (List.length_eq_zero_iff.mp h0) hne
      · rw [List.getLast_eq_getElem]
        exact (List.getElem?_eq_some_iff.mp h2).2
    have he : ((ByteArray.mk (91 :: xs).toArray).extract 1 ((ByteArray.mk (91 :: xs).toArray).size - 1)).data.toList = xs.dropLast := by
      rw [hl, ByteArray.data_extract]
      simp [List.dropLast_eq_take]
    rw [he]
    show 91 :: xs = 91 :: (xs.dropLast ++ [93])
    have h4 := List.dropLast_concat_getLast hne
    rw [hlast] at h4
    rw [h4]
theorem no_mid (s : ByteArray) (h : s.size < 3 ∨ (∃ h : 0 < s.size, s[0] ≠ 91) ∨ ∃ h : 0 < s.size, s[s.size - 1] ≠ 93) : AdrOk s.data.toList (-1) (-1) := by
  by_cases h2 : ∃ m, s.data.toList = 91 :: (m ++ [93])
  · obtain ⟨m, hm⟩ := h2
    have hl := size_list s
    rw [hm] at hl
    simp only [List.length_cons, List.length_append, List.length_nil] at hl
    rcases h with h | ⟨h, hc⟩ | ⟨h, hc⟩
    · have h0 : m = [] := List.length_eq_zero_iff.mp (by omega)
      subst h0
      rw [hm]
      unfold AdrOk
      rw [addr_mid]
      exact Or.inl (by omega)
    · have := at_list s 0 h
      rw [hm] at this
      exact absurd (Option.some.inj this).symm hc
    · have := at_list s (s.size - 1) (by omega)
      generalize s[s.size - 1] = b at this hc
      rw [hm, ← hl, show m.length + (0 + 1) + 1 - 1 = m.length + 1 by omega, List.getElem?_cons_succ, List.getElem?_append_right (by omega)] at this
      simp only [Nat.sub_self, List.getElem?_cons_zero] at this
      exact absurd (Option.some.inj this).symm hc
  · exact AdrOk.shut h2
theorem take_of (t : ByteArray) (k : Nat) : (t.extract 0 k).data.toList = t.data.toList.take k := by
  rw [ByteArray.data_extract]; simp
theorem drop_of (t : ByteArray) (k : Nat) (h : k ≤ t.size) : (t.extract k t.size).data.toList = t.data.toList.drop k := by
  have hl := size_list t
  rw [ByteArray.data_extract, Array.toList_extract, List.extract_eq_take_drop]
  rw [List.take_of_length_le]
  rw [List.length_drop]; omega
def AdrP (l : Bs) (w : World) (e : Ending) (w' : World) : Prop := ∃ b k : Int, e = .returned (.tuple #[.int .i64 b, .int .i64 k]) ∧ AdrOk l b k ∧ Gr w w'

end Go.Proofs.YtcfkcnkekdafgaaDoor
