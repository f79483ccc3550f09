/-
  For any string, in any world: the reference's address tells the base and K as addrOf says; where it is none, one of them is below 0. Memory is as it was but for drawn orders. Conditions: strings of at most 2^31 bytes.
-/
import Derived.Test.YtcfkcnkekdafgaaGreatDoorRefo
import Derived.Test.YtcfkcnkekdafgaaGreatDoorLine
namespace Go.Proofs.YtcfkcnkekdafgaaGreatDoor
open Go.ChangeShapes Go.WideShapes Go.ChangeAt Go.RowKit
set_option linter.unusedVariables false

theorem cut_none {m : Bs} (h : 43 ∉ m) : Lib.cut m [43] = (m, [], false) := by
  unfold Lib.cut
  rcases index_one m 43 with ⟨e, _⟩ | ⟨i, e, h1, h2⟩
  · rw [e]; rfl
  · exact absurd (by rw [h2]; simp) h
theorem cut_some {m : Bs} {k : Nat} (hk : m[k]? = some 43) (h : ∀ j, j < k → m[j]? ≠ some 43) : Lib.cut m [43] = (m.take k, m.drop (k + 1), true) := by
  unfold Lib.cut
  rcases index_one m 43 with ⟨e, h1⟩ | ⟨i, e, h1, h2⟩
  · exact absurd (List.mem_of_getElem? hk) h1
  · have hi : i = k := by
      by_cases hlt : i < k
      · exfalso
        apply h i hlt
        have hl : (m.take i).length = i := by
          have := (List.getElem?_eq_some_iff.mp hk).1
          rw [List.length_take]; omega
        rw [h2, List.getElem?_append_right (by omega), hl]
        simp
      · by_cases hgt : k < i
        · exfalso
          apply h1
          apply List.mem_of_getElem? (i := k)
          rw [List.getElem?_take, if_pos hgt]
          exact hk
        · omega
    subst hi
    rw [e, if_pos (by omega)]
    rfl
theorem addr_mid (m : Bs) : addrOf (91 :: (m ++ [93])) = if (Lib.cut m [43]).2.2 = true then
      match regOf (Lib.cut m [43]).1, numOf (Lib.cut m [43]).2.1 with
      | some b, some k => some (b, k)
      | _, _ => none
    else (numOf m).map fun k => (8, k) := by
  have e1 : Lib.hasPrefix (91 :: (m ++ [93])) [91] = true := by simp [Lib.hasPrefix]
  have e2 : Lib.trimPrefix (91 :: (m ++ [93])) [91] = m ++ [93] := by unfold Lib.trimPrefix; rw [if_pos e1]; rfl
  have e3 : Lib.hasSuffix (m ++ [93]) [93] = true := by simp [Lib.hasSuffix]
  have e4 : Lib.trimSuffix (m ++ [93]) [93] = m := by unfold Lib.trimSuffix; rw [if_pos e3]; simp
  rw [addr_yes ⟨e1, by rw [e2]; exact e3⟩, e2, e4]
  rfl
theorem addr_shut {l : Bs} (h : ¬ ∃ m, l = 91 :: (m ++ [93])) : addrOf l = none := by
  apply addr_no
  rintro ⟨h1, h2⟩
  apply h
  match l, h1 with
  | x :: xs, h1 =>
    have hx : x = 91 := by
      have h4 := h1
      simp only [Lib.hasPrefix, List.isPrefixOf, Bool.and_true, beq_iff_eq] at h4
      exact h4.symm
    subst hx
    have e2 : Lib.trimPrefix (91 :: xs) [91] = xs := by unfold Lib.trimPrefix; rw [if_pos h1]; rfl
    rw [e2] at h2
    have h3 : [93] <:+ xs := by simpa [Lib.hasSuffix] using h2
    obtain ⟨m, hm⟩ := h3
    exact ⟨m, by rw [← hm]⟩
/-- the base and K of an address, or one of them below 0 -/
def AdrOk (l : Bs) (b k : Int) : Prop := match addrOf l with | some p => b = p.1 ∧ k = p.2 | none => b < 0 ∨ k < 0
theorem AdrOk.shut {l : Bs} (h : ¬ ∃ m, l = 91 :: (m ++ [93])) : AdrOk l (-1) (-1) := by
  unfold AdrOk
  rw [addr_shut h]
  exact Or.inl (by omega)
theorem AdrOk.bare {m : Bs} (h : 43 ∉ m) : AdrOk (91 :: (m ++ [93])) 8 (orNo (numOf m)) := by
  unfold AdrOk
  rw [addr_mid, cut_none h]
  simp only [Bool.false_eq_true, if_false]
  cases numOf m with
  | none => exact Or.inr (by simp [orNo])
  | some n => exact ⟨rfl, rfl⟩
theorem AdrOk.bad {m : Bs} {k : Nat} (hk : m[k]? = some 43) (h : ∀ j, j < k → m[j]? ≠ some 43) (hb : orNo (regOf (m.take k)) < 0) : AdrOk (91 :: (m ++ [93])) (-1) (-1) := by
  unfold AdrOk
  rw [addr_mid, cut_some hk h]
  simp only [if_true]
  cases hr : regOf (m.take k) with
  | none => exact Or.inl (by omega)
  | some b => rw [hr] at hb; simp [orNo] at hb; omega
theorem AdrOk.plus {m : Bs} {k : Nat} (hk : m[k]? = some 43) (h : ∀ j, j < k → m[j]? ≠ some 43) (hb : ¬ orNo (regOf (m.take k)) < 0) : AdrOk (91 :: (m ++ [93])) (orNo (regOf (m.take k))) (orNo (numOf (m.drop (k + 1)))) := by
  unfold AdrOk
  rw [addr_mid, cut_some hk h]
  simp only [if_true]
  cases hr : regOf (m.take k) with
  | none => rw [hr] at hb; exact absurd (by simp [orNo]) hb
  | some b =>
    cases numOf (m.drop (k + 1)) with
    | none => exact Or.inr (by simp [orNo])
    | some n => exact ⟨rfl, rfl⟩
theorem mid_of (s : ByteArray) (h3 : 3 ≤ s.size) (c0 : s[0] = 91) (c1 : s[s.size - 1] = 93) : s.data.toList = 91 :: ((s.extract 1 (s.size - 1)).data.toList ++ [93]) := by
  obtain ⟨⟨l⟩⟩ := s
  match l, h3, c0, c1 with
  | x :: xs, h3, c0, c1 =>
    have hx : x = 91 := c0
    subst hx
    have hl : (ByteArray.mk (91 :: xs).toArray).size = xs.length + 1 := by rw [size_mk]; rfl
    have hne : xs ≠ [] := by intro h; subst h; rw [hl] at h3; simp at h3
    have hlast : xs.getLast hne = 93 := by
      have h2 : (91 :: xs)[(ByteArray.mk (91 :: xs).toArray).size - 1]? = some 93 := (at_list (ByteArray.mk (91 :: xs).toArray) _ (by omega)).trans (congrArg some c1)
      rw [hl] at h2
      rw [Nat.add_sub_cancel, List.getElem?_cons] at h2
      split at h2
      · rename_i h0
        exact absurd (List.length_eq_zero_iff.mp h0) hne
      · rw [List.getLast_eq_getElem]
        exact (List.getElem?_eq_some_iff.mp h2).2
    have he : ((ByteArray.mk (91 :: xs).toArray).extract 1 ((ByteArray.mk (91 :: xs).toArray).size - 1)).data.toList = xs.dropLast := by
      rw [hl, ByteArray.data_extract]
      simp [List.dropLast_eq_take]
    rw [he]
    show 91 :: xs = 91 :: (xs.dropLast ++ [93])
    have h4 := List.dropLast_concat_getLast hne
    rw [hlast] at h4
    rw [h4]
theorem no_mid (s : ByteArray) (h : s.size < 3 ∨ (∃ h : 0 < s.size, s[0] ≠ 91) ∨ ∃ h : 0 < s.size, s[s.size - 1] ≠ 93) : AdrOk s.data.toList (-1) (-1) := by
  by_cases h2 : ∃ m, s.data.toList = 91 :: (m ++ [93])
  · obtain ⟨m, hm⟩ := h2
    have hl := size_list s
    rw [hm] at hl
    simp only [List.length_cons, List.length_append, List.length_nil] at hl
    rcases h with h | ⟨h, hc⟩ | ⟨h, hc⟩
    · have h0 : m = [] := List.length_eq_zero_iff.mp (by omega)
      subst h0
      rw [hm]
      unfold AdrOk
      rw [addr_mid]
      exact Or.inl (by omega)
    · have := at_list s 0 h
      rw [hm] at this
      exact absurd (Option.some.inj this).symm hc
    · have := at_list s (s.size - 1) (by omega)
      generalize s[s.size - 1] = b at this hc
      rw [hm, ← hl, show m.length + (0 + 1) + 1 - 1 = m.length + 1 by omega, List.getElem?_cons_succ, List.getElem?_append_right (by omega)] at this
      simp only [Nat.sub_self, List.getElem?_cons_zero] at this
      exact absurd (Option.some.inj this).symm hc
  · exact AdrOk.shut h2
theorem take_of (t : ByteArray) (k : Nat) : (t.extract 0 k).data.toList = t.data.toList.take k := by
  rw [ByteArray.data_extract]; simp
theorem drop_of (t : ByteArray) (k : Nat) (h : k ≤ t.size) : (t.extract k t.size).data.toList = t.data.toList.drop k := by
  have hl := size_list t
  rw [ByteArray.data_extract, Array.toList_extract, List.extract_eq_take_drop]
  rw [List.take_of_length_le]
  rw [List.length_drop]; omega
def AdrP (l : Bs) (w : World) (e : Ending) (w' : World) : Prop := ∃ b k : Int, e = .returned (.tuple #[.int .i64 b, .int .i64 k]) ∧ AdrOk l b k ∧ Gr w w'

set_option maxHeartbeats 1000000 in
theorem raddr_short (s : ByteArray) (w : World) (h : s.size < 3) : Calls Tryz.prog 51 #[.string s] w (AdrP s.data.toList w) := by
  have HA := hide (no_mid s (Or.inl h))
  have e1 : (s.size : Int) < 3 := by omega
  clear h
  go_enter Tryz.func51, Tryz.ntmps51
  go_wp2
  go_ret2
  exact ⟨_, _, rfl, HA.out, Gr.refl _⟩
set_option maxHeartbeats 1000000 in
theorem raddr_first (s : ByteArray) (w : World) (hs : s.size ≤ 2147483648) (h : 3 ≤ s.size) (c0 : s[0] ≠ 91) : Calls Tryz.prog 51 #[.string s] w (AdrP s.data.toList w) := by
  have HA := hide (no_mid s (Or.inr (Or.inl ⟨by omega, c0⟩)))
  have e1 : ¬ (s.size : Int) < 3 := by omega
  have b0 : (0 : Int) < s.size := by omega
  have q : (((s[0]).toNat : Int) != 91) = true := by
    simp only [bne_iff_ne, ne_eq]
    intro h
    exact c0 (UInt8.toNat_inj.mp (by simpa using (by omega : (s[0]).toNat = 91)))
  clear c0
  go_enter Tryz.func51, Tryz.ntmps51
  go_wp2
  go_ret2
  exact ⟨_, _, rfl, HA.out, Gr.refl _⟩
set_option maxHeartbeats 1000000 in
theorem raddr_last (s : ByteArray) (w : World) (hs : s.size ≤ 2147483648) (h : 3 ≤ s.size) (c0 : s[0] = 91) (c1 : s[s.size - 1] ≠ 93) : Calls Tryz.prog 51 #[.string s] w (AdrP s.data.toList w) := by
  have HA := hide (no_mid s (Or.inr (Or.inr ⟨by omega, c1⟩)))
  have e1 : ¬ (s.size : Int) < 3 := by omega
  have b0 : (0 : Int) < s.size := by omega
  have b1 : (s.size : Int) - 1 < s.size := by omega
  have b2 : (0 : Int) ≤ (s.size : Int) - 1 := by omega
  have q : (((s[0]).toNat : Int) != 91) = false := by rw [c0]; rfl
  have q1 : (((s[s.size - 1]).toNat : Int) != 93) = true := by
    simp only [bne_iff_ne, ne_eq]
    intro h
    exact c1 (UInt8.toNat_inj.mp (by simpa using (by omega : (s[s.size - 1]).toNat = 93)))
  clear c0 c1
  go_enter Tryz.func51, Tryz.ntmps51
  go_wp2
  go_ret2
  exact ⟨_, _, rfl, HA.out, Gr.refl _⟩

set_option maxHeartbeats 1000000 in
theorem raddr_in (s : ByteArray) (w : World) (hs : s.size ≤ 2147483648) (h : 3 ≤ s.size) (c0 : s[0] = 91) (c1 : s[s.size - 1] = 93) : Calls Tryz.prog 51 #[.string s] w (AdrP s.data.toList w) := by
  have HM := hide (mid_of s h c0 c1)
  have e1 : ¬ (s.size : Int) < 3 := by omega
  have b0 : (0 : Int) < s.size := by omega
  have b1 : (s.size : Int) - 1 < s.size := by omega
  have b2 : (0 : Int) ≤ (s.size : Int) - 1 := by omega
  have q : (((s[0]).toNat : Int) != 91) = false := by rw [c0]; rfl
  have q1 : (((s[s.size - 1]).toNat : Int) != 93) = false := by rw [c1]; rfl
  clear c0 c1
  go_enter Tryz.func51, Tryz.ntmps51
  go_wp2
  have hts : (s.extract 1 (s.size - 1)).size ≤ 2147483648 := by
    rw [ByteArray.size_extract]; omega
  generalize s.extract 1 (s.size - 1) = t at HM hts ⊢
  go_loop [4] (fun i => ∃ k : Nat, k ≤ t.size ∧ i = .int .i64 k ∧ Hid (∀ j, j < k → t.data.toList[j]? ≠ some 43)) (fun i => t.size - (intOf i).toNat)
  case atStart => exact ⟨0, by omega, rfl, fun j hj => by omega⟩
  case round =>
    obtain ⟨k, hk, rfl, hd⟩ := hrel
    by_cases hlt : k < t.size
    · have hat := at_list t k hlt
      have hb1 : (k : Int) < t.size := by omega
      cases hb : ((t[k].toNat : Int) == 43)
      · have HN : Hid (∀ j, j < k + 1 → t.data.toList[j]? ≠ some 43) := by
          intro j hj he
          by_cases e : j = k
          · subst e
            rw [hat] at he
            rw [Option.some.inj he] at hb
            simp at hb
          · exact hd.out j (by omega) he
        clear hat hd
        go_wp2
        exact ⟨⟨k + 1, by omega, by go_num, HN⟩, by simp [intOf]; omega⟩
      · have h43 : t[k] = 43 := UInt8.toNat_inj.mp (by simpa using (by simp only [beq_iff_eq] at hb; omega : (t[k]).toNat = 43))
        rw [h43] at hat
        have hz : (t.extract (k + 1) t.size).size ≤ 2147483648 := by rw [ByteArray.size_extract]; omega
        have ht := take_of t k
        have hdr := drop_of t (k + 1) (by omega)
        have h5 : (k : Int) + 1 ≤ t.size := by omega
        have h6 : IntKind.i64.wrap ((k : Int) + 1) = (k : Int) + 1 := by rw [IntKind.wrap_i64]; omega
        have h7 : ((k : Int) + 1).toNat = k + 1 := by omega
        have h8 : k + 1 ≤ t.size := by omega
        have h9 : (0 : Int) ≤ (k : Int) + 1 := by omega
        by_cases hneg : orNo (regOf (t.data.toList.take k)) < 0
        · have HA : Hid (AdrOk s.data.toList (-1) (-1)) := by
            refine hide ?_
            rw [HM.out]
            exact AdrOk.bad hat hd.out hneg
          have HT := hide ht
          have HZ := hide hz
          generalize hr : orNo (regOf (t.data.toList.take k)) = r at hneg
          have HR : Hid (orNo (regOf (t.extract 0 k).data.toList) = r) := by rw [HT.out]; exact hide hr
          clear hat hd HM ht hz hdr h43 hr HT
          go_wp2
          go_region_with (first | (go_at_call 50; refine (rreg_calls _ _).mono ?_; rw [HR.out]; rintro e w1 ⟨rfl, rfl⟩) | (go_at_call 52; refine (rnum_calls _ _ HZ.out).mono ?_; rintro e w1 ⟨rfl, rfl⟩))
          all_goals
            go_wp2
            go_ret2
            exact ⟨_, _, rfl, HA.out, (Gr.refl _).drew⟩
        · have HA : Hid (AdrOk s.data.toList (orNo (regOf (t.data.toList.take k))) (orNo (numOf (t.data.toList.drop (k + 1))))) := by
            refine hide ?_
            rw [HM.out]
            exact AdrOk.plus hat hd.out hneg
          have HT := hide ht
          have HZ := hide hz
          have HD := hide hdr
          generalize hr : orNo (regOf (t.data.toList.take k)) = r at hneg HA
          generalize hn : orNo (numOf (t.data.toList.drop (k + 1))) = n at HA
          have HR : Hid (orNo (regOf (t.extract 0 k).data.toList) = r) := by rw [HT.out]; exact hide hr
          have HV : Hid (orNo (numOf (t.extract (k + 1) t.size).data.toList) = n) := by rw [HD.out]; exact hide hn
          clear hat hd HM ht hz hdr h43 hr hn HT HD
          go_wp2
          go_region_with (first | (go_at_call 50; refine (rreg_calls _ _).mono ?_; rw [HR.out]; rintro e w1 ⟨rfl, rfl⟩) | (go_at_call 52; refine (rnum_calls _ _ HZ.out).mono ?_; rw [HV.out]; rintro e w1 ⟨rfl, rfl⟩))
          all_goals
            go_wp2
            go_ret2
            exact ⟨_, _, rfl, HA.out, (Gr.refl _).drew⟩
    · obtain rfl : k = t.size := by omega
      have HA : Hid (AdrOk s.data.toList 8 (orNo (numOf t.data.toList))) := by
        refine hide ?_
        rw [HM.out]
        refine AdrOk.bare ?_
        intro hm
        obtain ⟨j, hj⟩ := List.mem_iff_getElem?.mp hm
        have hl := size_list t
        exact hd.out j (by have := (List.getElem?_eq_some_iff.mp hj).1; omega) hj
      clear hd HM
      go_wp2_with (go_at_call 52; refine (rnum_calls _ _ hts).mono ?_; rintro e w1 ⟨rfl, rfl⟩)
      go_ret2
      exact ⟨_, _, rfl, HA.out, Gr.refl _⟩
theorem raddr_calls (s : ByteArray) (w : World) (hs : s.size ≤ 2147483648) : Calls Tryz.prog 51 #[.string s] w (AdrP s.data.toList w) := by
  by_cases h : s.size < 3
  · exact raddr_short s w h
  · by_cases c0 : s[0] = 91
    · by_cases c1 : s[s.size - 1] = 93
      · exact raddr_in s w hs (by omega) c0 c1
      · exact raddr_last s w hs (by omega) c0 c1
    · exact raddr_first s w hs (by omega) c0
end Go.Proofs.YtcfkcnkekdafgaaGreatDoor
