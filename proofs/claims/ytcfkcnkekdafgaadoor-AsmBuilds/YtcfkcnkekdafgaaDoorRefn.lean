/-
  For any string, in any world: the document's own Name, register and Number answer as isName, regOf and numOf say; memory is as it was. Conditions: strings of at most 2^31 bytes.
-/
import Derived.Test.YtcfkcnkekdafgaaDoorTake
namespace Go.Proofs.YtcfkcnkekdafgaaDoor
open Go.ChangeShapes Go.WideShapes Go.ChangeAt Go.RowKit
set_option linter.unusedVariables false

set_option maxHeartbeats 1000000 in
theorem rname_calls (s : ByteArray) (w : World) (hs : s.size ≤ 9223372036854775807) :
    Calls Tryd.prog 13 #[.string s] w fun e w' => e = .returned (.bool (isName s.data.toList)) ∧ w' = w := by
  have hsz := size_list s
  go_enter Tryd.func13, Tryd.ntmps13
  go_wp2
  go_loop [3] (fun i => ∃ k : Nat, k ≤ s.size ∧ i = .int .i64 k ∧ Hid (∀ j b, j < k → s.data.toList[j]? = some b → okAt j b = true)) (fun i => s.size - (intOf i).toNat)
  case atStart => exact ⟨0, by omega, rfl, fun k b hk => by omega⟩
  case round =>
    obtain ⟨k, hk, rfl, hd⟩ := hrel
    by_cases hlt : k < s.size
    · have hat := at_list s k hlt
      have hb1 : (k : Int) < s.size := by omega
      cases ho : okAt k (s[k]'hlt)
      · have HE := hide (isName_no hat ho)
        have HO := hide ho
        clear hat hd ho
        by_cases a1 : (97 : Int) ≤ (s[k]'hlt).toNat
        · by_cases a2 : ((s[k]'hlt).toNat : Int) ≤ 122
          · exact absurd HO.out (by unfold okAt letB; simp; omega)
          · have a3 : (48 : Int) ≤ (s[k]'hlt).toNat := by omega
            have a4 : ¬ ((s[k]'hlt).toNat : Int) ≤ 57 := by omega
            clear HO
            go_wp2
            go_ret
            exact ⟨by rw [HE.out]; rfl, rfl⟩
        · by_cases a3 : (48 : Int) ≤ (s[k]'hlt).toNat
          · by_cases a4 : ((s[k]'hlt).toNat : Int) ≤ 57
            · by_cases h0 : k = 0
              · have h0' : ((k : Int) == 0) = true := by simp [h0]
                clear HO h0
                go_wp2
                go_ret
                exact ⟨by rw [HE.out]; rfl, rfl⟩
              · exact absurd HO.out (by unfold okAt letB digB; simp; omega)
            · clear HO
              go_wp2
              go_ret
              exact ⟨by rw [HE.out]; rfl, rfl⟩
          · clear HO
            go_wp2
            go_ret
            exact ⟨by rw [HE.out]; rfl, rfl⟩
      · have HN : Hid (∀ j b, j < k + 1 → s.data.toList[j]? = some b → okAt j b = true) := by
          intro j c hj hc
          by_cases e : j = k
          · subst e
            rw [hat] at hc
            cases hc
            exact ho
          · exact hd.out j c (by omega) hc
        have HO := hide ho
        clear hat hd ho
        by_cases a1 : (97 : Int) ≤ (s[k]'hlt).toNat
        · by_cases a2 : ((s[k]'hlt).toNat : Int) ≤ 122
          · have a3 : (48 : Int) ≤ (s[k]'hlt).toNat := by omega
            have a4 : ¬ ((s[k]'hlt).toNat : Int) ≤ 57 := by omega
            clear HO
            go_wp2
            exact ⟨⟨k + 1, by omega, by go_num, HN⟩, by simp [intOf]; omega⟩
          · exact absurd HO.out (by unfold okAt letB digB; simp; omega)
        · by_cases a3 : (48 : Int) ≤ (s[k]'hlt).toNat
          · by_cases a4 : ((s[k]'hlt).toNat : Int) ≤ 57
            · by_cases h0 : k = 0
              · exact absurd HO.out (by unfold okAt letB digB; simp; omega)
              · have h0' : ((k : Int) == 0) = false := by simp [h0]
                clear HO h0
                go_wp2
                exact ⟨⟨k + 1, by omega, by go_num, HN⟩, by simp [intOf]; omega⟩
            · exact absurd HO.out (by unfold okAt letB digB; simp; omega)
          · exact absurd HO.out (by unfold okAt letB digB; simp; omega)
    · obtain rfl : k = s.size := by omega
      by_cases h1 : 1 ≤ s.size
      · have h1' : (1 : Int) ≤ s.size := by omega
        by_cases h2 : s.size ≤ 20
        · have h2' : (s.size : Int) ≤ 20 := by omega
          have HE := hide (isName_yes (l := s.data.toList) (by omega) (by omega) (fun j b hb => hd.out j b (by have := (List.getElem?_eq_some_iff.mp hb).1; omega) hb))
          go_wp2
          go_ret
          exact ⟨by rw [HE.out]; rfl, rfl⟩
        · have h2' : ¬ (s.size : Int) ≤ 20 := by omega
          have HE := hide (isName_long (l := s.data.toList) (by omega))
          go_wp2
          go_ret
          exact ⟨by rw [HE.out]; rfl, rfl⟩
      · have h1' : ¬ (1 : Int) ≤ s.size := by omega
        have HE := hide (isName_long (l := s.data.toList) (by omega))
        go_wp2
        go_ret
        exact ⟨by rw [HE.out]; rfl, rfl⟩

/-- a number, or -1 -/
def orNo : Option Nat → Int
  | some n => n
  | none => -1
/-- what digits spell, behind a number -/
def decV : Nat → Bs → Nat
  | acc, [] => acc
  | acc, c :: r => decV (acc * 10 + (c.toNat - 48)) r
theorem decV_snoc (l : Bs) (c : UInt8) : ∀ acc, decV acc (l ++ [c]) = decV acc l * 10 + (c.toNat - 48) := by
  induction l with
  | nil => intro acc; rfl
  | cons x xs ih => intro acc; exact ih _
theorem decV_ge (l : Bs) : ∀ acc, acc * 10 ^ l.length ≤ decV acc l := by
  induction l with
  | nil => intro acc; show acc * 10 ^ 0 ≤ acc; omega
  | cons x xs ih =>
    intro acc
    have h := ih (acc * 10 + (x.toNat - 48))
    refine Nat.le_trans ?_ h
    rw [List.length_cons, Nat.pow_succ, Nat.mul_comm (10 ^ xs.length) 10, ← Nat.mul_assoc]
    exact Nat.mul_le_mul_right _ (by omega)
theorem decV_lt (l : Bs) : (∀ c ∈ l, digB c = true) → ∀ acc, decV acc l < (acc + 1) * 10 ^ l.length := by
  induction l with
  | nil => intro _ acc; show acc < (acc + 1) * 10 ^ 0; omega
  | cons x xs ih =>
    intro hd acc
    have h := ih (fun c hc => hd c (List.mem_cons_of_mem _ hc)) (acc * 10 + (x.toNat - 48))
    have hx := hd x List.mem_cons_self
    refine Nat.lt_of_lt_of_le h ?_
    rw [List.length_cons, Nat.pow_succ, Nat.mul_comm (10 ^ xs.length) 10, ← Nat.mul_assoc]
    refine Nat.mul_le_mul_right _ ?_
    simp [digB] at hx
    omega
theorem decV_mono (l : Bs) (acc : Nat) : acc ≤ decV acc l :=
  Nat.le_trans (Nat.le_mul_of_pos_right _ (Nat.pow_pos (by omega))) (decV_ge l acc)
theorem parseM_ok (l : Bs) : ∀ acc, (∀ c ∈ l, digB c = true) → decV acc l ≤ 4294967295 → Lib.parseUintM 4294967295 acc l = .ok (decV acc l) := by
  induction l with
  | nil => intro acc _ _; rfl
  | cons x xs ih =>
    intro acc hd hm
    have hx := hd x List.mem_cons_self
    simp [digB] at hx
    have h1 := decV_mono xs (acc * 10 + (x.toNat - 48))
    have hm' : decV (acc * 10 + (x.toNat - 48)) xs ≤ 4294967295 := hm
    unfold Lib.parseUintM
    rw [if_pos hx, if_neg (by omega), if_neg (by omega)]
    exact ih _ (fun c hc => hd c (List.mem_cons_of_mem _ hc)) hm
theorem parseM_inv (l : Bs) : ∀ acc u, acc ≤ 4294967295 → Lib.parseUintM 4294967295 acc l = .ok u → (∀ c ∈ l, digB c = true) ∧ u = decV acc l ∧ u ≤ 4294967295 := by
  induction l with
  | nil =>
    intro acc u ha h
    simp only [Lib.parseUintM] at h
    injection h with h
    subst h
    exact ⟨by simp, rfl, ha⟩
  | cons x xs ih =>
    intro acc u ha h
    unfold Lib.parseUintM at h
    split at h
    · rename_i hx
      split at h
      · cases h
      · split at h
        · cases h
        · rename_i h2
          obtain ⟨h3, h4, h5⟩ := ih _ u (by omega) h
          refine ⟨?_, h4, h5⟩
          intro c hc
          rcases List.mem_cons.mp hc with rfl | hc
          · simp [digB]; exact hx
          · exact h3 c hc
    · cases h
theorem numOf_ok {l : Bs} (h0 : l ≠ []) (hd : ∀ c ∈ l, digB c = true) (hm : decV 0 l ≤ 4294967295) (hz : l = [48] ∨ l.head? ≠ some 48) : numOf l = some (decV 0 l) := by
  have e : Lib.parseUintB 32 l = .ok (decV 0 l) := by
    unfold Lib.parseUintB
    rw [if_neg h0]
    exact parseM_ok l 0 hd hm
  unfold numOf
  rw [e]
  simp only
  rw [if_pos hz]
theorem numOf_inv {l : Bs} {u : Nat} (h : numOf l = some u) : l ≠ [] ∧ (∀ c ∈ l, digB c = true) ∧ decV 0 l ≤ 4294967295 ∧ (l = [48] ∨ l.head? ≠ some 48) ∧ l.length ≤ 10 := by
  unfold numOf at h
  split at h
  · rename_i v hv
    split at h
    · rename_i hz
      unfold Lib.parseUintB at hv
      split at hv
      · cases hv
      · rename_i h0
        obtain ⟨h1, h2, h3⟩ := parseM_inv l 0 v (by omega) hv
        subst h2
        refine ⟨h0, h1, h3, hz, ?_⟩
        match l, h0 with
        | x :: xs, _ =>
          rcases hz with hz | hz
          · rw [hz]; simp
          · have hx := h1 x List.mem_cons_self
            simp [digB] at hx
            have hne : x.toNat ≠ 48 := by
              intro e
              apply hz
              have : x = 48 := UInt8.toNat_inj.mp (by simpa using e)
              simp [this]
            have h4 := decV_ge xs (0 * 10 + (x.toNat - 48))
            have h5 : decV (0 * 10 + (x.toNat - 48)) xs ≤ 4294967295 := h3
            by_cases hl : xs.length < 10
            · simp; omega
            · exfalso
              have h6 : 10 ^ 10 ≤ 10 ^ xs.length := Nat.pow_le_pow_right (by omega) (by omega)
              have h7 : 1 * 10 ^ xs.length ≤ (0 * 10 + (x.toNat - 48)) * 10 ^ xs.length := Nat.mul_le_mul_right _ (by omega)
              omega
    · cases h
  · cases h
theorem numOf_none {l : Bs} (h : ¬ (l ≠ [] ∧ (∀ c ∈ l, digB c = true) ∧ decV 0 l ≤ 4294967295 ∧ (l = [48] ∨ l.head? ≠ some 48) ∧ l.length ≤ 10)) : numOf l = none := by
  cases hn : numOf l with
  | none => rfl
  | some u => exact absurd (numOf_inv hn) h
theorem take_snoc (l : Bs) (k : Nat) (b : UInt8) (h : l[k]? = some b) : l.take (k + 1) = l.take k ++ [b] := by
  rw [List.take_add_one, h]; rfl
theorem decV_take (l : Bs) (k : Nat) (hk : k ≤ 10) (h : ∀ j b, j < k → l[j]? = some b → digB b = true) : decV 0 (l.take k) < 10000000000 := by
  have h1 := decV_lt (l.take k) (fun c hc => by
    obtain ⟨j, hj⟩ := List.mem_iff_getElem?.mp hc
    rw [List.getElem?_take] at hj
    split at hj
    · rename_i hlt
      exact h j c hlt hj
    · cases hj) 0
  have h2 : 10 ^ (l.take k).length ≤ 10 ^ 10 := Nat.pow_le_pow_right (by omega) (by rw [List.length_take]; omega)
  omega
theorem one_of (s : ByteArray) (h : s.size = 1) : s.data.toList = [s[0]] := by
  obtain ⟨⟨l⟩⟩ := s
  match l, h with
  | [a], _ => rfl

end Go.Proofs.YtcfkcnkekdafgaaDoor
