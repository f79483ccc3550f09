/-
  For any slice of strings and any name, in any world in which the strings lie: the reference's place tells the place of the name among the lines, or -1. Memory is as it was but for drawn orders. Conditions: at most 2^31 strings of at most 2^31 bytes each.
-/
import Derived.Test.YtcfkcnkekdafgaaGreatDoorRefs
namespace Go.Proofs.YtcfkcnkekdafgaaGreatDoor
open Go.ChangeShapes Go.WideShapes Go.ChangeAt Go.RowKit
set_option linter.unusedVariables false

/-- strings lie behind a slice -/
def StrsAt (w : World) (v : Value) (ls : List Bs) : Prop := ∃ a cap, v = .slice a ls.length cap ∧ (ls = [] ∨ ∃ b off, a = some ⟨b, off, none⟩ ∧ ∀ j s, ls[j]? = some s → w.cell? ⟨b, off + j, none⟩ = some (strV s))
/-- the place of a name among lines, from n on -/
def placeR : List Bs → Bs → Nat → Option Nat
  | [], _, _ => none
  | t :: ts, nm, n => if t = [] then placeR ts nm n else if t = nm ++ [58] then some n else if t.getLast? = some 58 then placeR ts nm n else placeR ts nm (n + 1)
theorem placeR_cons (t : Bs) (ts : List Bs) (nm : Bs) (n : Nat) : placeR (t :: ts) nm n = if t = [] then placeR ts nm n else if t = nm ++ [58] then some n else if t.getLast? = some 58 then placeR ts nm n else placeR ts nm (n + 1) := rfl
theorem lastB (T : ByteArray) (h : T.data.toList ≠ []) : ∃ h : T.size - 1 < T.size, T.data.toList.getLast? = some T[T.size - 1] := by
  have hl := size_list T
  have h0 : T.size ≠ 0 := fun e => h (List.length_eq_zero_iff.mp (by omega))
  refine ⟨by omega, ?_⟩
  rw [List.getLast?_eq_getElem?, hl]
  exact at_list T (T.size - 1) (by omega)
theorem cat_eq (T nm : ByteArray) : (T.toList == (nm ++ ⟨#[58]⟩).toList) = decide (T.data.toList = nm.data.toList ++ [58]) := by
  rw [str_eq]
  congr 1
  apply propext
  constructor
  · intro h
    rw [h]
    simp
  · intro h
    apply ByteArray.ext
    apply Array.toList_inj.mp
    rw [h]
    simp

set_option maxHeartbeats 2000000 in
theorem rplace_calls (v : Value) (ls : List Bs) (nm : ByteArray) (w : World) (hnm : nm.size ≤ 2147483648) (hv : StrsAt w v ls) (hn : ls.length ≤ 2147483648) (hs : ∀ s ∈ ls, s.length ≤ 2147483648) :
    Calls Tryz.prog 29 #[v, .string nm] w fun e w' => e = .returned (.int .i64 (orNo (placeR ls nm.data.toList 0))) ∧ ∃ n, w' = w.drewN n := by
  obtain ⟨a, cap, rfl, hv⟩ := hv
  have HV := hide hv
  have HSS := hide hs
  clear hv hs
  go_enter Tryz.func29, Tryz.ntmps29
  go_wp2
  go_loopw [5, 6] (fun n i w' => ∃ k m d : Nat, k ≤ ls.length ∧ m ≤ k ∧ i = .int .i64 k ∧ n = .int .i64 m ∧ Hid (placeR ls nm.data.toList 0 = placeR (ls.drop k) nm.data.toList m) ∧ w' = w.drewN d) (fun n i w' => ls.length - (intOf i).toNat)
  case atStart => exact ⟨0, 0, 0, by omega, by omega, rfl, rfl, rfl, rfl⟩
  case round =>
    obtain ⟨k, m, d, hk, hm, rfl, rfl, hd, rfl⟩ := hrel
    by_cases hlt : k < ls.length
    · rcases HV.out with h0 | ⟨b, off, rfl, hcell⟩
      · subst h0; simp at hlt
      have hb1 : (k : Int) < ls.length := by omega
      have hc' : w.cell? ⟨b, off + k, none⟩ = some (.string ⟨(ls[k]).toArray⟩) := hcell k _ (List.getElem?_eq_getElem hlt)
      have hc : (w.drewN d).cell? ⟨b, off + k, none⟩ = some (.string ⟨(ls[k]).toArray⟩) := hcell k _ (List.getElem?_eq_getElem hlt)
      have hdr : ls.drop k = ls[k] :: ls.drop (k + 1) := List.drop_eq_getElem_cons hlt
      have hsz : (ByteArray.mk (ls[k]).toArray).size ≤ 2147483648 := by rw [size_mk]; exact HSS.out _ (List.getElem_mem hlt)
      have HT : Hid ((ByteArray.mk (ls[k]).toArray).data.toList = ls[k]) := rfl
      rw [hdr] at hd
      generalize ls[k] = t at hc hc' hd hsz HT
      generalize ByteArray.mk t.toArray = T at hc hc' hsz HT
      clear hdr hcell
      by_cases h0 : t = []
      · subst h0
        have hd : Hid (placeR ls nm.data.toList 0 = placeR (ls.drop (k + 1)) nm.data.toList m) := hd.out
        have q0 : List.isEmpty T.toList = true := by rw [ByteArray.toList_eq, HT.out]; rfl
        go_wp2
        exact ⟨⟨k + 1, m, d, by omega, by omega, by go_num, rfl, hd, rfl⟩, by simp [intOf]; omega⟩
      have q0 : List.isEmpty T.toList = false := by rw [ByteArray.toList_eq, HT.out]; simpa using h0
      have hq := cat_eq T nm
      by_cases h1 : t = nm.data.toList ++ [58]
      · have q1 : (T.toList == (nm ++ ⟨#[58]⟩).toList) = true := by rw [hq, HT.out]; simpa using h1
        have HE : Hid (placeR ls nm.data.toList 0 = some m) := by
          have h2 := hd.out
          rw [placeR_cons, if_neg h0, if_pos h1] at h2
          exact h2
        clear hq hd h0 h1
        go_wp2
        go_ret
        exact ⟨by rw [HE.out]; rfl, d, rfl⟩
      have q1 : (T.toList == (nm ++ ⟨#[58]⟩).toList) = false := by rw [hq, HT.out]; simpa using h1
      obtain ⟨hT, hla⟩ := lastB T (by rw [HT.out]; exact h0)
      rw [HT.out] at hla
      have b1 : (T.size : Int) - 1 < T.size := by omega
      have b2 : (0 : Int) ≤ (T.size : Int) - 1 := by omega
      have ew : IntKind.i64.wrap ((T.size : Int) - 1) = ((T.size - 1 : Nat) : Int) := by rw [IntKind.wrap_i64]; omega
      have b3 : ((T.size - 1 : Nat) : Int) < T.size := by omega
      by_cases h2 : T[T.size - 1] = 58
      · have q2 : (((T[T.size - 1]).toNat : Int) != 58) = false := by rw [h2]; rfl
        have hd : Hid (placeR ls nm.data.toList 0 = placeR (ls.drop (k + 1)) nm.data.toList m) := by
          have h3 := hd.out
          rw [placeR_cons, if_neg h0, if_neg h1, if_pos (by rw [hla, h2])] at h3
          exact h3
        clear hq h0 h1 hla h2
        go_wp2
        go_quiet (fail)
        go_wp2
        go_roundw
        case rel => exact ⟨k + 1, m, _, by omega, by omega, by go_num, rfl, hd, rfl⟩
        case measure => simp [intOf]; omega
      · have q2 : (((T[T.size - 1]).toNat : Int) != 58) = true := by
          simp only [bne_iff_ne, ne_eq]
          intro h
          exact h2 (UInt8.toNat_inj.mp (by simpa using (by omega : (T[T.size - 1]).toNat = 58)))
        have hd : Hid (placeR ls nm.data.toList 0 = placeR (ls.drop (k + 1)) nm.data.toList (m + 1)) := by
          have h3 := hd.out
          rw [placeR_cons, if_neg h0, if_neg h1, if_neg (by rw [hla]; intro e; exact h2 (Option.some.inj e))] at h3
          exact h3
        clear hq h0 h1 hla h2
        go_wp2
        go_quiet (fail)
        go_wp2
        go_roundw
        case rel => exact ⟨k + 1, m + 1, _, by omega, by omega, by go_num, by go_num, hd, rfl⟩
        case measure => simp [intOf]; omega
    · obtain rfl : k = ls.length := by omega
      have HE : Hid (placeR ls nm.data.toList 0 = none) := by
        have h2 := hd.out
        rw [List.drop_length] at h2
        exact h2
      clear hd
      go_wp2
      go_ret
      exact ⟨by rw [HE.out]; rfl, d, rfl⟩
end Go.Proofs.YtcfkcnkekdafgaaGreatDoor
