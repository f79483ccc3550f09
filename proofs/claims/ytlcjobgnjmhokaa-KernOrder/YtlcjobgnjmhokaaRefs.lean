/-
  What the law's own functions answer: numbers that are the same, the document's Find. No condition but that the slices' cells hold the lists.
-/
import Derived.Test.YtlcjobgnjmhokaaWake
import Derived.Test.YtlcjobgnjmhokaaSlep
namespace Go.Proofs.Ytlcjobgnjmhokaa
open Go.ChangeShapes Go.WideShapes Go.ChangeAt Go.RowKit
set_option linter.unusedVariables false

set_option maxHeartbeats 1000000 in
theorem numbers_calls (a b : Option Addr) (ca cb : Nat) (m : List Int) (hl : m.length ≤ 1000) (w : World) (ha : NumsAt w a m) (hb : NumsAt w b m) :
    Calls Try.prog 12 #[.slice a m.length ca, .slice b m.length cb] w fun e w' => e = .returned (.bool true) ∧ Gr w w' := by
  have HA := hide ha
  have HB := hide hb
  clear ha hb
  go_enter Try.func12, Try.ntmps12
  go_wp2_with (fail)
  go_loopw [5] (fun i wr => ∃ k : Nat, k ≤ m.length ∧ i = .int .i64 k ∧ Gr w wr) (fun i _ => m.length - (intOf i).toNat)
  case atStart => exact ⟨0, by omega, rfl, Gr.refl w⟩
  case round =>
    obtain ⟨k, hk, rfl, gr⟩ := hrel
    by_cases hlt : k < m.length
    · have hlt' : (k : Int) < m.length := by omega
      obtain ⟨b1, o1, h1, c1⟩ := (HA.out.later gr).get hlt
      obtain ⟨b2, o2, h2, c2⟩ := (HB.out.later gr).get hlt
      subst h1 h2
      generalize m.getD k 0 = x at c1 c2
      go_wp2_with (fail)
      go_quiet (fail)
      go_wp2_with (fail)
      exact ⟨⟨k + 1, by omega, by go_num, gr.drewN nq⟩, by simp [intOf]; omega⟩
    · obtain rfl : k = m.length := by omega
      go_wp2_with (fail)
      go_ret
      exact ⟨rfl, gr⟩

/-- what the document's Find answers -/
def fidx (who : Int) (l : List Ent) : Int := if idx who l < l.length then (idx who l : Int) else -1
theorem idx_drop (who : Int) : ∀ (l : List Ent) (k : Nat), k ≤ idx who l → idx who l = k + idx who (l.drop k)
  | l, 0, _ => by simp
  | [], k + 1, h => by simp [idx] at h
  | x :: l, k + 1, h => by
    unfold idx at h
    split at h
    · omega
    · rename_i hx
      have := idx_drop who l k (by omega)
      simp only [idx, hx, if_false, List.drop_succ_cons]
      omega

set_option maxHeartbeats 1000000 in
theorem rfind_calls (a : Option Addr) (ca : Nat) (l : List Ent) (hl : l.length ≤ 1000) (who : Int) (w : World) (ha : EntsAt w a l) :
    Calls Try.prog 8 #[.slice a l.length ca, .int .i64 who] w fun e w' => e = .returned (.int .i64 (fidx who l)) ∧ w' = w := by
  have HA := hide ha
  clear ha
  go_enter Try.func8, Try.ntmps8
  go_wp2_with (fail)
  go_loop [5] (fun i => ∃ k : Nat, k ≤ l.length ∧ i = .int .i64 k ∧ Hid (k ≤ idx who l)) (fun i => l.length - (intOf i).toNat)
  case atStart => exact ⟨0, by omega, rfl, Nat.zero_le _⟩
  case round =>
    obtain ⟨k, hk, rfl, hn⟩ := hrel
    by_cases hlt : k < l.length
    · have hlt' : (k : Int) < l.length := by omega
      obtain ⟨b1, o1, h1, c1, c2⟩ := HA.out.get hlt
      have HD := hide (drop_get l k hlt)
      have HI := hide (idx_drop who l k hn.out)
      subst h1
      generalize l.getD k ent0 = x at c1 c2 HD
      by_cases hx : x.a = who
      · have hx' : (x.a == who) = true := by simp [hx]
        have HR : Hid (fidx who l = (k : Int)) := by
          have e : idx who l = k := by rw [HI.out, HD.out]; simp [idx, hx]
          show fidx who l = _
          unfold fidx
          rw [e, if_pos hlt]
        clear hn HD HI hx
        go_wp2_with (fail)
        go_ret
        exact ⟨by rw [HR.out]; rfl, rfl⟩
      · have hx' : (x.a == who) = false := by simp [hx]
        have HR : Hid (k + 1 ≤ idx who l) := by
          show k + 1 ≤ idx who l
          rw [HI.out, HD.out]
          simp only [idx, hx, if_false]
          omega
        clear hn HD HI hx
        go_wp2_with (fail)
        exact ⟨⟨k + 1, by omega, by go_num, HR⟩, by simp [intOf]; omega⟩
    · obtain rfl : k = l.length := by omega
      have HR : Hid (fidx who l = -1) := by
        have h1 := hn.out
        show fidx who l = -1
        unfold fidx
        rw [if_neg (by omega)]
      clear hn
      go_wp2_with (fail)
      go_ret
      exact ⟨by rw [HR.out]; rfl, rfl⟩
end Go.Proofs.Ytlcjobgnjmhokaa
