/-
  For any program in memory: the reference's Small answers yes or no, and makes new blocks alone. No condition.
-/
import Derived.Test.YthooopcoemdphaaDoorPgAt
namespace Go.Proofs.YthooopcoemdphaaDoor
open Go.ChangeShapes Go.WideShapes Go.ChangeAt Go.RowKit Go.Deep
set_option linter.unusedVariables false

def YesNo (w : World) (e : Ending) (w' : World) : Prop := (∃ b, e = .returned (.bool b)) ∧ Gr w w'

set_option maxHeartbeats 2000000 in
theorem small_calls (v : Value) (p : Pg) (w : World) (h : ProgAt w v p) :
    Calls Tryd.prog 11 #[v, .int .i64 2000] w (YesNo w) := by
  obtain ⟨a, cap, A, C, ma, mc, rfl, hC, hM⟩ := id h
  have hg0 := (Gr.refl w).alloc #[.slice a p.codes.length cap, .slice ma p.mem.length mc, .int .i64 p.room] 27
  have HB := hide (PBox.fresh a p.codes.length cap ma p.mem.length mc p.room w)
  have HR := hide (hC.later hg0)
  have hm1 := hC.1
  have hm2 := hM.1
  unfold maxLen at hm1 hm2
  clear hC hM h
  go_enter Tryd.func11, Tryd.ntmps11
  go_wp2
  generalize w.alloc (.cells #[.slice a p.codes.length cap, .slice ma p.mem.length mc, .int .i64 p.room] 27) = w1 at hg0 HB HR ⊢
  obtain ⟨b0, b1, b2⟩ := id HB.out
  go_loop [5, 6] (fun n i => ∃ k m : Nat, k ≤ p.codes.length ∧ m ≤ 4001 ∧ i = .int .i64 k ∧ n = .int .i64 m) (fun _ i => p.codes.length - (intOf i).toNat)
  case atStart => exact ⟨0, 0, by omega, by omega, rfl, rfl⟩
  case round =>
    obtain ⟨k, m, hk, hm3, rfl, rfl⟩ := hrel
    by_cases hgo : k < p.codes.length ∧ m ≤ 2000
    · obtain ⟨hlt, hm4⟩ := hgo
      obtain ⟨b, off, rfl, hc, hL⟩ : ∃ b off, a = some ⟨b, off, none⟩ ∧ w1.cell? ⟨b, off + k, none⟩ = some (.slice (A k) (p.L k) (C k)) ∧ p.L k ≤ maxLen := by
        rcases HR.out.2 with h0 | ⟨b, off, ha, hl⟩
        · omega
        · exact ⟨b, off, ha, (hl k hlt).1, (hl k hlt).2.1⟩
      unfold maxLen at hL
      go_wp2
      exact ⟨⟨k + 1, m + min (p.L k) 2001, by omega, by omega, by go_num, congrArg (Value.int .i64) (by split <;> omega)⟩, by simp [intOf]; omega⟩
    · by_cases h2 : m ≤ 2000
      · obtain rfl : k = p.codes.length := by omega
        by_cases h3 : p.mem.length ≤ 2000
        · by_cases h4 : p.codes.length ≤ 100
          all_goals
            go_wp2
            go_ret
            exact ⟨⟨_, rfl⟩, hg0⟩
        · go_wp2
          go_ret
          exact ⟨⟨_, rfl⟩, hg0⟩
      · by_cases h1 : k < p.codes.length
        all_goals
          go_wp2
          go_ret
          exact ⟨⟨_, rfl⟩, hg0⟩
end Go.Proofs.YthooopcoemdphaaDoor
