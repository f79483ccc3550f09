/-
  Proved: for every slice of picks, every number of threads, every window and every number of picks of 64 bits deadlatchlaw07.PickEven returns true (an even script, whatever is wished, is the document's), and its arguments read as before; no condition.
-/
import Derived.Test.YtokbbjpnahpeaaaRows
import Derived.Test.YtokbbjpnahpeaaaEvnW
import Derived.Test.YtokbbjpnahpeaaaOpen
import Derived.WalkKit
import Derived.ProofKit
import Derived.OpenShut
import Derived.ShutString
import Derived.ChangeOld
import Derived.Below
namespace Go.Proofs.Ytokbbjpnahpeaaa.pickEven
open Go.ChangeShapes Go.WideShapes Go.ChangeAt Go.RowKit
set_option linter.unusedVariables false

theorem own : ownKnob Try.prog.godebug = none := by kernel_rfl
theorem laidOut : laidOutB Try.prog = true := by kernel_rfl

set_option maxRecDepth 20000 in
set_option maxHeartbeats 400000 in
theorem many (ad : Option Addr) (cap : Nat) (t wi c : Int) (n : Nat) (hn : 400 < n) (hm : n ≤ maxLen) (w : World) :
    Calls Try.prog 6 #[.slice ad n cap, .int .i64 t, .int .i64 wi, .int .i64 c] w fun e w' => e = .returned (.bool true) ∧ Gr w w' := by
  unfold maxLen at hm
  go_enter Try.func6, Try.ntmps6
  go_wp2_with (fail)
  refine (awake_calls _).mono ?_
  rintro e w1 ⟨rfl, g1⟩
  go_wp2_with (fail)
  refine (awake_calls _).mono ?_
  rintro e w2 ⟨rfl, g2⟩
  go_wp2_with (fail)
  go_ret
  exact ⟨rfl, g1.trans g2⟩

set_option maxRecDepth 20000 in
set_option maxHeartbeats 400000 in
theorem more (ad : Option Addr) (cap k : Nat) (hk : k ≤ 400) (t wi c : Int) (h1 : 400 < c) (h2 : c ≤ 100000) (w : World) :
    Calls Try.prog 6 #[.slice ad k cap, .int .i64 t, .int .i64 wi, .int .i64 c] w fun e w' => e = .returned (.bool true) ∧ Gr w w' := by
  have hk' : (k : Int) ≤ 400 := by omega
  go_enter Try.func6, Try.ntmps6
  go_wp2_with (fail)
  refine (awake_calls _).mono ?_
  rintro e w1 ⟨rfl, g1⟩
  go_wp2_with (fail)
  refine (awake_calls _).mono ?_
  rintro e w2 ⟨rfl, g2⟩
  go_wp2_with (fail)
  go_ret
  exact ⟨rfl, g1.trans g2⟩

theorem walk (ad : Option Addr) (cap : Nat) (l : List Pk) (t wi c : Int) (ww : (Lit.int .i64 wi).wf = true) (w : World) (he : PicksAt w ad l) (hl : l.length ≤ maxLen) :
    Calls Try.prog 6 #[.slice ad l.length cap, .int .i64 t, .int .i64 wi, .int .i64 c] w fun e w' => e = .returned (.bool true) ∧ Gr w w' := by
  have hb := bounds_i64 ww
  by_cases h : l.length ≤ 400
  · by_cases hc : 400 < c ∧ c ≤ 100000
    · exact more ad cap l.length h t wi c hc.1 hc.2 w
    · by_cases hm : (1 ≤ t ∧ t ≤ 8 ∧ 4 * t ≤ wi) ∧ 0 ≤ c ∧ c ≤ 100000
      · obtain ⟨T, rfl⟩ : ∃ T : Nat, t = T := ⟨t.toNat, by omega⟩
        obtain ⟨n, rfl⟩ : ∃ n : Nat, c = n := ⟨c.toNat, by omega⟩
        exact even_right ad cap l h T (by omega) (by omega) wi (by omega) (by omega) n (by omega) w he
      · exact even_wrong ad l.length cap h t wi c hm hc w
  · exact many ad cap t wi c l.length (by omega) hl w

set_option maxRecDepth 100000 in
theorem lifted (os : Os) (started : os.Started) (H : Type) (enc : TypeId × Value → H) :
    ReturnsInHanded {} Try.checked os 6 .any (Rows.pickEvenSpec.pre6 enc Try.prog Try.f6 Rows.pickEvenRow.domain false) (Rows.pickEvenSpec.post enc Try.prog Try.f6 false true false false) := by
  refine returnsInHanded_of_change (C := Try.checked) own started (by kernel_rfl) Try.func6
    (ChangeSpec.witness6 (enc := enc) (C := Try.checked) false ⟨#[], #[.slice none 0 0, .int .i64 0, .int .i64 0, .int .i64 0], []⟩ 8 (by kernel_rfl) (by kernel_rfl) (by kernel_rfl) (by kernel_rfl)) ?_
  intro W base args ds gs before hval0 hW hcnd _
  have hval : ∀ (j : Nat) t v, Try.f6.params[j]? = some t → args[j]? = some v → Value.okWide Try.prog W .any base t v := hval0
  have hW' := hW
  obtain ⟨p, q, hA0, hV, rfl, hfz, hnd⟩ := hW
  have hA : DataW.TrodAll enc Try.prog W 0 (fun _ => true) true Try.f6.params.toList args.toList ds p := hA0
  rw [Try.params6] at hA hval
  obtain ⟨v0, vs0, d0, ds0, p0, q0, hargs, rfl, rfl, h0, r0⟩ := trodAll_cons hA
  obtain ⟨v1, vs1, d1, ds1, p1, q1, rfl, rfl, rfl, h1, r1⟩ := trodAll_cons r0
  obtain ⟨v2, vs2, d2, ds2, p2, q2, rfl, rfl, rfl, h2, r2⟩ := trodAll_cons r1
  obtain ⟨v3, vs3, d3, ds3, p3, q3, rfl, rfl, rfl, h3, r3⟩ := trodAll_cons r2
  obtain ⟨rfl, rfl, rfl⟩ := trodAll_nil r3
  obtain rfl : args = #[v0, v1, v2, v3] := by cases args; simp_all
  obtain ⟨rfl, rfl⟩ := trodVars_none hV
  have k0 := h0
  have lt0 : ∀ x ∈ p0, x.block < W.heap.size := by obtain ⟨m, hm⟩ := k0; exact DataW.trod_lt m _ _ _ hm
  obtain ⟨aa0, la0, ca0, rfl⟩ := okWide_slice Try.underlying30 (hval 0 30 v0 rfl rfl)
  obtain ⟨ad0, cap0, l0, hv0, he0, hm0⟩ : ∃ a cap l, Value.slice aa0 la0 ca0 = .slice a (l : List Pk).length cap ∧ PicksAt W a l ∧ l.length ≤ maxLen := by
    obtain ⟨fuel, hf⟩ := h0
    exact open_picks hf
  rw [hv0] at k0 hW' ⊢
  obtain ⟨a1, rfl, rfl, rfl, w1⟩ := open_int Try.underlying3 (hval 1 3 v1 rfl rfl) h1
  obtain ⟨a2, rfl, rfl, rfl, w2⟩ := open_int Try.underlying3 (hval 2 3 v2 rfl rfl) h2
  obtain ⟨a3, rfl, rfl, rfl, w3⟩ := open_int Try.underlying3 (hval 3 3 v3 rfl rfl) h3
  clear hA0 hval0
  refine (walk ad0 cap0 l0 a1 a2 a3 w2 W he0 hm0).mono fun e W' ⟨hee, bel⟩ => ?_
  subst hee
  exact ⟨_, rfl, _, _, _, [], _, [], hW', trodAll_mk1 (shut_bool Try.underlying4 _), (trodAll_cons_mk (Below.trod laidOut (by kernel_rfl) (of_decide_eq_true (by kernel_rfl)) k0 bel lt0) (trodAll_cons_mk (shut_int Try.underlying3 w1) (trodAll_cons_mk (shut_int Try.underlying3 w2) (trodAll_cons_mk (shut_int Try.underlying3 w3) trodAll_mk0)))), rfl, bel.frame _, fun h => by cases h⟩

theorem over : Rows.pickEvenRow.holds Try.pinned (OpenSpec.ofChange Rows.pickEvenSpec) :=
  OpenClaim.holds_of_wide 6 Try.f6 rfl rfl rfl rfl rfl rfl rfl ⟨rfl, rfl, rfl, rfl, rfl⟩ rfl rfl rfl rfl rfl (by kernel_rfl) Try.func6 (by kernel_rfl)
    (of_decide_eq_true (by kernel_rfl)) (by unfold Func.isWrapper; first | (rw [if_pos (by decide +kernel)]; kernel_rfl) | (rw [if_neg (by decide +kernel)]; exact ⟨rfl, rfl⟩))
    (fun os started H enc _ => lifted os started H enc)

end Go.Proofs.Ytokbbjpnahpeaaa.pickEven

namespace Go.Proofs.Ytokbbjpnahpeaaa
theorem pickEven_holds : Rows.PickEvenSaid := pickEven.over
end Go.Proofs.Ytokbbjpnahpeaaa
