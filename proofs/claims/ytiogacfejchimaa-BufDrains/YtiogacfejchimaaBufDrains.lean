/-
  Proved: for every slice of entries and every slice of words deadlatchlaw05.BufDrains returns true (what is drained is the document's memory; the buffer is empty then, the memory that was handed in as it was), and its arguments read as before; no condition.
-/
import Derived.Test.YtiogacfejchimaaRows
import Derived.Test.YtiogacfejchimaaDrnW
import Derived.Test.YtiogacfejchimaaOpen
import Derived.WalkKit
import Derived.ProofKit
import Derived.OpenShut
import Derived.ShutString
import Derived.ChangeOld
import Derived.Below
namespace Go.Proofs.Ytiogacfejchimaa.bufDrains
open Go.ChangeShapes Go.WideShapes Go.ChangeAt Go.RowKit
set_option linter.unusedVariables false

theorem own : ownKnob Try.prog.godebug = none := by kernel_rfl
theorem laidOut : laidOutB Try.prog = true := by kernel_rfl

set_option maxHeartbeats 400000 in
theorem many (ad : Option Addr) (cap : Nat) (am : Option Addr) (cm k : Nat) (n : Nat) (hn : 16 < n) (hm : n ≤ maxLen) (w : World) :
    Calls Try.prog 4 #[.slice ad n cap, .slice am k cm] w fun e w' => e = .returned (.bool true) ∧ Gr w w' := by
  unfold maxLen at hm
  go_enter Try.func4, Try.ntmps4
  go_wp2_with (fail)
  refine (awake_calls _).mono ?_
  rintro e w1 ⟨rfl, g1⟩
  go_wp2_with (fail)
  refine (awake_calls _).mono ?_
  rintro e w2 ⟨rfl, g2⟩
  go_wp2_with (fail)
  go_ret
  exact ⟨rfl, g1.trans g2⟩
set_option maxHeartbeats 400000 in
theorem more (ad : Option Addr) (cap : Nat) (am : Option Addr) (cm k : Nat) (hk : k ≤ 16) (n : Nat) (hn : 300 < n) (hm : n ≤ maxLen) (w : World) :
    Calls Try.prog 4 #[.slice ad k cap, .slice am n cm] w fun e w' => e = .returned (.bool true) ∧ Gr w w' := by
  unfold maxLen at hm
  go_enter Try.func4, Try.ntmps4
  go_wp2_with (fail)
  refine (awake_calls _).mono ?_
  rintro e w1 ⟨rfl, g1⟩
  go_wp2_with (fail)
  refine (awake_calls _).mono ?_
  rintro e w2 ⟨rfl, g2⟩
  go_wp2_with (fail)
  go_ret
  exact ⟨rfl, g1.trans g2⟩

theorem walk (ad : Option Addr) (cap : Nat) (l : List Ent) (am : Option Addr) (cm : Nat) (m : List Int) (w : World) (he : EntsAt w ad l) (hl : l.length ≤ maxLen) (hw : WordsAt w am m ∧ (am = none → cm = 0)) (hm : m.length ≤ maxLen) :
    Calls Try.prog 4 #[.slice ad l.length cap, .slice am m.length cm] w fun e w' => e = .returned (.bool true) ∧ Gr w w' := by
  by_cases h : l.length ≤ 16
  · by_cases h2 : m.length ≤ 300
    · exact drains_few ad cap l h am cm m h2 w he hw.1 hw.2
    · exact more ad cap am cm l.length h m.length (by omega) hm w
  · exact many ad cap am cm m.length l.length (by omega) hl w

set_option maxRecDepth 100000 in
theorem lifted (os : Os) (started : os.Started) (H : Type) (enc : TypeId × Value → H) :
    ReturnsInHanded {} Try.checked os 4 .any (Rows.bufDrainsSpec.pre6 enc Try.prog Try.f4 Rows.bufDrainsRow.domain false) (Rows.bufDrainsSpec.post enc Try.prog Try.f4 false true false false) := by
  refine returnsInHanded_of_change (C := Try.checked) own started (by kernel_rfl) Try.func4
    (ChangeSpec.witness6 (enc := enc) (C := Try.checked) false ⟨#[], #[.slice none 0 0, .slice none 0 0], []⟩ 8 (by kernel_rfl) (by kernel_rfl) (by kernel_rfl) (by kernel_rfl)) ?_
  intro W base args ds gs before hval0 hW hcnd _
  have hval : ∀ (j : Nat) t v, Try.f4.params[j]? = some t → args[j]? = some v → Value.okWide Try.prog W .any base t v := hval0
  have hW' := hW
  obtain ⟨p, q, hA0, hV, rfl, hfz, hnd⟩ := hW
  have hA : DataW.TrodAll enc Try.prog W 0 (fun _ => true) true Try.f4.params.toList args.toList ds p := hA0
  rw [Try.params4] at hA hval
  obtain ⟨v0, vs0, d0, ds0, p0, q0, hargs, rfl, rfl, h0, r0⟩ := trodAll_cons hA
  obtain ⟨v1, vs1, d1, ds1, p1, q1, rfl, rfl, rfl, h1, r1⟩ := trodAll_cons r0
  obtain ⟨rfl, rfl, rfl⟩ := trodAll_nil r1
  obtain rfl : args = #[v0, v1] := by cases args; simp_all
  obtain ⟨rfl, rfl⟩ := trodVars_none hV
  have k0 := h0
  have lt0 : ∀ x ∈ p0, x.block < W.heap.size := by obtain ⟨m, hm⟩ := k0; exact DataW.trod_lt m _ _ _ hm
  obtain ⟨aa0, la0, ca0, rfl⟩ := okWide_slice Try.underlying34 (hval 0 34 v0 rfl rfl)
  obtain ⟨ad0, cap0, l0, hv0, he0, hm0⟩ : ∃ a cap l, Value.slice aa0 la0 ca0 = .slice a (l : List Ent).length cap ∧ EntsAt W a l ∧ l.length ≤ maxLen := by
    obtain ⟨fuel, hf⟩ := h0
    exact open_ents hf
  rw [hv0] at k0 hW' ⊢
  have k1 := h1
  have lt1 : ∀ x ∈ p1, x.block < W.heap.size := by obtain ⟨m, hm⟩ := k1; exact DataW.trod_lt m _ _ _ hm
  obtain ⟨aa1, la1, ca1, rfl⟩ := okWide_slice Try.underlying48 (hval 1 48 v1 rfl rfl)
  obtain ⟨ad1, cap1, l1, hv1, he1, hm1⟩ : ∃ a cap l, Value.slice aa1 la1 ca1 = .slice a (l : List Int).length cap ∧ (WordsAt W a l ∧ (a = none → cap = 0)) ∧ l.length ≤ maxLen := by
    obtain ⟨fuel, hf⟩ := h1
    exact open_words hf
  rw [hv1] at k1 hW' ⊢
  clear hA0 hval0
  refine (walk ad0 cap0 l0 ad1 cap1 l1 W he0 hm0 he1 hm1).mono fun e W' ⟨hee, bel⟩ => ?_
  subst hee
  exact ⟨_, rfl, _, _, _, [], _, [], hW', trodAll_mk1 (shut_bool Try.underlying4 _), (trodAll_cons_mk (Below.trod laidOut (by kernel_rfl) (of_decide_eq_true (by kernel_rfl)) k0 bel lt0) (trodAll_cons_mk (Below.trod laidOut (by kernel_rfl) (of_decide_eq_true (by kernel_rfl)) k1 bel lt1) trodAll_mk0)), rfl, bel.frame _, fun h => by cases h⟩

theorem over : Rows.bufDrainsRow.holds Try.pinned (OpenSpec.ofChange Rows.bufDrainsSpec) :=
  OpenClaim.holds_of_wide 4 Try.f4 rfl rfl rfl rfl rfl rfl rfl ⟨rfl, rfl, rfl, rfl, rfl⟩ rfl rfl rfl rfl rfl (by kernel_rfl) Try.func4 (by kernel_rfl)
    (of_decide_eq_true (by kernel_rfl)) (by unfold Func.isWrapper; first | (rw [if_pos (by decide +kernel)]; kernel_rfl) | (rw [if_neg (by decide +kernel)]; exact ⟨rfl, rfl⟩))
    (fun os started H enc _ => lifted os started H enc)

end Go.Proofs.Ytiogacfejchimaa.bufDrains

namespace Go.Proofs.Ytiogacfejchimaa
theorem bufDrains_holds : Rows.BufDrainsSaid := bufDrains.over
end Go.Proofs.Ytiogacfejchimaa
