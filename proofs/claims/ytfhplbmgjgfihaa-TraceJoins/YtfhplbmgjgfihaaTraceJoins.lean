/-
  Proved: for every two slices of events and every thread of 64 bits deadlatchlaw11.TraceJoins returns true (what a thread put out of two rows of events is what it put out of the one, and then of the other), and its arguments read as before; no condition.
-/
import Derived.Test.YtfhplbmgjgfihaaRows
import Derived.Test.YtfhplbmgjgfihaaLJoi
import Derived.Test.YtfhplbmgjgfihaaOpnE
import Derived.WalkKit
import Derived.ProofKit
import Derived.OpenShut
import Derived.ShutString
import Derived.ChangeOld
import Derived.Below
namespace Go.Proofs.Ytfhplbmgjgfihaa.traceJoins
open Go.ChangeShapes Go.WideShapes Go.ChangeAt Go.RowKit
set_option linter.unusedVariables false

theorem own : ownKnob Try.prog.godebug = none := by kernel_rfl
theorem laidOut : laidOutB Try.prog = true := by kernel_rfl

theorem walk (a : Option Addr) (c : Nat) (l : List Ev) (b : Option Addr) (d : Nat) (k : List Ev) (t : Int) (w : World) (he : RowAt w a (flatOf evL l) ∧ (∀ i ∈ l, EvOk i) ∧ (a = none → c = 0 ∧ l = [])) (hm : l.length ≤ maxLen) (hk : RowAt w b (flatOf evL k) ∧ (∀ i ∈ k, EvOk i) ∧ (b = none → d = 0 ∧ k = [])) (hn : k.length ≤ maxLen) :
    Calls Try.prog 7 #[.slice a l.length c, .slice b k.length d, .int .i64 t] w fun e w' => e = .returned (.bool true) ∧ Gr w w' := by
  by_cases h : l.length ≤ 400
  · by_cases h2 : k.length ≤ 400
    · exact joins_few a c l he.2.1 h he.2.2 b d k hk.2.1 h2 hk.2.2 t w he.1 hk.1
    · exact joins_more a c l.length h b d k.length (by omega) hn t w
  · exact joins_many a c l.length (by omega) hm b d k.length t w

set_option maxRecDepth 100000 in
theorem lifted (os : Os) (started : os.Started) (H : Type) (enc : TypeId × Value → H) :
    ReturnsInHanded {} Try.checked os 7 .any (Rows.traceJoinsSpec.pre6 enc Try.prog Try.f7 Rows.traceJoinsRow.domain false) (Rows.traceJoinsSpec.post enc Try.prog Try.f7 false true false false) := by
  refine returnsInHanded_of_change (C := Try.checked) own started (by kernel_rfl) Try.func7
    (ChangeSpec.witness6 (enc := enc) (C := Try.checked) false ⟨#[], #[.slice none 0 0, .slice none 0 0, .int .i64 0], []⟩ 8 (by kernel_rfl) (by kernel_rfl) (by kernel_rfl) (by kernel_rfl)) ?_
  intro W base args ds gs before hval0 hW hcnd _
  have hval : ∀ (j : Nat) t v, Try.f7.params[j]? = some t → args[j]? = some v → Value.okWide Try.prog W .any base t v := hval0
  have hW' := hW
  obtain ⟨p, q, hA0, hV, rfl, hfz, hnd⟩ := hW
  have hA : DataW.TrodAll enc Try.prog W 0 (fun _ => true) true Try.f7.params.toList args.toList ds p := hA0
  rw [Try.params7] at hA hval
  obtain ⟨v0, vs0, d0, ds0, p0, q0, hargs, rfl, rfl, h0, r0⟩ := trodAll_cons hA
  obtain ⟨v1, vs1, d1, ds1, p1, q1, rfl, rfl, rfl, h1, r1⟩ := trodAll_cons r0
  obtain ⟨v2, vs2, d2, ds2, p2, q2, rfl, rfl, rfl, h2, r2⟩ := trodAll_cons r1
  obtain ⟨rfl, rfl, rfl⟩ := trodAll_nil r2
  obtain rfl : args = #[v0, v1, v2] := by cases args; simp_all
  obtain ⟨rfl, rfl⟩ := trodVars_none hV
  have k0 := h0
  have lt0 : ∀ x ∈ p0, x.block < W.heap.size := by obtain ⟨m, hm⟩ := k0; exact DataW.trod_lt m _ _ _ hm
  obtain ⟨aa0, la0, ca0, rfl⟩ := okWide_slice Try.underlying22 (hval 0 22 v0 rfl rfl)
  obtain ⟨ad0, cap0, l0, hv0, he0, hm0⟩ : ∃ a cap l, Value.slice aa0 la0 ca0 = .slice a (l : List Ev).length cap ∧ (RowAt W a (flatOf evL l) ∧ (∀ i ∈ l, EvOk i) ∧ (a = none → cap = 0 ∧ l = [])) ∧ l.length ≤ maxLen := by
    obtain ⟨fuel, hf⟩ := h0
    exact open_evs hf
  rw [hv0] at k0 hW' ⊢
  have k1 := h1
  have lt1 : ∀ x ∈ p1, x.block < W.heap.size := by obtain ⟨m, hm⟩ := k1; exact DataW.trod_lt m _ _ _ hm
  obtain ⟨aa1, la1, ca1, rfl⟩ := okWide_slice Try.underlying22 (hval 1 22 v1 rfl rfl)
  obtain ⟨ad1, cap1, l1, hv1, he1, hm1⟩ : ∃ a cap l, Value.slice aa1 la1 ca1 = .slice a (l : List Ev).length cap ∧ (RowAt W a (flatOf evL l) ∧ (∀ i ∈ l, EvOk i) ∧ (a = none → cap = 0 ∧ l = [])) ∧ l.length ≤ maxLen := by
    obtain ⟨fuel, hf⟩ := h1
    exact open_evs hf
  rw [hv1] at k1 hW' ⊢
  obtain ⟨a2, rfl, rfl, rfl, w2⟩ := open_int Try.underlying3 (hval 2 3 v2 rfl rfl) h2
  clear hA0 hval0
  refine (walk ad0 cap0 l0 ad1 cap1 l1 a2 W he0 hm0 he1 hm1).mono fun e W' ⟨hee, bel⟩ => ?_
  subst hee
  exact ⟨_, rfl, _, _, _, [], _, [], hW', trodAll_mk1 (shut_bool Try.underlying4 _), (trodAll_cons_mk (Below.trod laidOut (by kernel_rfl) (of_decide_eq_true (by kernel_rfl)) k0 bel lt0) (trodAll_cons_mk (Below.trod laidOut (by kernel_rfl) (of_decide_eq_true (by kernel_rfl)) k1 bel lt1) (trodAll_cons_mk (shut_int Try.underlying3 w2) trodAll_mk0))), rfl, bel.frame _, fun h => by cases h⟩

theorem over : Rows.traceJoinsRow.holds Try.pinned (OpenSpec.ofChange Rows.traceJoinsSpec) :=
  OpenClaim.holds_of_wide 7 Try.f7 rfl rfl rfl rfl rfl rfl rfl ⟨rfl, rfl, rfl, rfl, rfl⟩ rfl rfl rfl rfl rfl (by kernel_rfl) Try.func7 (by kernel_rfl)
    (of_decide_eq_true (by kernel_rfl)) (by unfold Func.isWrapper; first | (rw [if_pos (by decide +kernel)]; kernel_rfl) | (rw [if_neg (by decide +kernel)]; exact ⟨rfl, rfl⟩))
    (fun os started H enc _ => lifted os started H enc)

end Go.Proofs.Ytfhplbmgjgfihaa.traceJoins

namespace Go.Proofs.Ytfhplbmgjgfihaa
theorem traceJoins_holds : Rows.TraceJoinsSaid := traceJoins.over
end Go.Proofs.Ytfhplbmgjgfihaa
