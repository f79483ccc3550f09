/-
  Proved: for every room and address of 64 bits and every slice of acts deadlatchlaw05.BufPlays returns true (whatever befalls a buffer of any room, all that it tells is the document's), and its arguments read as before; no condition.
-/
import Derived.Test.YtiogacfejchimaaRows
import Derived.Test.YtiogacfejchimaaPlayW
import Derived.Test.YtiogacfejchimaaOpen
import Derived.WalkKit
import Derived.ProofKit
import Derived.OpenShut
import Derived.ShutString
import Derived.ChangeOld
import Derived.Below
namespace Go.Proofs.Ytiogacfejchimaa.bufPlays
open Go.ChangeShapes Go.WideShapes Go.ChangeAt Go.RowKit
set_option linter.unusedVariables false

theorem own : ownKnob Try.prog.godebug = none := by kernel_rfl
theorem laidOut : laidOutB Try.prog = true := by kernel_rfl

set_option maxRecDepth 20000 in
set_option maxHeartbeats 400000 in
theorem many (room addr : Int) (ad : Option Addr) (cap : Nat) (n : Nat) (hn : 300 < n) (hm : n ≤ maxLen) (w : World) :
    Calls Try.prog 3 #[.int .i64 room, .slice ad n cap, .int .i64 addr] w fun e w' => e = .returned (.bool true) ∧ Gr w w' := by
  unfold maxLen at hm
  go_enter Try.func3, Try.ntmps3
  go_wp2_with (fail)
  refine (awake_calls _).mono ?_
  rintro e w1 ⟨rfl, g1⟩
  go_wp2_with (fail)
  refine (awake_calls _).mono ?_
  rintro e w2 ⟨rfl, g2⟩
  go_wp2_with (fail)
  go_ret
  exact ⟨rfl, g1.trans g2⟩

set_option maxRecDepth 20000 in
set_option maxHeartbeats 400000 in
theorem wrong (room addr : Int) (h : room < 1 ∨ 16 < room) (ad : Option Addr) (cap n : Nat) (hn : n ≤ 300) (w : World) :
    Calls Try.prog 3 #[.int .i64 room, .slice ad n cap, .int .i64 addr] w fun e w' => e = .returned (.bool true) ∧ Gr w w' := by
  have NW := hide (new_no room h)
  rcases h with h | h
  all_goals
    try have h' : ¬ room < 1 := by omega
    go_enter Try.func3, Try.ntmps3
    go_wp2_with (fail)
    refine (awake_calls _).mono ?_
    rintro e w1 ⟨rfl, g1⟩
    go_wp2_with (fail)
    refine (NW.out _).mono ?_
    rintro e w2 ⟨rfl, g2⟩
    have i0 := is_zeroC
    have hC := Has.new w2 zeroC 29
    have g3 := (g1.trans g2).alloc zeroC 29
    go_wp2_with (first
      | (refine store_new rfl rfl _ _ rfl _ rfl rfl zeroC rfl zeroC zeroC_size zeroC_size (bufC_one _ _ _ _) ?_)
      | (refine load_bufG (by kernel_rfl) _ rfl w2.heap.size rfl zeroC hC zeroC_size ?_))
    refine (len_calls i0 _).mono ?_
    rintro e w4 ⟨rfl, g4⟩
    replace hC := hC.later g4
    go_wp2_with (first
      | (refine load_bufG (by kernel_rfl) _ rfl w2.heap.size rfl zeroC hC zeroC_size ?_))
    refine (full_calls i0 _).mono ?_
    rintro e w5 ⟨rfl, g5⟩
    rw [show fullB [] 0 = true from rfl]
    go_wp2_with (fail)
    go_ret
    exact ⟨rfl, (g3.trans g4).trans g5⟩

theorem walk (a0 : Int) (ad : Option Addr) (cap : Nat) (l : List Act5) (addr : Int) (w : World) (he : ActsAt w ad l) (hl : l.length ≤ maxLen) :
    Calls Try.prog 3 #[.int .i64 a0, .slice ad l.length cap, .int .i64 addr] w fun e w' => e = .returned (.bool true) ∧ Gr w w' := by
  by_cases h : l.length ≤ 300
  · by_cases h2 : 1 ≤ a0 ∧ a0 ≤ 16
    · obtain ⟨k, rfl⟩ : ∃ k : Nat, a0 = k := ⟨a0.toNat, by omega⟩
      exact plays_few k (by omega) (by omega) ad cap l h addr w he
    · exact wrong a0 addr (by omega) ad cap l.length h w
  · exact many a0 addr ad cap l.length (by omega) hl w

set_option maxRecDepth 100000 in
theorem lifted (os : Os) (started : os.Started) (H : Type) (enc : TypeId × Value → H) :
    ReturnsInHanded {} Try.checked os 3 .any (Rows.bufPlaysSpec.pre6 enc Try.prog Try.f3 Rows.bufPlaysRow.domain false) (Rows.bufPlaysSpec.post enc Try.prog Try.f3 false true false false) := by
  refine returnsInHanded_of_change (C := Try.checked) own started (by kernel_rfl) Try.func3
    (ChangeSpec.witness6 (enc := enc) (C := Try.checked) false ⟨#[], #[.int .i64 0, .slice none 0 0, .int .i64 0], []⟩ 8 (by kernel_rfl) (by kernel_rfl) (by kernel_rfl) (by kernel_rfl)) ?_
  intro W base args ds gs before hval0 hW hcnd _
  have hval : ∀ (j : Nat) t v, Try.f3.params[j]? = some t → args[j]? = some v → Value.okWide Try.prog W .any base t v := hval0
  have hW' := hW
  obtain ⟨p, q, hA0, hV, rfl, hfz, hnd⟩ := hW
  have hA : DataW.TrodAll enc Try.prog W 0 (fun _ => true) true Try.f3.params.toList args.toList ds p := hA0
  rw [Try.params3] at hA hval
  obtain ⟨v0, vs0, d0, ds0, p0, q0, hargs, rfl, rfl, h0, r0⟩ := trodAll_cons hA
  obtain ⟨v1, vs1, d1, ds1, p1, q1, rfl, rfl, rfl, h1, r1⟩ := trodAll_cons r0
  obtain ⟨v2, vs2, d2, ds2, p2, q2, rfl, rfl, rfl, h2, r2⟩ := trodAll_cons r1
  obtain ⟨rfl, rfl, rfl⟩ := trodAll_nil r2
  obtain rfl : args = #[v0, v1, v2] := by cases args; simp_all
  obtain ⟨rfl, rfl⟩ := trodVars_none hV
  obtain ⟨a0, rfl, rfl, rfl, w0⟩ := open_int Try.underlying3 (hval 0 3 v0 rfl rfl) h0
  have k1 := h1
  have lt1 : ∀ x ∈ p1, x.block < W.heap.size := by obtain ⟨m, hm⟩ := k1; exact DataW.trod_lt m _ _ _ hm
  obtain ⟨aa1, la1, ca1, rfl⟩ := okWide_slice Try.underlying22 (hval 1 22 v1 rfl rfl)
  obtain ⟨ad1, cap1, l1, hv1, he1, hm1⟩ : ∃ a cap l, Value.slice aa1 la1 ca1 = .slice a (l : List Act5).length cap ∧ ActsAt W a l ∧ l.length ≤ maxLen := by
    obtain ⟨fuel, hf⟩ := h1
    exact open_acts hf
  rw [hv1] at k1 hW' ⊢
  obtain ⟨a2, rfl, rfl, rfl, w2⟩ := open_int Try.underlying3 (hval 2 3 v2 rfl rfl) h2
  clear hA0 hval0
  refine (walk a0 ad1 cap1 l1 a2 W he1 hm1).mono fun e W' ⟨hee, bel⟩ => ?_
  subst hee
  exact ⟨_, rfl, _, _, _, [], _, [], hW', trodAll_mk1 (shut_bool Try.underlying4 _), (trodAll_cons_mk (shut_int Try.underlying3 w0) (trodAll_cons_mk (Below.trod laidOut (by kernel_rfl) (of_decide_eq_true (by kernel_rfl)) k1 bel lt1) (trodAll_cons_mk (shut_int Try.underlying3 w2) trodAll_mk0))), rfl, bel.frame _, fun h => by cases h⟩

theorem over : Rows.bufPlaysRow.holds Try.pinned (OpenSpec.ofChange Rows.bufPlaysSpec) :=
  OpenClaim.holds_of_wide 3 Try.f3 rfl rfl rfl rfl rfl rfl rfl ⟨rfl, rfl, rfl, rfl, rfl⟩ rfl rfl rfl rfl rfl (by kernel_rfl) Try.func3 (by kernel_rfl)
    (of_decide_eq_true (by kernel_rfl)) (by unfold Func.isWrapper; first | (rw [if_pos (by decide +kernel)]; kernel_rfl) | (rw [if_neg (by decide +kernel)]; exact ⟨rfl, rfl⟩))
    (fun os started H enc _ => lifted os started H enc)

end Go.Proofs.Ytiogacfejchimaa.bufPlays

namespace Go.Proofs.Ytiogacfejchimaa
theorem bufPlays_holds : Rows.BufPlaysSaid := bufPlays.over
end Go.Proofs.Ytiogacfejchimaa
