/-
  Proved: for every op of 64 bits, every first word and every slice of words deadlatchlaw01.AluFolds returns true (an operation with one word behind the other is the document's), and its arguments read as before; no condition.
-/
import Derived.Test.YtijfdgkicfllaaaRows
import Derived.Test.YtijfdgkicfllaaaFold
import Derived.WalkKit
import Derived.ProofKit
import Derived.OpenShut
import Derived.ShutString
import Derived.ChangeOld
import Derived.Below
namespace Go.Proofs.Ytijfdgkicfllaaa.aluFolds
open Go.ChangeShapes Go.WideShapes Go.ChangeAt Go.RowKit
open Go.ChangeMaps (open_string shut_string)
set_option linter.unusedVariables false

theorem own : ownKnob Try.prog.godebug = none := by kernel_rfl
theorem laidOut : laidOutB Try.prog = true := by kernel_rfl

/-- a slice of whole numbers that came in: none, or so many cells -/
def IsRow (k : IntKind) (w : World) (a : Option Addr) (len cap : Nat) (zs : List Int) : Prop :=
  (a = none ∧ len = 0 ∧ cap = 0 ∧ zs = []) ∨
  ∃ x, a = some x ∧ len ≤ cap ∧ cap ≤ maxLen ∧ zs.length = cap ∧ (∀ i, i < zs.length → w.cell? (x.add i) = some (.int k (zs.getD i 0))) ∧ ∀ n ∈ zs, (Lit.int k n).wf = true

theorem isN_zero (op : Int) : ((isN op : Int) == 0) = !(decide (3 ≤ op) && decide (op ≤ 12)) := by
  unfold isN
  by_cases h : 3 ≤ op ∧ op ≤ 12
  · rw [if_pos h]; simp [h.1, h.2]
  · rw [if_neg h]
    by_cases h1 : 3 ≤ op
    · have h2 : ¬ op ≤ 12 := fun h2 => h ⟨h1, h2⟩
      simp [h2]
    · simp [h1]

theorem row_of (w : World) (a : Option Addr) (len cap : Nat) (zs : List Int) (h : IsRow .u32 w a len cap zs) : Row w a len (fun i => (zs.getD i 0).toNat) ∧ (∀ i, (zs.getD i 0).toNat < 4294967296) ∧ len ≤ maxLen := by
  rcases h with ⟨h1, h2, h3, h4⟩ | ⟨x, h1, h2, h3, h4, h5, h6⟩
  · subst h4
    exact ⟨.inl h2, fun i => by simp, by rw [h2]; exact Nat.zero_le _⟩
  · have hb : ∀ i, 0 ≤ zs.getD i 0 ∧ zs.getD i 0 ≤ 4294967295 := by
      intro i
      by_cases hi : i < zs.length
      · have hm : zs.getD i 0 ∈ zs := by
          rw [List.getD_eq_getElem?_getD, List.getElem?_eq_getElem hi, Option.getD_some]
          exact List.getElem_mem hi
        exact bounds_u32 (h6 _ hm)
      · rw [List.getD_eq_getElem?_getD, List.getElem?_eq_none (by omega), Option.getD_none]
        omega
    refine ⟨?_, fun i => by have := hb i; omega, Nat.le_trans h2 h3⟩
    by_cases h0 : len = 0
    · exact .inl h0
    · obtain ⟨b, off, spot⟩ := x
      have hc := h5 0 (by omega)
      have hspot : spot = none := by simpa [Addr.add] using World.cell?_spot hc
      subst hspot
      refine .inr ⟨b, off, h1, fun i hi => ?_⟩
      have hci := h5 i (by omega)
      have e : ((zs.getD i 0).toNat : Int) = zs.getD i 0 := by have := hb i; omega
      rw [e]
      have ea : (⟨b, off, none⟩ : Addr).add i = ⟨b, off + i, none⟩ := by unfold Addr.add; split <;> simp_all
      rw [ea] at hci
      exact hci

set_option maxHeartbeats 1000000 in

theorem walk (a0 : Int) (a1 : Int) (a2 : Option Addr) (len2 cap2 : Nat) (z2 : List Int) (w : World) (w0 : (Lit.int .i64 a0).wf = true) (w1 : (Lit.int .u32 a1).wf = true) (w2 : IsRow .u32 w a2 len2 cap2 z2) :
    Calls Try.prog 4 #[.int .i64 a0, .int .u32 a1, .slice a2 len2 cap2] w fun e w' => e = .returned (.bool true) ∧ Gr w w' := by
  have u1 := u32_of_wf w1
  clear w0 w1
  obtain ⟨f, rfl, hf⟩ := u32_nat u1
  clear u1
  obtain ⟨hrow, hz, hm⟩ := row_of w a2 len2 cap2 z2 w2
  clear w2
  unfold maxLen at hm
  generalize hzz : (fun i => (z2.getD i 0).toNat) = z at hrow
  have hz' : ∀ i, z i < 4294967296 := by intro i; rw [← hzz]; exact hz i
  clear hzz hz
  have HZ := hide hz'
  have HR := hide hrow
  clear hz' hrow
  by_cases hl : len2 ≤ 200
  · by_cases h : 3 ≤ a0 ∧ a0 ≤ 12
    · have hi : (decide (3 ≤ a0) && decide (a0 ≤ 12)) = true := by simp [h.1, h.2]
      have h1 : ((isN a0 : Int) == 0) = false := by rw [isN_zero, hi]; rfl
      obtain ⟨h3, h12⟩ := h
      clear hi
      go_enter Try.func4, Try.ntmps4
      go_wp2_with (first | (go_at_call 8; refine (awake_calls _).mono ?_; rintro e wa ⟨rfl, hga⟩) | (go_at_call 14; refine (fold_yes a0 f a2 len2 cap2 z _ h3 h12 hf HZ.out (row_later HR.out hga) hl).mono ?_; rintro e wb ⟨rfl, hgb⟩) | (go_at_call 10; refine (ref_do a0 0 0 (by omega) (by omega) _).mono ?_; rintro e wc ⟨rfl, hgc⟩))
      go_loopw [1, 11] (fun s i wr => ∃ k : Nat, k ≤ len2 ∧ i = .int .i64 k ∧ s = .int .u32 (foldN a0 f z k) ∧ Gr w wr) (fun _ i _ => len2 - (intOf i).toNat)
      case atStart => exact ⟨0, by omega, rfl, rfl, grown_trans hga (grown_trans hgb hgc)⟩
      case round =>
        obtain ⟨k, hk, rfl, rfl, hgr⟩ := hrel
        by_cases hlt : k < len2
        · have hfk := foldN_lt a0 f z hf HZ.out k
          have hzk := HZ.out k
          obtain ⟨b, off, rfl, hc⟩ := row_at HR.out hgr hlt
          go_wp2_with (go_at_call 10; refine (ref_do a0 _ _ hfk hzk _).mono ?_; rintro e w2 ⟨rfl, hg2⟩)
          exact ⟨⟨k + 1, by omega, by go_num, rfl, grown_trans hgr hg2⟩, by simp [intOf]; omega⟩
        · obtain rfl : k = len2 := by omega
          go_wp2_with (fail)
          go_ret
          exact ⟨rfl, hgr⟩
    · have hi : (decide (3 ≤ a0) && decide (a0 ≤ 12)) = false := by
        by_cases h3 : 3 ≤ a0
        · have h2 : ¬ a0 ≤ 12 := fun h2 => h ⟨h3, h2⟩
          simp [h2]
        · simp [h3]
      have h1 : ((isN a0 : Int) == 0) = true := by rw [isN_zero, hi]; rfl
      have hor : a0 < 3 ∨ 12 < a0 := by omega
      clear hi h
      go_enter Try.func4, Try.ntmps4
      go_wp2_with (first | (go_at_call 8; refine (awake_calls _).mono ?_; rintro e wa ⟨rfl, hga⟩) | (go_at_call 14; refine (fold_no a0 f a2 len2 cap2 hor _).mono ?_; rintro e wb ⟨rfl, rfl⟩) | (go_at_call 10; refine (ref_do a0 0 0 (by omega) (by omega) _).mono ?_; rintro e wc ⟨rfl, hgc⟩))
      go_ret
      exact ⟨rfl, grown_trans hga hgc⟩
  · go_enter Try.func4, Try.ntmps4
    go_wp2_with (first | (go_at_call 8; refine (awake_calls _).mono ?_; rintro e wa ⟨rfl, hga⟩))
    go_ret
    exact ⟨rfl, by repeat (first | assumption | exact Gr.refl _ | (refine grown_trans ?_ (by assumption)))⟩

set_option maxRecDepth 100000 in
theorem lifted (os : Os) (started : os.Started) (H : Type) (enc : TypeId × Value → H) :
    ReturnsInHanded {} Try.checked os 4 .any (Rows.aluFoldsSpec.pre6 enc Try.prog Try.f4 Rows.aluFoldsRow.domain false) (Rows.aluFoldsSpec.post enc Try.prog Try.f4 false true false false) := by
  refine returnsInHanded_of_change (C := Try.checked) own started (by kernel_rfl) Try.func4
    (ChangeSpec.witness6 (enc := enc) (C := Try.checked) false ⟨#[], #[.int .i64 0, .int .u32 0, .slice none 0 0], []⟩ 8 (by kernel_rfl) (by kernel_rfl) (by kernel_rfl) (by kernel_rfl)) ?_
  intro W base args ds gs before hval0 hW hcnd _
  have hval : ∀ (j : Nat) t v, Try.f4.params[j]? = some t → args[j]? = some v → Value.okWide Try.prog W .any base t v := hval0
  have hW' := hW
  obtain ⟨p, q, hA0, hV, rfl, hfz, hnd⟩ := hW
  have hA : DataW.TrodAll enc Try.prog W 0 (fun _ => true) true Try.f4.params.toList args.toList ds p := hA0
  rw [Try.params4] at hA hval
  obtain ⟨v0, vs0, d0, ds0, p0, q0, hargs, rfl, rfl, h0, r0⟩ := trodAll_cons hA
  obtain ⟨v1, vs1, d1, ds1, p1, q1, rfl, rfl, rfl, h1, r1⟩ := trodAll_cons r0
  obtain ⟨v2, vs2, d2, ds2, p2, q2, rfl, rfl, rfl, h2, r2⟩ := trodAll_cons r1
  obtain ⟨rfl, rfl, rfl⟩ := trodAll_nil r2
  obtain rfl : args = #[v0, v1, v2] := by cases args; simp_all
  obtain ⟨rfl, rfl⟩ := trodVars_none hV
  obtain ⟨a0, rfl, rfl, rfl, w0⟩ := open_int Try.underlying3 (hval 0 3 v0 rfl rfl) h0
  obtain ⟨a1, rfl, rfl, rfl, w1⟩ := open_int Try.underlying22 (hval 1 22 v1 rfl rfl) h1
  obtain ⟨a2, len2, cap2, rfl⟩ := okWide_slice Try.underlying31 (hval 2 31 v2 rfl rfl)
  have k2 := h2
  have lt2 : ∀ x ∈ p2, x.block < W.heap.size := by obtain ⟨m, hm⟩ := k2; exact DataW.trod_lt m _ _ _ hm
  obtain ⟨z2, w2⟩ : ∃ zs, IsRow .u32 W a2 len2 cap2 zs := by
    obtain ⟨fuel, hf⟩ := h2
    rcases open_ints Try.underlying31 Try.underlying22 (by kernel_rfl) hf with ⟨hcs, _⟩ | ⟨x, l, c, zs, hcs, _, hl, hm, hz, _, hcell, hwz⟩
    · simp [Value.cells] at hcs
      obtain ⟨rfl, rfl, rfl⟩ := hcs
      exact ⟨[], .inl ⟨rfl, rfl, rfl, rfl⟩⟩
    · simp [Value.cells] at hcs
      obtain ⟨rfl, rfl, rfl⟩ := hcs
      exact ⟨zs, .inr ⟨_, rfl, hl, hm, by simpa using hz, hcell, hwz⟩⟩
  clear hA0 hval0
  refine (walk a0 a1 a2 len2 cap2 z2 W w0 w1 w2).mono fun e W' ⟨he, bel0⟩ => ?_
  subst he
  have bel := bel0.2
  exact ⟨_, rfl, _, _, _, [], _, [], hW', trodAll_mk1 (shut_bool Try.underlying4 _), (trodAll_cons_mk (shut_int Try.underlying3 w0) (trodAll_cons_mk (shut_int Try.underlying22 w1) (trodAll_cons_mk (Below.trod laidOut (by kernel_rfl) (of_decide_eq_true (by kernel_rfl)) k2 bel lt2) trodAll_mk0))), rfl, bel.frame _, fun h => by cases h⟩

theorem over : Rows.aluFoldsRow.holds Try.pinned (OpenSpec.ofChange Rows.aluFoldsSpec) :=
  OpenClaim.holds_of_wide 4 Try.f4 rfl rfl rfl rfl rfl rfl rfl ⟨rfl, rfl, rfl, rfl, rfl⟩ rfl rfl rfl rfl rfl (by kernel_rfl) Try.func4 (by kernel_rfl)
    (of_decide_eq_true (by kernel_rfl)) (by unfold Func.isWrapper; first | (rw [if_pos (by decide +kernel)]; kernel_rfl) | (rw [if_neg (by decide +kernel)]; exact ⟨rfl, rfl⟩))
    (fun os started H enc _ => lifted os started H enc)

end Go.Proofs.Ytijfdgkicfllaaa.aluFolds

namespace Go.Proofs.Ytijfdgkicfllaaa
theorem aluFolds_holds : Rows.AluFoldsSaid := aluFolds.over
end Go.Proofs.Ytijfdgkicfllaaa
