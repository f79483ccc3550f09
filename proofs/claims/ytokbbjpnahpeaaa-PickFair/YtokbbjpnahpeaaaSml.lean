/-
  What Of, Byte, mayBe and awake answer. No condition but that bytes are bytes.
-/
import Derived.Test.YtokbbjpnahpeaaaMem
namespace Go.Proofs.Ytokbbjpnahpeaaa
open Go.ChangeShapes Go.WideShapes Go.ChangeAt Go.RowKit
set_option linter.unusedVariables false

/-- the pick of a byte -/
def ofP (b : Nat) : Pk := (((b / 8 % 3 : Nat) : Int), ((b % 8 : Nat) : Int))

set_option maxHeartbeats 400000 in
theorem of_calls (b : Nat) (hb : b < 256) (w : World) :
    Calls Try.prog 10 #[.int .u8 b] w fun e w' => e = .returned (pkV (ofP b)) ∧ Gr w w' := by
  have hb' : (b : Int) < 256 := by omega
  go_enter Try.func10, Try.ntmps10
  go_wp2_with (fail)
  refine bodyPost_ret (v := pkV (ofP b)) (by simp [results, Try.results10, go_sem, ofP]) rfl ?_
  exact ⟨rfl, (Gr.refl w).alloc _ _⟩

def mayB (t v : Int) : Bool := decide (1 ≤ t ∧ t ≤ 8 ∧ 4 * t ≤ v)
set_option maxHeartbeats 400000 in
theorem mayBe_calls (t v : Int) (w : World) :
    Calls Try.prog 18 #[.int .i64 t, .int .i64 v] w fun e w' => e = .returned (.bool (mayB t v)) ∧ w' = w := by
  by_cases h1 : 1 ≤ t
  · by_cases h2 : t ≤ 8
    · have HM : Hid (mayB t v = decide (4 * t ≤ v)) := by show mayB t v = _; unfold mayB; simp [h1, h2]
      go_enter Try.func18, Try.ntmps18
      go_wp2_with (fail)
      go_ret
      exact ⟨by rw [HM.out]; rfl, rfl⟩
    · have HM : Hid (mayB t v = false) := by show mayB t v = _; unfold mayB; simp [h2]
      go_enter Try.func18, Try.ntmps18
      go_wp2_with (fail)
      go_ret
      exact ⟨by rw [HM.out]; rfl, rfl⟩
  · have HM : Hid (mayB t v = false) := by show mayB t v = _; unfold mayB; simp [h1]
    go_enter Try.func18, Try.ntmps18
    go_wp2_with (fail)
    go_ret
    exact ⟨by rw [HM.out]; rfl, rfl⟩

set_option maxHeartbeats 400000 in
theorem byte_calls (k who : Nat) (hk : k < 3) (hw : who < 8) (w : World) :
    Calls Try.prog 11 #[.agg #[.int .i64 k, .int .i64 who]] w fun e w' => e = .returned (.tuple #[.int .u8 ((k * 8 + who : Nat) : Int), .bool true]) ∧ Gr w w' := by
  have hk' : (k : Int) < 3 := by omega
  have hw' : (who : Int) < 8 := by omega
  have e : ((k * 8 + who : Nat) : Int) = (k : Int) * 8 + who := by omega
  rw [e]
  go_enter Try.func11, Try.ntmps11
  go_wp2_with (fail)
  go_ret2
  exact ⟨rfl, (Gr.refl w).alloc _ _⟩
def noPk (x : Pk) : Prop := x.1 < 0 ∨ 3 ≤ x.1 ∨ x.2 < 0 ∨ 8 ≤ x.2
set_option maxHeartbeats 400000 in
theorem byte_no (x : Pk) (hx : noPk x) (w : World) :
    Calls Try.prog 11 #[pkV x] w fun e w' => e = .returned (.tuple #[.int .u8 0, .bool false]) ∧ Gr w w' := by
  obtain ⟨k, who⟩ := x
  unfold noPk at hx
  simp only at hx
  by_cases h1 : k < 0
  · go_enter Try.func11, Try.ntmps11
    go_wp2_with (fail)
    go_ret2
    exact ⟨rfl, (Gr.refl w).alloc _ _⟩
  by_cases h2 : 3 ≤ k
  · go_enter Try.func11, Try.ntmps11
    go_wp2_with (fail)
    go_ret2
    exact ⟨rfl, (Gr.refl w).alloc _ _⟩
  by_cases h3 : who < 0
  · go_enter Try.func11, Try.ntmps11
    go_wp2_with (fail)
    go_ret2
    exact ⟨rfl, (Gr.refl w).alloc _ _⟩
  have h4 : 8 ≤ who := by omega
  clear hx
  go_enter Try.func11, Try.ntmps11
  go_wp2_with (fail)
  go_ret2
  exact ⟨rfl, (Gr.refl w).alloc _ _⟩

set_option maxHeartbeats 400000 in
theorem awake_calls (w : World) :
    Calls Try.prog 9 #[] w fun e w' => e = .returned (.bool true) ∧ Gr w w' := by
  go_enter Try.func9, Try.ntmps9
  go_wp2_with (fail)
  refine (byte_calls 2 1 (by omega) (by omega) _).mono ?_
  rintro e w1 ⟨rfl, g1⟩
  go_wp2_with (fail)
  refine (of_calls 17 (by omega) _).mono ?_
  rintro e w2 ⟨rfl, g2⟩
  go_wp2_with (fail)
  go_ret
  exact ⟨rfl, g1.trans g2⟩
end Go.Proofs.Ytokbbjpnahpeaaa
