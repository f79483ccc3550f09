/-
  What clocks come to, by numbers: just one is so of two; the least that knows both, the greatest that both know; ticks. And variables that hold clocks. No condition but what each law names.
-/
import Derived.Test.YtejcififiinifaaAwk
import Derived.Test.YtejcififiinifaaReg
namespace Go.Proofs.Ytejcififiinifaa
open Go.ChangeShapes Go.WideShapes Go.ChangeAt Go.RowKit
set_option linter.unusedVariables false
set_option maxRecDepth 20000

theorem eqB_kn (f g : Nat → Int) : eqB f g = (knB f g && knB g f) := by
  rw [Bool.eq_iff_iff, Bool.and_eq_true, eqB_iff, knB_iff, knB_iff]
  exact ⟨fun h => ⟨fun i hi => by rw [h i hi]; exact Int.le_refl _, fun i hi => by rw [h i hi]; exact Int.le_refl _⟩, fun h i hi => Int.le_antisymm (h.2 i hi) (h.1 i hi)⟩
theorem kn_self (f : Nat → Int) : knB f f = true := (knB_iff f f).2 fun i _ => Int.le_refl _
theorem ah_self (f : Nat → Int) : ahB f f = false := by unfold ahB; rw [eqB_kn, kn_self]; rfl
theorem kn_trans {f g e : Nat → Int} (h : knB f g = true) (k : knB g e = true) : knB f e = true := (knB_iff f e).2 fun i hi => Int.le_trans ((knB_iff g e).1 k i hi) ((knB_iff f g).1 h i hi)
theorem ah_trans {f g e : Nat → Int} (h : ahB f g = true) (k : ahB g e = true) : ahB f e = true := by
  unfold ahB at *
  rw [eqB_kn] at *
  have h1 : knB g f = true := by cases q : knB g f <;> simp_all
  have h2 : knB e g = true := by cases q : knB e g <;> simp_all
  have h3 := kn_trans h2 h1
  have h4 : knB f g = false := by cases q : knB f g <;> simp_all
  have h5 : knB f e = false := by
    cases q : knB f e
    · rfl
    · rw [kn_trans q h2] at h4; cases h4
  rw [h3, h5]
  rfl
/-- just one is so -/
theorem just_one (f g : Nat → Int) :
    (eqB f g = true ∧ ahB f g = false ∧ ahB g f = false ∧ apB f g = false) ∨ (eqB f g = false ∧ ahB f g = true ∧ ahB g f = false ∧ apB f g = false) ∨
    (eqB f g = false ∧ ahB f g = false ∧ ahB g f = true ∧ apB f g = false) ∨ (eqB f g = false ∧ ahB f g = false ∧ ahB g f = false ∧ apB f g = true) := by
  unfold ahB apB
  rw [eqB_kn, eqB_kn g f]
  cases knB f g <;> cases knB g f <;> decide

theorem maxI_le {a b c : Int} : maxI a b ≤ c ↔ a ≤ c ∧ b ≤ c := by unfold maxI; split <;> omega
theorem le_minI {a b c : Int} : c ≤ minI a b ↔ c ≤ a ∧ c ≤ b := by unfold minI; split <;> omega
theorem le_max_l (a b : Int) : a ≤ maxI a b := by unfold maxI; split <;> omega
theorem le_max_r (a b : Int) : b ≤ maxI a b := by unfold maxI; split <;> omega
theorem min_le_l (a b : Int) : minI a b ≤ a := by unfold minI; split <;> omega
theorem min_le_r (a b : Int) : minI a b ≤ b := by unfold minI; split <;> omega
theorem kn_join_l (f g : Nat → Int) : knB (joinF f g) f = true := (knB_iff _ _).2 fun i _ => le_max_l _ _
theorem kn_join_r (f g : Nat → Int) : knB (joinF f g) g = true := (knB_iff _ _).2 fun i _ => le_max_r _ _
theorem kn_meet_l (f g : Nat → Int) : knB f (meetF f g) = true := (knB_iff _ _).2 fun i _ => min_le_l _ _
theorem kn_meet_r (f g : Nat → Int) : knB g (meetF f g) = true := (knB_iff _ _).2 fun i _ => min_le_r _ _
theorem join_comm (f g : Nat → Int) : eqB (joinF f g) (joinF g f) = true := (eqB_iff _ _).2 fun i _ => by unfold joinF maxI; split <;> split <;> omega
theorem meet_comm (f g : Nat → Int) : eqB (meetF f g) (meetF g f) = true := (eqB_iff _ _).2 fun i _ => by unfold meetF minI; split <;> split <;> omega
theorem join_least (f g e : Nat → Int) : knB e (joinF f g) = (knB e f && knB e g) := by
  rw [Bool.eq_iff_iff, Bool.and_eq_true, knB_iff, knB_iff, knB_iff]
  exact ⟨fun h => ⟨fun i hi => (maxI_le.1 (h i hi)).1, fun i hi => (maxI_le.1 (h i hi)).2⟩, fun h i hi => maxI_le.2 ⟨h.1 i hi, h.2 i hi⟩⟩
theorem meet_most (f g e : Nat → Int) : knB (meetF f g) e = (knB f e && knB g e) := by
  rw [Bool.eq_iff_iff, Bool.and_eq_true, knB_iff, knB_iff, knB_iff]
  exact ⟨fun h => ⟨fun i hi => (le_minI.1 (h i hi)).1, fun i hi => (le_minI.1 (h i hi)).2⟩, fun h i hi => le_minI.2 ⟨h.1 i hi, h.2 i hi⟩⟩
theorem join_assoc (f g e : Nat → Int) : eqB (joinF (joinF f g) e) (joinF f (joinF g e)) = true := (eqB_iff _ _).2 fun i _ => by unfold joinF maxI; repeat' split <;> omega
theorem join_meet (f g : Nat → Int) : eqB (joinF f (meetF f g)) f = true := (eqB_iff _ _).2 fun i _ => by unfold joinF meetF maxI minI; repeat' split <;> omega

/-! ticks -/
theorem tick_at (f : Nat → Int) {i : Nat} (hi : i < 8) : tickF f i = putF f i (upI (f i)) := by
  unfold tickF
  rw [if_pos ⟨by omega, by omega⟩]
  rfl
theorem tick_ok {f : Nat → Int} (hf : CkOk f) (t : Int) : CkOk (tickF f t) := by
  intro i hi
  unfold tickF
  split
  · unfold putF
    split
    · rename_i h h2
      have := hf t.toNat (by omega)
      unfold upI
      split <;> omega
    · exact hf i hi
  · exact hf i hi
theorem tick_comm (f : Nat → Int) {i k : Nat} (hi : i < 8) (hk : k < 8) : eqB (tickF (tickF f i) k) (tickF (tickF f k) i) = true := by
  refine (eqB_iff _ _).2 fun j _ => ?_
  rw [tick_at f hi, tick_at f hk, tick_at _ hk, tick_at _ hi]
  unfold putF
  by_cases h : i = k
  · subst h; rfl
  · by_cases h1 : j = i
    · subst h1; simp [h]
    · by_cases h2 : j = k
      · subst h2; simp [h1]
      · simp [h1, h2]
/-- anew -/
theorem tick_anew {f : Nat → Int} (hf : CkOk f) {i : Nat} (hi : i < 8) (h : f i = 4294967295) : tickF f i i = 0 ∧ knB f (tickF f i) = true := by
  rw [tick_at f hi]
  refine ⟨by unfold putF upI; rw [if_pos rfl, if_pos h], (knB_iff _ _).2 fun j hj => ?_⟩
  have := hf j hj
  unfold putF upI
  split
  · rename_i e; subst e; first | omega | (rw [if_pos h]; omega)
  · exact Int.le_refl _
theorem tick_up {f : Nat → Int} {i : Nat} (hi : i < 8) (h : f i ≠ 4294967295) : knB (tickF f i) f = true ∧ knB f (tickF f i) = false ∧ ahB f (tickF f i) = true ∧ eqB (joinF f (tickF f i)) (tickF f i) = true ∧ eqB (meetF f (tickF f i)) f = true := by
  have hle : ∀ j, f j ≤ tickF f i j := fun j => by
    rw [tick_at f hi]
    unfold putF upI
    split
    · rename_i e; subst e; first | omega | (rw [if_neg h]; omega)
    · exact Int.le_refl _
  have hlt : f i < tickF f i i := by
    rw [tick_at f hi]
    unfold putF upI
    rw [if_pos rfl, if_neg h]
    omega
  generalize tickF f i = u at hle hlt ⊢
  have h1 : knB u f = true := (knB_iff _ _).2 fun j _ => hle j
  have h2 := knB_not hi hlt
  refine ⟨h1, h2, ?_, (eqB_iff _ _).2 fun j _ => ?_, (eqB_iff _ _).2 fun j _ => ?_⟩
  · unfold ahB; rw [eqB_kn, h1, h2]; rfl
  · have := hle j
    unfold joinF maxI
    rw [if_pos this]
  · have := hle j
    unfold meetF minI
    rw [if_pos this]

/-! what is answered, where it is known -/
theorem kn_is {f g : Nat → Int} {b : Bool} (h : knB f g = b) (w : World) : Calls Try.prog 9 #[.agg (ckC f), .agg (ckC g)] w fun e u => e = .returned (.bool b) ∧ Gr w u := h ▸ knows_calls f g w
theorem ah_is {f g : Nat → Int} {b : Bool} (h : ahB f g = b) (w : World) : Calls Try.prog 10 #[.agg (ckC f), .agg (ckC g)] w fun e u => e = .returned (.bool b) ∧ Gr w u := h ▸ ahead_calls f g w
theorem ap_is {f g : Nat → Int} {b : Bool} (h : apB f g = b) (w : World) : Calls Try.prog 11 #[.agg (ckC f), .agg (ckC g)] w fun e u => e = .returned (.bool b) ∧ Gr w u := h ▸ apart_calls f g w

theorem zeroC : Zero Try.prog 25 (ckC zeroF) := fun o a w ho => by
  unfold execOp
  simp only [ho]
  go_simp
  rfl
theorem fitsC (f : Nat → Int) : Fits Try.prog 25 (ckC zeroF) (ckC f) := ⟨by rw [cktC.1, ckC_size], rfl, ckC_one f⟩
end Go.Proofs.Ytejcififiinifaa
