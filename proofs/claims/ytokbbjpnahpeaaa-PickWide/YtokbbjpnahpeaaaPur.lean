/-
  Heaps by plain functions: what is due, what stands above what, and what an exchange of two changes. No condition but what each law names.
-/
import Derived.Test.YtokbbjpnahpeaaaRows
namespace Go.Proofs.Ytokbbjpnahpeaaa
set_option linter.unusedVariables false

/-- what is due: a pick's kind and thread, and by when -/
structure Du where
  k : Int
  who : Int
  b : Int

/-- two are exchanged -/
def swp (A : Nat → Du) (i j k : Nat) : Du := if k = i then A j else if k = j then A i else A k
theorem swp_i (A : Nat → Du) (i j : Nat) : swp A i j i = A j := by simp [swp]
theorem swp_j (A : Nat → Du) (i j : Nat) : swp A i j j = A i := by unfold swp; split <;> simp_all
theorem swp_o (A : Nat → Du) {i j k : Nat} (h : k ≠ i) (h2 : k ≠ j) : swp A i j k = A k := by simp [swp, h, h2]
theorem swp_comm (A : Nat → Du) (i j : Nat) : swp A i j = swp A j i := by
  funext k
  unfold swp
  by_cases h : k = i <;> by_cases h2 : k = j <;> simp_all

/-- each is due behind the one above it -/
def Heap (A : Nat → Du) (n : Nat) : Prop := ∀ k, 0 < k → k < n → (A ((k - 1) / 2)).b ≤ (A k).b
/-- likewise but at i -/
def Near (A : Nat → Du) (n i : Nat) : Prop :=
  (∀ k, 0 < k → k < n → k ≠ i → (k - 1) / 2 ≠ i → (A ((k - 1) / 2)).b ≤ (A k).b) ∧ (0 < i → ∀ k, 0 < k → k < n → (k - 1) / 2 = i → (A ((i - 1) / 2)).b ≤ (A k).b)
def Kids (A : Nat → Du) (n i : Nat) : Prop := ∀ k, 0 < k → k < n → (k - 1) / 2 = i → (A i).b ≤ (A k).b

theorem Near.heap {A : Nat → Du} {n i : Nat} (h : Near A n i) (hk : Kids A n i) (hu : 0 < i → (A ((i - 1) / 2)).b ≤ (A i).b) : Heap A n := by
  intro k h0 hn
  by_cases h1 : k = i
  · subst h1; exact hu h0
  · by_cases h2 : (k - 1) / 2 = i
    · rw [h2]; exact hk k h0 hn h2
    · exact h.1 k h0 hn h1 h2
theorem Heap.near {A : Nat → Du} {n i : Nat} (h : Heap A n) (hi : i < n) : Near A n i :=
  ⟨fun k h0 hn _ _ => h k h0 hn, fun h0 k hk hn hp => by
    have h1 := h i h0 hi
    have h2 := h k hk hn
    rw [hp] at h2
    omega⟩
theorem Heap.kids {A : Nat → Du} {n i : Nat} (h : Heap A n) : Kids A n i := fun k h0 hn hp => by have := h k h0 hn; rw [hp] at this; exact this
theorem Heap.first {A : Nat → Du} {n : Nat} (h : Heap A n) : ∀ k, k < n → (A 0).b ≤ (A k).b := by
  intro k
  induction k using Nat.strongRecOn with
  | _ k ih =>
    intro hk
    by_cases h0 : k = 0
    · subst h0; omega
    · have h1 := h k (by omega) hk
      have h2 := ih ((k - 1) / 2) (by omega) (by omega)
      omega
theorem Heap.less {A : Nat → Du} {n m : Nat} (h : Heap A n) (hm : m ≤ n) : Heap A m := fun k h0 hk => h k h0 (by omega)
theorem Heap.congr {A B : Nat → Du} {n : Nat} (h : Heap A n) (e : ∀ k, k < n → B k = A k) : Heap B n := fun k h0 hk => by
  rw [e k hk, e _ (by omega)]; exact h k h0 hk

theorem up_step {A : Nat → Du} {n i j : Nat} (h : Near A n j) (hk : Kids A n j) (hj : 0 < j) (hn : j < n) (hi : (j - 1) / 2 = i) (hl : (A j).b < (A i).b) :
    Near (swp A i j) n i ∧ Kids (swp A i j) n i := by
  have hij : i < j := by omega
  refine ⟨⟨fun k h0 hkn h1 h2 => ?_, fun h0 k hk0 hkn hp => ?_⟩, fun k hk0 hkn hp => ?_⟩
  · have h3 : k ≠ j := fun q => h2 (by rw [q]; exact hi)
    rw [swp_o A h1 h3]
    by_cases h4 : (k - 1) / 2 = j
    · rw [h4, swp_j]
      have := h.2 hj k h0 hkn h4
      rw [hi] at this
      exact this
    · rw [swp_o A h2 h4]
      exact h.1 k h0 hkn h3 h4
  · have e1 : swp A i j ((i - 1) / 2) = A ((i - 1) / 2) := swp_o A (by omega) (by omega)
    rw [e1]
    have h5 := h.1 i h0 (by omega) (by omega) (by omega)
    by_cases h3 : k = j
    · subst h3; rw [swp_j]; exact h5
    · have h6 : k ≠ i := by omega
      rw [swp_o A h6 h3]
      have := h.1 k hk0 hkn h3 (by omega)
      rw [hp] at this
      omega
  · rw [swp_i]
    by_cases h3 : k = j
    · subst h3; rw [swp_j]; omega
    · have h6 : k ≠ i := by omega
      rw [swp_o A h6 h3]
      have := h.1 k hk0 hkn h3 (by omega)
      rw [hp] at this
      omega

theorem down_step {A : Nat → Du} {n i j : Nat} (h : Near A n i) (hj : 0 < j) (hn : j < n) (hi : (j - 1) / 2 = i) (hl : (A j).b < (A i).b) (hm : ∀ k, 0 < k → k < n → (k - 1) / 2 = i → (A j).b ≤ (A k).b) :
    Near (swp A i j) n j ∧ (swp A i j ((j - 1) / 2)).b ≤ (swp A i j j).b := by
  have hij : i < j := by omega
  refine ⟨⟨fun k h0 hkn h1 h2 => ?_, fun _ k hk0 hkn hp => ?_⟩, ?_⟩
  · by_cases h3 : k = i
    · subst h3
      rw [swp_i, swp_o A (by omega) (by omega)]
      exact h.2 h0 j hj hn hi
    · rw [swp_o A h3 h1]
      by_cases h4 : (k - 1) / 2 = i
      · rw [h4, swp_i]
        exact hm k h0 hkn h4
      · rw [swp_o A h4 h2]
        exact h.1 k h0 hkn h3 h4
  · rw [hi, swp_i, swp_o A (by omega) (by omega)]
    have := h.1 k hk0 hkn (by omega) (by omega)
    rw [hp] at this
    exact this
  · rw [hi, swp_i, swp_j]; omega

/-- it is one of the first n -/
def Con (A : Nat → Du) (n : Nat) (x : Du) : Prop := ∃ k, k < n ∧ A k = x
/-- no two are of the same pick -/
def Inj (A : Nat → Du) (n : Nat) : Prop := ∀ a b, a < n → b < n → (A a).k = (A b).k → (A a).who = (A b).who → a = b
/-- the same ones, in some order; behind them nothing is otherwise -/
structure Alike (n : Nat) (A A' : Nat → Du) : Prop where
  con : ∀ x, Con A' n x ↔ Con A n x
  inj : Inj A n → Inj A' n
  tail : ∀ k, n ≤ k → A' k = A k
theorem Alike.refl (n : Nat) (A : Nat → Du) : Alike n A A := ⟨fun _ => Iff.rfl, id, fun _ _ => rfl⟩
theorem Alike.trans {n : Nat} {A B C : Nat → Du} (h : Alike n A B) (k : Alike n B C) : Alike n A C :=
  ⟨fun x => (k.con x).trans (h.con x), fun q => k.inj (h.inj q), fun i hi => (k.tail i hi).trans (h.tail i hi)⟩
def tau (i j k : Nat) : Nat := if k = i then j else if k = j then i else k
theorem swp_tau (A : Nat → Du) (i j k : Nat) : swp A i j k = A (tau i j k) := by
  unfold swp tau
  by_cases h : k = i
  · simp [h]
  · by_cases h2 : k = j
    · subst h2; simp [h]
    · simp [h, h2]
theorem tau_tau (i j k : Nat) : tau i j (tau i j k) = k := by
  unfold tau
  by_cases h : k = i
  · subst h
    by_cases h2 : j = k <;> simp [h2]
  · by_cases h2 : k = j
    · subst h2; simp [h]
    · simp [h, h2]
theorem tau_lt {i j k n : Nat} (hi : i < n) (hj : j < n) (hk : k < n) : tau i j k < n := by
  unfold tau
  split
  · exact hj
  · split
    · exact hi
    · exact hk
theorem Alike.swp (A : Nat → Du) {n i j : Nat} (hi : i < n) (hj : j < n) : Alike n A (swp A i j) := by
  refine ⟨fun x => ⟨?_, ?_⟩, fun h a b ha hb h1 h2 => ?_, fun k hk => swp_o A (by omega) (by omega)⟩
  · rintro ⟨k, hk, e⟩
    exact ⟨tau i j k, tau_lt hi hj hk, (swp_tau A i j k).symm.trans e⟩
  · rintro ⟨k, hk, e⟩
    exact ⟨tau i j k, tau_lt hi hj hk, by rw [swp_tau, tau_tau]; exact e⟩
  · rw [swp_tau, swp_tau] at h1 h2
    have := h _ _ (tau_lt hi hj ha) (tau_lt hi hj hb) h1 h2
    rw [← tau_tau i j a, this, tau_tau]
theorem Inj.less {A : Nat → Du} {n m : Nat} (h : Inj A n) (hm : m ≤ n) : Inj A m := fun a b ha hb => h a b (by omega) (by omega)
theorem Inj.congr {A B : Nat → Du} {n : Nat} (h : Inj A n) (e : ∀ k, k < n → B k = A k) : Inj B n := fun a b ha hb h1 h2 => by
  rw [e a ha, e b hb] at h1 h2
  exact h a b ha hb h1 h2
/-- the last one left away -/
theorem con_last {A : Nat → Du} {n : Nat} (h : Inj A (n + 1)) (x : Du) : Con A n x ↔ Con A (n + 1) x ∧ ¬ (x.k = (A n).k ∧ x.who = (A n).who) := by
  constructor
  · rintro ⟨k, hk, rfl⟩
    refine ⟨⟨k, by omega, rfl⟩, fun q => ?_⟩
    have := h k n (by omega) (by omega) q.1 q.2
    omega
  · rintro ⟨⟨k, hk, rfl⟩, hq⟩
    refine ⟨k, ?_, rfl⟩
    have : k ≠ n := fun q => hq (by subst q; exact ⟨rfl, rfl⟩)
    omega
end Go.Proofs.Ytokbbjpnahpeaaa
