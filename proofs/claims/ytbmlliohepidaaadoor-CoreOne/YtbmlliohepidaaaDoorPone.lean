/-
  A step over the law's yard changes at most one word of memory; words that differ, counted. No program, no condition.
-/
import Derived.Test.YtbmlliohepidaaaDoorYp
namespace Go.Proofs.YtbmlliohepidaaaDoor
set_option linter.unusedVariables false

/-- the same words, or one is another -/
def OneOff (a b : List Int) : Prop := b = a ∨ ∃ (m : Nat) (v : Int), b = a.set m v
theorem OneOff.refl (a : List Int) : OneOff a a := .inl rfl

section
variable (n : Int) (t : Th) (i : Ins) (s : Ys)
theorem end_one (st ev : Int) : OneOff s.mem (endM (yardM n) t s st ev).2.mem := .inl rfl
theorem flush_one : OneOff s.mem (s.ask 102).flush.mem := by
  cases h : s.buf with
  | nil => exact .inl (by simp [Ys.flush, Ys.ask, h])
  | cons x l => exact .inr ⟨x.a.toNat, x.v, by simp [Ys.flush, Ys.ask, h]⟩
theorem asked_one : OneOff s.mem (askedM (yardM n) t i s).2.mem := by
  unfold askedM
  split
  · exact .inl rfl
  split
  · exact .inl rfl
  split
  · unfold waitedM
    split
    · exact .inl rfl
    · exact .inl rfl
  split
  · exact .inl rfl
  · unfold swappedM swapM
    by_cases h : (insteadM t i ((yardM n).load s (addrM t i))).2 = true
    · rw [if_pos h]
      exact .inr ⟨(addrM t i).toNat, _, rfl⟩
    · rw [if_neg h]
      exact .inl rfl
theorem alone_one : OneOff s.mem (aloneM (yardM n) t i s).2.mem := by
  unfold aloneM
  repeat (first | exact .inl rfl | split)
theorem done_one : OneOff s.mem (doneM (yardM n) t i s).2.mem := by
  unfold doneM
  split
  · exact .inl rfl
  split
  · exact .inl rfl
  unfold onM
  show OneOff s.mem (ite (askB i.op = true) (askedM (yardM n) t i s) (ite (aluB i.op = true) (t.put i.a (doI i.op (t.reg i.b) (t.reg i.c)), s) (aloneM (yardM n) t i s))).2.mem
  split
  · exact asked_one n t i s
  split
  · exact .inl rfl
  · exact alone_one n t i s
theorem step_one (code : List Ins) : OneOff s.mem (stepM (yardM n) t code s).2.mem := by
  unfold stepM
  split
  · exact .inl rfl
  split
  · exact .inl rfl
  unfold atM
  split
  · exact .inl rfl
  split
  · exact flush_one s
  · exact done_one n t _ s
end

/-- of the first k words, how many differ -/
def diffN (a b : List Int) : Nat → Nat
  | 0 => 0
  | k + 1 => diffN a b k + (if a.getD k 0 != b.getD k 0 then 1 else 0)
theorem diffN_same (a : List Int) : ∀ k, diffN a a k = 0
  | 0 => rfl
  | k + 1 => by simp [diffN, diffN_same a k]
theorem getD_set_ne (a : List Int) (m k : Nat) (v d : Int) (h : m ≠ k) : (a.set m v).getD k d = a.getD k d := by
  simp [List.getD_eq_getElem?_getD, h]
theorem diffN_set (a : List Int) (m : Nat) (v : Int) : ∀ k, diffN (a.set m v) a k ≤ if m < k then 1 else 0
  | 0 => by simp [diffN]
  | k + 1 => by
    have ih := diffN_set a m v k
    unfold diffN
    by_cases h : m = k
    · rw [if_neg (by omega)] at ih
      rw [if_pos (show m < k + 1 by omega)]
      split <;> omega
    · rw [getD_set_ne a m k v 0 h]
      simp only [bne_self_eq_false, Bool.false_eq_true, if_false, Nat.add_zero]
      refine Nat.le_trans ih ?_
      split <;> split <;> omega
theorem diffN_one {a b : List Int} (h : OneOff a b) (k : Nat) : diffN b a k ≤ 1 := by
  rcases h with rfl | ⟨m, v, rfl⟩
  · rw [diffN_same]; omega
  · refine Nat.le_trans (diffN_set a m v k) ?_
    split <;> omega
end Go.Proofs.YtbmlliohepidaaaDoor
