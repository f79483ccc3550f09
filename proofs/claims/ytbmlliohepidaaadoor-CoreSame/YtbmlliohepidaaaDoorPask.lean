/-
  What a step over the law's yard asks, case by case. No program, no condition but what each law names.
-/
import Derived.Test.YtbmlliohepidaaaDoorDonB
import Derived.Test.YtbmlliohepidaaaDoorYp
namespace Go.Proofs.YtbmlliohepidaaaDoor
set_option linter.unusedVariables false

def opN (op : Int) : Prop := op ≠ 16 ∧ op ≠ 17 ∧ op ≠ 19 ∧ op ≠ 20 ∧ op ≠ 21 ∧ op ≠ 23 ∧ op ≠ 24 ∧ op ≠ 25
/-- what an instruction that is done asks -/
def AskOp (t : Th) (i : Ins) (t' : Th) (asks : List UInt8) : Prop :=
  (asks = [] ∧ opN i.op) ∨ (i.op = 16 ∧ asks = [108]) ∨ (i.op = 17 ∧ asks = [115]) ∨ ((i.op = 19 ∨ i.op = 20) ∧ asks = [108, 120]) ∨ (i.op = 21 ∧ asks = [108, 120]) ∨
  (i.op = 21 ∧ asks = [108] ∧ regB i.a = true ∧ t'.reg i.a ≠ t.reg i.a) ∨ (i.op = 23 ∧ asks = [108] ∧ t'.st = 0) ∨ (i.op = 23 ∧ asks = [108, 122] ∧ t'.st = 1) ∨ (i.op = 24 ∧ asks = [119]) ∨ (i.op = 25 ∧ asks = [114])
/-- what a step asks -/
def AskC (t : Th) (code : List Ins) (t' : Th) (asks : List UInt8) (evs : List Ev) : Prop :=
  (t.st ≠ 0 ∧ t' = t ∧ asks = [] ∧ evs = []) ∨ (t.st = 0 ∧ t' = t ∧ asks = [102]) ∨ (t.st = 0 ∧ asks = [] ∧ (t.pc < 0 ∨ (code.length : Int) ≤ t.pc)) ∨ (t.st = 0 ∧ asks = [] ∧ (0 ≤ t.pc ∧ t.pc < (code.length : Int)) ∧ t'.st = 3) ∨
  (t.st = 0 ∧ (0 ≤ t.pc ∧ t.pc < (code.length : Int)) ∧ t'.st ≠ 3 ∧ AskOp t (code.getD t.pc.toNat ins0) t' asks)

theorem jump28 : ∀ n : Fin 28, jumpB n.val = true → n.val = 13 ∨ n.val = 14 ∨ n.val = 15 := by decide +kernel
theorem ask28 : ∀ n : Fin 28, askB n.val = true → n.val = 16 ∨ n.val = 17 ∨ n.val = 19 ∨ n.val = 20 ∨ n.val = 21 ∨ n.val = 23 ∨ n.val = 24 := by decide +kernel
theorem noask28 : ∀ n : Fin 28, askB n.val = false → n.val ≠ 16 ∧ n.val ≠ 17 ∧ n.val ≠ 19 ∧ n.val ≠ 20 ∧ n.val ≠ 21 ∧ n.val ≠ 23 ∧ n.val ≠ 24 := by decide +kernel
theorem right_is {op a b c k n : Int} (h : rightB op a b c k n = true) : isB op = true := by
  unfold rightB at h
  cases hb : isB op
  · rw [hb] at h
    simp at h
  · rfl
theorem Th.reg_put {t : Th} (h : ThOk t) {k : Int} (hk : regB k = true) (v : Int) : (t.put k v).reg k = v := by
  obtain ⟨n, rfl, hn⟩ := reg_nat hk
  have := h.len
  simp [Th.reg, Th.put, List.getD_eq_getElem?_getD, this, hn]

section
variable (n : Int) (t : Th) (i : Ins) (s : Ys)
theorem asked_asks (ht : ThOk t) (ha : regB i.a = true) (h0 : t.st = 0) (hs : s.asks = []) (hop : i.op = 16 ∨ i.op = 17 ∨ i.op = 19 ∨ i.op = 20 ∨ i.op = 21 ∨ i.op = 23 ∨ i.op = 24) :
    (onM (askedM (yardM n) t i s)).1.st ≠ 3 ∧ AskOp t i (onM (askedM (yardM n) t i s)).1 (onM (askedM (yardM n) t i s)).2.asks := by
  have e1 : ∀ b : UInt8, (s.ask b).asks = [b] := fun b => by simp [Ys.ask, hs]
  unfold askedM
  split
  · rename_i h
    exact ⟨by simp [onM, loadedM, Th.at, Th.put, h0], .inr (.inl ⟨h, e1 108⟩)⟩
  split
  · rename_i h
    exact ⟨by simp [onM, storedM, Th.at, h0], .inr (.inr (.inl ⟨h, e1 115⟩))⟩
  split
  · rename_i h
    unfold waitedM
    split
    · refine ⟨by simp [onM, Th.at, Th.put, Th.is], .inr (.inr (.inr (.inr (.inr (.inr (.inr (.inl ⟨h, ?_, rfl⟩)))))))⟩
      show (s.ask 108).asks ++ [122] = [108, 122]
      rw [e1]
      rfl
    · exact ⟨by simp [onM, Th.at, Th.put, h0], .inr (.inr (.inr (.inr (.inr (.inr (.inl ⟨h, e1 108, h0⟩))))))⟩
  split
  · rename_i h
    exact ⟨by simp [onM, wokeM, Th.at, Th.put, h0], .inr (.inr (.inr (.inr (.inr (.inr (.inr (.inr (.inl ⟨h, e1 119⟩))))))))⟩
  · rename_i h1 h2 h3 h4
    refine ⟨by simp [onM, swappedM, Th.at, Th.put, h0], ?_⟩
    have e2 : (((s.ask 108).ask 120).asks) = [108, 120] := by simp [Ys.ask, hs]
    show AskOp t i ((t.put i.a ((yardM n).load s (addrM t i))).at _) (swapM (yardM n) t i s (addrM t i)).asks
    unfold swapM
    by_cases h21 : i.op = 21
    · by_cases he : ((yardM n).load s (addrM t i) == t.reg i.a) = true
      · have hi : (insteadM t i ((yardM n).load s (addrM t i))).2 = true := by simp [insteadM, h21, he]
        rw [if_pos hi]
        exact .inr (.inr (.inr (.inr (.inl ⟨h21, e2⟩))))
      · have hi : (insteadM t i ((yardM n).load s (addrM t i))).2 = false := by simp [insteadM, h21, he]
        rw [if_neg (by rw [hi]; simp)]
        refine .inr (.inr (.inr (.inr (.inr (.inl ⟨h21, e1 108, ha, ?_⟩)))))
        have : ((t.put i.a ((yardM n).load s (addrM t i))).at ((t.put i.a ((yardM n).load s (addrM t i))).pc + 1)).reg i.a = (yardM n).load s (addrM t i) := Th.reg_put ht ha _
        intro q
        refine he ?_
        have q2 := this.symm.trans q
        simpa using q2
    · have hi : (insteadM t i ((yardM n).load s (addrM t i))).2 = true := by
        unfold insteadM
        split
        · rfl
        · rfl
      rw [if_pos hi]
      exact .inr (.inr (.inr (.inl ⟨by omega, e2⟩)))
theorem alone_asks (h0 : t.st = 0) (hs : s.asks = []) (hop : i.op ≠ 16 ∧ i.op ≠ 17 ∧ i.op ≠ 19 ∧ i.op ≠ 20 ∧ i.op ≠ 21 ∧ i.op ≠ 23 ∧ i.op ≠ 24) :
    (onM (aloneM (yardM n) t i s)).1.st ≠ 3 ∧ AskOp t i (onM (aloneM (yardM n) t i s)).1 (onM (aloneM (yardM n) t i s)).2.asks := by
  obtain ⟨k1, k2, k3, k4, k5, k6, k7⟩ := hop
  have o : i.op ≠ 25 → opN i.op := fun h => ⟨k1, k2, k3, k4, k5, k6, k7, h⟩
  unfold aloneM
  split
  · exact ⟨by simp [onM, Th.at, Th.put, h0], .inl ⟨hs, o (by omega)⟩⟩
  split
  · exact ⟨by simp [onM, Th.at, Th.put, h0], .inl ⟨hs, o (by omega)⟩⟩
  split
  · exact ⟨by simp [onM, Th.at, h0], .inl ⟨hs, o (by omega)⟩⟩
  split
  · exact ⟨by simp [onM, Th.at, h0], .inl ⟨hs, o (by omega)⟩⟩
  split
  · rename_i h
    refine ⟨by simp [onM, Th.at, h0], .inr (.inr (.inr (.inr (.inr (.inr (.inr (.inr (.inr ⟨h, ?_⟩))))))))⟩
    show (s.ask 114).asks = [114]
    simp [Ys.ask, hs]
  split
  · exact ⟨by simp [onM, Th.at, h0], .inl ⟨hs, o (by omega)⟩⟩
  · exact ⟨by simp [onM, Th.at, h0], .inl ⟨hs, o (by omega)⟩⟩
theorem done_asks (ht : ThOk t) (h0 : t.st = 0) (hs : s.asks = []) {m : Int} (hr : rightB i.op i.a i.b i.c i.k m = true) :
    (doneM (yardM n) t i s).1.st ≠ 3 ∧ AskOp t i (doneM (yardM n) t i s).1 (doneM (yardM n) t i s).2.asks := by
  obtain ⟨q, hq, hq2⟩ := isB_nat (right_is hr)
  unfold doneM
  split
  · rename_i h
    have h' : i.op = 0 := by simpa using h
    refine ⟨by simp [endM, Th.is], .inl ⟨hs, ?_⟩⟩
    unfold opN
    omega
  split
  · rename_i h
    have := jump28 ⟨q, hq2⟩ (by rw [hq] at h; exact h)
    refine ⟨by simp [Th.at, h0], .inl ⟨hs, ?_⟩⟩
    unfold opN
    simp only at this
    omega
  cases hk : askB i.op
  · have := noask28 ⟨q, hq2⟩ (by rw [hq] at hk; exact hk)
    simp only at this
    cases hl : aluB i.op
    · exact alone_asks n t i s h0 hs (by omega)
    · refine ⟨by simp [onM, Th.at, Th.put, h0], .inl ⟨hs, ?_⟩⟩
      unfold aluB at hl
      simp only [Bool.and_eq_true, decide_eq_true_eq] at hl
      unfold opN
      omega
  · have := ask28 ⟨q, hq2⟩ (by rw [hq] at hk; exact hk)
    simp only at this
    exact asked_asks n t i s ht (right_regs hr).1 h0 hs (by omega)
theorem step_asks (ht : ThOk t) (code : List Ins) (hs : s.asks = []) (he : s.evs = []) :
    AskC t code (stepM (yardM n) t code s).1 (stepM (yardM n) t code s).2.asks (stepM (yardM n) t code s).2.evs := by
  unfold stepM
  split
  · rename_i h
    exact .inl ⟨by simpa using h, rfl, hs, he⟩
  rename_i h
  have h0 : t.st = 0 := by simpa using h
  split
  · rename_i h2
    exact .inr (.inr (.inl ⟨h0, hs, by simpa using h2⟩))
  rename_i h2
  have hp : 0 ≤ t.pc ∧ t.pc < (code.length : Int) := by
    have : ¬ (t.pc < 0 ∨ (code.length : Int) ≤ t.pc) := by simpa using h2
    omega
  unfold atM
  split
  · exact .inr (.inr (.inr (.inl ⟨h0, hs, hp, rfl⟩)))
  rename_i h3
  split
  · refine .inr (.inl ⟨h0, rfl, ?_⟩)
    show (s.ask 102).flush.asks = [102]
    cases hb : s.buf with
    | nil => simp [Ys.flush, Ys.ask, hb, hs]
    | cons x l => simp [Ys.flush, Ys.ask, hb, hs]
  · have hr : rightB (code.getD t.pc.toNat ins0).op (code.getD t.pc.toNat ins0).a (code.getD t.pc.toNat ins0).b (code.getD t.pc.toNat ins0).c (code.getD t.pc.toNat ins0).k (code.length : Int) = true := by
      simp only [Bool.or_eq_true, not_or, Bool.not_eq_true'] at h3
      simpa using h3.1
    exact .inr (.inr (.inr (.inr ⟨h0, hp, done_asks n t _ s ht h0 hs hr⟩)))
end
end Go.Proofs.YtbmlliohepidaaaDoor
