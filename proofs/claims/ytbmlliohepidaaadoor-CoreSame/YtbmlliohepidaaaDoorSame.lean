/-
  A step over the law's yard, with code ahead of the thread's own and behind it: the same, but for the place. No program, no condition but what each law names.
-/
import Derived.Test.YtbmlliohepidaaaDoorPask
namespace Go.Proofs.YtbmlliohepidaaaDoor
set_option linter.unusedVariables false

/-- the same yard, but for what its events tell -/
structure Ysm (a b : Ys) : Prop where
  mem : b.mem = a.mem
  buf : b.buf = a.buf
  slp : b.slp = a.slp
  asks : b.asks = a.asks
  room : b.room = a.room
  evs : b.evs.length = a.evs.length
theorem Ysm.refl (a : Ys) : Ysm a a := ⟨rfl, rfl, rfl, rfl, rfl, rfl⟩
theorem Ysm.note {a b : Ys} (h : Ysm a b) (x y : Ev) : Ysm (a.note x) (b.note y) := ⟨h.mem, h.buf, h.slp, h.asks, h.room, by simp [Ys.note, h.evs]⟩
theorem Ysm.sleep {a b : Ys} (h : Ysm a b) (m : Int) : Ysm ((a.ask 122).sleep m) ((b.ask 122).sleep m) :=
  ⟨h.mem, h.buf, by show b.slp ++ _ = a.slp ++ _; rw [h.slp], by show b.asks ++ _ = a.asks ++ _; rw [h.asks], h.room, h.evs⟩

/-- so many places further on -/
def Th.on (t : Th) (k : Int) : Th := t.at (t.pc + k)
/-- the thread is further on, the yard the same -/
def Smr (k : Int) (a b : Th × Ys) : Prop := b.1 = a.1.on k ∧ Ysm a.2 b.2
theorem Smr.onM {k : Int} {a b : Th × Ys} (h : Smr k a b) : Smr k (onM a) (onM b) := by
  refine ⟨?_, h.2⟩
  show b.1.at (b.1.pc + 1) = (a.1.at (a.1.pc + 1)).on k
  rw [h.1]
  show (⟨a.1.pc + k + 1, a.1.r, a.1.st⟩ : Th) = ⟨a.1.pc + 1 + k, a.1.r, a.1.st⟩
  congr 1
  omega

section
variable (n : Int) (t : Th) (i : Ins) (s : Ys) (k : Int)
theorem addr_on : addrM (t.on k) i = addrM t i := rfl
theorem end_same (st ev : Int) : Smr k (endM (yardM n) t s st ev) (endM (yardM n) (t.on k) s st ev) := ⟨rfl, (Ysm.refl s).note _ _⟩
theorem asked_same : Smr k (askedM (yardM n) t i s) (askedM (yardM n) (t.on k) i s) := by
  unfold askedM
  rw [addr_on]
  split
  · exact ⟨rfl, (Ysm.refl _).note _ _⟩
  split
  · exact ⟨rfl, (Ysm.refl _).note _ _⟩
  split
  · unfold waitedM
    show Smr k (if ((yardM n).load s (addrM t i) == t.reg i.a) = true then _ else _) (if ((yardM n).load s (addrM t i) == t.reg i.a) = true then _ else _)
    split
    · exact ⟨rfl, ((Ysm.refl _).note _ _).sleep _⟩
    · exact ⟨rfl, (Ysm.refl _).note _ _⟩
  split
  · exact ⟨rfl, (Ysm.refl _).note _ _⟩
  · exact ⟨rfl, (Ysm.refl _).note _ _⟩
theorem alone_same : Smr k (aloneM (yardM n) t i s) (aloneM (yardM n) (t.on k) i s) := by
  unfold aloneM
  split
  · exact ⟨rfl, Ysm.refl _⟩
  split
  · exact ⟨rfl, Ysm.refl _⟩
  split
  · exact ⟨rfl, (Ysm.refl _).note _ _⟩
  split
  · exact ⟨rfl, (Ysm.refl _).note _ _⟩
  split
  · exact ⟨rfl, (Ysm.refl _).note _ _⟩
  split
  · exact ⟨rfl, (Ysm.refl _).note _ _⟩
  · exact ⟨rfl, Ysm.refl _⟩
theorem done_same (hj : jumpB i.op = false) : Smr k (doneM (yardM n) t i s) (doneM (yardM n) (t.on k) i s) := by
  unfold doneM
  rw [hj]
  split
  · exact end_same n t s k 2 12
  · show Smr k (onM (if askB i.op = true then _ else _)) (onM (if askB i.op = true then _ else _))
    split
    · exact (asked_same n t i s k).onM
    · split
      · exact Smr.onM ⟨rfl, Ysm.refl _⟩
      · exact (alone_same n t i s k).onM
end
theorem right_size {op a b c k : Int} (hj : jumpB op = false) (n m : Int) : rightB op a b c k n = rightB op a b c k m := by
  unfold rightB
  cases hb : isB op
  · simp
  · have h4 : (kK op.toNat == 4) = false := by simpa [jumpB, hb] using hj
    have h5 : ¬ kK op.toNat = 4 := by simpa using h4
    simp [holdsB, h5]
/-- the code with more ahead and behind -/
def moreC (ah : Nat) (code more : List Ins) : List Ins := List.replicate ah ins0 ++ code ++ more
theorem moreC_get {ah : Nat} {code more : List Ins} {p : Nat} (hp : p < code.length) : (moreC ah code more).getD (p + ah) ins0 = code.getD p ins0 := by
  unfold moreC
  simp only [List.getD_eq_getElem?_getD]
  rw [List.getElem?_append_left (by simp; omega), List.getElem?_append_right (by simp), List.length_replicate, Nat.add_sub_cancel]
theorem step_same (n : Int) (t : Th) (code more : List Ins) (s : Ys) (ah : Nat) (hp : 0 ≤ t.pc ∧ t.pc < code.length) (hj : ∀ i ∈ code, jumpB i.op = false) :
    Smr ah (stepM (yardM n) t code s) (stepM (yardM n) (t.on ah) (moreC ah code more) s) := by
  obtain ⟨p, hp0⟩ := Int.eq_ofNat_of_zero_le hp.1
  have hpl : p < code.length := by omega
  have hl : (moreC ah code more).length = ah + code.length + more.length := by simp [moreC]; omega
  have e1 : (t.on ah).pc.toNat = p + ah := by show (t.pc + (ah : Int)).toNat = _; omega
  have e0 : t.pc.toNat = p := by omega
  unfold stepM
  have h1 : (decide (t.pc < 0) || decide ((code.length : Int) ≤ t.pc)) = false := by simp; omega
  have h2 : (decide ((t.on ah).pc < 0) || decide (((moreC ah code more).length : Int) ≤ (t.on ah).pc)) = false := by
    have : (t.on ah).pc = t.pc + ah := rfl
    simp
    omega
  rw [h1, h2, e1, e0, moreC_get hpl]
  show Smr ah (if (t.st != 0) = true then _ else _) (if (t.st != 0) = true then _ else _)
  split
  · exact ⟨rfl, Ysm.refl _⟩
  · have hji : jumpB (code.getD p ins0).op = false := by
      rw [List.getD_eq_getElem?_getD, List.getElem?_eq_getElem hpl]
      exact hj _ (List.getElem_mem hpl)
    generalize code.getD p ins0 = i at hji
    show Smr ah (atM (yardM n) t i code.length s) (atM (yardM n) (t.on ah) i (moreC ah code more).length s)
    unfold atM
    rw [right_size hji ((moreC ah code more).length : Int) (code.length : Int)]
    show Smr ah (if (!rightB i.op i.a i.b i.c i.k code.length || (askB i.op && !inMemM (yardM n) t i)) = true then _ else _) (if (!rightB i.op i.a i.b i.c i.k code.length || (askB i.op && !inMemM (yardM n) t i)) = true then _ else _)
    split
    · exact end_same n t s ah 3 13
    · split
      · exact ⟨rfl, Ysm.refl _⟩
      · exact done_same n t i s ah hji
end Go.Proofs.YtbmlliohepidaaaDoor
