/-
  Lists alone: a line's words taken by the letters of its kind's row of fields, as the document's own Read does, give what readL says. No condition.
-/
import Derived.Test.YtcfkcnkekdafgaaDoorRefp
namespace Go.Proofs.YtcfkcnkekdafgaaDoor
set_option linter.unusedVariables false

/-- what a word of a field makes of an instruction, by the field's letter -/
def fieldR (f : UInt8) (s : Bs) (i : Ins × Bs) : Option (Ins × Bs) :=
  if f = 65 then takeW 0 s i else if f = 66 then takeW 1 s i else if f = 67 then takeW 2 s i else if f = 75 then takeW 3 s i else takeW 4 s i
/-- the words of a row of fields; the K of an address stands within it -/
def readF : Bs → List Bs → Ins × Bs → Option (Ins × Bs)
  | [], _, i => some i
  | _ :: _, [], _ => none
  | f :: fs, s :: ss, i => if f = 77 then takeW 5 s i else (fieldR f s i).bind (readF fs ss)
/-- the kinds of the words of a row of fields -/
def conv : Bs → List Nat
  | [] => []
  | f :: fs => if f = 77 then [5] else (if f = 65 then 0 else if f = 66 then 1 else if f = 67 then 2 else if f = 75 then 3 else 4) :: conv fs
theorem take_conv (fs : Bs) : ∀ (ss : List Bs) (i : Ins × Bs), takeAll (conv fs) ss i = readF fs ss i := by
  induction fs with
  | nil => intro ss i; cases ss <;> rfl
  | cons f fs ih =>
    intro ss i
    cases ss with
    | nil =>
      unfold conv readF
      split <;> rfl
    | cons s ss =>
      unfold conv readF
      split
      · show (takeW 5 s i).bind (takeAll [] ss) = takeW 5 s i
        cases takeW 5 s i with
        | none => rfl
        | some j => cases ss <;> rfl
      · have h : ∀ x, takeAll (x :: conv fs) (s :: ss) i = (takeW x s i).bind (takeAll (conv fs) ss) := fun x => rfl
        rw [h]
        have e : takeAll (conv fs) ss = readF fs ss := funext fun j => ih ss j
        rw [e]
        unfold fieldR
        repeat' split
        all_goals rfl
theorem conv_all : ∀ n : Fin 28, wk n = conv (fieldL.getD n []) ∧ ((wk n).length : Int) = (fieldAt n).size - memNo (fieldAt n) := by decide +kernel
theorem conv_at (n : Nat) (h : n < 28) : wk n = conv (fieldL.getD n []) ∧ ((wk n).length : Int) = (fieldAt n).size - memNo (fieldAt n) := conv_all ⟨n, h⟩
/-- the letters of a kind's row are the six alone -/
theorem letters_all : ∀ n : Fin 28, ∀ f ∈ fieldL.getD n [], f = 65 ∨ f = 66 ∨ f = 67 ∨ f = 75 ∨ f = 77 ∨ f = 84 := by decide +kernel
theorem num_no_name {t : Bs} {k : Nat} (h : numOf t = some k) : isName t = false := by
  obtain ⟨h0, hd, _⟩ := numOf_inv h
  match t, h0 with
  | x :: xs, _ =>
    have hx := hd x List.mem_cons_self
    have hl : letB x = false := by
      simp [digB] at hx
      simp [letB]
      omega
    simp [isName, hl]
/-- a place, number first -/
theorem placeOf_ref (s : Bs) : placeOf (64 :: s) = match numOf s with | some k => some (k, []) | none => if isName s = true then some (0, s) else none := by
  have e1 : Lib.hasPrefix (64 :: s) [64] = true := by simp [Lib.hasPrefix]
  have e2 : Lib.trimPrefix (64 :: s) [64] = s := by unfold Lib.trimPrefix; rw [if_pos e1]; rfl
  rw [place_of e1, e2]
  cases hn : numOf s with
  | none => simp
  | some k => rw [num_no_name hn]; simp
theorem placeOf_no {s : Bs} (h : s.head? ≠ some 64) : placeOf s = none := by
  unfold placeOf
  rw [if_neg]
  intro h1
  match s, h1 with
  | x :: xs, h1 =>
    simp only [Lib.hasPrefix, List.isPrefixOf, Bool.and_true, beq_iff_eq] at h1
    subst h1
    exact h rfl
theorem placeOf_at : placeOf [64] = none := by
  rw [placeOf_ref]
  rfl
/-- what a line is read as, by its row of letters -/
theorem readL_ref (t : Bs) : readL t = if opNo ⟨((parts 32 t).headD []).toArray⟩ < 0 then none
    else if ((parts 32 t).length : Int) = (fB (opNo ⟨((parts 32 t).headD []).toArray⟩)).size + 1 - memNo (fB (opNo ⟨((parts 32 t).headD []).toArray⟩)) then
      readF (fB (opNo ⟨((parts 32 t).headD []).toArray⟩)).data.toList (parts 32 t).tail (⟨opNo ⟨((parts 32 t).headD []).toArray⟩, 0, 0, 0, 0⟩, [])
    else none := by
  have hp : (parts 32 t).length = (parts 32 t).tail.length + 1 := by
    have := parts_ne 32 t
    cases h : parts 32 t with
    | nil => exact absurd h this
    | cons x xs => rfl
  unfold readL
  rw [hp]
  generalize (parts 32 t).tail = ws
  generalize ByteArray.mk ((parts 32 t).headD []).toArray = nm
  cases hk : knownB nm with
  | false =>
    have e : opNo nm = -1 := by unfold opNo; rw [hk]; rfl
    have r : (-1 : Int) < 0 := by omega
    rw [e, if_pos r, if_neg (by simp)]
  | true =>
    have e : opNo nm = numB nm := by unfold opNo; rw [hk]; rfl
    have h' : numF nm 28 0 < 28 := by simpa [knownB] using hk
    have en : numB nm = (numF nm 28 0 : Nat) := by unfold numB; rw [if_pos h']
    rw [e, en]
    generalize numF nm 28 0 = n at h'
    have ef : fB (n : Int) = fieldAt n := by unfold fB; rw [isB_of h']; rfl
    obtain ⟨c1, c2⟩ := conv_at n h'
    have r : ¬ (n : Int) < 0 := by omega
    rw [if_neg r, ef]
    have hd : (fieldAt n).data.toList = fieldL.getD n [] := rfl
    rw [hd, ← take_conv, ← c1]
    simp only [Int.toNat_natCast, true_and]
    by_cases hl : ws.length = (wk n).length
    · rw [if_pos hl, if_pos (by rw [hl]; push_cast; omega)]
    · rw [if_neg hl, if_neg (by push_cast; omega)]
end Go.Proofs.YtcfkcnkekdafgaaDoor
