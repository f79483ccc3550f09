/-
  A text's lines and words, names, numbers, registers, places and addresses, said of lists of bytes. Lists alone: no condition.
-/
import Derived.Lib.Split
import Derived.Lib.ParseIntBCases
import Derived.Lib.IndexLaws
namespace Go.Proofs.YtcfkcnkekdafgaaDoor
set_option linter.unusedVariables false

abbrev Bs := List UInt8

/-- a text, parted by a byte -/
def parts (c : UInt8) : Bs → List Bs
  | [] => [[]]
  | x :: xs => if x = c then [] :: parts c xs else (x :: (parts c xs).headD []) :: (parts c xs).tail

theorem parts_ne (c : UInt8) (l : Bs) : parts c l ≠ [] := by
  cases l with
  | nil => simp [parts]
  | cons x xs => unfold parts; split <;> simp
theorem parts_free (c : UInt8) (l : Bs) (h : c ∉ l) : parts c l = [l] := by
  induction l with
  | nil => rfl
  | cons x xs ih =>
    have hx : ¬ x = c := fun e => h (by simp [e])
    have hxs : c ∉ xs := fun e => h (by simp [e])
    unfold parts
    rw [if_neg hx, ih hxs]
    rfl
theorem parts_cut (c : UInt8) (p r : Bs) (h : c ∉ p) : parts c (p ++ c :: r) = p :: parts c r := by
  induction p with
  | nil => simp [parts]
  | cons x xs ih =>
    have hx : ¬ x = c := fun e => h (by simp [e])
    have hxs : c ∉ xs := fun e => h (by simp [e])
    rw [List.cons_append]
    show (if x = c then _ else _) = _
    rw [if_neg hx, ih hxs]
    rfl

theorem occ_one (s : Bs) (c : UInt8) (i : Nat) : Lib.occAt s [c] i = true ↔ s[i]? = some c := by
  constructor
  · exact fun h => Lib.occAt_head rfl h
  · intro h
    have hi : i < s.length := (List.getElem?_eq_some_iff.1 h).1
    rw [Lib.occAt_iff_take s [c] i (by simp; omega)]
    rw [List.drop_eq_getElem_cons hi]
    have := (List.getElem?_eq_some_iff.1 h).2
    simp [this]
theorem index_one (s : Bs) (c : UInt8) : (Lib.index s [c] = -1 ∧ c ∉ s) ∨ ∃ i : Nat, Lib.index s [c] = i ∧ c ∉ s.take i ∧ s = s.take i ++ c :: s.drop (i + 1) := by
  rcases Lib.index_spec s [c] with ⟨h1, h2⟩ | ⟨i, h1, h2, h3, h4⟩
  · refine .inl ⟨h1, fun h => ?_⟩
    obtain ⟨j, hj, e⟩ := List.mem_iff_getElem.1 h
    have := (occ_one s c j).2 (by rw [List.getElem?_eq_getElem hj, e])
    rw [h2 j (by omega)] at this
    cases this
  · refine .inr ⟨i, h1, fun h => ?_, ?_⟩
    · obtain ⟨j, hj, e⟩ := List.mem_iff_getElem.1 h
      have hj' : j < i ∧ j < s.length := by rw [List.length_take] at hj; omega
      have := (occ_one s c j).2 (by rw [List.getElem?_eq_getElem hj'.2]; rw [List.getElem_take] at e; rw [e])
      rw [h4 j hj'.1] at this
      cases this
    · have h5 := (occ_one s c i).1 h3
      have hi : i < s.length := (List.getElem?_eq_some_iff.1 h5).1
      have h6 := (List.getElem?_eq_some_iff.1 h5).2
      conv => lhs; rw [← List.take_append_drop i s, List.drop_eq_getElem_cons hi, h6]
theorem split_parts (c : UInt8) : ∀ (n : Nat) (s : Bs), s.length < n → Lib.splitK [c] 0 (Lib.count s [c]) s = parts c s := by
  intro n
  induction n with
  | zero => intro s h; omega
  | succ n ih =>
    intro s h
    rcases index_one s c with ⟨h1, h2⟩ | ⟨i, h1, h2, h3⟩
    · rw [Lib.count_miss h1, parts_free c s h2]; rfl
    · rw [Lib.count_hit (by simp) h1]
      have e1 : ¬ (Lib.index s [c] == -1) = true := by rw [h1]; intro e; have := beq_iff_eq.1 e; omega
      have e2 : (Lib.index s [c]).toNat = i := by rw [h1]; rfl
      rw [show 1 + Lib.count (s.drop (i + [c].length)) [c] = Lib.count (s.drop (i + [c].length)) [c] + 1 by omega]
      unfold Lib.splitK
      rw [if_neg e1, e2]
      have hl := congrArg List.length h3
      simp only [List.length_append, List.length_take, List.length_cons, List.length_drop] at hl
      have hn : (s.drop (i + [c].length)).length < n := by simp; omega
      rw [ih _ hn, Nat.add_zero]
      conv => rhs; rw [h3]
      rw [parts_cut c _ _ h2]
      rfl
theorem splitB_parts (c : UInt8) (s : ByteArray) : Lib.splitB ⟨#[c]⟩ 0 (Lib.countB s ⟨#[c]⟩) s = (parts c s.data.toList).map fun l => ⟨l.toArray⟩ := by
  have h := Lib.splitB_data ⟨#[c]⟩ 0 (Lib.countB s ⟨#[c]⟩) s
  have h2 : Lib.splitK [c] 0 (Lib.count s.data.toList [c]) s.data.toList = parts c s.data.toList := split_parts c _ _ (Nat.lt_succ_self _)
  have h3 : (Lib.splitB ⟨#[c]⟩ 0 (Lib.countB s ⟨#[c]⟩) s).map (·.data.toList) = parts c s.data.toList := h.trans h2
  rw [← h3, List.map_map]
  conv => lhs; rw [← List.map_id (Lib.splitB _ _ _ _)]
  apply List.map_congr_left
  intro x _
  rfl
theorem countB_parts (c : UInt8) (s : ByteArray) : Lib.countB s ⟨#[c]⟩ + 1 = (parts c s.data.toList).length := by
  have key : ∀ (n : Nat) (s : Bs), s.length < n → Lib.count s [c] + 1 = (parts c s).length := by
    intro n
    induction n with
    | zero => intro s h; omega
    | succ n ih =>
      intro s h
      rcases index_one s c with ⟨h1, h2⟩ | ⟨i, h1, h2, h3⟩
      · rw [Lib.count_miss h1, parts_free c s h2]; rfl
      · rw [Lib.count_hit (by simp) h1]
        have hl := congrArg List.length h3
        simp only [List.length_append, List.length_take, List.length_cons, List.length_drop] at hl
        have := ih (s.drop (i + 1)) (by simp; omega)
        conv => rhs; rw [h3]
        rw [parts_cut c _ _ h2]
        show 1 + Lib.count (s.drop (i + 1)) [c] + 1 = (parts c (s.drop (i + 1))).length + 1
        omega
  exact key _ _ (Nat.lt_succ_self _)
theorem parts_len (c : UInt8) (l : Bs) : (parts c l).length ≤ l.length + 1 := by
  induction l with
  | nil => simp [parts]
  | cons x xs ih =>
    unfold parts
    split
    · simp; omega
    · have := parts_ne c xs
      have h1 : 0 < (parts c xs).length := List.length_pos_iff.2 this
      simp; omega
theorem parts_short (c : UInt8) (l : Bs) : ∀ p ∈ parts c l, p.length ≤ l.length := by
  induction l with
  | nil => simp [parts]
  | cons x xs ih =>
    unfold parts
    split
    · intro p hp
      rcases List.mem_cons.1 hp with rfl | hp
      · simp
      · have := ih p hp; simp; omega
    · intro p hp
      rcases List.mem_cons.1 hp with rfl | hp
      · cases h : parts c xs with
        | nil => exact absurd h (parts_ne c xs)
        | cons q qs =>
          have := ih q (by rw [h]; simp)
          simpa using this
      · have := ih p (List.mem_of_mem_tail hp); simp; omega

def letB (b : UInt8) : Bool := decide (97 ≤ b.toNat) && decide (b.toNat ≤ 122)
def digB (b : UInt8) : Bool := decide (48 ≤ b.toNat) && decide (b.toNat ≤ 57)
/-- a place's name? -/
def isName : Bs → Bool
  | [] => false
  | x :: xs => letB x && xs.all (fun b => letB b || digB b) && decide (xs.length < 20)
/-- a word's number -/
def numOf (s : Bs) : Option Nat :=
  match Lib.parseUintB 32 s with
  | .ok u => if s = [48] ∨ s.head? ≠ some 48 then some u else none
  | _ => none
/-- a register's number -/
def regOf : Bs → Option Nat
  | [r, d] => if r = 114 ∧ 48 ≤ d.toNat ∧ d.toNat < 56 then some (d.toNat - 48) else none
  | _ => none
/-- an address: the base, and K -/
def addrOf (s : Bs) : Option (Nat × Nat) :=
  if Lib.hasPrefix s [91] = true ∧ Lib.hasSuffix (Lib.trimPrefix s [91]) [93] = true then
    if (Lib.cut (Lib.trimSuffix (Lib.trimPrefix s [91]) [93]) [43]).2.2 = true then
      match regOf (Lib.cut (Lib.trimSuffix (Lib.trimPrefix s [91]) [93]) [43]).1, numOf (Lib.cut (Lib.trimSuffix (Lib.trimPrefix s [91]) [93]) [43]).2.1 with
      | some b, some k => some (b, k)
      | _, _ => none
    else (numOf (Lib.trimSuffix (Lib.trimPrefix s [91]) [93])).map fun k => (8, k)
  else none
/-- a place: its number, or its name -/
def placeOf (s : Bs) : Option (Nat × Bs) :=
  if Lib.hasPrefix s [64] = true then
    if isName (Lib.trimPrefix s [64]) = true then some (0, Lib.trimPrefix s [64]) else (numOf (Lib.trimPrefix s [64])).map fun k => (k, [])
  else none

theorem numOf_le {s : Bs} {k : Nat} (h : numOf s = some k) : k < 4294967296 := by
  unfold numOf at h
  split at h
  · rename_i u hu
    split at h
    · cases h
      have := Lib.parseUintB_le hu
      simp at this
      omega
    · cases h
  · cases h
theorem regOf_lt {s : Bs} {k : Nat} (h : regOf s = some k) : k < 8 := by
  unfold regOf at h
  split at h
  · split at h
    · rename_i hc
      cases h
      omega
    · cases h
  · cases h
end Go.Proofs.YtcfkcnkekdafgaaDoor
