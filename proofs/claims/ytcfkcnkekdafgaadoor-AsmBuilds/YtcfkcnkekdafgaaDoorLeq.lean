/-
  What a line tells is what the reference's Line says of its instruction; and an instruction that is right has the fields that its words tell. Lists alone: no condition.
-/
import Derived.Test.YtcfkcnkekdafgaaDoorTelo
import Derived.Test.YtcfkcnkekdafgaaDoorRlin
namespace Go.Proofs.YtcfkcnkekdafgaaDoor
open Go.ChangeShapes Go.WideShapes Go.ChangeAt Go.RowKit
set_option linter.unusedVariables false

/-- the letter of a word -/
def lett (x : Nat) : UInt8 := [65, 66, 67, 75, 84, 77].getD x 0
/-- an address stands last alone -/
def last5 : List Nat → Bool
  | [] => true
  | [_] => true
  | x :: y :: r => (x != 5) && last5 (y :: r)
/-- does an address stand last? -/
def ends5 : List Nat → Bool
  | [] => false
  | [x] => x == 5
  | _ :: y :: r => ends5 (y :: r)
theorem field_wk : ∀ n : Fin 28, (fieldAt n).data.toList = (wk n).map lett ++ (if ends5 (wk n) then [75] else []) ∧ last5 (wk n) = true := by decide +kernel
theorem let_tell (x a b c k : Nat) (hx : x < 5) : letW (lett x) a b c k = [32] ++ tellW x a b c k := by
  match x, hx with
  | 0, _ => simp [letW, lett, tellW, regW, digs]
  | 1, _ => simp [letW, lett, tellW, regW, digs]
  | 2, _ => simp [letW, lett, tellW, regW, digs]
  | 3, _ => simp [letW, lett, tellW, digs]
  | 4, _ => simp [letW, lett, tellW, digs]
theorem mem_tell (a b c k : Nat) : memW b k = [32] ++ tellW 5 a b c k := by
  by_cases h : b = 8
  · simp [memW, tellW, digs, h]
  · simp [memW, tellW, digs, h]
theorem lett_ne (x : Nat) (hx : x < 5) : lett x ≠ 77 := by
  match x, hx with
  | 0, _ => decide
  | 1, _ => decide
  | 2, _ => decide
  | 3, _ => decide
  | 4, _ => decide
theorem line_tail (a b c k : Nat) : ∀ (ks : List Nat) (s z : Bs), (∀ x ∈ ks, x < 6) → last5 ks = true → (ends5 ks = false → z = []) → lineF (ks.map lett ++ z) a b c k s = s ++ Lib.joinTail [32] (ks.map fun x => tellW x a b c k)
  | [], s, z, _, _, hz => by
    rw [hz rfl]
    simp [lineF, Lib.joinTail]
  | x :: r, s, z, h, hl, hz => by
    have hx := h x (by simp)
    by_cases h5 : x = 5
    · subst h5
      have hr : r = [] := by
        cases r with
        | nil => rfl
        | cons y r => simp [last5] at hl
      subst hr
      have e : lett 5 = 77 := rfl
      simp only [List.map_cons, List.map_nil, List.cons_append, lineF, e, if_true, Lib.joinTail, List.flatten_cons, List.flatten_nil, List.append_nil]
      rw [mem_tell a b c k]
      rfl
    · have hl2 : last5 r = true := by
        cases r with
        | nil => rfl
        | cons y r => simp [last5] at hl; exact hl.2
      have hz2 : ends5 r = false → z = [] := by
        cases r with
        | nil => exact fun _ => hz (by simp [ends5, h5])
        | cons y r => exact hz
      have h2 := line_tail a b c k r (s ++ letW (lett x) a b c k) z (fun y hy => h y (List.mem_cons_of_mem _ hy)) hl2 hz2
      simp only [List.map_cons, List.cons_append, lineF, if_neg (lett_ne x (by omega))]
      rw [h2, let_tell x a b c k (by omega)]
      simp [Lib.joinTail]
theorem line_eq (op a b c k : Nat) (hn : op < 28) : lineF (fB op).data.toList a b c k (nameB op).data.toList = Lib.join (toldL op a b c k (wk op)) [32] := by
  have h1 := field_wk ⟨op, hn⟩
  have h2 := wk_lt ⟨op, hn⟩
  simp only at h1 h2
  have hb : isB op = true := by simp [isB]; omega
  have e1 : fB (op : Int) = fieldAt op := by simp [fB, hb]
  rw [e1, h1.1, line_tail a b c k _ _ _ h2 h1.2 (fun h => by rw [h]; rfl)]
  exact (Lib.join_cons _ _ _).symm

theorem fits_reg {n : Int} (h : fitsB 1 n = true) : ∃ m : Nat, n = m ∧ m < 8 := by
  simp [fitsB, regB] at h
  exact ⟨n.toNat, by omega, by omega⟩
theorem fits_mem {n : Int} (h : fitsB 2 n = true) : ∃ m : Nat, n = m ∧ m ≤ 8 := by
  simp [fitsB, regB] at h
  exact ⟨n.toNat, by omega, by omega⟩
theorem fits_any {u n : Int} (h : fitsB u n = true) : ∃ m : Nat, n = m ∧ m ≤ 8 := by
  unfold fitsB regB at h
  split at h
  · simp at h; exact ⟨n.toNat, by omega, by omega⟩
  · split at h
    · simp at h; exact ⟨n.toNat, by omega, by omega⟩
    · simp at h; exact ⟨0, by omega, by omega⟩
/-- which fields a kind's words tell -/
theorem use_wk : ∀ n : Fin 28, ∀ x ∈ wk n, (x = 0 → kA n = 1) ∧ (x = 1 → kB n = 1) ∧ (x = 2 → kC n = 1) ∧ (x = 5 → kB n = 2) := by decide +kernel
/-- an instruction that is right: its numbers, and that its words can be told -/
theorem right_tells {op a b c k size : Int} (h : rightB op a b c k size = true) (h0 : 0 ≤ k) (hk : k < 4294967296) :
    ∃ o p q r m : Nat, op = o ∧ a = p ∧ b = q ∧ c = r ∧ k = m ∧ o < 28 ∧ p ≤ 8 ∧ q ≤ 8 ∧ r ≤ 8 ∧ m < 4294967296 ∧ ∀ x ∈ wk o, TellOk x p q r m := by
  unfold rightB at h
  simp only [Bool.and_eq_true] at h
  obtain ⟨hi, ⟨⟨ha, hb⟩, hc⟩, _⟩ := h
  obtain ⟨o, rfl, ho⟩ := isB_nat hi
  rw [show ((o : Int)).toNat = o from rfl] at ha hb hc
  obtain ⟨p, rfl, hp⟩ := fits_any ha
  obtain ⟨q, rfl, hq⟩ := fits_any hb
  obtain ⟨r, rfl, hr⟩ := fits_any hc
  refine ⟨o, p, q, r, k.toNat, rfl, rfl, rfl, rfl, by omega, ho, hp, hq, hr, by omega, fun x hx => ?_⟩
  obtain ⟨u0, u1, u2, u5⟩ := use_wk ⟨o, ho⟩ x hx
  simp only at u0 u1 u2 u5
  refine ⟨fun e => ?_, fun e => ?_, fun e => ?_, fun _ => hq, by omega⟩
  · rw [u0 e] at ha; obtain ⟨m, e1, e2⟩ := fits_reg ha; omega
  · rw [u1 e] at hb; obtain ⟨m, e1, e2⟩ := fits_reg hb; omega
  · rw [u2 e] at hc; obtain ⟨m, e1, e2⟩ := fits_reg hc; omega
end Go.Proofs.YtcfkcnkekdafgaaDoor
