/-
  Calls, by plain numbers and as cells; what an event does to the last one that was begun. No condition but what each law names.
-/
import Derived.Test.YtfhplbmgjgfihaaPlc
namespace Go.Proofs.Ytfhplbmgjgfihaa
open Go.ChangeShapes Go.WideShapes Go.ChangeAt Go.RowKit
set_option linter.unusedVariables false

/-- a call -/
structure Ca where
  site : Int
  who : Int
  began : Int
  ended : Int
  result : Int
  inner : List Int
/-- a call, and where its inner places lie -/
structure Cl where
  q : Ca
  ia : Option Addr
  ic : Nat
abbrev slI (c : Cl) : Value := .slice c.ia c.q.inner.length c.ic
def clL (c : Cl) : List Value := [.int .i64 c.q.site, .int .i64 c.q.who, .int .i64 c.q.began, .int .i64 c.q.ended, .int .u32 c.q.result, .slice c.ia c.q.inner.length c.ic]
abbrev clA (c : Cl) : Array Value := #[.int .i64 c.q.site, .int .i64 c.q.who, .int .i64 c.q.began, .int .i64 c.q.ended, .int .u32 c.q.result, .slice c.ia c.q.inner.length c.ic]
theorem clL_len (c : Cl) : (clL c).length = 6 := rfl
theorem clL_one (c : Cl) : ∀ u ∈ clL c, u.oneCell' = true := by
  intro u hu
  simp [clL] at hu
  rcases hu with rfl | rfl | rfl | rfl | rfl | rfl <;> rfl
def ca0 : Ca := ⟨0, 0, 0, 0, 0, []⟩
def cl0 : Cl := ⟨ca0, none, 0⟩
theorem infoCl : (Try.prog.info? 43).map (fun i => (i.zero, i.size, i.bytes)) = some (some (.agg #[.int .i64 0, .int .i64 0, .int .i64 0, .int .i64 0, .int .u32 0, .slice none 0 0]), 6, 64) := by kernel_rfl
abbrev ClsO (w : World) (base : Nat) (v : Value) (l : List Cl) : Prop := w.ownsRow base 43 6 v l.length (flatOf clL l)

/-- it begins a call -/
def begB (x : Ev) : Bool := x.kind == 7 && x.k % 2 == 0
/-- a call takes in an event, at a place, that begins none -/
def hearsQ (q : Ca) (at' : Int) (x : Ev) : Ca :=
  if x.kind = 3 then q else if x.kind = 7 then (if x.k / 2 = q.site then { q with ended := at', result := x.value } else q) else { q with inner := q.inner ++ [at'] }
/-- a call that begins -/
def begQ (t : Int) (p : Pl) : Ca := ⟨p.ev.k / 2, t, p.pos, -1, 0, []⟩
/-- what an event does to calls, the last one ahead of all -/
def stepC (t : Int) (qs : List Ca) (p : Pl) : List Ca :=
  if begB p.ev = true then begQ t p :: qs else match qs with
    | [] => []
    | q :: r => if q.ended = -1 then hearsQ q p.pos p.ev :: r else q :: r
/-- a thread's calls, the last one ahead of all -/
def callsR (t : Int) (l : List Pl) : List Ca := l.foldl (stepC t) []
theorem callsR_snoc (t : Int) (l : List Pl) (p : Pl) : callsR t (l ++ [p]) = stepC t (callsR t l) p := by simp [callsR]

/-- a cell of the last record of a row -/
theorem last_cell {w : World} {base n c b : Nat} {t : TypeId} {ds : List Cl} {d : Cl} {k : Nat} (h : w.ownsRow base t 6 (.slice (some ⟨b, 0, none⟩) n c) k (flatOf clL ds ++ clL d)) (j : Nat) (hj : j < 6) : w.cell? ⟨b, ds.length * 6 + j, none⟩ = (clL d)[j]? := by
  have hl : (flatOf clL ds ++ clL d).length = ds.length * 6 + 6 := by rw [List.length_append, flatOf_length clL_len]; rfl
  obtain ⟨a', c', hv, hr, -⟩ := own_at h
  obtain ⟨rfl, -, -⟩ := Value.slice.inj hv
  obtain ⟨b', off, ha, hc⟩ := hr.get (by rw [hl]; omega)
  cases ha
  have := hc (ds.length * 6 + j) (by rw [hl]; omega)
  rw [Nat.zero_add] at this
  rw [this, List.getElem?_append_right (by rw [flatOf_length clL_len]; omega), flatOf_length clL_len]
  congr 1
  omega
/-- a cell of the last record of a row is set -/
theorem last_set {w : World} {base c b : Nat} {t : TypeId} {ds : List Cl} {xs : List Value} {k : Nat} (h : w.ownsRow base t 6 (.slice (some ⟨b, 0, none⟩) k c) k (flatOf clL ds ++ xs)) (hx : xs.length = 6) (j : Nat) (hj : j < 6) (u : Value) :
    (w.setCell ⟨b, ds.length * 6 + j, none⟩ u).ownsRow base t 6 (.slice (some ⟨b, 0, none⟩) k c) k (flatOf clL ds ++ xs.set j u) := by
  have hl : (flatOf clL ds ++ xs).length = ds.length * 6 + 6 := by rw [List.length_append, flatOf_length clL_len, hx]
  have h1 := own_set h (ds.length * 6 + j) u (by have := h.1; rw [hl] at this; omega)
  rw [List.set_append_right _ _ (by rw [flatOf_length clL_len]; omega), flatOf_length clL_len] at h1
  have e : ds.length * 6 + j - ds.length * 6 = j := by omega
  rw [e] at h1
  exact h1
end Go.Proofs.Ytfhplbmgjgfihaa
