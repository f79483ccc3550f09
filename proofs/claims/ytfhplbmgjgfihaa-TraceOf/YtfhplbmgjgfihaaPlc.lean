/-
  Events with their places, as cells; a thread's events with their places; what a world keeps of a block. No condition.
-/
import Derived.Test.YtfhplbmgjgfihaaEv
namespace Go.Proofs.Ytfhplbmgjgfihaa
open Go.ChangeShapes Go.WideShapes Go.ChangeAt Go.RowKit
set_option linter.unusedVariables false

def ev0 : Ev := ⟨0, 0, 0, 0, 0, 0, 0, false⟩
/-- K is a word -/
def EvOk (x : Ev) : Prop := 0 ≤ x.k ∧ x.k < 4294967296
/-- an event with its place -/
structure Pl where
  pos : Nat
  ev : Ev
  ok : EvOk ev
def plL (p : Pl) : List Value := .int .i64 p.pos :: evL p.ev
abbrev plA (j : Nat) (x : Ev) : Array Value := #[.int .i64 j, .int .i64 x.kind, .int .i64 x.who, .int .i64 x.pc, .int .i64 x.addr, .int .u32 x.value, .int .u32 x.old, .int .u32 x.k, .bool x.ok]
theorem plL_len (p : Pl) : (plL p).length = 9 := rfl
theorem plL_one (p : Pl) : ∀ u ∈ plL p, u.oneCell' = true := by
  intro u hu
  rcases List.mem_cons.1 hu with rfl | hu
  · rfl
  · exact evL_one _ u hu
def pl0 : Pl := ⟨0, ev0, by decide, by decide⟩
abbrev PlsO (w : World) (base : Nat) (v : Value) (l : List Pl) : Prop := w.ownsRow base 49 9 v l.length (flatOf plL l)
theorem infoPl : (Try.prog.info? 49).map (fun i => (i.zero, i.size, i.bytes)) = some (some (.agg #[.int .i64 0, .int .i64 0, .int .i64 0, .int .i64 0, .int .i64 0, .int .u32 0, .int .u32 0, .int .u32 0, .bool false]), 9, 56) := by kernel_rfl

/-- a thread's events, with their places, the first one's place being i -/
def plc (t : Int) : Nat → (l : List Ev) → (∀ x ∈ l, EvOk x) → List Pl
  | _, [], _ => []
  | i, x :: l, h => if x.who = t then ⟨i, x, h x (List.mem_cons_self ..)⟩ :: plc t (i + 1) l (fun y hy => h y (List.mem_cons_of_mem _ hy)) else plc t (i + 1) l (fun y hy => h y (List.mem_cons_of_mem _ hy))
theorem plc_snoc (t : Int) : ∀ (i : Nat) (l : List Ev) (x : Ev) (h : ∀ y ∈ l ++ [x], EvOk y) (h1 : ∀ y ∈ l, EvOk y) (hx : EvOk x),
    plc t i (l ++ [x]) h = plc t i l h1 ++ if x.who = t then [⟨i + l.length, x, hx⟩] else []
  | i, [], x, h, h1, hx => by
    by_cases q : x.who = t <;> simp [plc, q]
  | i, y :: l, x, h, h1, hx => by
    have := plc_snoc t (i + 1) l x (fun z hz => h z (List.mem_cons_of_mem _ hz)) (fun z hz => h1 z (List.mem_cons_of_mem _ hz)) hx
    have e : i + 1 + l.length = i + (y :: l).length := by rw [List.length_cons]; omega
    rw [e] at this
    by_cases q : y.who = t
    · simp only [List.cons_append, plc, q, if_true, this]
    · simp only [List.cons_append, plc, q, if_false, this]
theorem plc_len (t : Int) : ∀ (i : Nat) (l : List Ev) (h : ∀ x ∈ l, EvOk x), (plc t i l h).length ≤ l.length
  | _, [], _ => by simp [plc]
  | i, x :: l, h => by
    have := plc_len t (i + 1) l (fun y hy => h y (List.mem_cons_of_mem _ hy))
    unfold plc
    split <;> simp <;> omega
theorem take_snoc' {α : Type} {l : List α} {j : Nat} (h : j < l.length) (d : α) : l.take (j + 1) = l.take j ++ [l.getD j d] := by
  rw [List.take_add_one, List.getElem?_eq_getElem h, List.getD_eq_getElem?_getD, List.getElem?_eq_getElem h]
  rfl
theorem mem_getD {α : Type} {l : List α} {j : Nat} (h : j < l.length) (d : α) : l.getD j d ∈ l := by
  rw [List.getD_eq_getElem?_getD, List.getElem?_eq_getElem h]
  exact List.getElem_mem h

/-- a block stays as it is -/
def Stay (g : Nat) (w w' : World) : Prop := w'.heap[g]? = w.heap[g]?
theorem Stay.trans {g : Nat} {a b c : World} (h : Stay g a b) (k : Stay g b c) : Stay g a c := Eq.trans k h
theorem Stay.refl (g : Nat) (w : World) : Stay g w w := rfl
def blkOf : Option Addr → Nat
  | some a => a.block
  | none => 0
theorem RowAt.stay {w w' : World} {a : Option Addr} {xs : List Value} (h : RowAt w a xs) (k : Stay (blkOf a) w w') : RowAt w' a xs :=
  h.move fun y hy _ => by subst hy; exact k
end Go.Proofs.Ytfhplbmgjgfihaa
