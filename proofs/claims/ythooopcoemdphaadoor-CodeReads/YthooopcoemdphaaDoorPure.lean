/-
  What a program's bytes tell, by places reckoned from their front; what bytes a program has; that each is the other's way back. Lists and numbers alone: no program runs here.
-/
import Derived.Test.YthooopcoemdphaaDoorApp
import Derived.Test.YthooopcoemdphaaDoorNum
import Derived.Test.YthooopcoemdphaaDoorCheck3
namespace Go.Proofs.YthooopcoemdphaaDoor
open Go.ChangeShapes Go.WideShapes Go.ChangeAt Go.RowKit
set_option linter.unusedVariables false

/-- the instruction at a place -/
def insAt (L : List Int) (i : Nat) : Ins := ⟨L.getD i 0, L.getD (i + 1) 0, L.getD (i + 2) 0, L.getD (i + 3) 0, leAt L (i + 4) 4⟩
/-- so many words from a place on; so many instructions -/
def memAt (L : List Int) (i n : Nat) : List Int := (List.range n).map fun j => leAt L (i + 4 * j) 4
def codeAt (L : List Int) (i n : Nat) : List Ins := (List.range n).map fun j => insAt L (i + 8 * j)
theorem memAt_succ (L : List Int) (i n : Nat) : memAt L i (n + 1) = memAt L i n ++ [leAt L (i + 4 * n) 4] := by simp [memAt, List.range_succ]
theorem codeAt_succ (L : List Int) (i n : Nat) : codeAt L i (n + 1) = codeAt L i n ++ [insAt L (i + 8 * n)] := by simp [codeAt, List.range_succ]
theorem memAt_len (L : List Int) (i n : Nat) : (memAt L i n).length = n := by simp [memAt]
theorem codeAt_len (L : List Int) (i n : Nat) : (codeAt L i n).length = n := by simp [codeAt]

/-- how many instructions the code at a place tells -/
def cntAt (L : List Int) (e : Nat) : Nat := (leAt L e 2).toNat
/-- the first t codes from place e on, and the place behind them; nothing, if the bytes end ahead of it -/
def codesTo (L : List Int) (e : Nat) : Nat → Option (List (List Ins) × Nat)
  | 0 => some ([], e)
  | t + 1 => match codesTo L e t with
    | none => none
    | some (cs, q) => if L.length < q + 2 ∨ L.length < q + 2 + 8 * cntAt L q then none else some (cs ++ [codeAt L (q + 2) (cntAt L q)], q + 2 + 8 * cntAt L q)
def words (L : List Int) : Nat := (leAt L 5 2).toNat
def thr (L : List Int) : Nat := (L.getD 3 0).toNat
/-- what bytes tell behind their front of three: the codes, and the place behind them -/
def tell (L : List Int) : Option (List (List Ins) × Nat) :=
  if L.length < 7 then none else if L.length < 7 + 4 * words L then none else codesTo L (7 + 4 * words L) (thr L)

/-- a program, by its numbers -/
structure Pg where
  codes : List (List Ins)
  mem : List Int
  room : Int
def pg0 : Pg := ⟨[], [], 0⟩
def Pg.L (p : Pg) (r : Nat) : Nat := (p.codes.getD r []).length
def Pg.F (p : Pg) (r i : Nat) : Ins := (p.codes.getD r []).getD i ins0
/-- what Check answers of it -/
def Pg.err (p : Pg) : Int := pErr p.codes.length p.mem.length p.room p.L p.F
def pgOf (L : List Int) (cs : List (List Ins)) : Pg := ⟨cs, memAt L 7 (words L), L.getD 4 0⟩

/-- the first three bytes are dl1 -/
abbrev isHead (L : List Int) : Prop := L.getD 0 0 = 100 ∧ L.getD 1 0 = 108 ∧ L.getD 2 0 = 49
/-- what Read answers: the program, the place, the error -/
def readB (L : List Int) : Pg × Int × Int :=
  if L.length < 3 then (pg0, L.length, 2) else if ¬ isHead L then (pg0, 0, 3) else
  match tell L with
  | none => (pg0, L.length, 2)
  | some (cs, q) => if q < L.length then (pg0, q, 4) else if (pgOf L cs).err = 0 then (pgOf L cs, 0, 0) else (pg0, 0, (pgOf L cs).err)

/-- a program's bytes -/
def insBy (i : Ins) : List Int := insB i.op i.a i.b i.c i.k
def codeBy (c : List Ins) : List Int := leB c.length 2 ++ c.flatMap insBy
def memBy (m : List Int) : List Int := m.flatMap fun x => leB x 4
def writeB (p : Pg) : List Int := [100, 108, 49, (p.codes.length : Int), p.room] ++ leB p.mem.length 2 ++ memBy p.mem ++ p.codes.flatMap codeBy
end Go.Proofs.YthooopcoemdphaaDoor
