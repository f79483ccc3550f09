/-
  What a line and a text are read as, said of lists of bytes: the instruction, the name that it jumps to; the code, the line, what is wrong. Lists alone: no condition.
-/
import Derived.Test.YtcfkcnkekdafgaaDoorTabs
namespace Go.Proofs.YtcfkcnkekdafgaaDoor
set_option linter.unusedVariables false

/-- the words of each kind: 0, 1, 2 the registers A, B, C; 3 K; 4 a place; 5 an address -/
def wkL : List (List Nat) := [[], [0, 3], [0, 1], [0, 1, 2], [0, 1, 2], [0, 1, 2], [0, 1, 2], [0, 1, 2], [0, 1, 2], [0, 1, 2], [0, 1, 2], [0, 1, 2], [0, 1, 2], [4], [0, 4], [0, 4], [0, 5], [0, 5], [], [0, 5], [0, 5], [0, 2, 5], [0], [0, 5], [0, 5], [], [], [0, 3]]
def wk (n : Nat) : List Nat := wkL.getD n []
/-- what a word of a kind makes of an instruction, and of the name that it jumps to -/
def takeW (x : Nat) (s : Bs) (i : Ins × Bs) : Option (Ins × Bs) :=
  if x = 0 then (regOf s).map fun n => (⟨i.1.op, n, i.1.b, i.1.c, i.1.k⟩, i.2)
  else if x = 1 then (regOf s).map fun n => (⟨i.1.op, i.1.a, n, i.1.c, i.1.k⟩, i.2)
  else if x = 2 then (regOf s).map fun n => (⟨i.1.op, i.1.a, i.1.b, n, i.1.k⟩, i.2)
  else if x = 3 then (numOf s).map fun n => (⟨i.1.op, i.1.a, i.1.b, i.1.c, n⟩, i.2)
  else if x = 4 then (placeOf s).map fun p => if p.2 = [] then (⟨i.1.op, i.1.a, i.1.b, i.1.c, p.1⟩, i.2) else (i.1, p.2)
  else (addrOf s).map fun p => (⟨i.1.op, i.1.a, p.1, i.1.c, p.2⟩, i.2)
def takeAll : List Nat → List Bs → Ins × Bs → Option (Ins × Bs)
  | [], _, i => some i
  | _ :: _, [], _ => none
  | x :: xs, s :: ss, i => (takeW x s i).bind (takeAll xs ss)
/-- a line's instruction, and the name that it jumps to -/
def readL (t : Bs) : Option (Ins × Bs) :=
  if knownB ⟨((parts 32 t).headD []).toArray⟩ = true ∧ (parts 32 t).tail.length = (wk (numB ⟨((parts 32 t).headD []).toArray⟩).toNat).length then
    takeAll (wk (numB ⟨((parts 32 t).headD []).toArray⟩).toNat) (parts 32 t).tail (⟨numB ⟨((parts 32 t).headD []).toArray⟩, 0, 0, 0, 0⟩, [])
  else none

/-- what the lines so far tell -/
structure St where
  code : List Ins
  lines : List Nat
  names : List (Bs × Nat)
  jumps : List (Nat × Bs)
def st0 : St := ⟨[], [], [], []⟩
def look : List (Bs × Nat) → Bs → Option Nat
  | [], _ => none
  | x :: xs, s => if x.1 = s then some x.2 else look xs s
/-- a line: what is wrong (0: nothing), and what the lines tell then -/
def stepL (st : St) (t : Bs) (no : Nat) : Nat × St :=
  if t = [] then (0, st)
  else if Lib.hasSuffix t [58] = true then
    if isName (Lib.trimSuffix t [58]) = false then (3, st)
    else if (look st.names (Lib.trimSuffix t [58])).isSome = true then (6, st)
    else (0, ⟨st.code, st.lines, st.names ++ [(Lib.trimSuffix t [58], st.code.length)], st.jumps⟩)
  else match readL t with
    | none => (3, st)
    | some i => if st.code.length < 4000 then
        (0, ⟨st.code ++ [i.1], st.lines ++ [no], st.names, if jumpB i.1.op = true then st.jumps ++ [(st.code.length, i.2)] else st.jumps⟩)
      else (4, st)
/-- the lines: what is wrong first, its line, and what they tell -/
def linesL : St → List Bs → Nat → Nat × Nat × St
  | st, [], _ => (0, 0, st)
  | st, t :: ts, no => if (stepL st t no).1 = 0 then linesL (stepL st t no).2 ts (no + 1) else ((stepL st t no).1, no, st)
/-- the instruction at a place, its K set -/
def setK (code : List Ins) (n : Nat) (k : Int) : List Ins := code.set n ⟨(code.getD n ins0).op, (code.getD n ins0).a, (code.getD n ins0).b, (code.getD n ins0).c, k⟩
def rightI (i : Ins) (size : Int) : Bool := rightB i.op i.a i.b i.c i.k size
/-- one jump: what is wrong (0: nothing), the code then -/
def jumpL (names : List (Bs × Nat)) (j : Nat × Bs) (code : List Ins) : Nat × List Ins :=
  if j.2 = [] then (if rightI (code.getD j.1 ins0) code.length = true then (0, code) else (5, code))
  else match look names j.2 with
    | none => (5, code)
    | some p => if rightI ((setK code j.1 p).getD j.1 ins0) code.length = true then (0, setK code j.1 p) else (5, setK code j.1 p)
/-- the jumps: what is wrong first, its line, the code then -/
def settleL (names : List (Bs × Nat)) (lines : List Nat) : List (Nat × Bs) → List Ins → Nat × Nat × List Ins
  | [], code => (0, 0, code)
  | j :: js, code => if (jumpL names j code).1 = 0 then settleL names lines js (jumpL names j code).2 else ((jumpL names j code).1, lines.getD j.1 0, (jumpL names j code).2)
/-- a text: the code, the line, what is wrong -/
def parseB (s : Bs) : List Ins × Nat × Nat :=
  if 20000 < s.length then ([], 0, 4)
  else if (linesL st0 (parts 10 s) 1).1 = 0 then
    if (settleL (linesL st0 (parts 10 s) 1).2.2.names (linesL st0 (parts 10 s) 1).2.2.lines (linesL st0 (parts 10 s) 1).2.2.jumps (linesL st0 (parts 10 s) 1).2.2.code).1 = 0 then
      ((settleL (linesL st0 (parts 10 s) 1).2.2.names (linesL st0 (parts 10 s) 1).2.2.lines (linesL st0 (parts 10 s) 1).2.2.jumps (linesL st0 (parts 10 s) 1).2.2.code).2.2, 0, 0)
    else ([], (settleL (linesL st0 (parts 10 s) 1).2.2.names (linesL st0 (parts 10 s) 1).2.2.lines (linesL st0 (parts 10 s) 1).2.2.jumps (linesL st0 (parts 10 s) 1).2.2.code).2.1, 5)
  else ([], (linesL st0 (parts 10 s) 1).2.1, (linesL st0 (parts 10 s) 1).1)
def awakeT : Bs := [115, 112, 105, 110, 58, 10, 108, 111, 97, 100, 32, 114, 52, 32, 91, 50, 48, 93, 10, 115, 111, 109, 101, 32, 114, 52, 32, 64, 115, 112, 105, 110, 10]
theorem awake_parse : parseB awakeT = ([⟨16, 4, 8, 0, 20⟩, ⟨15, 4, 0, 0, 0⟩], 0, 0) := by kernel_rfl
end Go.Proofs.YtcfkcnkekdafgaaDoor
