/-
  The kinds' names, fields and uses, and which instruction may stand in a code, said of lists and numbers. Lists alone: no condition.
-/
import Derived.Test.YtcfkcnkekdafgaaDoorText
import Derived.RowKit
namespace Go.Proofs.YtcfkcnkekdafgaaDoor
set_option linter.unusedVariables false

def nameL : List (List UInt8) := [[104, 97, 108, 116], [115, 101, 116], [109, 111, 118, 101], [97, 100, 100], [115, 117, 98], [109, 117, 108], [97, 110, 100], [111, 114], [120, 111, 114], [115, 104, 108], [115, 104, 114], [108, 101, 115, 115], [115, 97, 109, 101], [106, 117, 109, 112], [122, 101, 114, 111], [115, 111, 109, 101], [108, 111, 97, 100], [115, 116, 111, 114, 101], [102, 101, 110, 99, 101], [115, 119, 97, 112], [102, 101, 116, 99, 104], [99, 97, 115], [111, 117, 116], [119, 97, 105, 116], [119, 97, 107, 101], [114, 101, 109, 111, 116, 101], [121, 105, 101, 108, 100], [109, 97, 114, 107]]
def rowL : List (List UInt8) := [[104, 97, 108, 116], [115, 101, 116, 32, 65, 75], [109, 111, 118, 101, 32, 65, 66], [97, 100, 100, 32, 65, 66, 67], [115, 117, 98, 32, 65, 66, 67], [109, 117, 108, 32, 65, 66, 67], [97, 110, 100, 32, 65, 66, 67], [111, 114, 32, 65, 66, 67], [120, 111, 114, 32, 65, 66, 67], [115, 104, 108, 32, 65, 66, 67], [115, 104, 114, 32, 65, 66, 67], [108, 101, 115, 115, 32, 65, 66, 67], [115, 97, 109, 101, 32, 65, 66, 67], [106, 117, 109, 112, 32, 84], [122, 101, 114, 111, 32, 65, 84], [115, 111, 109, 101, 32, 65, 84], [108, 111, 97, 100, 32, 65, 77, 75], [115, 116, 111, 114, 101, 32, 65, 77, 75], [102, 101, 110, 99, 101], [115, 119, 97, 112, 32, 65, 77, 75], [102, 101, 116, 99, 104, 32, 65, 77, 75], [99, 97, 115, 32, 65, 67, 77, 75], [111, 117, 116, 32, 65], [119, 97, 105, 116, 32, 65, 77, 75], [119, 97, 107, 101, 32, 65, 77, 75], [114, 101, 109, 111, 116, 101], [121, 105, 101, 108, 100], [109, 97, 114, 107, 32, 65, 75]]
def fieldL : List (List UInt8) := [[], [65, 75], [65, 66], [65, 66, 67], [65, 66, 67], [65, 66, 67], [65, 66, 67], [65, 66, 67], [65, 66, 67], [65, 66, 67], [65, 66, 67], [65, 66, 67], [65, 66, 67], [84], [65, 84], [65, 84], [65, 77, 75], [65, 77, 75], [], [65, 77, 75], [65, 77, 75], [65, 67, 77, 75], [65], [65, 77, 75], [65, 77, 75], [], [], [65, 75]]
def useA : List Int := [0, 1, 1, 1, 1, 1, 1, 1, 1, 1, 1, 1, 1, 0, 1, 1, 1, 1, 0, 1, 1, 1, 1, 1, 1, 0, 0, 1]
def useB : List Int := [0, 0, 1, 1, 1, 1, 1, 1, 1, 1, 1, 1, 1, 0, 0, 0, 2, 2, 0, 2, 2, 2, 0, 2, 2, 0, 0, 0]
def useC : List Int := [0, 0, 0, 1, 1, 1, 1, 1, 1, 1, 1, 1, 1, 0, 0, 0, 0, 0, 0, 0, 0, 1, 0, 0, 0, 0, 0, 0]
def useK : List Int := [0, 3, 0, 0, 0, 0, 0, 0, 0, 0, 0, 0, 0, 4, 4, 4, 3, 3, 0, 3, 3, 3, 0, 3, 3, 0, 0, 3]
def drL : List Bool := [false, false, false, false, false, false, false, false, false, false, false, false, false, false, false, false, false, false, true, true, true, true, false, true, true, true, false, false]

def nameAt (n : Nat) : ByteArray := ⟨(nameL.getD n []).toArray⟩
def rowAt (n : Nat) : ByteArray := ⟨(rowL.getD n []).toArray⟩
def fieldAt (n : Nat) : ByteArray := ⟨(fieldL.getD n []).toArray⟩
def kA (n : Nat) : Int := useA.getD n 0
def kB (n : Nat) : Int := useB.getD n 0
def kC (n : Nat) : Int := useC.getD n 0
def kK (n : Nat) : Int := useK.getD n 0
def kD (n : Nat) : Bool := drL.getD n false
def nameV : Array Value := ((List.range 28).map fun n => Value.string (nameAt n)).toArray

theorem nameV_at (n : Nat) (h : n < 28) : nameV[n]? = some (.string (nameAt n)) := by
  unfold nameV
  simp [h]
theorem nameV_size : nameV.size = 28 := by simp [nameV]


/-- a number of a kind -/
def isB (op : Int) : Bool := decide (0 ≤ op) && decide (op < 28)
theorem isB_nat {op : Int} (h : isB op = true) : ∃ n : Nat, op = n ∧ n < 28 := by
  simp [isB] at h
  obtain ⟨n, rfl⟩ := Int.eq_ofNat_of_zero_le h.1
  exact ⟨n, rfl, by omega⟩
theorem isB_of {n : Nat} (h : n < 28) : isB n = true := by simp [isB]; omega
/-- a register -/
def regB (n : Int) : Bool := decide (0 ≤ n) && decide (n < 8)
def fitsB (u n : Int) : Bool := if u = 1 then regB n else if u = 2 then (regB n || (n == 8)) else (n == 0)
def holdsB (u k size : Int) : Bool := if u = 3 then true else if u = 4 then decide (k ≤ size) else (k == 0)
def nameB (op : Int) : ByteArray := if isB op then nameAt op.toNat else ⟨#[]⟩
def rightB (op a b c k size : Int) : Bool :=
  isB op && (fitsB (kA op.toNat) a && fitsB (kB op.toNat) b && fitsB (kC op.toNat) c && holdsB (kK op.toNat) k size)
/-- the first kind from k on of that name; 28, if there is none -/
def numF (s : ByteArray) : Nat → Nat → Nat
  | 0, k => k
  | m + 1, k => if nameAt k = s then k else numF s m (k + 1)
def numB (s : ByteArray) : Int := if numF s 28 0 < 28 then (numF s 28 0 : Int) else 0
def knownB (s : ByteArray) : Bool := decide (numF s 28 0 < 28)
def fB (op : Int) : ByteArray := if isB op then fieldAt op.toNat else ⟨#[]⟩
/-- is the byte in the string? -/
def hasF (s : ByteArray) (f : Int) : Bool := s.data.toList.any fun b => (b.toNat : Int) == f
def hasB (op f : Int) : Bool := hasF (fB op) f
/-- does the kind jump? -/
def jumpB (op : Int) : Bool := isB op && (kK op.toNat == 4)

/-- an instruction, by its numbers -/
structure Ins where
  op : Int
  a : Int
  b : Int
  c : Int
  k : Int
def ins0 : Ins := ⟨0, 0, 0, 0, 0⟩
def Ins.ok (i : Ins) : Prop := 0 ≤ i.k ∧ i.k < 4294967296
abbrev Ins.vals (i : Ins) : List Value := [.int .i64 i.op, .int .i64 i.a, .int .i64 i.b, .int .i64 i.c, .int .u32 i.k]
/-- an instruction, as a value -/
abbrev insV (op a b c k : Int) : Value := .agg #[.int .i64 op, .int .i64 a, .int .i64 b, .int .i64 c, .int .u32 k]
end Go.Proofs.YtcfkcnkekdafgaaDoor
