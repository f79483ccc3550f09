/-
  An input of the laws, by lists, and how it lies in a world. No condition but what each law names.
-/
import Derived.Test.YtbmlliohepidaaaDoorNew
import Derived.Test.YtbmlliohepidaaaDoorYp
namespace Go.Proofs.YtbmlliohepidaaaDoor
open Go.ChangeShapes Go.WideShapes Go.ChangeAt Go.RowKit
set_option linter.unusedVariables false

/-- an input: a thread, code, entries, words, a room, sleepers' addresses; and where its slices lie -/
structure InD where
  t : Th
  code : List Ins
  buf : List Ent
  mem : List Int
  room : Nat
  asl : List Int
  ca : Option Addr
  cc : Nat
  ba : Option Addr
  bc : Nat
  ma : Option Addr
  mc : Nat
  sa : Option Addr
  sc : Nat
def byteL (x : Int) : List Value := [.int .u8 x]
theorem byteL_len (x : Int) : (byteL x).length = 1 := rfl
def inL (d : InD) : List Value := thL d.t ++ [.slice d.ca d.code.length d.cc, .slice d.ba d.buf.length d.bc, .slice d.ma d.mem.length d.mc, .int .u8 d.room, .slice d.sa d.asl.length d.sc]
def inC (d : InD) : Array Value := (inL d).toArray
theorem inC_10 {d : InD} (h : ThOk d.t) : (inC d)[10]? = some (.slice d.ca d.code.length d.cc) := by
  simp [inC, inL, thL, h.len]
theorem inC_11 {d : InD} (h : ThOk d.t) : (inC d)[11]? = some (.slice d.ba d.buf.length d.bc) := by
  simp [inC, inL, thL, h.len]
theorem inC_12 {d : InD} (h : ThOk d.t) : (inC d)[12]? = some (.slice d.ma d.mem.length d.mc) := by
  simp [inC, inL, thL, h.len]
theorem inC_13 {d : InD} (h : ThOk d.t) : (inC d)[13]? = some (.int .u8 d.room) := by
  simp [inC, inL, thL, h.len]
theorem inC_14 {d : InD} (h : ThOk d.t) : (inC d)[14]? = some (.slice d.sa d.asl.length d.sc) := by
  simp [inC, inL, thL, h.len]
theorem inC_size {d : InD} (h : ThOk d.t) : (inC d).size = 15 := by simp [inC, inL, thL, h.len]
theorem inC_th {d : InD} (h : ThOk d.t) (j : Nat) (v : Value) (hv : (thL d.t)[j]? = some v) : (inC d)[j]? = some v := by
  have hl : j < (thL d.t).length := (List.getElem?_eq_some_iff.1 hv).1
  simp only [inC, inL, List.getElem?_toArray]
  rw [List.getElem?_append_left hl]
  exact hv

/-- the input lies in the world, and is no longer than is looked at -/
structure InAt (d : InD) (w : World) : Prop where
  ok : ThOk d.t
  ins : ∀ i ∈ d.code, InsOk i
  wrd : ∀ x ∈ d.mem, U32 x
  ent : ∀ x ∈ d.buf, U32 x.v
  byt : ∀ x ∈ d.asl, 0 ≤ x ∧ x < 256
  code : RowAt w d.ca (flatOf insL d.code)
  buf : RowAt w d.ba (flatOf entL d.buf)
  mem : RowAt w d.ma (flatOf wordL d.mem)
  asl : RowAt w d.sa (flatOf byteL d.asl)
  room : d.room < 256
  nil : d.ma = none → d.mc = 0 ∧ d.mem = []
theorem InAt.later {d : InD} {w w' : World} (h : InAt d w) (k : Gr w w') : InAt d w' :=
  ⟨h.ok, h.ins, h.wrd, h.ent, h.byt, h.code.later k, h.buf.later k, h.mem.later k, h.asl.later k, h.room, h.nil⟩
end Go.Proofs.YtbmlliohepidaaaDoor
