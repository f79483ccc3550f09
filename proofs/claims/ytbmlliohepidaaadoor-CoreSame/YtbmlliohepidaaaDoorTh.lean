/-
  Threads, instructions and events, by plain numbers and as cells. No condition but what each law names.
-/
import Derived.Test.YtbmlliohepidaaaDoorMem
import Derived.Test.YtbmlliohepidaaaDoorAlu
import Derived.Test.YtbmlliohepidaaaDoorIsa
namespace Go.Proofs.YtbmlliohepidaaaDoor
open Go.ChangeShapes Go.WideShapes Go.ChangeAt Go.RowKit
set_option linter.unusedVariables false

/-- a thread: its place, its registers, its status -/
structure Th where
  pc : Int
  r : List Int
  st : Int
/-- an instruction -/
structure Ins where
  op : Int
  a : Int
  b : Int
  c : Int
  k : Int
/-- an event -/
structure Ev where
  kind : Int
  who : Int
  pc : Int
  addr : Int
  value : Int
  old : Int
  k : Int
  ok : Bool

def thL (t : Th) : List Value := .int .i64 t.pc :: (t.r.map (Value.int .u32) ++ [.int .i64 t.st])
def thC (t : Th) : Array Value := (thL t).toArray
abbrev insA (i : Ins) : Array Value := #[.int .i64 i.op, .int .i64 i.a, .int .i64 i.b, .int .i64 i.c, .int .u32 i.k]
def insL (i : Ins) : List Value := [.int .i64 i.op, .int .i64 i.a, .int .i64 i.b, .int .i64 i.c, .int .u32 i.k]
abbrev evA (x : Ev) : Array Value := #[.int .i64 x.kind, .int .i64 x.who, .int .i64 x.pc, .int .i64 x.addr, .int .u32 x.value, .int .u32 x.old, .int .u32 x.k, .bool x.ok]
def evL (x : Ev) : List Value := [.int .i64 x.kind, .int .i64 x.who, .int .i64 x.pc, .int .i64 x.addr, .int .u32 x.value, .int .u32 x.old, .int .u32 x.k, .bool x.ok]
def ins0 : Ins := ⟨0, 0, 0, 0, 0⟩

/-- eight registers, of a word each -/
structure ThOk (t : Th) : Prop where
  len : t.r.length = 8
  u32 : ∀ x ∈ t.r, U32 x
structure InsOk (i : Ins) : Prop where
  k0 : 0 ≤ i.k
  k1 : i.k < 4294967296

def Th.reg (t : Th) (k : Int) : Int := t.r.getD k.toNat 0
def Th.put (t : Th) (k v : Int) : Th := ⟨t.pc, t.r.set k.toNat v, t.st⟩
def Th.at (t : Th) (pc : Int) : Th := ⟨pc, t.r, t.st⟩
def Th.is (t : Th) (st : Int) : Th := ⟨t.pc, t.r, st⟩

theorem ThOk.reg {t : Th} (h : ThOk t) (k : Int) : U32 (t.reg k) := by
  unfold Th.reg
  rw [List.getD_eq_getElem?_getD]
  rcases Nat.lt_or_ge k.toNat t.r.length with q | q
  · rw [List.getElem?_eq_getElem q]
    exact h.u32 _ (List.getElem_mem q)
  · rw [List.getElem?_eq_none q]
    exact ⟨Int.le_refl _, by decide⟩
theorem ThOk.put {t : Th} (h : ThOk t) (k v : Int) (hv : U32 v) : ThOk (t.put k v) := by
  refine ⟨by simp [Th.put, h.len], fun x hx => ?_⟩
  rcases List.mem_or_eq_of_mem_set hx with q | q
  · exact h.u32 x q
  · rw [q]; exact hv
theorem ThOk.at {t : Th} (h : ThOk t) (pc : Int) : ThOk (t.at pc) := ⟨h.len, h.u32⟩
theorem ThOk.is {t : Th} (h : ThOk t) (st : Int) : ThOk (t.is st) := ⟨h.len, h.u32⟩

theorem thC_size {t : Th} (h : ThOk t) : (thC t).size = 10 := by simp [thC, thL, h.len]
theorem thC_pc (t : Th) : (thC t)[0]? = some (.int .i64 t.pc) := by simp [thC, thL]
theorem thC_st {t : Th} (h : ThOk t) : (thC t)[9]? = some (.int .i64 t.st) := by
  simp [thC, thL, h.len]
theorem thC_reg {t : Th} (h : ThOk t) (k : Nat) (hk : k < 8) : (thC t)[1 + k]? = some (.int .u32 (t.reg k)) := by
  rw [Nat.add_comm]
  have : k < t.r.length := by rw [h.len]; exact hk
  simp only [thC, thL, List.getElem?_toArray, List.getElem?_cons_succ, Th.reg, Int.toNat_natCast]
  rw [List.getElem?_append_left (by simpa using this)]
  simp [List.getD_eq_getElem?_getD, this]
theorem thC_at (t : Th) (n : Int) : (thC t).setIfInBounds 0 (.int .i64 n) = thC (t.at n) := by simp [thC, thL, Th.at]
theorem thC_is {t : Th} (h : ThOk t) (n : Int) : (thC t).setIfInBounds 9 (.int .i64 n) = thC (t.is n) := by
  simp [thC, thL, Th.is, h.len]
theorem thC_put {t : Th} (h : ThOk t) (k : Nat) (hk : k < 8) (v : Int) : (thC t).setIfInBounds (1 + k) (.int .u32 v) = thC (t.put k v) := by
  rw [Nat.add_comm]
  have : k < t.r.length := by rw [h.len]; exact hk
  simp only [thC, thL, Th.put, List.setIfInBounds_toArray, List.set_cons_succ, Int.toNat_natCast]
  rw [List.set_append_left _ _ (by simpa using this)]
  simp
theorem thC_one (t : Th) : (thC t).all (·.oneCell') = true := by
  refine all_oneCell_toArray fun v hv => ?_
  unfold thL at hv
  rcases List.mem_cons.1 hv with rfl | hv
  · rfl
  · rcases List.mem_append.1 hv with h | h
    · obtain ⟨x, _, rfl⟩ := List.mem_map.1 h; rfl
    · rw [List.mem_singleton.1 h]; rfl

theorem infoT : (Tryd.prog.info? 25).map (·.size) = some 10 := by kernel_rfl
theorem infoT_of {t : Th} (h : ThOk t) : (Tryd.prog.info? 25).map (·.size) = some (thC t).size := by rw [thC_size h]; exact infoT

/-- a thread is read whole -/
theorem load_th {ops : Array Oper} {rest : List Oper} {op : Oper} {a : Act} {w : World} {Q : Exit → Act → World → Prop} (hgd : op.guard = none) (x : Operand) (ho : op.op = .load 25 x)
    (g : Nat) (hx : a.eval x = .pointer (some ⟨g, 0, none⟩)) (t : Th) (hg : Has w g (thC t) 25) (hs : ThOk t)
    (h : wpList Tryd.prog ops Q rest (a.put op.dst (.agg (thC t))) w) : wpList Tryd.prog ops Q (op :: rest) a w :=
  wpList_load_row hgd 25 x ho g hx 25 (thC t) (0, 0) _ hg Tryd.underlying25 rfl (infoT_of hs) h
/-- a thread is written whole -/
theorem store_th {ops : Array Oper} {rest : List Oper} {op : Oper} {a : Act} {w : World} {Q : Exit → Act → World → Prop} (hgd : op.guard = none) (x y : Operand) (ho : op.op = .store 25 x y)
    (g : Nat) (hx : a.eval x = .pointer (some ⟨g, 0, none⟩)) (t : Th) (hy : a.eval y = .agg (thC t)) (u : Th) (hg : Has w g (thC u) 25) (hs : ThOk t) (hd : ThOk u)
    (h : wpList Tryd.prog ops Q rest (a.put op.dst undef) (w.setRow g (thC t))) : wpList Tryd.prog ops Q (op :: rest) a w :=
  wpList_store_row hgd 25 x y ho g (thC t) hx hy 25 (thC u) hg (infoT_of hs) (by rw [thC_size hs, thC_size hd]) (thC_one t) h
end Go.Proofs.YtbmlliohepidaaaDoor
