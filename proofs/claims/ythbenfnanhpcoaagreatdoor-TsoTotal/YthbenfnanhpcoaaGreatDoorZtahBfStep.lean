/-
  Buffers as blocks of a world: a block's cells known whole, read whole and written whole, in a row of operations and in a region that draws its order. No condition but what each law names.
-/
import Derived.Test.YthbenfnanhpcoaaGreatDoorZtag
import Derived.Deep.RegionHeld3
import Derived.Deep.WholeRow
import Derived.BigQuiet
namespace Go.Proofs.YthbenfnanhpcoaaGreatDoor.Bf
open Go.ChangeShapes Go.WideShapes Go.ChangeAt Go.RowKit
set_option linter.unusedVariables false
set_option maxRecDepth 20000

/-- the world behind three new blocks -/
theorem start3 (w : World) (C X : Array Value) (t u : TypeId) (Z : Array Value) (s : TypeId) :
    Has (((w.alloc (.cells C t)).alloc (.cells X u)).alloc (.cells Z s)) w.heap.size C t ∧ Has (((w.alloc (.cells C t)).alloc (.cells X u)).alloc (.cells Z s)) (w.heap.size + 1) X u ∧
    Has (((w.alloc (.cells C t)).alloc (.cells X u)).alloc (.cells Z s)) (w.heap.size + 1 + 1) Z s ∧ Gr w (((w.alloc (.cells C t)).alloc (.cells X u)).alloc (.cells Z s)) := by
  refine ⟨((Has.new w C t).alloc _ _).alloc _ _, ?_, ?_, (((Gr.refl w).alloc _ _).alloc _ _).alloc _ _⟩
  · have := (Has.new (w.alloc (.cells C t)) X u).alloc Z s
    simpa using this
  · have := Has.new ((w.alloc (.cells C t)).alloc (.cells X u)) Z s
    simpa using this

theorem infoB : (Tryz.prog.info? 96).map (·.size) = some 35 := by kernel_rfl
theorem infoB_of {C : Array Value} (h : C.size = 35) : (Tryz.prog.info? 96).map (·.size) = some C.size := by rw [h]; exact infoB

/-- a buffer is read whole -/
theorem load_buf {ops : Array Oper} {rest : List Oper} {op : Oper} {a : Act} {w : World} {Q : Exit → Act → World → Prop} (hgd : op.guard = none) (x : Operand) (ho : op.op = .load 96 x)
    (g : Nat) (hx : a.eval x = .pointer (some ⟨g, 0, none⟩)) (C : Array Value) (hg : Has w g C 96) (hs : C.size = 35)
    (h : wpList Tryz.prog ops Q rest (a.put op.dst (.agg C)) w) : wpList Tryz.prog ops Q (op :: rest) a w :=
  wpList_load_row hgd 96 x ho g hx 96 C (0, 0) _ hg Tryz.underlying96 rfl (infoB_of hs) h
/-- the same behind a guard that holds -/
theorem load_bufG {ops : Array Oper} {rest : List Oper} {op : Oper} {a : Act} {w : World} {Q : Exit → Act → World → Prop} (hw : Region.wanted op (yielded ops a.tmps) = true) (x : Operand) (ho : op.op = .load 96 x)
    (g : Nat) (hx : a.eval x = .pointer (some ⟨g, 0, none⟩)) (C : Array Value) (hg : Has w g C 96) (hs : C.size = 35)
    (h : wpList Tryz.prog ops Q rest (a.put op.dst (.agg C)) w) : wpList Tryz.prog ops Q (op :: rest) a w :=
  wpList_step fun K hK => by
    rw [if_pos hw]
    exact wp_load_row 96 x ho g hx 96 C (0, 0) _ hg Tryz.underlying96 rfl (infoB_of hs) (hK _ _ h)
/-- a buffer is written whole -/
theorem store_buf {ops : Array Oper} {rest : List Oper} {op : Oper} {a : Act} {w : World} {Q : Exit → Act → World → Prop} (hgd : op.guard = none) (x y : Operand) (ho : op.op = .store 96 x y)
    (g : Nat) (hx : a.eval x = .pointer (some ⟨g, 0, none⟩)) (C : Array Value) (hy : a.eval y = .agg C) (D : Array Value) (hg : Has w g D 96) (hs : C.size = 35) (hd : D.size = 35) (h1 : C.all (·.oneCell') = true)
    (h : wpList Tryz.prog ops Q rest (a.put op.dst undef) (w.setRow g C)) : wpList Tryz.prog ops Q (op :: rest) a w :=
  wpList_store_row hgd 96 x y ho g C hx hy 96 D hg (infoB_of hs) (by omega) h1 h
/-- a buffer is written whole into the newest block -/
theorem store_new {ops : Array Oper} {rest : List Oper} {op : Oper} {a : Act} {w : World} {Q : Exit → Act → World → Prop} (hgd : op.guard = none) (hd0 : op.dst = none) (x y : Operand) (ho : op.op = .store 96 x y)
    (N : Nat) (hN : w.heap.size = N) (hx : a.eval x = .pointer (some ⟨N, 0, none⟩)) (C : Array Value) (hy : a.eval y = .agg C) (D : Array Value) (hs : C.size = 35) (hd : D.size = 35) (h1 : C.all (·.oneCell') = true)
    (h : wpList Tryz.prog ops Q rest a (w.alloc (.cells C 96))) : wpList Tryz.prog ops Q (op :: rest) a (w.alloc (.cells D 96)) := by
  subst hN
  refine wpList_store_row hgd 96 x y ho w.heap.size C hx hy 96 D (Has.new w D _) (infoB_of hs) (by omega) h1 ?_
  rw [World.setRow_alloc_new, hd0]
  exact h
/-- the same in a region that draws its order -/
theorem take_buf {ops : Array Oper} {S : World → Prop} {op : Oper} {a : Act} (hw : Region.wanted op (yielded ops a.tmps) = true) (x : Operand) (ho : op.op = .load 96 x)
    (g : Nat) (hx : a.eval x = .pointer (some ⟨g, 0, none⟩)) (C : Array Value) (hS : ∀ w, S w → Has w g C 96) (hs : C.size = 35) : YieldsIf Tryz.prog ops S op (.agg C) a :=
  .inl ⟨hw, fun w hw' => by
    unfold execOp
    simp only [ho, hx, Instr.loadAt, Instr.sureAddr, Sem.run_bind, Sem.run_pure, Result.andThen_ok, run_loadVar_row w g 96 96 C (0, 0) _ (hS w hw') Tryz.underlying96 rfl (infoB_of hs)]⟩
theorem wp_store_buf {op : Oper} (hd0 : op.dst = none) {a : Act} {w : World} {K : Act → World → Prop} {Q : Exit → Act → World → Prop} (x y : Operand) (ho : op.op = .store 96 x y)
    (g : Nat) (hx : a.eval x = .pointer (some ⟨g, 0, none⟩)) (C : Array Value) (hy : a.eval y = .agg C) (D : Array Value) (hg : Has w g D 96) (hs : C.size = 35) (hd : D.size = 35) (h1 : C.all (·.oneCell') = true)
    (h : K a (w.setRow g C)) : op.wp Tryz.prog a w K Q :=
  wp_store_row 96 x y ho g C hx hy 96 D hg (infoB_of hs) (by omega) h1 (by rw [hd0]; exact h)

/-- the zero buffer in a new block -/
theorem alloc_buf {o : Oper} {a : Act} {w : World} (ho : o.op = .alloc 96) : (execOp a.eval o).run Tryz.prog w = .ok (.value (.pointer (some ⟨w.heap.size, 0, none⟩))) (w.alloc (.cells (bufC (List.replicate 16 ent0) 0 0 0) 96)) := by
  unfold execOp
  simp only [ho]
  go_simp
  rfl

/-- results: a buffer and something else -/
theorem results_buf {fn : Func} {p q : Tmp} (h : fn.results = #[.cell p 96, .tmp q]) (tmps : Array Value) (w : World) (g : Nat) (C : Array Value)
    (hp : tmps.getD p undef = .pointer (some ⟨g, 0, none⟩)) (hg : Has w g C 96) (hs : C.size = 35) :
    (results fn tmps).run Tryz.prog w = .ok (.tuple #[.agg C, tmps.getD q undef]) w := by
  have hp' : tmps[p]?.getD undef = .pointer (some ⟨g, 0, none⟩) := by simpa using hp
  simp [results, h, hp', asAddr, run_loadVar_row w g 96 96 C (0, 0) _ hg Tryz.underlying96 rfl (infoB_of hs)]

theorem IsB.size {C : Array Value} {room : Nat} {l : List Ent} (h : IsB C room l) : C.size = 35 := by
  obtain ⟨r, f, h⟩ := h; rw [h.cells]; exact bufC_size h.ring _ _ _
theorem IsB.one {C : Array Value} {room : Nat} {l : List Ent} (h : IsB C room l) : C.all (·.oneCell') = true := by
  obtain ⟨r, f, h⟩ := h; rw [h.cells]; exact bufC_one _ _ _ _

end Go.Proofs.YthbenfnanhpcoaaGreatDoor.Bf
namespace Go.Proofs.YthbenfnanhpcoaaGreatDoor
open Go.ChangeShapes Go.WideShapes Go.ChangeAt Go.RowKit
set_option linter.unusedVariables false
set_option maxRecDepth 20000
open Go.Proofs.YthbenfnanhpcoaaGreatDoor.Bf
/-- an entry is written into the ring -/
theorem Has.setEnt {w : World} {g : Nat} {t : TypeId} {r : List Ent} {room first count : Int} (h : Has w g (bufC r room first count) t) (hr : r.length = 16) (p : Nat) (hp : p < 16) (x : Ent) :
    Has (w.setCells g (p * 2) [.int .i64 x.a, .int .u32 x.v]) g (bufC (r.set p x) room first count) t := by
  have := (h.set (p * 2) (.int .i64 x.a)).set (p * 2 + 1) (.int .u32 x.v)
  rw [bufC_set hr room first count p hp x] at this
  exact this
end Go.Proofs.YthbenfnanhpcoaaGreatDoor
namespace Go.Proofs.YthbenfnanhpcoaaGreatDoor.Bf
open Go.ChangeShapes Go.WideShapes Go.ChangeAt Go.RowKit
set_option linter.unusedVariables false
set_option maxRecDepth 20000
end Go.Proofs.YthbenfnanhpcoaaGreatDoor.Bf
namespace Go.Proofs.YthbenfnanhpcoaaGreatDoor
open Go.ChangeShapes Go.WideShapes Go.ChangeAt Go.RowKit
set_option linter.unusedVariables false
set_option maxRecDepth 20000
open Go.Proofs.YthbenfnanhpcoaaGreatDoor.Bf
theorem Has.setCells {w : World} {g k : Nat} {C : Array Value} {t : TypeId} (h : Has w g C t) (hk : g ≠ k) (o : Nat) (x y : Value) : Has (w.setCells k o [x, y]) g C t := (h.aside hk o x).aside hk (o + 1) y
end Go.Proofs.YthbenfnanhpcoaaGreatDoor
namespace Go.Proofs.YthbenfnanhpcoaaGreatDoor.Bf
open Go.ChangeShapes Go.WideShapes Go.ChangeAt Go.RowKit
set_option linter.unusedVariables false
set_option maxRecDepth 20000
end Go.Proofs.YthbenfnanhpcoaaGreatDoor.Bf
namespace Go.Proofs.YthbenfnanhpcoaaGreatDoor
open Go.ChangeShapes Go.WideShapes Go.ChangeAt Go.RowKit
set_option linter.unusedVariables false
set_option maxRecDepth 20000
open Go.Proofs.YthbenfnanhpcoaaGreatDoor.Bf
theorem Gr.setCells {w w' : World} (h : Gr w w') {g : Nat} (hg : w.heap.size ≤ g) (o : Nat) (x y : Value) : Gr w (w'.setCells g o [x, y]) := (h.setCell hg x).setCell hg y
end Go.Proofs.YthbenfnanhpcoaaGreatDoor
namespace Go.Proofs.YthbenfnanhpcoaaGreatDoor.Bf
open Go.ChangeShapes Go.WideShapes Go.ChangeAt Go.RowKit
set_option linter.unusedVariables false
set_option maxRecDepth 20000
theorem infoE : (Tryz.prog.info? 93).map (·.size) = some 2 := by kernel_rfl
theorem wp_store_ent {op : Oper} (hd0 : op.dst = none) {a : Act} {w : World} {K : Act → World → Prop} {Q : Exit → Act → World → Prop} (x y : Operand) (ho : op.op = .store 93 x y)
    (g o : Nat) (hx : a.eval x = .pointer (some ⟨g, o, none⟩)) (e : Ent) (hy : a.eval y = .agg #[.int .i64 e.a, .int .u32 e.v]) (C : Array Value) (t : TypeId) (hg : Has w g C t) (hs : o + 2 ≤ C.size)
    (h : K a (w.setCells g o [.int .i64 e.a, .int .u32 e.v])) : op.wp Tryz.prog a w K Q :=
  wp_store_mid 93 x y ho g o #[.int .i64 e.a, .int .u32 e.v] hx hy (hg.there o 2 hs) infoE (by simp [Value.oneCell']) (by rw [hd0]; exact h)
theorem store_ent {ops : Array Oper} {rest : List Oper} {op : Oper} {a : Act} {w : World} {Q : Exit → Act → World → Prop} (hgd : op.guard = none) (hd0 : op.dst = none) (x y : Operand) (ho : op.op = .store 93 x y)
    (g o : Nat) (hx : a.eval x = .pointer (some ⟨g, o, none⟩)) (e : Ent) (hy : a.eval y = .agg #[.int .i64 e.a, .int .u32 e.v]) (C : Array Value) (t : TypeId) (hg : Has w g C t) (hs : o + 2 ≤ C.size)
    (h : wpList Tryz.prog ops Q rest a (w.setCells g o [.int .i64 e.a, .int .u32 e.v])) : wpList Tryz.prog ops Q (op :: rest) a w :=
  wpList_plain hgd fun _ hK => wp_store_ent hd0 x y ho g o hx e hy C t hg hs (hK _ _ h)

theorem place_int {C : Array Value} {first : Nat} (hc : C[33]? = some (.int .i64 first)) (hf : first < 16) (n : Nat) (hn : n ≤ 16) (m : Int) (hm : m = n) (w : World) :
    Calls Tryz.prog 57 #[.agg C, .int .i64 m] w fun e w' => e = .returned (.int .i64 ((first + n) % 16 : Nat)) ∧ Gr w w' := by
  subst hm
  exact place_calls hc hf n hn w
/-- the cells of the entry of an age -/
theorem Is.ent {C : Array Value} {room : Nat} {l r : List Ent} {first : Nat} (h : Is C room l r first) (i : Nat) (hi : i < l.length) :
    C[(first + i) % 16 * 2]? = some (.int .i64 (l.getD i ent0).a) ∧ C[(first + i) % 16 * 2 + 1]? = some (.int .u32 (l.getD i ent0).v) := by
  have hp : (first + i) % 16 < 16 := by omega
  have e := h.at_ i hi
  unfold ringAt at e
  rw [e, h.cells]
  exact ⟨bufC_a h.ring _ _ _ _ hp, bufC_v h.ring _ _ _ _ hp⟩

/-- the cells of the zero buffer -/
def zeroC : Array Value := bufC (List.replicate 16 ent0) 0 0 0
theorem zeroC_size : zeroC.size = 35 := rfl
theorem zeroC_lit : zeroC = #[.int .i64 0, .int .u32 0, .int .i64 0, .int .u32 0, .int .i64 0, .int .u32 0, .int .i64 0, .int .u32 0, .int .i64 0, .int .u32 0, .int .i64 0, .int .u32 0, .int .i64 0, .int .u32 0, .int .i64 0, .int .u32 0, .int .i64 0, .int .u32 0, .int .i64 0, .int .u32 0, .int .i64 0, .int .u32 0, .int .i64 0, .int .u32 0, .int .i64 0, .int .u32 0, .int .i64 0, .int .u32 0, .int .i64 0, .int .u32 0, .int .i64 0, .int .u32 0, .int .i64 0, .int .i64 0, .int .i64 0] := rfl
end Go.Proofs.YthbenfnanhpcoaaGreatDoor.Bf
