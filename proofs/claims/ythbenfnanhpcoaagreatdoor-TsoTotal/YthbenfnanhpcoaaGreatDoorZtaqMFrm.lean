/-
  The frame of a function that is given a thread, an instruction and a port, and answers a thread: its four blocks. What whole answers; what ended does. No condition but what each law names.
-/
import Derived.Test.YthbenfnanhpcoaaGreatDoorZtap
namespace Go.Proofs.YthbenfnanhpcoaaGreatDoor.Mp
open Go.ChangeShapes Go.WideShapes Go.ChangeAt Go.RowKit
set_option linter.unusedVariables false
set_option maxRecDepth 20000

def th0 : Th := ⟨0, List.replicate 8 0, 0⟩
theorem th0_ok : ThOk th0 := ⟨rfl, fun x hx => by rw [List.eq_of_mem_replicate hx]; exact ⟨Int.le_refl _, by decide⟩⟩
/-- the cells of the zero thread -/
abbrev th0A : Array Value := #[.int .i64 0, .int .u32 0, .int .u32 0, .int .u32 0, .int .u32 0, .int .u32 0, .int .u32 0, .int .u32 0, .int .u32 0, .int .i64 0]
theorem th0_eq : thC th0 = th0A := rfl
theorem size1 (w : World) (C : Array Value) (t : TypeId) : (w.alloc (.cells C t)).heap.size = w.heap.size + 1 := by simp

/-- the result is a thread -/
theorem results_th {fn : Func} {p : Tmp} (h : fn.results = #[.cell p 42]) (tmps : Array Value) (w : World) (g : Nat) (t : Th) (hp : tmps.getD p undef = .pointer (some ⟨g, 0, none⟩)) (hg : Has w g (thC t) 42) (hs : ThOk t) :
    (results fn tmps).run Tryz.prog w = .ok (.agg (thC t)) w :=
  results_cell_row h tmps w g 42 (thC t) (0, 0) _ hp hg Tryz.underlying42 rfl (infoT_of hs)

section
variable {S : Type} {I : List Nat → S → World → Prop}

/-- a frame: thread, port, result -/
structure Fr3 (I : List Nat → S → World → Prop) (F : List Nat) (w : World) (t : Th) (z : Int) (f : Fns) (r : Th) (s : S) (u : World) : Prop where
  p : Pst I F w [w.heap.size, w.heap.size + 1, w.heap.size + 1 + 1] s u
  b0 : Has u w.heap.size (thC t) 42
  b1 : Has u (w.heap.size + 1) (portA z f) 103
  b2 : Has u (w.heap.size + 1 + 1) (thC r) 42
theorem Fr3.start (V : Inv I) {F : List Nat} {s : S} {w : World} (h : I F s w) (t : Th) (z : Int) (f : Fns) :
    Fr3 I F w t z f th0 s (((w.alloc (.cells (thC t) 42)).alloc (.cells (portA z f) 103)).alloc (.cells th0A 42)) := by
  have p := (((Pst.start V h).alloc V (thC t) 42).alloc V (portA z f) 103).alloc V th0A 42
  simp only [size1] at p
  refine ⟨p.less (by simp), ((Has.new w _ _).alloc _ _).alloc _ _, ?_, ?_⟩
  · have := (Has.new (w.alloc (.cells (thC t) 42)) (portA z f) 103).alloc th0A 42
    rwa [size1] at this
  · have := Has.new ((w.alloc (.cells (thC t) 42)).alloc (.cells (portA z f) 103)) (thC th0) 42
    rwa [size1, size1] at this
theorem Fr3.loc {F : List Nat} {w : World} {t : Th} {z : Int} {f : Fns} {r : Th} {s s' : S} {u u' : World} (h : Fr3 I F w t z f r s u) (k : Loc [w.heap.size, w.heap.size + 1, w.heap.size + 1 + 1] u u')
    (p : Pst I F w [w.heap.size, w.heap.size + 1, w.heap.size + 1 + 1] s' u') : Fr3 I F w t z f r s' u' :=
  ⟨p, h.b0.loc k (by simp), h.b1.loc k (by simp), h.b2.loc k (by simp)⟩
/-- the thread's cell is set -/
theorem Fr3.set (V : Inv I) {F : List Nat} {w : World} {t t' : Th} {z : Int} {f : Fns} {r : Th} {s : S} {u : World} (h : Fr3 I F w t z f r s u) (o : Nat) (v : Value) (e : (thC t).setIfInBounds o v = thC t') : Fr3 I F w t' z f r s (u.setCell ⟨w.heap.size, o, none⟩ v) :=
  ⟨h.p.setCell V _ _ _ (by simp) (Nat.le_refl _), (h.b0.set o v).of e, h.b1.aside (by omega) o v, h.b2.aside (by omega) o v⟩
/-- the thread is set whole -/
theorem Fr3.all (V : Inv I) {F : List Nat} {w : World} {t : Th} {z : Int} {f : Fns} {r : Th} {s : S} {u : World} (h : Fr3 I F w t z f r s u) (t' : Th) : Fr3 I F w t' z f r s (u.setRow w.heap.size (thC t')) :=
  ⟨h.p.setRow V _ _ (by simp) (Nat.le_refl _), h.b0.row _, h.b1.rowAside (by omega) _, h.b2.rowAside (by omega) _⟩
/-- the result is set whole -/
theorem Fr3.res (V : Inv I) {F : List Nat} {w : World} {t : Th} {z : Int} {f : Fns} {r : Th} {s : S} {u : World} (h : Fr3 I F w t z f r s u) (r' : Th) : Fr3 I F w t z f r' s (u.setRow (w.heap.size + 1 + 1) (thC r')) :=
  ⟨h.p.setRow V _ _ (by simp) (by omega), h.b0.rowAside (by omega) _, h.b1.rowAside (by omega) _, h.b2.row _⟩
theorem Fr3.gr (V : Inv I) {F : List Nat} {w : World} {t : Th} {z : Int} {f : Fns} {r : Th} {s : S} {u u' : World} (h : Fr3 I F w t z f r s u) (g : Gr u u') : Fr3 I F w t z f r s u' :=
  ⟨h.p.gr V g, h.b0.later g, h.b1.later g, h.b2.later g⟩

/-- a frame: thread, port, result, and an instruction further on -/
structure FrS (I : List Nat → S → World → Prop) (F : List Nat) (w : World) (t : Th) (z : Int) (f : Fns) (r : Th) (i : Ins) (g : Nat) (s : S) (u : World) : Prop where
  p : Pst I F w [g, w.heap.size, w.heap.size + 1, w.heap.size + 1 + 1] s u
  b0 : Has u w.heap.size (thC t) 42
  b1 : Has u (w.heap.size + 1) (portA z f) 103
  b2 : Has u (w.heap.size + 1 + 1) (thC r) 42
  b3 : Has u g (insA i) 72
  hg : w.heap.size + 1 + 1 < g
theorem Fr3.ins (V : Inv I) {F : List Nat} {w : World} {t : Th} {z : Int} {f : Fns} {r : Th} {s : S} {u : World} (h : Fr3 I F w t z f r s u) (i : Ins) : FrS I F w t z f r i u.heap.size s (u.alloc (.cells (insA i) 72)) :=
  ⟨h.p.alloc V _ _, h.b0.alloc _ _, h.b1.alloc _ _, h.b2.alloc _ _, Has.new _ _ _, h.b2.lt⟩
/-- the port is set whole -/
theorem Fr3.port (V : Inv I) {F : List Nat} {w : World} {t : Th} {z : Int} {f : Fns} {r : Th} {s : S} {u : World} (h : Fr3 I F w t z f r s u) : Fr3 I F w t z f r s (u.setRow (w.heap.size + 1) (portA z f)) :=
  ⟨h.p.setRow V _ _ (by simp) (by omega), h.b0.rowAside (by omega) _, h.b1.row _, h.b2.rowAside (by omega) _⟩
theorem FrS.loc {F : List Nat} {w : World} {t : Th} {z : Int} {f : Fns} {r : Th} {i : Ins} {g : Nat} {s s' : S} {u u' : World} (h : FrS I F w t z f r i g s u) (k : Loc [g, w.heap.size, w.heap.size + 1, w.heap.size + 1 + 1] u u')
    (p : Pst I F w [g, w.heap.size, w.heap.size + 1, w.heap.size + 1 + 1] s' u') : FrS I F w t z f r i g s' u' :=
  ⟨p, h.b0.loc k (by simp), h.b1.loc k (by simp), h.b2.loc k (by simp), h.b3.loc k (by simp), h.hg⟩
theorem FrS.res (V : Inv I) {F : List Nat} {w : World} {t : Th} {z : Int} {f : Fns} {r : Th} {i : Ins} {g : Nat} {s : S} {u : World} (h : FrS I F w t z f r i g s u) (r' : Th) : FrS I F w t z f r' i g s (u.setRow (w.heap.size + 1 + 1) (thC r')) :=
  have hg := h.hg
  ⟨h.p.setRow V _ _ (by simp) (by omega), h.b0.rowAside (by omega) _, h.b1.rowAside (by omega) _, h.b2.row _, h.b3.rowAside (by omega) _, hg⟩
theorem FrS.gr (V : Inv I) {F : List Nat} {w : World} {t : Th} {z : Int} {f : Fns} {r : Th} {i : Ins} {g : Nat} {s : S} {u u' : World} (h : FrS I F w t z f r i g s u) (k : Gr u u') : FrS I F w t z f r i g s u' :=
  ⟨h.p.gr V k, h.b0.later k, h.b1.later k, h.b2.later k, h.b3.later k, h.hg⟩

/-- a frame: thread, instruction, port, result -/
structure Fr4 (I : List Nat → S → World → Prop) (F : List Nat) (w : World) (t : Th) (i : Ins) (z : Int) (f : Fns) (r : Th) (s : S) (u : World) : Prop where
  p : Pst I F w [w.heap.size, w.heap.size + 1, w.heap.size + 1 + 1, w.heap.size + 1 + 1 + 1] s u
  b0 : Has u w.heap.size (thC t) 42
  b1 : Has u (w.heap.size + 1) (insA i) 72
  b2 : Has u (w.heap.size + 1 + 1) (portA z f) 103
  b3 : Has u (w.heap.size + 1 + 1 + 1) (thC r) 42
theorem Fr4.start (V : Inv I) {F : List Nat} {s : S} {w : World} (h : I F s w) (t : Th) (i : Ins) (z : Int) (f : Fns) :
    Fr4 I F w t i z f th0 s ((((w.alloc (.cells (thC t) 42)).alloc (.cells (insA i) 72)).alloc (.cells (portA z f) 103)).alloc (.cells th0A 42)) := by
  have p := ((((Pst.start V h).alloc V (thC t) 42).alloc V (insA i) 72).alloc V (portA z f) 103).alloc V th0A 42
  simp only [size1] at p
  refine ⟨p.less (by simp), (((Has.new w _ _).alloc _ _).alloc _ _).alloc _ _, ?_, ?_, ?_⟩
  · have := ((Has.new (w.alloc (.cells (thC t) 42)) (insA i) 72).alloc (portA z f) 103).alloc th0A 42
    rwa [size1] at this
  · have := (Has.new ((w.alloc (.cells (thC t) 42)).alloc (.cells (insA i) 72)) (portA z f) 103).alloc th0A 42
    rwa [size1, size1] at this
  · have := Has.new (((w.alloc (.cells (thC t) 42)).alloc (.cells (insA i) 72)).alloc (.cells (portA z f) 103)) (thC th0) 42
    rwa [size1, size1, size1] at this
theorem Fr4.loc {F : List Nat} {w : World} {t : Th} {i : Ins} {z : Int} {f : Fns} {r : Th} {s s' : S} {u u' : World} (h : Fr4 I F w t i z f r s u) (k : Loc [w.heap.size, w.heap.size + 1, w.heap.size + 1 + 1, w.heap.size + 1 + 1 + 1] u u')
    (p : Pst I F w [w.heap.size, w.heap.size + 1, w.heap.size + 1 + 1, w.heap.size + 1 + 1 + 1] s' u') : Fr4 I F w t i z f r s' u' :=
  ⟨p, h.b0.loc k (by simp), h.b1.loc k (by simp), h.b2.loc k (by simp), h.b3.loc k (by simp)⟩
theorem Fr4.set (V : Inv I) {F : List Nat} {w : World} {t t' : Th} {i : Ins} {z : Int} {f : Fns} {r : Th} {s : S} {u : World} (h : Fr4 I F w t i z f r s u) (o : Nat) (v : Value) (e : (thC t).setIfInBounds o v = thC t') : Fr4 I F w t' i z f r s (u.setCell ⟨w.heap.size, o, none⟩ v) :=
  ⟨h.p.setCell V _ _ _ (by simp) (Nat.le_refl _), (h.b0.set o v).of e, h.b1.aside (by omega) o v, h.b2.aside (by omega) o v, h.b3.aside (by omega) o v⟩
theorem Fr4.all (V : Inv I) {F : List Nat} {w : World} {t : Th} {i : Ins} {z : Int} {f : Fns} {r : Th} {s : S} {u : World} (h : Fr4 I F w t i z f r s u) (t' : Th) : Fr4 I F w t' i z f r s (u.setRow w.heap.size (thC t')) :=
  ⟨h.p.setRow V _ _ (by simp) (Nat.le_refl _), h.b0.row _, h.b1.rowAside (by omega) _, h.b2.rowAside (by omega) _, h.b3.rowAside (by omega) _⟩
theorem Fr4.res (V : Inv I) {F : List Nat} {w : World} {t : Th} {i : Ins} {z : Int} {f : Fns} {r : Th} {s : S} {u : World} (h : Fr4 I F w t i z f r s u) (r' : Th) : Fr4 I F w t i z f r' s (u.setRow (w.heap.size + 1 + 1 + 1) (thC r')) :=
  ⟨h.p.setRow V _ _ (by simp) (by omega), h.b0.rowAside (by omega) _, h.b1.rowAside (by omega) _, h.b2.rowAside (by omega) _, h.b3.row _⟩
theorem Fr4.gr (V : Inv I) {F : List Nat} {w : World} {t : Th} {i : Ins} {z : Int} {f : Fns} {r : Th} {s : S} {u u' : World} (h : Fr4 I F w t i z f r s u) (g : Gr u u') : Fr4 I F w t i z f r s u' :=
  ⟨h.p.gr V g, h.b0.later g, h.b1.later g, h.b2.later g, h.b3.later g⟩
end

theorem infoI5 : (Tryz.prog.info? 72).map (·.size) = some 5 := by kernel_rfl
theorem infoP11 : (Tryz.prog.info? 103).map (·.size) = some 11 := by kernel_rfl
/-- records are read whole in a region that draws its order -/
theorem take_th {ops : Array Oper} {S : World → Prop} {op : Oper} {a : Act} (hw : Region.wanted op (yielded ops a.tmps) = true) (x : Operand) (ho : op.op = .load 42 x)
    (g : Nat) (hx : a.eval x = .pointer (some ⟨g, 0, none⟩)) (t : Th) (hS : ∀ w, S w → Has w g (thC t) 42) (hs : ThOk t) : YieldsIf Tryz.prog ops S op (.agg (thC t)) a :=
  .inl ⟨hw, fun w hw' => by
    unfold execOp
    simp only [ho, hx, Instr.loadAt, Instr.sureAddr, Sem.run_bind, Sem.run_pure, Result.andThen_ok, run_loadVar_row w g 42 42 (thC t) (0, 0) _ (hS w hw') Tryz.underlying42 rfl (infoT_of hs)]⟩
theorem take_ins {ops : Array Oper} {S : World → Prop} {op : Oper} {a : Act} (hw : Region.wanted op (yielded ops a.tmps) = true) (x : Operand) (ho : op.op = .load 72 x)
    (g : Nat) (hx : a.eval x = .pointer (some ⟨g, 0, none⟩)) (i : Ins) (hS : ∀ w, S w → Has w g (insA i) 72) : YieldsIf Tryz.prog ops S op (.agg (insA i)) a :=
  .inl ⟨hw, fun w hw' => by
    unfold execOp
    simp only [ho, hx, Instr.loadAt, Instr.sureAddr, Sem.run_bind, Sem.run_pure, Result.andThen_ok, run_loadVar_row w g 72 72 (insA i) (0, 0) _ (hS w hw') Tryz.underlying72 rfl infoI5]⟩
theorem take_port {ops : Array Oper} {S : World → Prop} {op : Oper} {a : Act} (hw : Region.wanted op (yielded ops a.tmps) = true) (x : Operand) (ho : op.op = .load 103 x)
    (g : Nat) (hx : a.eval x = .pointer (some ⟨g, 0, none⟩)) (z : Int) (f : Fns) (hS : ∀ w, S w → Has w g (portA z f) 103) : YieldsIf Tryz.prog ops S op (.agg (portA z f)) a :=
  .inl ⟨hw, fun w hw' => by
    unfold execOp
    simp only [ho, hx, Instr.loadAt, Instr.sureAddr, Sem.run_bind, Sem.run_pure, Result.andThen_ok, run_loadVar_row w g 103 103 (portA z f) (0, 0) _ (hS w hw') Tryz.underlying103 rfl infoP11]⟩

/-- a word is stored -/
theorem wp_store_word {o : Oper} {a : Act} {w : World} {K : Act → World → Prop} {Q : Exit → Act → World → Prop} (hd0 : o.dst = none) (x y : Operand) (ho : o.op = .store 39 x y) (g j : Nat) (hx : a.eval x = .pointer (some ⟨g, j, none⟩)) (v : Int) (hy : a.eval y = .int .u32 v)
    (old : Int) (hc : w.cell? ⟨g, j, none⟩ = some (.int .u32 old)) (hf : w.frozen? ⟨g, j, none⟩ = false) (h : K a (w.setCell ⟨g, j, none⟩ (.int .u32 v))) : Oper.wp Tryz.prog o a w K Q := by
  unfold Oper.wp execOp
  simp only [ho, hx, hy]
  go_simp
  exact h
theorem store_word {ops : Array Oper} {rest : List Oper} {op : Oper} {a : Act} {w : World} {Q : Exit → Act → World → Prop} (hgd : op.guard = none) (hd0 : op.dst = none) (x y : Operand) (ho : op.op = .store 39 x y) (g j : Nat) (hx : a.eval x = .pointer (some ⟨g, j, none⟩)) (v : Int) (hy : a.eval y = .int .u32 v)
    (old : Int) (hc : w.cell? ⟨g, j, none⟩ = some (.int .u32 old)) (hf : w.frozen? ⟨g, j, none⟩ = false) (h : wpList Tryz.prog ops Q rest a (w.setCell ⟨g, j, none⟩ (.int .u32 v))) : wpList Tryz.prog ops Q (op :: rest) a w :=
  wpList_plain hgd fun _ hK => wp_store_word hd0 x y ho g j hx v hy old hc hf (hK _ _ h)
/-- an instruction is read whole -/
theorem load_ins {ops : Array Oper} {rest : List Oper} {op : Oper} {a : Act} {w : World} {Q : Exit → Act → World → Prop} (hgd : op.guard = none) (x : Operand) (ho : op.op = .load 72 x)
    (g : Nat) (hx : a.eval x = .pointer (some ⟨g, 0, none⟩)) (i : Ins) (hg : Has w g (insA i) 72)
    (h : wpList Tryz.prog ops Q rest (a.put op.dst (.agg (insA i))) w) : wpList Tryz.prog ops Q (op :: rest) a w :=
  wpList_load_row hgd 72 x ho g hx 72 (insA i) (0, 0) _ hg Tryz.underlying72 rfl infoI5 h
/-- a port is read whole -/
theorem load_port {ops : Array Oper} {rest : List Oper} {op : Oper} {a : Act} {w : World} {Q : Exit → Act → World → Prop} (hgd : op.guard = none) (x : Operand) (ho : op.op = .load 103 x)
    (g : Nat) (hx : a.eval x = .pointer (some ⟨g, 0, none⟩)) (z : Int) (f : Fns) (hg : Has w g (portA z f) 103)
    (h : wpList Tryz.prog ops Q rest (a.put op.dst (.agg (portA z f))) w) : wpList Tryz.prog ops Q (op :: rest) a w :=
  wpList_load_row hgd 103 x ho g hx 103 (portA z f) (0, 0) _ hg Tryz.underlying103 rfl infoP11 h
set_option maxHeartbeats 400000 in
theorem inMemory_calls (n z : Int) (f : Fns) (hn : U32 n) (w : World) :
    Calls Tryz.prog 93 #[.int .u32 n, .agg (portA z f)] w fun e w' => e = .returned (.bool (decide (n < z))) ∧ Gr w w' := by
  have HG := hide ((Gr.refl w).alloc (portA z f) 103)
  have hw := wrap_u32 hn
  obtain ⟨h0, h1⟩ := hn
  go_enter Tryz.func93, Tryz.ntmps93
  go_wp2_with (fail)
  go_ret
  exact ⟨rfl, HG.out⟩

end Go.Proofs.YthbenfnanhpcoaaGreatDoor.Mp
