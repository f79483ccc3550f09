/-
  Clocks: eight numbers, their cells, how they are read, written and held against each other. No condition but what each law names.
-/
import Derived.Test.YtejcififiinifaaGrow
import Derived.Laws.StructEq
import Derived.Laws.Tables
namespace Go.Proofs.Ytejcififiinifaa
open Go.ChangeShapes Go.WideShapes Go.ChangeAt Go.RowKit
set_option linter.unusedVariables false
set_option maxRecDepth 20000

/-- a clock's cells -/
def ckC (f : Nat → Int) : Array Value := #[.int .u32 (f 0), .int .u32 (f 1), .int .u32 (f 2), .int .u32 (f 3), .int .u32 (f 4), .int .u32 (f 5), .int .u32 (f 6), .int .u32 (f 7)]
/-- each number has 32 bits -/
def CkOk (f : Nat → Int) : Prop := ∀ i, i < 8 → 0 ≤ f i ∧ f i < 4294967296
/-- what knows nothing -/
def zeroF : Nat → Int := fun _ => 0
/-- one number is another one -/
def putF (f : Nat → Int) (k : Nat) (v : Int) : Nat → Int := fun i => if i = k then v else f i
theorem lt8 {k : Nat} (h : k < 8) : k = 0 ∨ k = 1 ∨ k = 2 ∨ k = 3 ∨ k = 4 ∨ k = 5 ∨ k = 6 ∨ k = 7 := by omega
theorem all8 {p : Nat → Prop} : (∀ i, i < 8 → p i) ↔ (p 0 ∧ p 1 ∧ p 2 ∧ p 3 ∧ p 4 ∧ p 5 ∧ p 6 ∧ p 7) := by
  constructor
  · intro h
    exact ⟨h 0 (by omega), h 1 (by omega), h 2 (by omega), h 3 (by omega), h 4 (by omega), h 5 (by omega), h 6 (by omega), h 7 (by omega)⟩
  · rintro ⟨h0, h1, h2, h3, h4, h5, h6, h7⟩ i hi
    rcases lt8 hi with rfl | rfl | rfl | rfl | rfl | rfl | rfl | rfl <;> assumption
theorem ckC_size (f : Nat → Int) : (ckC f).size = 8 := rfl
theorem ckC_one (f : Nat → Int) : (ckC f).all (·.oneCell') = true := by simp [ckC, Value.oneCell']
theorem ckC_get (f : Nat → Int) {k : Nat} (h : k < 8) : (ckC f)[k]? = some (.int .u32 (f k)) := by
  rcases lt8 h with rfl | rfl | rfl | rfl | rfl | rfl | rfl | rfl <;> rfl
theorem ckC_set (f : Nat → Int) {k : Nat} (h : k < 8) (v : Int) : (ckC f).setIfInBounds k (.int .u32 v) = ckC (putF f k v) := by
  rcases lt8 h with rfl | rfl | rfl | rfl | rfl | rfl | rfl | rfl <;> rfl
theorem ckC_congr {f g : Nat → Int} (h : ∀ i, i < 8 → f i = g i) : ckC f = ckC g := by
  unfold ckC
  rw [h 0 (by omega), h 1 (by omega), h 2 (by omega), h 3 (by omega), h 4 (by omega), h 5 (by omega), h 6 (by omega), h 7 (by omega)]

/-- a type of clocks -/
def CkT (T : TypeId) : Prop := (Try.prog.info? T).map (·.size) = some 8 ∧ Try.prog.underlying T = some (.array 8 22)
theorem cktC : CkT 25 := ⟨by kernel_rfl, Try.underlying25⟩
theorem cktA : CkT 23 := ⟨by kernel_rfl, Try.underlying23⟩

/-- are they the same? -/
def eqB (f g : Nat → Int) : Bool := f 0 == g 0 && (f 1 == g 1 && (f 2 == g 2 && (f 3 == g 3 && (f 4 == g 4 && (f 5 == g 5 && (f 6 == g 6 && f 7 == g 7))))))
theorem eqB_iff (f g : Nat → Int) : eqB f g = true ↔ ∀ i, i < 8 → f i = g i := by
  rw [all8]
  simp [eqB]
theorem equal_ck (d : Nat) (w : World) (f g : Nat → Int) : (Op.equalIn (d + 1 + 1) 25 (.agg (ckC f)) (.agg (ckC g))).run Try.prog w = .ok (eqB f g) w := by
  unfold Op.equalIn ckC eqB
  generalize f 0 = a0, f 1 = a1, f 2 = a2, f 3 = a3, f 4 = a4, f 5 = a5, f 6 = a6, f 7 = a7
  generalize g 0 = b0, g 1 = b1, g 2 = b2, g 3 = b3, g 4 = b4, g 5 = b5, g 6 = b6, g 7 = b7
  go_simp
  simp only [show List.range' 0 8 = [0, 1, 2, 3, 4, 5, 6, 7] from rfl, List.forIn_cons, List.forIn_nil]
  go_simp
  repeat' split
  all_goals simp_all
theorem eql_ck (w : World) (f g : Nat → Int) : (binOp .eql 25 (.agg (ckC f)) (.agg (ckC g))).run Try.prog w = .ok (.bool (eqB f g)) w := by
  rw [run_eql_struct, equal_ck 9998 w f g]
  rfl
theorem neq_ck (w : World) (f g : Nat → Int) : (binOp .neq 25 (.agg (ckC f)) (.agg (ckC g))).run Try.prog w = .ok (.bool (!(eqB f g))) w := by
  rw [run_neq_struct, equal_ck 9998 w f g]
  rfl
theorem guard_ck (op : BinOp) (x y : Operand) (xs ys : Array Value) (w : World) : (eqGuard op 25 x y (.agg xs) (.agg ys)).run Try.prog w = .ok () w :=
  run_eqGuard_agg w op _ x y xs ys (by kernel_rfl)

theorem wpList_wants {P : Program} {ops : Array Oper} {Q : Exit → Act → World → Prop} {a : Act} {w : World} {rest : List Oper} {o : Oper} (hw : Region.wanted o (yielded ops a.tmps) = true)
    (h : ∀ K : Act → World → Prop, (∀ a w, wpList P ops Q rest a w → K a w) → o.wp P a w K Q) : wpList P ops Q (o :: rest) a w :=
  wpList_step fun K hK => by simp only [hw, if_true]; exact h K hK
/-- a clock is read whole -/
theorem load_ck {T : TypeId} (hT : CkT T) {ops : Array Oper} {rest : List Oper} {op : Oper} {a : Act} {w : World} {Q : Exit → Act → World → Prop} (hw : Region.wanted op (yielded ops a.tmps) = true) (x : Operand) (ho : op.op = .load T x)
    (g : Nat) (hx : a.eval x = .pointer (some ⟨g, 0, none⟩)) (f : Nat → Int) (U : TypeId) (hg : Has w g (ckC f) U) (h : wpList Try.prog ops Q rest (a.put op.dst (.agg (ckC f))) w) : wpList Try.prog ops Q (op :: rest) a w :=
  wpList_wants hw fun _ hK => wp_load_row T x ho g hx U (ckC f) (0, 0) _ hg hT.2 rfl (by rw [hT.1, ckC_size]) (hK _ _ h)
/-- a clock is written whole -/
theorem store_ck {T : TypeId} (hT : CkT T) {ops : Array Oper} {rest : List Oper} {op : Oper} {a : Act} {w : World} {Q : Exit → Act → World → Prop} (hgd : op.guard = none) (x y : Operand) (ho : op.op = .store T x y)
    (g : Nat) (hx : a.eval x = .pointer (some ⟨g, 0, none⟩)) (f : Nat → Int) (hy : a.eval y = .agg (ckC f)) (e : Nat → Int) (U : TypeId) (hg : Has w g (ckC e) U) (h : wpList Try.prog ops Q rest (a.put op.dst undef) (w.setRow g (ckC f))) : wpList Try.prog ops Q (op :: rest) a w :=
  wpList_store_row hgd T x y ho g (ckC f) hx hy U (ckC e) hg (by rw [hT.1, ckC_size]) rfl (ckC_one f) h
theorem wp_store_ck {T : TypeId} (hT : CkT T) {op : Oper} (hd0 : op.dst = none) {a : Act} {w : World} {K : Act → World → Prop} {Q : Exit → Act → World → Prop} (x y : Operand) (ho : op.op = .store T x y)
    (g : Nat) (hx : a.eval x = .pointer (some ⟨g, 0, none⟩)) (f : Nat → Int) (hy : a.eval y = .agg (ckC f)) (e : Nat → Int) (U : TypeId) (hg : Has w g (ckC e) U) (h : K a (w.setRow g (ckC f))) : op.wp Try.prog a w K Q :=
  wp_store_row T x y ho g (ckC f) hx hy U (ckC e) hg (by rw [hT.1, ckC_size]) rfl (ckC_one f) (by rw [hd0]; exact h)
/-- a clock is written whole into the newest block -/
theorem store_new {T : TypeId} (hT : CkT T) {ops : Array Oper} {rest : List Oper} {op : Oper} {a : Act} {w : World} {Q : Exit → Act → World → Prop} (hgd : op.guard = none) (hd0 : op.dst = none) (x y : Operand) (ho : op.op = .store T x y)
    (N : Nat) (hN : w.heap.size = N) (hx : a.eval x = .pointer (some ⟨N, 0, none⟩)) (f : Nat → Int) (hy : a.eval y = .agg (ckC f)) (e : Nat → Int) (U : TypeId)
    (h : wpList Try.prog ops Q rest a (w.alloc (.cells (ckC f) U))) : wpList Try.prog ops Q (op :: rest) a (w.alloc (.cells (ckC e) U)) := by
  subst hN
  refine store_ck hT hgd x y ho w.heap.size hx f hy e U (Has.new w _ _) ?_
  rw [World.setRow_alloc_new, hd0]
  exact h
/-- a clock is read whole, in a region that draws its order -/
theorem yg_load {T : TypeId} (hT : CkT T) {ops : Array Oper} {S : World → Prop} {op : Oper} {a : Act} (hw : Region.wanted op (yielded ops a.tmps) = true) (x : Operand) (ho : op.op = .load T x)
    (g : Nat) (hx : a.eval x = .pointer (some ⟨g, 0, none⟩)) (f : Nat → Int) (U : TypeId) (hS : ∀ w, S w → Has w g (ckC f) U) : YieldsG Try.prog ops S op (.agg (ckC f)) a :=
  yg_held hw fun w hw' => by
    unfold execOp
    simp only [ho, hx, Instr.loadAt, Instr.sureAddr, Sem.run_bind, Sem.run_pure, Result.andThen_ok, run_loadVar_row w g U T (ckC f) (0, 0) _ (hS w hw') hT.2 rfl (by rw [hT.1, ckC_size])]
/-- two clocks are held against each other, in a region that draws its order -/
theorem yg_eql {ops : Array Oper} {S : World → Prop} {op : Oper} {a : Act} (hw : Region.wanted op (yielded ops a.tmps) = true) (x y : Operand) (ho : op.op = .binOp .eql 25 x y 25) (f g : Nat → Int)
    (hx : a.eval x = .agg (ckC f)) (hy : a.eval y = .agg (ckC g)) (b : Bool) (hb : eqB f g = b) : YieldsG Try.prog ops S op (.bool b) a :=
  yg_pure hw fun w => by
    unfold execOp
    simp only [ho, hx, hy, Sem.run_bind, guard_ck, eql_ck w f g, Result.andThen_ok, hb]
    rfl
theorem yg_neq {ops : Array Oper} {S : World → Prop} {op : Oper} {a : Act} (hw : Region.wanted op (yielded ops a.tmps) = true) (x y : Operand) (ho : op.op = .binOp .neq 25 x y 25) (f g : Nat → Int)
    (hx : a.eval x = .agg (ckC f)) (hy : a.eval y = .agg (ckC g)) (b : Bool) (hb : (!(eqB f g)) = b) : YieldsG Try.prog ops S op (.bool b) a :=
  yg_pure hw fun w => by
    unfold execOp
    simp only [ho, hx, hy, Sem.run_bind, guard_ck, neq_ck w f g, Result.andThen_ok, hb]
    rfl
/-- two clocks are held against each other -/
theorem step_eql {ops : Array Oper} {rest : List Oper} {op : Oper} {a : Act} {w : World} {Q : Exit → Act → World → Prop} (hw : Region.wanted op (yielded ops a.tmps) = true) (x y : Operand) (ho : op.op = .binOp .eql 25 x y 25) (f g : Nat → Int)
    (hx : a.eval x = .agg (ckC f)) (hy : a.eval y = .agg (ckC g)) (b : Bool) (hb : eqB f g = b) (h : wpList Try.prog ops Q rest (a.put op.dst (.bool b)) w) : wpList Try.prog ops Q (op :: rest) a w :=
  wpList_wants hw fun K hK => by
    unfold Oper.wp execOp
    simp only [ho, hx, hy, Sem.run_bind, guard_ck, eql_ck w f g, Result.andThen_ok, hb]
    exact hK _ _ h
theorem step_neq {ops : Array Oper} {rest : List Oper} {op : Oper} {a : Act} {w : World} {Q : Exit → Act → World → Prop} (hw : Region.wanted op (yielded ops a.tmps) = true) (x y : Operand) (ho : op.op = .binOp .neq 25 x y 25) (f g : Nat → Int)
    (hx : a.eval x = .agg (ckC f)) (hy : a.eval y = .agg (ckC g)) (b : Bool) (hb : (!(eqB f g)) = b) (h : wpList Try.prog ops Q rest (a.put op.dst (.bool b)) w) : wpList Try.prog ops Q (op :: rest) a w :=
  wpList_wants hw fun K hK => by
    unfold Oper.wp execOp
    simp only [ho, hx, hy, Sem.run_bind, guard_ck, neq_ck w f g, Result.andThen_ok, hb]
    exact hK _ _ h
/-- a result that is a clock -/
theorem results_ck {fn : Func} {p : Tmp} (h : fn.results = #[.cell p 25]) (tmps : Array Value) (w : World) (g : Nat) (f : Nat → Int)
    (hp : tmps.getD p undef = .pointer (some ⟨g, 0, none⟩)) (U : TypeId) (hg : Has w g (ckC f) U) : (results fn tmps).run Try.prog w = .ok (.agg (ckC f)) w :=
  results_cell_row h tmps w g U (ckC f) (0, 0) _ hp hg Try.underlying25 rfl (by rw [cktC.1, ckC_size])
theorem Has.put {w : World} {g : Nat} {f : Nat → Int} {t : TypeId} (h : Has w g (ckC f) t) {k : Nat} (hk : k < 8) (v : Int) : Has (w.setCell ⟨g, k, none⟩ (.int .u32 v)) g (ckC (putF f k v)) t := by
  have := h.set k (.int .u32 v)
  rw [ckC_set f hk] at this
  exact this
end Go.Proofs.Ytejcififiinifaa
