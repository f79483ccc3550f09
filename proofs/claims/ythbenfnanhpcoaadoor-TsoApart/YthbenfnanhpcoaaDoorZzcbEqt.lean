/-
  Threads compared with threads. No condition but that they are threads.
-/
import Derived.Test.YthbenfnanhpcoaaDoorZzabLate
import Derived.Test.YthbenfnanhpcoaaDoorZzaf
import Derived.Laws.StructEq
import Derived.Deep.MidRow
namespace Go.Proofs.YthbenfnanhpcoaaDoor
open Go.ChangeShapes Go.WideShapes Go.ChangeAt Go.RowKit
set_option linter.unusedVariables false
set_option maxRecDepth 20000

def thEq (t u : Th) : Bool := t.pc == u.pc && (t.r == u.r && t.st == u.st)
theorem thEq_refl (t : Th) : thEq t t = true := by simp [thEq]

theorem eq_arr8 (d : Nat) (w : World) (a b c e f g h i a' b' c' e' f' g' h' i' : Int) :
    (Op.equalIn (d + 1 + 1) 50 (.agg #[.int .u32 a, .int .u32 b, .int .u32 c, .int .u32 e, .int .u32 f, .int .u32 g, .int .u32 h, .int .u32 i]) (.agg #[.int .u32 a', .int .u32 b', .int .u32 c', .int .u32 e', .int .u32 f', .int .u32 g', .int .u32 h', .int .u32 i'])).run Tryd.prog w =
    .ok (a == a' && (b == b' && (c == c' && (e == e' && (f == f' && (g == g' && (h == h' && i == i'))))))) w := by
  unfold Op.equalIn
  go_simp
  simp only [show List.range' 0 8 = [0, 1, 2, 3, 4, 5, 6, 7] from rfl, List.forIn_cons, List.forIn_nil]
  go_simp
  repeat' split
  all_goals simp_all

theorem arr8_ok {r : List Int} (h : r.length = 8) : ∃ a b c e f g i k, r = [a, b, c, e, f, g, i, k] := by
  match r, h with
  | [a, b, c, e, f, g, i, k], _ => exact ⟨a, b, c, e, f, g, i, k, rfl⟩
theorem eq_th (w : World) {t u : Th} (ht : ThOk t) (hu : ThOk u) : (Op.equalIn 10000 52 (.agg (thC t)) (.agg (thC u))).run Tryd.prog w = .ok (thEq t u) w := by
  obtain ⟨p, r, s⟩ := t
  obtain ⟨p', r', s'⟩ := u
  obtain ⟨a, b, c, e, f, g, i, k, rfl⟩ := arr8_ok ht.len
  obtain ⟨a', b', c', e', f', g', i', k', rfl⟩ := arr8_ok hu.len
  have h8 := eq_arr8 9997 w a b c e f g i k a' b' c' e' f' g' i' k'
  rw [run_equalIn_agg w 9999 _ _ _ (by kernel_rfl) (by kernel_rfl)]
  simp only [thC, thL, List.map_cons, List.map_nil, List.cons_append, List.nil_append]
  go_simp
  have eL : (([a, b, c, e, f, g, i, k] : List Int) == [a', b', c', e', f', g', i', k']) = (a == a' && (b == b' && (c == c' && (e == e' && (f == f' && (g == g' && (i == i' && k == k'))))))) := by
    show (a == a' && (b == b' && (c == c' && (e == e' && (f == f' && (g == g' && (i == i' && (k == k' && true)))))))) = _
    rw [Bool.and_true]
  show _ = Result.ok (p == p' && (([a, b, c, e, f, g, i, k] : List Int) == [a', b', c', e', f', g', i', k'] && s == s')) w
  rw [eL]
  generalize (a == a' && (b == b' && (c == c' && (e == e' && (f == f' && (g == g' && (i == i' && k == k'))))))) = q
  cases q <;> repeat' split
  all_goals simp_all
theorem eql_th (w : World) {t u : Th} (ht : ThOk t) (hu : ThOk u) : (binOp .eql 52 (.agg (thC t)) (.agg (thC u))).run Tryd.prog w = .ok (.bool (thEq t u)) w := by
  rw [run_eql_struct, eq_th w ht hu]
  rfl
theorem guard_th (op : BinOp) (x y : Operand) (xs ys : Array Value) (w : World) : (eqGuard op 52 x y (.agg xs) (.agg ys)).run Tryd.prog w = .ok () w :=
  run_eqGuard_agg w op _ x y xs ys (by kernel_rfl)
theorem wpList_wants {P : Program} {ops : Array Oper} {Q : Exit → Act → World → Prop} {a : Act} {w : World} {rest : List Oper} {o : Oper} (hw : Region.wanted o (yielded ops a.tmps) = true)
    (h : ∀ K : Act → World → Prop, (∀ a w, wpList P ops Q rest a w → K a w) → o.wp P a w K Q) : wpList P ops Q (o :: rest) a w :=
  wpList_step fun K hK => by simp only [hw, if_true]; exact h K hK
/-- two threads are compared -/
theorem step_eqth {ops : Array Oper} {rest : List Oper} {op : Oper} {a : Act} {w : World} {Q : Exit → Act → World → Prop} (x y : Operand) (ho : op.op = .binOp .eql 52 x y 52) (hw : Region.wanted op (yielded ops a.tmps) = true) (t u : Th) (ht : ThOk t) (hu : ThOk u)
    (hx : a.eval x = .agg (thC t)) (hy : a.eval y = .agg (thC u)) (h : wpList Tryd.prog ops Q rest (a.put op.dst (.bool (thEq t u))) w) : wpList Tryd.prog ops Q (op :: rest) a w :=
  wpList_wants hw fun K hK => by
    unfold Oper.wp execOp
    simp only [ho, hx, hy, Sem.run_bind, guard_th, eql_th w ht hu, Result.andThen_ok]
    exact hK _ _ h
theorem load_th_g {ops : Array Oper} {rest : List Oper} {op : Oper} {a : Act} {w : World} {Q : Exit → Act → World → Prop} (x : Operand) (ho : op.op = .load 52 x) (hw : Region.wanted op (yielded ops a.tmps) = true)
    (g : Nat) (hx : a.eval x = .pointer (some ⟨g, 0, none⟩)) (t : Th) (hg : Has w g (thC t) 52) (hs : ThOk t) (h : wpList Tryd.prog ops Q rest (a.put op.dst (.agg (thC t))) w) : wpList Tryd.prog ops Q (op :: rest) a w :=
  wpList_wants hw fun _ hK => wp_load_row 52 x ho g hx 52 (thC t) (0, 0) _ hg Tryd.underlying52 rfl (infoT_of hs) (hK _ _ h)
theorem load_mid_g {ops : Array Oper} {rest : List Oper} {op : Oper} {a : Act} {w : World} {Q : Exit → Act → World → Prop} (x : Operand) (ho : op.op = .load 52 x) (hw : Region.wanted op (yielded ops a.tmps) = true)
    (g o : Nat) (hx : a.eval x = .pointer (some ⟨g, o, none⟩)) (t : Th) (hg : w.rangeAt g o (thL t)) (hs : ThOk t) (h : wpList Tryd.prog ops Q rest (a.put op.dst (.agg (thC t))) w) : wpList Tryd.prog ops Q (op :: rest) a w :=
  wpList_wants hw fun _ hK => wp_load_mid 52 x ho g o hx (thL t) _ hg Tryd.underlying52 rfl (by have := infoT_of hs; rw [thC_size hs] at this; rw [this]; simp [thL, hs.len]) (hK _ _ h)
end Go.Proofs.YthbenfnanhpcoaaDoor
