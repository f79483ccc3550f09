/-
  What the end of CoreSame's walk takes: instructions made by an operation, threads compared, a yard as sameWorld reads it. No condition but what each law names.
-/
import Derived.Test.YtbmlliohepidaaaDoorTwh
import Derived.Test.YtbmlliohepidaaaDoorSwrl
namespace Go.Proofs.YtbmlliohepidaaaDoor
open Go.ChangeShapes Go.WideShapes Go.ChangeAt Go.RowKit
set_option linter.unusedVariables false
set_option maxRecDepth 20000

theorem exec_mk {o : Oper} {a : Act} {w : World} (x y : Operand) (ho : o.op = .makeSlice 26 x y) (n : Nat) (hn : n ≤ 300) (hx : a.eval x = .int .i64 n) (hy : a.eval y = .int .i64 n) :
    (execOp a.eval o).run Tryd.prog w = .ok (.value (.slice (some ⟨w.heap.size, 0, none⟩) n n)) (w.alloc (.cells (flatOf insL (List.replicate n ins0)).toArray 54)) := by
  unfold execOp
  simp only [ho, hx, hy, Sem.run_bind, make_ins w n hn, Result.andThen_ok, Sem.run_pure]
theorem exec_eqth {o : Oper} {a : Act} {w : World} (x y : Operand) (ho : o.op = .binOp .eql 25 x y 25) (t : Th) (ht : ThOk t) (hx : a.eval x = .agg (thC t)) (hy : a.eval y = .agg (thC t)) : (execOp a.eval o).run Tryd.prog w = .ok (.value (.bool true)) w := by
  unfold execOp
  simp only [ho, hx, hy, Sem.run_bind, guard_th, eql_th w ht ht, thEq_refl, Result.andThen_ok, Sem.run_pure]

/-- a yard's cells, as its world's parts lie -/
abbrev Sw.L (x : Sw) (m s : Nat) (asks : List UInt8) : List Value := [x.cs, x.ths, .slice (some ⟨x.gb, 0, none⟩) x.nb x.cb, .slice x.ma m x.mc, .int .i64 x.room, .slice x.sa s x.sc, x.ve, .bool false, .string ⟨asks.toArray⟩]
/-- a yard as sameWorld reads it -/
structure SwY (x : Sw) (y : Nat) (mem : List Int) (buf slp : List Ent) (n : Nat) (asks : List UInt8) (u : World) : Prop where
  hy : Has u y (x.L mem.length slp.length asks).toArray 43
  ok : SwOk x mem buf slp u
  ve : ∃ a c, x.ve = .slice a n c
theorem SwY.later {x : Sw} {y : Nat} {mem : List Int} {buf slp : List Ent} {n : Nat} {asks : List UInt8} {u u' : World} (h : SwY x y mem buf slp n asks u) (k : Gr u u') : SwY x y mem buf slp n asks u' :=
  ⟨h.hy.later k, h.ok.later k, h.ve⟩
theorem SwY.of {k : Yc} {s : Ys} {v1 v2 v3 : Value} {B : Array Value} {u : World} (h : Yd k s v1 v2 v3 B u) : ∃ x : Sw, SwY x k.y s.mem s.buf s.slp s.evs.length s.asks u := by
  obtain ⟨ma, mc, hm, rm, -, -, -⟩ := own_at h.mem
  obtain ⟨ba, bc, hb, rb, -, -, -⟩ := own_at h.buf
  obtain ⟨sa, sc, hs, rs, -, -, -⟩ := own_at h.slp
  obtain ⟨ea, ec, he, -, -, -, -⟩ := own_at h.evs
  refine ⟨⟨k.cs, .slice k.ta k.nt k.ct, k.gb, k.nb, k.cb, ma, mc, s.room, sa, sc, v3, ba, bc⟩, h.hy.of ?_, ⟨h.hnb, ?_, rm, rb, rs⟩, ea, ec, he⟩
  · show yardC k s.room s.asks v2 v3 = _
    unfold yardC
    rw [hm, hs]
  · rw [← hb]
    exact h.hgb.cell h.hB
theorem SwY.range {x : Sw} {y : Nat} {mem : List Int} {buf slp : List Ent} {n : Nat} {asks : List UInt8} {u : World} (h : SwY x y mem buf slp n asks u) : u.rangeAt y 0 (x.C mem.length slp.length).toList := by
  intro j v hv
  rw [Nat.zero_add]
  refine h.hy.cell ?_
  rw [List.getElem?_toArray]
  have e : x.L mem.length slp.length asks = (x.C mem.length slp.length).toList ++ [.string ⟨asks.toArray⟩] := rfl
  rw [e, List.getElem?_append_left (List.getElem?_eq_some_iff.1 hv).1]
  exact hv
/-- blocks of the one behind its port are none of the other's -/
theorem foot_apart {d : InD} {q : Yg} {z n : Nat} {k : Yc} {s : Ys} {v1 v2 v3 : Value} {B : Array Value} {u : World} (h : Yd k s v1 v2 v3 B u) (ap : ∀ x ∈ foot k v1 v2 v3, x ∉ z :: q.pt) (hn : u.heap.size ≤ n) : ∀ x ∈ foot ((q.k d z).boxes n) q.vbuf q.vs (.slice none 0 0), x ∉ foot k v1 v2 v3 := by
  intro x hx hf
  rcases foot_of hx with e | e
  · exact ap x hf e
  · have := (yi_inv k).bnd ⟨v1, v2, v3, B, h, rfl⟩ x hf
    omega
end Go.Proofs.YtbmlliohepidaaaDoor
