/-
  What a call owns stays owned behind writes to rows of other kinds; a step 'append' and a step 'call' of a region that draws its order. Worlds alone: no condition on inputs.
-/
import Derived.Test.YthooopcoemdphaaDoorCode
import Derived.Deep.RegionLaw
namespace Go.Proofs.YthooopcoemdphaaDoor
open Go.ChangeShapes Go.WideShapes Go.ChangeAt Go.RowKit
set_option linter.unusedVariables false

theorem heap_lt {w : World} {g : Nat} {o : Obj} (h : w.heap[g]? = some o) : g < w.heap.size := by
  rcases Nat.lt_or_ge g w.heap.size with h' | h'
  · exact h'
  · rw [Array.getElem?_eq_none h'] at h; cases h
theorem Kept.row {e t : TypeId} {B g : Nat} {w w' : World} {cur : Array Value} (k : Kept e B w w') (hne : t ≠ e) (h : w.heap[g]? = some (.cells cur t)) : w'.heap[g]? = some (.cells cur t) := by
  rw [k.block g (heap_lt h) (.inr (fun c f q => hne (by rw [h] at q; cases q; rfl)))]
  exact h
theorem Kept.own {e t : TypeId} {B B' sz n : Nat} {w w' : World} {v : Value} {xs : List Value} (k : Kept e B w w') (hne : t ≠ e) (h : w.ownsRow B' t sz v n xs) : w'.ownsRow B' t sz v n xs := by
  refine ⟨h.1, ?_⟩
  rcases h.2 with h2 | ⟨g, cap, cur, hv, hb, hg, h3⟩
  · exact .inl h2
  · exact .inr ⟨g, cap, cur, hv, hb, k.row hne hg, h3⟩
theorem Kept.setCell {t : TypeId} {g o : Nat} {w : World} {cur : Array Value} (B : Nat) (h : w.heap[g]? = some (.cells cur t)) (hB : B ≤ g) (u : Value) : Kept t B w (w.setCell ⟨g, o, none⟩ u) := by
  refine ⟨rfl, rfl, rfl, by simp [World.setCell], fun k hk hc => Below.heap_setCell _ _ _ _ ?_⟩
  show k ≠ g
  rintro rfl
  rcases hc with hc | hc
  · omega
  · exact hc _ _ h
theorem own_mono {w : World} {B B' sz n : Nat} {t : TypeId} {v : Value} {xs : List Value} (h : w.ownsRow B' t sz v n xs) (hB : B ≤ B') : w.ownsRow B t sz v n xs := by
  refine ⟨h.1, ?_⟩
  rcases h.2 with h2 | ⟨g, cap, cur, hv, hb, h3⟩
  · exact .inl h2
  · exact .inr ⟨g, cap, cur, hv, Nat.le_trans hB hb, h3⟩
theorem own_gr {w w' : World} {B sz n : Nat} {t : TypeId} {v : Value} {xs : List Value} (h : w.ownsRow B t sz v n xs) (g : Gr w w') : w'.ownsRow B t sz v n xs := by
  refine ⟨h.1, ?_⟩
  rcases h.2 with h2 | ⟨q, cap, cur, hv, hb, hg, h3⟩
  · exact .inl h2
  · exact .inr ⟨q, cap, cur, hv, hb, (g.block q (heap_lt hg)).trans hg, h3⟩
theorem row_set {w : World} {g : Nat} {cur : Array Value} {t : TypeId} (h : w.heap[g]? = some (.cells cur t)) (o : Nat) (u : Value) (ho : o < cur.size) : (w.setCell ⟨g, o, none⟩ u).heap[g]? = some (.cells (cur.setIfInBounds o u) t) := by
  simp [World.setCell, Array.getElem?_modify, h]

section
variable {P : Program} {ops : Array Oper} {o : Oper} {a : Act} {w : World} {K : Act → World → Prop} {Q : Exit → Act → World → Prop} {E : Prop}
/-- append onto what the call made, as one step of a region that draws -/
theorem step_append_own (hg : o.guard = none) (s x : Operand) (t : TypeId) (ho : o.op = .call { callee := .builtin .append, args := #[s, x], argTypes := #[t, t] })
    (base : Nat) (e : TypeId) (i : TypeInfo) (z : Value) (size bytes : Nat) (ht : P.underlying t = some (.slice e)) (hi : P.info? e = some i) (hz : i.zero = some z)
    (hsize : i.size = size) (hby : i.bytes = bytes) (hzs : z.cells.size = size) (hsz : 0 < size)
    (v : Value) (n : Nat) (xs : List Value) (hs : a.eval s = v) (hown : w.ownsRow base e size v n xs)
    (ad : Addr) (m c : Nat) (news : List Value) (hx : a.eval x = .slice (some ad) m c) (hl : news.length = m * size) (hnews : ∀ j u, news[j]? = some u → w.cell? (ad.add j) = some u) (h1 : ∀ u ∈ news, u.oneCell' = true)
    (h63 : n + m ≤ maxLen) (hbytes : (n + m) * bytes ≤ 140737488355328) (hbase : base ≤ w.heap.size)
    (h : ∀ v' w', w'.ownsRow base e size v' (n + m) (xs ++ news) → w.grownBy w' v.ownBlock → K (a.put o.dst v') w') :
    if Region.wanted o (yielded ops a.tmps) = true then Oper.wp P o a w K Q else E := by
  have hw : Region.wanted o (yielded ops a.tmps) = true := by simp [Region.wanted, hg]
  rw [if_pos hw]
  exact wp_append_own w s x t ho base e i z size bytes ht hi hz hsize hby hzs hsz v n xs hs hown ad m c news hx hl hnews h1 h63 hbytes hbase fun v' w' h2 h3 _ => h v' w' h2 h3
/-- a call by its contract, as one step of a region that draws -/
theorem step_call (hg : o.guard = none) (f : FuncId) (args : Array Value) (hrun : (execOp a.eval o).run P w = .ok (.enter f args) w) (R : Value → World → Prop)
    (hc : Calls P f args w fun e w' => ∃ v, e = .returned v ∧ R v w') (h : ∀ v w', R v w' → K (a.put o.dst v) w') :
    if Region.wanted o (yielded ops a.tmps) = true then Oper.wp P o a w K Q else E := by
  have hw : Region.wanted o (yielded ops a.tmps) = true := by simp [Region.wanted, hg]
  rw [if_pos hw]
  unfold Oper.wp
  rw [hrun, Oper.upon_enter]
  refine hc.mono fun e w'' hh => ?_
  obtain ⟨v, rfl, hR⟩ := hh
  exact h v w'' hR
end
end Go.Proofs.YthooopcoemdphaaDoor
