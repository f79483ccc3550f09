/-
  What a call owns stays owned behind writes to rows of other kinds; a step 'append' and a step 'call' of a region that draws its order; a map from names to places. Worlds alone: no condition on inputs.
-/
import Derived.Test.YtcfkcnkekdafgaaDoorLine
import Derived.OwnWalk
import Derived.ArgAppend
import Derived.Deep.RegionLaw
import Derived.Maps.OwnSet
import Derived.Maps.Views
namespace Go.Proofs.YtcfkcnkekdafgaaDoor
open Go.ChangeShapes Go.WideShapes Go.ChangeAt Go.RowKit
set_option linter.unusedVariables false

/-- all blocks below B, and all that are no rows of the kind e, are as they were -/
structure Kept (e : TypeId) (B : Nat) (w w' : World) : Prop where
  os : w'.os = w.os
  tape : w'.tape = w.tape
  output : w'.output = w.output
  size : w.heap.size ≤ w'.heap.size
  block : ∀ k, k < w.heap.size → (k < B ∨ ∀ cur fr, w.heap[k]? ≠ some (.cells cur e fr)) → w'.heap[k]? = w.heap[k]?
theorem Kept.refl (e : TypeId) (B : Nat) (w : World) : Kept e B w w := ⟨rfl, rfl, rfl, Nat.le_refl _, fun _ _ _ => rfl⟩
theorem Kept.trans {e : TypeId} {B : Nat} {a b c : World} (h : Kept e B a b) (k : Kept e B b c) : Kept e B a c :=
  ⟨k.os.trans h.os, k.tape.trans h.tape, k.output.trans h.output, Nat.le_trans h.size k.size, fun i hi hc =>
    (k.block i (Nat.lt_of_lt_of_le hi h.size) (by rw [h.block i hi hc]; exact hc)).trans (h.block i hi hc)⟩
theorem Kept.of_gr {e : TypeId} {B : Nat} {w w' : World} (h : Gr w w') : Kept e B w w' := ⟨h.os, h.tape, h.output, h.size, fun k hk _ => h.block k hk⟩
theorem Kept.grown {e : TypeId} {B size n : Nat} {w w' : World} {v : Value} {xs : List Value} (h : w.ownsRow B e size v n xs) (g : w.grownBy w' v.ownBlock) : Kept e B w w' := by
  refine ⟨g.os, g.tape, g.output, g.size, fun k hk hc => g.block k hk fun he => ?_⟩
  rcases h.2 with ⟨rfl, _⟩ | ⟨q, cap, cur, rfl, hb, hq, _⟩
  · simp [Value.ownBlock] at he
  · simp [Value.ownBlock] at he
    subst he
    rcases hc with hc | hc
    · omega
    · exact hc _ _ hq
theorem Kept.row {e t : TypeId} {B g : Nat} {w w' : World} {cur : Array Value} (k : Kept e B w w') (hne : t ≠ e) (h : w.heap[g]? = some (.cells cur t)) : w'.heap[g]? = some (.cells cur t) := by
  rw [k.block g (heap_lt h) (.inr (fun c f q => hne (by rw [h] at q; cases q; rfl)))]
  exact h
theorem Kept.own {e t : TypeId} {B B' sz n : Nat} {w w' : World} {v : Value} {xs : List Value} (k : Kept e B w w') (hne : t ≠ e) (h : w.ownsRow B' t sz v n xs) : w'.ownsRow B' t sz v n xs := by
  refine ⟨h.1, ?_⟩
  rcases h.2 with h2 | ⟨g, cap, cur, hv, hb, hg, h3⟩
  · exact .inl h2
  · exact .inr ⟨g, cap, cur, hv, hb, k.row hne hg, h3⟩
theorem Kept.setCell {t : TypeId} {g o : Nat} {w : World} {cur : Array Value} (B : Nat) (h : w.heap[g]? = some (.cells cur t)) (hB : B ≤ g) (u : Value) : Kept t B w (w.setCell ⟨g, o, none⟩ u) := by
  refine ⟨rfl, rfl, rfl, by simp [World.setCell], fun k hk hc => Below.heap_setCell _ _ _ _ ?_⟩
  show k ≠ g
  rintro rfl
  rcases hc with hc | hc
  · omega
  · exact hc _ _ h
theorem own_gr {w w' : World} {B sz n : Nat} {t : TypeId} {v : Value} {xs : List Value} (h : w.ownsRow B t sz v n xs) (g : Gr w w') : w'.ownsRow B t sz v n xs := by
  refine ⟨h.1, ?_⟩
  rcases h.2 with h2 | ⟨q, cap, cur, hv, hb, hg, h3⟩
  · exact .inl h2
  · exact .inr ⟨q, cap, cur, hv, hb, (g.block q (heap_lt hg)).trans hg, h3⟩
theorem own_keep {w w' : World} {B sz n : Nat} {t : TypeId} {v : Value} {xs : List Value} (h : w.ownsRow B t sz v n xs) (k : ∀ (g : Nat) (cur : Array Value), w.heap[g]? = some (Obj.cells cur t) → w'.heap[g]? = some (Obj.cells cur t)) : w'.ownsRow B t sz v n xs := by
  refine ⟨h.1, ?_⟩
  rcases h.2 with h2 | ⟨q, cap, cur, hv, hb, hg, h3⟩
  · exact .inl h2
  · exact .inr ⟨q, cap, cur, hv, hb, k _ _ hg, h3⟩
theorem own_shape {w : World} {B sz n : Nat} {t : TypeId} {v : Value} {xs : List Value} (h : w.ownsRow B t sz v n xs) : ∃ a c, v = .slice a n c := by
  rcases h.2 with ⟨hv, hn⟩ | ⟨q, cap, cur, hv, hb, hg, h3⟩
  · exact ⟨none, 0, by rw [hv, hn]⟩
  · exact ⟨_, _, hv⟩

section
variable {P : Program} {ops : Array Oper} {o : Oper} {a : Act} {w : World} {K : Act → World → Prop} {Q : Exit → Act → World → Prop} {E : Prop}
/-- append onto what the call made, as one step of a region that draws -/
theorem step_append_own (hg : o.guard = none) (s x : Operand) (t : TypeId) (ho : o.op = .call { callee := .builtin .append, args := #[s, x], argTypes := #[t, t] })
    (base : Nat) (e : TypeId) (i : TypeInfo) (z : Value) (size bytes : Nat) (ht : P.underlying t = some (.slice e)) (hi : P.info? e = some i) (hz : i.zero = some z)
    (hsize : i.size = size) (hby : i.bytes = bytes) (hzs : z.cells.size = size) (hsz : 0 < size)
    (v : Value) (n : Nat) (xs : List Value) (hs : a.eval s = v) (hown : w.ownsRow base e size v n xs)
    (ad : Addr) (m c : Nat) (news : List Value) (hx : a.eval x = .slice (some ad) m c) (hl : news.length = m * size) (hnews : ∀ j u, news[j]? = some u → w.cell? (ad.add j) = some u) (h1 : ∀ u ∈ news, u.oneCell' = true)
    (h63 : n + m ≤ maxLen) (hbytes : (n + m) * bytes ≤ 140737488355328) (hbase : base ≤ w.heap.size)
    (h : ∀ v' w', w'.ownsRow base e size v' (n + m) (xs ++ news) → w.grownBy w' v.ownBlock → K (a.put o.dst v') w') :
    if Region.wanted o (yielded ops a.tmps) = true then Oper.wp P o a w K Q else E := by
  have hw : Region.wanted o (yielded ops a.tmps) = true := by simp [Region.wanted, hg]
  rw [if_pos hw]
  exact wp_append_own w s x t ho base e i z size bytes ht hi hz hsize hby hzs hsz v n xs hs hown ad m c news hx hl hnews h1 h63 hbytes hbase fun v' w' h2 h3 _ => h v' w' h2 h3
/-- a call by its contract, as one step of a region that draws -/
theorem step_call (hg : o.guard = none) (f : FuncId) (args : Array Value) (hrun : (execOp a.eval o).run P w = .ok (.enter f args) w) (R : Value → World → Prop)
    (hc : Calls P f args w fun e w' => ∃ v, e = .returned v ∧ R v w') (h : ∀ v w', R v w' → K (a.put o.dst v) w') :
    if Region.wanted o (yielded ops a.tmps) = true then Oper.wp P o a w K Q else E := by
  have hw : Region.wanted o (yielded ops a.tmps) = true := by simp [Region.wanted, hg]
  rw [if_pos hw]
  unfold Oper.wp
  rw [hrun, Oper.upon_enter]
  refine hc.mono fun e w'' hh => ?_
  obtain ⟨v, rfl, hR⟩ := hh
  exact h v w'' hR
/-- a call that gives up, as one step of a region that draws; what is left has no case -/
theorem step_gone (hg : o.guard = none) (f : FuncId) (args : Array Value) (hrun : (execOp a.eval o).run P w = .ok (.enter f args) w) (c : List PanicEntry) (R : World → Prop)
    (hc : Calls P f args w fun e w' => e = .panicked c ∧ R w') (h : ∀ w', R w' → Q (.panic c) a w') (_ : False → K (a.put o.dst undef) w) :
    if Region.wanted o (yielded ops a.tmps) = true then Oper.wp P o a w K Q else E := by
  have hw : Region.wanted o (yielded ops a.tmps) = true := by simp [Region.wanted, hg]
  rw [if_pos hw]
  unfold Oper.wp
  rw [hrun, Oper.upon_enter]
  refine hc.mono fun e w'' hh => ?_
  obtain ⟨rfl, hR⟩ := hh
  exact h w'' hR
end

/-- a map from names to places lies in memory -/
def MapAt (w : World) (m : Nat) (ns : List (Bs × Nat)) : Prop :=
  ∃ D : DataW Unit, w.ownsMap Tryd.prog 9 (plainElem Tryd.prog 3) m ns.length D ∧ (∀ s : Bs, Maps.has D (.string s) = (look ns s).isSome) ∧ ∀ (s : Bs) (v : Nat), look ns s = some v → ∀ z, D.atKey (.string s) z = .lit (.int .i64 v)
theorem look_snoc (ns : List (Bs × Nat)) (s : Bs) (v : Nat) (h : look ns s = none) (r : Bs) : look (ns ++ [(s, v)]) r = if r = s then some v else look ns r := by
  induction ns with
  | nil =>
    by_cases e : r = s
    · subst e; simp [look]
    · have : ¬ s = r := fun h => e h.symm
      simp [look, e, this]
  | cons x xs ih =>
    simp only [look] at h
    split at h
    · cases h
    · rename_i hx
      rw [List.cons_append]
      simp only [look]
      by_cases hr : x.1 = r
      · rw [if_pos hr, if_pos hr]
        have : ¬ r = s := fun e => hx (hr.trans e)
        rw [if_neg this]
      · rw [if_neg hr, if_neg hr]
        exact ih h
theorem mapAt_made (w : World) : MapAt (w.alloc (.map #[] 0)) w.heap.size [] := by
  refine ⟨.map [], World.ownsMap_made _ _ _ _, fun s => ?_, fun s v h => ?_⟩
  · simp [look]
    rfl
  · simp [look] at h
theorem MapAt.keep {w w' : World} {m : Nat} {ns : List (Bs × Nat)} (h : MapAt w m ns) (k : ∀ es c, w.heap[m]? = some (.map es c) → w'.heap[m]? = some (.map es c)) : MapAt w' m ns := by
  obtain ⟨D, ⟨es, c, hb, h1⟩, h2⟩ := h
  exact ⟨D, ⟨es, c, k es c hb, h1⟩, h2⟩
theorem MapAt.map {w : World} {m : Nat} {ns : List (Bs × Nat)} (h : MapAt w m ns) : ∃ es c, w.heap[m]? = some (.map es c) := by
  obtain ⟨D, ⟨es, c, hb, h1⟩, h2⟩ := h
  exact ⟨es, c, hb⟩
theorem Kept.map {e : TypeId} {B m : Nat} {w w' : World} {ns : List (Bs × Nat)} (k : Kept e B w w') (h : MapAt w m ns) : MapAt w' m ns :=
  h.keep fun es c hb => (k.block m (heap_lt hb) (.inr fun cur fr q => by rw [hb] at q; cases q)).trans hb
theorem keyed9 : Maps.Keyed Tryd.prog 9 := Maps.string_keyed Tryd.underlying9
theorem key_of (s : Bs) (hs : s.length ≤ 9223372036854775807) : keyOf Tryd.prog 9 (.string ⟨s.toArray⟩) = some (.string s) := WideMaps.keyOf_string_mk Tryd.underlying9 (by rw [size_mk]; unfold maxLen; omega)
end Go.Proofs.YtcfkcnkekdafgaaDoor
