/-
  A builder in memory, by what it has gathered; the blocks that are its own; for any instruction: what Do makes of it. Conditions: at most 2^31 instructions.
-/
import Derived.Test.YtcfkcnkekdafgaaDoorPadd
import Derived.Maps.AppendAt
namespace Go.Proofs.YtcfkcnkekdafgaaDoor
open Go.ChangeShapes Go.WideShapes Go.ChangeAt Go.RowKit
set_option linter.unusedVariables false

section
variable {P : Program} {ops : Array Oper} {o : Oper} {a : Act} {w : World} {K : Act → World → Prop} {Q : Exit → Act → World → Prop} {E : Prop}
/-- append onto what the call made, as one step of a region that draws; where the new slice lies -/
theorem step_append_at (hg : o.guard = none) (s x : Operand) (t : TypeId) (ho : o.op = .call { callee := .builtin .append, args := #[s, x], argTypes := #[t, t] })
    (base : Nat) (e : TypeId) (i : TypeInfo) (z : Value) (size bytes : Nat) (ht : P.underlying t = some (.slice e)) (hi : P.info? e = some i) (hz : i.zero = some z)
    (hsize : i.size = size) (hby : i.bytes = bytes) (hzs : z.cells.size = size) (hsz : 0 < size)
    (v : Value) (n : Nat) (xs : List Value) (hs : a.eval s = v) (hown : w.ownsRow base e size v n xs)
    (ad : Addr) (m c : Nat) (news : List Value) (hx : a.eval x = .slice (some ad) m c) (hl : news.length = m * size) (hnews : ∀ j u, news[j]? = some u → w.cell? (ad.add j) = some u) (h1 : ∀ u ∈ news, u.oneCell' = true)
    (h63 : n + m ≤ maxLen) (hbytes : (n + m) * bytes ≤ 140737488355328) (hbase : base ≤ w.heap.size)
    (h : ∀ v' w', w'.ownsRow base e size v' (n + m) (xs ++ news) → w.grownBy w' v.ownBlock → (v'.ownBlock = v.ownBlock ∨ v'.ownBlock = some w.heap.size) → K (a.put o.dst v') w') :
    if Region.wanted o (yielded ops a.tmps) = true then Oper.wp P o a w K Q else E := by
  have hw : Region.wanted o (yielded ops a.tmps) = true := by simp [Region.wanted, hg]
  rw [if_pos hw]
  obtain ⟨v', w', hr, h2, h3, _, h5⟩ := run_append_own_at (P := P) w base t o.type e i z size bytes ht hi hz hsize hby hzs hsz v n xs hown ad m c news hl hnews h1 h63 hbytes hbase
  unfold Oper.wp execOp
  simp only [ho, resolve, invoke, builtin, Sem.run_bind, Sem.run_pure, Result.andThen_ok, List.map_toArray, List.map_cons, List.map_nil, hs, hx, hr]
  exact h v' w' h2 h3 h5
end

/-- all blocks but these are as they were -/
structure Ko (own : Nat → Prop) (w w' : World) : Prop where
  os : w'.os = w.os
  tape : w'.tape = w.tape
  output : w'.output = w.output
  size : w.heap.size ≤ w'.heap.size
  block : ∀ k, k < w.heap.size → ¬ own k → w'.heap[k]? = w.heap[k]?
theorem Ko.refl (own : Nat → Prop) (w : World) : Ko own w w := ⟨rfl, rfl, rfl, Nat.le_refl _, fun _ _ _ => rfl⟩
theorem Ko.of_gr {own : Nat → Prop} {w w' : World} (h : Gr w w') : Ko own w w' := ⟨h.os, h.tape, h.output, h.size, fun k hk _ => h.block k hk⟩
theorem Ko.trans {own own' : Nat → Prop} {a b c : World} (h : Ko own a b) (k : Ko own' b c) (ho : ∀ i, own' i → own i ∨ a.heap.size ≤ i) : Ko own a c :=
  ⟨k.os.trans h.os, k.tape.trans h.tape, k.output.trans h.output, Nat.le_trans h.size k.size, fun i hi hn => (k.block i (Nat.lt_of_lt_of_le hi h.size) (fun hc => by rcases ho i hc with h1 | h1; exact hn h1; omega)).trans (h.block i hi hn)⟩
theorem Ko.gr {own : Nat → Prop} {w w1 w2 : World} (h : Gr w w1) (ho : ∀ i, own i → w.heap.size ≤ i) (k : Ko own w1 w2) : Gr w w2 :=
  Below.trans h ⟨k.os, k.tape, k.output, k.size, fun i hi => k.block i (Nat.lt_of_lt_of_le hi h.size) (fun hc => by have := ho i hc; omega)⟩
theorem Ko.grown {own : Nat → Prop} {w w' : World} {row : Option Nat} (g : w.grownBy w' row) (h : ∀ k, row = some k → own k) : Ko own w w' :=
  ⟨g.os, g.tape, g.output, g.size, fun k hk hn => g.block k hk (fun e => hn (h k e.symm))⟩
theorem Ko.setCell {own : Nat → Prop} {w : World} {g o : Nat} (h : own g) (v : Value) : Ko own w (w.setCell ⟨g, o, none⟩ v) :=
  ⟨rfl, rfl, rfl, by simp [World.setCell], fun k hk hn => Below.heap_setCell _ _ _ _ (fun e => hn (by rw [e]; exact h))⟩

/-- a builder lies in memory -/
structure BRow (w : World) (own : Nat → Prop) (g : Nat) (vc vm vj : Value) (st : St) (wr : Bool) : Prop where
  row : w.heap[g]? = some (.cells #[vc, vm, vj, .bool wr] 41)
  oc : w.ownsRow 0 28 5 vc st.code.length (codeV st.code)
  oj : w.ownsRow 0 64 2 vj st.jumps.length (jumpsV st.jumps)
  mp : (vm = .map none ∧ st.names = []) ∨ ∃ m, vm = .map (some m) ∧ MapAt w m st.names ∧ own m
  og : own g
  wc : ∀ k, vc.ownBlock = some k → own k
  wj : ∀ k, vj.ownBlock = some k → own k
  lt : ∀ k, own k → k < w.heap.size
def BAt (w : World) (own : Nat → Prop) (g : Nat) (st : St) (wr : Bool) : Prop := ∃ vc vm vj, BRow w own g vc vm vj st wr
theorem BRow.gr {w w' : World} {own : Nat → Prop} {g : Nat} {vc vm vj : Value} {st : St} {wr : Bool} (h : BRow w own g vc vm vj st wr) (k : Gr w w') : BRow w' own g vc vm vj st wr := by
  refine ⟨(k.block g (heap_lt h.row)).trans h.row, own_gr h.oc k, own_gr h.oj k, ?_, h.og, h.wc, h.wj, fun i hi => Nat.lt_of_lt_of_le (h.lt i hi) k.size⟩
  rcases h.mp with h1 | ⟨m, h1, h2, h3⟩
  · exact .inl h1
  · exact .inr ⟨m, h1, h2.keep fun es c hb => (k.block m (heap_lt hb)).trans hb, h3⟩
theorem BAt.gr {w w' : World} {own : Nat → Prop} {g : Nat} {st : St} {wr : Bool} (h : BAt w own g st wr) (k : Gr w w') : BAt w' own g st wr := by
  obtain ⟨vc, vm, vj, h⟩ := h
  exact ⟨vc, vm, vj, h.gr k⟩
/-- what a call of a builder leaves -/
def BldP (own : Nat → Prop) (g : Nat) (st : St) (wr : Bool) (w : World) (e : Ending) (w' : World) : Prop :=
  e = .returned (.tuple #[]) ∧ ∃ own', BAt w' own' g st wr ∧ (∀ k, own' k → own k ∨ w.heap.size ≤ k) ∧ Ko own w w'
/-- its own blocks behind an append -/
def more (own : Nat → Prop) (v : Value) : Nat → Prop := fun k => own k ∨ v.ownBlock = some k
theorem more_lt {own : Nat → Prop} {w1 w2 : World} {e t : TypeId} {sz n g o : Nat} {v' u : Value} {xs : List Value} (h : ∀ k, own k → k < w1.heap.size) (k : Kept e 0 w1 w2) (ho : w2.ownsRow 0 t sz v' n xs) : ∀ i, more own v' i → i < (w2.setCell ⟨g, o, none⟩ u).heap.size := by
  intro i hi
  have hs : (w2.setCell ⟨g, o, none⟩ u).heap.size = w2.heap.size := by simp [World.setCell]
  rw [hs]
  rcases hi with hi | hi
  · exact Nat.lt_of_lt_of_le (h i hi) k.size
  · rcases ho.2 with ⟨rfl, _⟩ | ⟨q, cap, cur, rfl, _, hq, _⟩
    · simp [Value.ownBlock] at hi
    · simp [Value.ownBlock] at hi
      subst hi
      exact heap_lt hq
section
variable {w1 w2 : World} {own : Nat → Prop} {g : Nat} {vc vm vj v' : Value} {st : St} {wr : Bool}
theorem BRow.addC (h : BRow w1 own g vc vm vj st wr) (k : Kept 28 0 w1 w2) {cs : List Ins} (o : w2.ownsRow 0 28 5 v' cs.length (codeV cs)) :
    BRow (w2.setCell ⟨g, 0, none⟩ v') (more own v') g v' vm vj ⟨cs, st.lines, st.names, st.jumps⟩ wr := by
  have r2 := k.row (show 41 ≠ 28 by decide) h.row
  have k2 : Kept 41 0 w2 (w2.setCell ⟨g, 0, none⟩ v') := Kept.setCell 0 r2 (Nat.zero_le _) v'
  refine ⟨row_set r2 0 v', k2.own (by decide) o, k2.own (by decide) (k.own (by decide) h.oj), ?_, .inl h.og, fun i hi => .inr hi, fun i hi => .inl (h.wj i hi), more_lt h.lt k o⟩
  rcases h.mp with h1 | ⟨m, h1, h2, h3⟩
  · exact .inl h1
  · exact .inr ⟨m, h1, k2.map (k.map h2), .inl h3⟩
theorem BRow.addJ (h : BRow w1 own g vc vm vj st wr) (k : Kept 64 0 w1 w2) {js : List (Nat × Bs)} (o : w2.ownsRow 0 64 2 v' js.length (jumpsV js)) :
    BRow (w2.setCell ⟨g, 2, none⟩ v') (more own v') g vc vm v' ⟨st.code, st.lines, st.names, js⟩ wr := by
  have r2 := k.row (show 41 ≠ 64 by decide) h.row
  have k2 : Kept 41 0 w2 (w2.setCell ⟨g, 2, none⟩ v') := Kept.setCell 0 r2 (Nat.zero_le _) v'
  refine ⟨row_set r2 2 v', k2.own (by decide) (k.own (by decide) h.oc), k2.own (by decide) o, ?_, .inl h.og, fun i hi => .inl (h.wc i hi), fun i hi => .inr hi, more_lt h.lt k o⟩
  rcases h.mp with h1 | ⟨m, h1, h2, h3⟩
  · exact .inl h1
  · exact .inr ⟨m, h1, k2.map (k.map h2), .inl h3⟩
end
theorem more_new {own : Nat → Prop} {v v' : Value} {n m : Nat} (hw : ∀ k, v.ownBlock = some k → own k) (h : v'.ownBlock = v.ownBlock ∨ v'.ownBlock = some n) (hn : m ≤ n) : ∀ k, more own v' k → own k ∨ m ≤ k := by
  intro k hk
  rcases hk with hk | hk
  · exact .inl hk
  · rcases h with h | h
    · exact .inl (hw k (h ▸ hk))
    · rw [h] at hk
      cases hk
      exact .inr hn

set_option maxRecDepth 10000 in
set_option maxHeartbeats 800000 in
theorem do_calls (i : Ins) (own : Nat → Prop) (g : Nat) (st : St) (wr : Bool) (w : World) (hP : BAt w own g st wr) (h4 : st.code.length ≤ 2147483648) :
    Calls Tryd.prog 16 #[.pointer (some ⟨g, 0, none⟩), insV i.op i.a i.b i.c i.k] w (BldP own g ⟨st.code ++ [i], st.lines, st.names, st.jumps⟩ wr w) := by
  obtain ⟨vc, vm, vj, hP⟩ := hP
  have hg1 := (Gr.refl w).alloc #[.int .i64 i.op, .int .i64 i.a, .int .i64 i.b, .int .i64 i.c, .int .u32 i.k] 28
  have IB : Hid ((w.alloc (.cells #[.int .i64 i.op, .int .i64 i.a, .int .i64 i.b, .int .i64 i.c, .int .u32 i.k] 28)).heap[w.heap.size]? = some (.cells #[.int .i64 i.op, .int .i64 i.a, .int .i64 i.b, .int .i64 i.c, .int .u32 i.k] 28)) := heap_alloc_new w _
  have P1 := hide (hP.gr hg1)
  clear hP
  obtain ⟨i3, hi3, hz30, hz31, hz32⟩ := info_parts infoI
  obtain ⟨a0, c0, rfl⟩ := own_shape P1.out.oc
  go_enter Tryd.func16, Tryd.ntmps16
  go_wp2_with (fail)
  have hs1 := hg1.size
  have HG1 := hide hg1
  clear hg1
  generalize w.alloc (.cells #[.int .i64 i.op, .int .i64 i.a, .int .i64 i.b, .int .i64 i.c, .int .u32 i.k] 28) = w2 at HG1 IB P1 hs1 ⊢
  have HSZ := hide hs1
  generalize hb0 : w.heap.size = b0 at IB HSZ ⊢
  clear hb0
  have x0 := row_cell IB.out 0
  have x1 := row_cell IB.out 1
  have x2 := row_cell IB.out 2
  have x3 := row_cell IB.out 3
  have x4 := row_cell IB.out 4
  have p0 := row_cell P1.out.row 0
  simp only [List.getElem?_toArray, List.getElem?_cons_zero, List.getElem?_cons_succ] at x0 x1 x2 x3 x4 p0
  have G2 := (Gr.refl w2).alloc #[.int .i64 i.op, .int .i64 i.a, .int .i64 i.b, .int .i64 i.c, .int .u32 i.k] 28
  have O6 : Hid ((w2.alloc (.cells #[.int .i64 i.op, .int .i64 i.a, .int .i64 i.b, .int .i64 i.c, .int .u32 i.k] 28)).drew.ownsRow 0 28 5 (.slice a0 st.code.length c0) st.code.length (codeV st.code)) := own_gr P1.out.oc G2.drew
  have N6 : Hid (∀ (j : Nat) (u : Value), ([.int .i64 i.op, .int .i64 i.a, .int .i64 i.b, .int .i64 i.c, .int .u32 i.k] : List Value)[j]? = some u → (w2.alloc (.cells #[.int .i64 i.op, .int .i64 i.a, .int .i64 i.b, .int .i64 i.c, .int .u32 i.k] 28)).drew.cell? ((⟨w2.heap.size, 0, none⟩ : Addr).add j) = some u) := lit_cells w2 [.int .i64 i.op, .int .i64 i.a, .int .i64 i.b, .int .i64 i.c, .int .u32 i.k] 28
  have U6 : Hid (∀ u ∈ ([.int .i64 i.op, .int .i64 i.a, .int .i64 i.b, .int .i64 i.c, .int .u32 i.k] : List Value), u.oneCell' = true) := by intro u hu; simp at hu; rcases hu with rfl | rfl | rfl | rfl | rfl <;> rfl
  have p0' := cell_later G2 p0
  have y0 := cell_later G2 x0
  have y1 := cell_later G2 x1
  have y2 := cell_later G2 x2
  have y3 := cell_later G2 x3
  have y4 := cell_later G2 x4
  have HG2 := hide G2
  have HI := hide IB
  clear G2 hs1
  go_region_law (
     refine step_append_at (by rfl) (.tmp 8) (.tmp 10) 22 (by rfl) 0 28 i3 zeroI 5 40 Tryd.underlying22 hi3 hz30 hz31 hz32 rfl (by decide) (.slice a0 st.code.length c0) st.code.length _ (by rfl) O6.out ⟨w2.heap.size, 0, none⟩ 1 1 [.int .i64 i.op, .int .i64 i.a, .int .i64 i.b, .int .i64 i.c, .int .u32 i.k] (by rfl) rfl N6.out U6.out (by unfold maxLen; omega) (by omega) (Nat.zero_le _) ?_
     intro v' w7 hown7 hgrow7 hat7
     have K7 : Hid (Kept 28 0 w2 w7) := (Kept.of_gr HG2.out.drew).trans (Kept.grown O6.out hgrow7)
     have KO : Hid (Ko own w2 w7) := Ko.trans (own' := own) (Ko.of_gr HG2.out.drew) (Ko.grown hgrow7 P1.out.wc) (fun i h => .inl h)
     have r7 := K7.out.row (show 41 ≠ 28 by decide) P1.out.row
     have q7 := row_cell r7 0
     have z7 := row_frozen r7 0
     simp only [List.getElem?_toArray, List.getElem?_cons_zero] at q7
     obtain ⟨a7, c7, rfl⟩ := own_shape hown7
     have own7 : Hid (w7.ownsRow 0 28 5 (.slice a7 (st.code.length + 1) c7) (st.code ++ [i]).length (codeV (st.code ++ [i]))) := by
       show w7.ownsRow _ _ _ _ _ _
       rw [codeV_snoc, List.length_append]
       exact hown7
     have HAT := hide hat7
     clear hown7 hgrow7 r7 hat7)
  all_goals
    go_wp2
    go_end0
    have MN := more_new (own := own) (v := .slice a0 st.code.length c0) P1.out.wc HAT.out (show w.heap.size ≤ (w2.alloc (.cells #[.int .i64 i.op, .int .i64 i.a, .int .i64 i.b, .int .i64 i.c, .int .u32 i.k] 28)).drew.heap.size by have := HG1.out.size; have := HG2.out.size; simp; omega)
    exact ⟨rfl, _, ⟨_, _, _, P1.out.addC K7.out own7.out⟩, MN, Ko.trans (own' := own) (Ko.trans (own' := own) (Ko.of_gr HG1.out) KO.out (fun i h => .inl h)) (Ko.setCell P1.out.og _) (fun i h => .inl h)⟩
end Go.Proofs.YtcfkcnkekdafgaaDoor
