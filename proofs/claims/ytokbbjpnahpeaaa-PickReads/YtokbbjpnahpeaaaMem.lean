/-
  Blocks of a world, known whole; worlds that keep all but some blocks; picks and what is due, as cells. No condition but what each law names.
-/
import Derived.Test.YtokbbjpnahpeaaaEvn
import Derived.WalkKit
import Derived.Below
import Derived.ProofKit
import Derived.OpenShut
import Derived.WalkSpells
import Derived.WalkLawsBesides
import Derived.MakeChecks
import Derived.LaidMore
import Derived.Deep.MidRow
import Derived.Laws.Rows
import Derived.Laws.Tables
import Derived.Deep.RegionHeld3
import Derived.Deep.WholeRow
import Derived.BigQuiet
import Derived.Deep.QuietTactic
import Derived.Laws.AppendOwn
import Derived.Laws.OwnMore
import Derived.Maps.AppendAt
import Derived.Test.YtokbbjpnahpeaaaLate
namespace Go.Proofs.Ytokbbjpnahpeaaa
open Go.ChangeShapes Go.WideShapes Go.ChangeAt Go.RowKit
set_option linter.unusedVariables false

/-- the world has new blocks alone -/
def Gr (w w' : World) : Prop := Below w.heap.size w w'
theorem Gr.refl (w : World) : Gr w w := Below.refl _ w
theorem Gr.alloc {w w' : World} (h : Gr w w') (c : Array Value) (t : TypeId) : Gr w (w'.alloc (.cells c t)) := Below.alloc h h.size _
theorem Gr.setCell {w w' : World} (h : Gr w w') {a : Addr} (ha : w.heap.size ≤ a.block) (v : Value) : Gr w (w'.setCell a v) := Below.setCell h ha v
theorem Gr.drew {w w' : World} (h : Gr w w') : Gr w w'.drew := Below.drew h
theorem Gr.trans {a b c : World} (h : Gr a b) (k : Gr b c) : Gr a c := Below.trans h (Below.mono k h.size)
theorem hide {p : Prop} (h : p) : Hid p := h
theorem ret_int {k : IntKind} {a b : Int} (h : a = b) : Ending.returned (.int k a) = .returned (.int k b) := by rw [h]

/-- the block g has these cells -/
def Has (w : World) (g : Nat) (C : Array Value) (t : TypeId) : Prop := w.heap[g]? = some (.cells C t (0, 0))
theorem Has.of {w : World} {g : Nat} {C D : Array Value} {t : TypeId} (h : Has w g C t) (e : C = D) : Has w g D t := by rw [← e]; exact h
theorem Has.lt {w : World} {g : Nat} {C : Array Value} {t : TypeId} (h : Has w g C t) : g < w.heap.size := (Array.getElem?_eq_some_iff.1 h).1
theorem Has.later {w w' : World} {g : Nat} {C : Array Value} {t : TypeId} (h : Has w g C t) (k : Gr w w') : Has w' g C t := (k.block g h.lt).trans h
theorem Has.new (w : World) (C : Array Value) (t : TypeId) : Has (w.alloc (.cells C t)) w.heap.size C t := by show (w.heap.push _)[w.heap.size]? = _; simp
theorem Has.alloc {w : World} {g : Nat} {C : Array Value} {t : TypeId} (h : Has w g C t) (D : Array Value) (u : TypeId) : Has (w.alloc (.cells D u)) g C t := h.later ((Gr.refl w).alloc D u)
theorem Has.cell {w : World} {g : Nat} {C : Array Value} {t : TypeId} (h : Has w g C t) {o : Nat} {v : Value} (hv : C[o]? = some v) : w.cell? ⟨g, o, none⟩ = some v := (cell_of_row w g o C t (0, 0) h).trans hv
theorem Has.free {w : World} {g : Nat} {C : Array Value} {t : TypeId} (h : Has w g C t) (o : Nat) : w.frozen? ⟨g, o, none⟩ = false := frozen_of_row w g o C t h
theorem Has.drew {w : World} {g : Nat} {C : Array Value} {t : TypeId} (h : Has w g C t) : Has w.drew g C t := h
theorem Has.drewN {w : World} {g : Nat} {C : Array Value} {t : TypeId} (h : Has w g C t) (n : Nat) : Has (w.drewN n) g C t := h
theorem Gr.drewN {w w' : World} (h : Gr w w') (n : Nat) : Gr w (w'.drewN n) := ⟨h.os, h.tape, h.output, h.size, h.block⟩
theorem Has.apart {w : World} {g k : Nat} {C D : Array Value} {t u : TypeId} (h : Has w g C t) (h' : Has w k D u) (ht : t ≠ u) : g ≠ k := by
  rintro rfl
  have e := Option.some.inj (h.symm.trans h')
  injection e with _ e2 _
  exact ht e2
theorem Gr.undrew {w w' : World} (h : Gr w.drew w') : Gr w w' := ⟨h.os, h.tape, h.output, h.size, h.block⟩
theorem Has.set {w : World} {g : Nat} {C : Array Value} {t : TypeId} (h : Has w g C t) (o : Nat) (v : Value) : Has (w.setCell ⟨g, o, none⟩ v) g (C.setIfInBounds o v) t := heap_setCell_same w g o C t v h
theorem Has.aside {w : World} {g k : Nat} {C : Array Value} {t : TypeId} (h : Has w g C t) (hk : g ≠ k) (o : Nat) (v : Value) : Has (w.setCell ⟨k, o, none⟩ v) g C t := (Below.heap_setCell w ⟨k, o, none⟩ v g hk).trans h
theorem Has.row {w : World} {g : Nat} {C : Array Value} {t : TypeId} (h : Has w g C t) (D : Array Value) : Has (w.setRow g D) g D t := setRow_heap w g C D t (0, 0) h
theorem Has.rowAside {w : World} {g k : Nat} {C : Array Value} {t : TypeId} (h : Has w g C t) (hk : g ≠ k) (D : Array Value) : Has (w.setRow k D) g C t := (setRow_other w k g D hk).trans h
theorem Gr.setRow {w w' : World} (h : Gr w w') {g : Nat} (hg : w.heap.size ≤ g) (D : Array Value) : Gr w (w'.setRow g D) :=
  ⟨h.os, h.tape, h.output, by rw [size_setRow]; exact h.size, fun k hk => (setRow_other w' g k D (by omega)).trans (h.block k hk)⟩

theorem ret_true {b : Bool} (h : b = true) : Ending.returned (.bool b) = .returned (.bool true) := by rw [h]
theorem Has.there {w : World} {g : Nat} {C : Array Value} {t : TypeId} (h : Has w g C t) (o n : Nat) (hn : o + n ≤ C.size) : w.there g o n := by
  intro j hj
  refine ⟨?_, h.free _⟩
  rw [h.cell (o := o + j) (Array.getElem?_eq_getElem (by omega))]
  rfl
/-- the world keeps all but some blocks, and has new ones -/
structure Kp (e : List Nat) (w w' : World) : Prop where
  os : w'.os = w.os
  tape : w'.tape = w.tape
  output : w'.output = w.output
  size : w.heap.size ≤ w'.heap.size
  block : ∀ k, k < w.heap.size → k ∉ e → w'.heap[k]? = w.heap[k]?
theorem Gr.kp {w w' : World} (h : Gr w w') (e : List Nat) : Kp e w w' := ⟨h.os, h.tape, h.output, h.size, fun k hk _ => h.block k hk⟩
theorem Kp.refl (e : List Nat) (w : World) : Kp e w w := (Gr.refl w).kp e
/-- one behind the other; what is not kept is named, or new -/
theorem Kp.trans {e d f : List Nat} {a b c : World} (h : Kp e a b) (k : Kp d b c) (h1 : ∀ x ∈ e, x ∈ f) (h2 : ∀ x ∈ d, x ∈ f ∨ a.heap.size ≤ x) : Kp f a c :=
  ⟨k.os.trans h.os, k.tape.trans h.tape, k.output.trans h.output, Nat.le_trans h.size k.size, fun x hx hf =>
    (k.block x (Nat.lt_of_lt_of_le hx h.size) (fun q => (h2 x q).elim hf (fun h3 => absurd h3 (Nat.not_le.2 hx)))).trans (h.block x hx (fun q => hf (h1 x q)))⟩
theorem Kp.gr {e : List Nat} {w0 w w' : World} (h : Gr w0 w) (k : Kp e w w') (h2 : ∀ x ∈ e, w0.heap.size ≤ x) : Gr w0 w' :=
  ⟨k.os.trans h.os, k.tape.trans h.tape, k.output.trans h.output, Nat.le_trans h.size k.size, fun x hx =>
    (k.block x (Nat.lt_of_lt_of_le hx h.size) (fun q => by have := h2 x q; omega)).trans (h.block x hx)⟩
theorem Has.kept {w w' : World} {g : Nat} {C : Array Value} {t : TypeId} {e : List Nat} (h : Has w g C t) (k : Kp e w w') (hg : g ∉ e) : Has w' g C t := (k.block g h.lt hg).trans h
theorem Kp.setRow (w : World) (g : Nat) (D : Array Value) : Kp [g] w (w.setRow g D) :=
  ⟨rfl, rfl, rfl, by rw [size_setRow]; exact Nat.le_refl _, fun k hk hg => setRow_other w g k D (by simpa using hg)⟩
theorem Kp.setCell (w : World) (g o : Nat) (v : Value) : Kp [g] w (w.setCell ⟨g, o, none⟩ v) :=
  have h : Below 0 w (w.setCell ⟨g, o, none⟩ v) := Below.setCell (Below.refl 0 w) (Nat.zero_le _) v
  ⟨h.os, h.tape, h.output, h.size, fun k hk hg => Below.heap_setCell w ⟨g, o, none⟩ v k (by simpa using hg)⟩


/-- picks as cells -/
abbrev pkV (x : Pk) : Value := .agg #[.int .i64 x.1, .int .i64 x.2]
def pkC (x : Pk) : List Value := [.int .i64 x.1, .int .i64 x.2]
def flatP (r : List Pk) : List Value := r.flatMap pkC
theorem flatP_cons (x : Pk) (r : List Pk) : flatP (x :: r) = .int .i64 x.1 :: .int .i64 x.2 :: flatP r := rfl
theorem flatP_append (r s : List Pk) : flatP (r ++ s) = flatP r ++ flatP s := by simp [flatP]
theorem flatP_length : ∀ r : List Pk, (flatP r).length = r.length * 2
  | [] => rfl
  | x :: r => by rw [flatP_cons]; simp [flatP_length r]; omega
theorem flatP_a : ∀ (r : List Pk) (i : Nat), (flatP r)[i * 2]? = r[i]?.map fun x => Value.int .i64 x.1
  | [], i => by simp [flatP]
  | x :: r, 0 => rfl
  | x :: r, i + 1 => by
    rw [flatP_cons, show (i + 1) * 2 = i * 2 + 1 + 1 from by omega, List.getElem?_cons_succ, List.getElem?_cons_succ, List.getElem?_cons_succ, flatP_a r i]
theorem flatP_v : ∀ (r : List Pk) (i : Nat), (flatP r)[i * 2 + 1]? = r[i]?.map fun x => Value.int .i64 x.2
  | [], i => by simp [flatP]
  | x :: r, 0 => rfl
  | x :: r, i + 1 => by
    rw [flatP_cons, show (i + 1) * 2 + 1 = i * 2 + 1 + 1 + 1 from by omega, List.getElem?_cons_succ, List.getElem?_cons_succ, List.getElem?_cons_succ, flatP_v r i]
theorem flatP_set : ∀ (r : List Pk) (i : Nat) (x : Pk), flatP (r.set i x) = ((flatP r).set (i * 2) (.int .i64 x.1)).set (i * 2 + 1) (.int .i64 x.2)
  | [], i, x => by simp [flatP]
  | y :: r, 0, x => by simp [flatP_cons]
  | y :: r, i + 1, x => by
    rw [List.set_cons_succ, flatP_cons, flatP_cons, flatP_set r i x, show (i + 1) * 2 + 1 = i * 2 + 1 + 1 + 1 from by omega, show (i + 1) * 2 = i * 2 + 1 + 1 from by omega]
    simp
theorem flatP_one (r : List Pk) : ∀ v ∈ flatP r, v.oneCell' = true := by
  intro v hv
  unfold flatP at hv
  obtain ⟨x, _, hx⟩ := List.mem_flatMap.1 hv
  simp only [pkC, List.mem_cons, List.not_mem_nil, or_false] at hx
  rcases hx with rfl | rfl <;> rfl
theorem flatPC_a (l : List Pk) (i : Nat) (hi : i < l.length) : (flatP l).toArray[i * 2]? = some (.int .i64 (l.getD i p0).1) := by
  rw [List.getElem?_toArray, flatP_a, List.getD_eq_getElem?_getD, List.getElem?_eq_getElem hi]; rfl
theorem flatPC_v (l : List Pk) (i : Nat) (hi : i < l.length) : (flatP l).toArray[i * 2 + 1]? = some (.int .i64 (l.getD i p0).2) := by
  rw [List.getElem?_toArray, flatP_v, List.getD_eq_getElem?_getD, List.getElem?_eq_getElem hi]; rfl
theorem flatPC_size (l : List Pk) : (flatP l).toArray.size = l.length * 2 := by simp [flatP_length]

/-- a slice of picks: none, or their cells from an address on -/
def PicksAt (w : World) (a : Option Addr) (l : List Pk) : Prop :=
  l = [] ∨ ∃ b off, a = some ⟨b, off, none⟩ ∧ ∀ i, i < l.length → w.cell? ⟨b, off + i * 2, none⟩ = some (.int .i64 (l.getD i p0).1) ∧ w.cell? ⟨b, off + i * 2 + 1, none⟩ = some (.int .i64 (l.getD i p0).2)
theorem cell_same {w w' : World} {b : Nat} (o : Nat) (h : w'.heap[b]? = w.heap[b]?) : w'.cell? ⟨b, o, none⟩ = w.cell? ⟨b, o, none⟩ := by
  simp only [World.cell?, h]
theorem PicksAt.move {w w' : World} {a : Option Addr} {l : List Pk} (h : PicksAt w a l) (hk : ∀ y, a = some y → y.block < w.heap.size → w'.heap[y.block]? = w.heap[y.block]?) : PicksAt w' a l := by
  rcases h with h | ⟨b, off, ha, h⟩
  · exact .inl h
  · refine .inr ⟨b, off, ha, fun i hi => ?_⟩
    obtain ⟨h1, h2⟩ := h i hi
    have hb : w'.heap[b]? = w.heap[b]? := hk ⟨b, off, none⟩ ha (block_lt_of_cell (a := ⟨b, off + i * 2, none⟩) h1)
    exact ⟨(cell_same _ hb).trans h1, (cell_same _ hb).trans h2⟩
theorem PicksAt.later {w w' : World} {a : Option Addr} {l : List Pk} (h : PicksAt w a l) (g : Gr w w') : PicksAt w' a l := h.move fun y _ hy => g.block _ hy
theorem PicksAt.below {w w' w0 : World} {a : Option Addr} {l : List Pk} (h : PicksAt w a l) (g : Below w.heap.size w w') : PicksAt w' a l := h.move fun y _ hy => g.block _ hy
theorem PicksAt.get {w : World} {a : Option Addr} {l : List Pk} (h : PicksAt w a l) {i : Nat} (hi : i < l.length) :
    ∃ b off, a = some ⟨b, off, none⟩ ∧ w.cell? ⟨b, off + i * 2, none⟩ = some (.int .i64 (l.getD i p0).1) ∧ w.cell? ⟨b, off + i * 2 + 1, none⟩ = some (.int .i64 (l.getD i p0).2) := by
  rcases h with h | ⟨b, off, ha, h⟩
  · subst h; simp at hi
  · exact ⟨b, off, ha, h i hi⟩
theorem PicksAt.drop {w : World} {b off : Nat} {l : List Pk} (h : PicksAt w (some ⟨b, off, none⟩) l) (n : Nat) : PicksAt w (some ⟨b, off + n * 2, none⟩) (l.drop n) := by
  rcases h with h | ⟨b', off', ha, h⟩
  · subst h; exact .inl (by simp)
  · cases ha
    refine .inr ⟨b, off + n * 2, rfl, fun i hi => ?_⟩
    rw [List.length_drop] at hi
    obtain ⟨h1, h2⟩ := h (n + i) (by omega)
    have e : off + (n + i) * 2 = off + n * 2 + i * 2 := by omega
    have e2 : (l.drop n).getD i p0 = l.getD (n + i) p0 := by simp [List.getD_eq_getElem?_getD]
    rw [e] at h1 h2
    rw [e2]
    exact ⟨h1, h2⟩
theorem PicksAt.take {w : World} {a : Option Addr} {l : List Pk} (h : PicksAt w a l) (n : Nat) : PicksAt w a (l.take n) := by
  rcases h with h | ⟨b, off, ha, h⟩
  · subst h; exact .inl (by simp)
  · refine .inr ⟨b, off, ha, fun i hi => ?_⟩
    rw [List.length_take] at hi
    have e2 : (l.take n).getD i p0 = l.getD i p0 := by
      rw [List.getD_eq_getElem?_getD, List.getD_eq_getElem?_getD, List.getElem?_take, if_pos (by omega)]
    rw [e2]
    exact h i (by omega)
theorem Has.picks {w : World} {g : Nat} {l : List Pk} {t : TypeId} (h : Has w g (flatP l).toArray t) : PicksAt w (some ⟨g, 0, none⟩) l :=
  .inr ⟨g, 0, rfl, fun i hi => by rw [Nat.zero_add]; exact ⟨h.cell (flatPC_a l i hi), h.cell (flatPC_v l i hi)⟩⟩
theorem Has.setPk {w : World} {g : Nat} {t : TypeId} {r : List Pk} (h : Has w g (flatP r).toArray t) (p : Nat) (x : Pk) :
    Has (w.setCells g (p * 2) [.int .i64 x.1, .int .i64 x.2]) g (flatP (r.set p x)).toArray t := by
  have := (h.set (p * 2) (.int .i64 x.1)).set (p * 2 + 1) (.int .i64 x.2)
  rw [List.setIfInBounds_toArray, List.setIfInBounds_toArray, ← flatP_set] at this
  exact this
theorem Has.setCells {w : World} {g k : Nat} {C : Array Value} {t : TypeId} (h : Has w g C t) (hk : g ≠ k) (o : Nat) (x y : Value) : Has (w.setCells k o [x, y]) g C t := (h.aside hk o x).aside hk (o + 1) y
theorem Gr.setCells {w w' : World} (h : Gr w w') {g : Nat} (hg : w.heap.size ≤ g) (o : Nat) (x y : Value) : Gr w (w'.setCells g o [x, y]) := (h.setCell hg x).setCell hg y

abbrev zeroP : Value := .agg #[.int .i64 0, .int .i64 0]
theorem infoP3 : (Try.prog.info? 23).map (fun i => (i.zero, i.size, i.bytes)) = some (some zeroP, 2, 16) := by kernel_rfl
theorem infoN3 : (Try.prog.info? 3).map (fun i => (i.zero, i.size, i.bytes)) = some (some (.int .i64 0), 1, 8) := by kernel_rfl
theorem infoP : (Try.prog.info? 23).map (·.size) = some 2 := by kernel_rfl
theorem flatP_rep : ∀ n : Nat, (madeCells zeroP.cells (n * 2)) = (flatP (List.replicate n p0)).toArray := by
  intro n
  apply Array.ext_getElem?
  intro i
  rcases Nat.lt_or_ge i (n * 2) with h | h
  · have e : i = i / 2 * 2 + i % 2 := by omega
    have hi : i / 2 < n := by omega
    rcases (by omega : i % 2 = 0 ∨ i % 2 = 1) with h2 | h2
    · have e2 : i = i / 2 * 2 := by omega
      rw [e2, flatPC_a _ _ (by simpa using hi)]
      have e3 : (List.replicate n p0).getD (i / 2) p0 = p0 := by simp [List.getD_eq_getElem?_getD, hi]
      rw [e3]
      have : i / 2 * 2 < n * 2 := by omega
      simp [madeCells, this, Value.cells, p0]
    · have e2 : i = i / 2 * 2 + 1 := by omega
      rw [e2, flatPC_v _ _ (by simpa using hi)]
      have e3 : (List.replicate n p0).getD (i / 2) p0 = p0 := by simp [List.getD_eq_getElem?_getD, hi]
      rw [e3]
      have : i / 2 * 2 + 1 < n * 2 := by omega
      have m : (i / 2 * 2 + 1) % 2 = 1 := by omega
      simp [madeCells, this, Value.cells, p0, m]
  · rw [Array.getElem?_eq_none (by simpa [size_madeCells] using h), Array.getElem?_eq_none (by simpa [flatP_length] using h)]
theorem make_picks (n : Nat) (h : n ≤ 200000) (w : World) : (Instr.makeSlice 30 (.int .i64 n) (.int .i64 n)).run Try.prog w = .ok (.slice (some ⟨w.heap.size, 0, none⟩) n n) (w.alloc (.cells (flatP (List.replicate n p0)).toArray 23)) := by
  obtain ⟨i, h1, h2, h3, h4⟩ := info_parts infoP3
  have := run_make (P := Try.prog) w 30 23 i zeroP Try.underlying30 h1 h2 .i64 .i64 n n (by omega) (Int.le_refl _) (by rw [h4]; omega) (by omega)
  rw [h3] at this
  rw [← flatP_rep]
  simpa using this
theorem wp_store_pk {op : Oper} (hd0 : op.dst = none) {a : Act} {w : World} {K : Act → World → Prop} {Q : Exit → Act → World → Prop} (x y : Operand) (ho : op.op = .store 23 x y)
    (g o : Nat) (hx : a.eval x = .pointer (some ⟨g, o, none⟩)) (e : Pk) (hy : a.eval y = pkV e) (C : Array Value) (t : TypeId) (hg : Has w g C t) (hs : o + 2 ≤ C.size)
    (h : K a (w.setCells g o [.int .i64 e.1, .int .i64 e.2])) : op.wp Try.prog a w K Q :=
  wp_store_mid 23 x y ho g o #[.int .i64 e.1, .int .i64 e.2] hx hy (hg.there o 2 hs) infoP (by simp [Value.oneCell']) (by rw [hd0]; exact h)
theorem store_pk {ops : Array Oper} {rest : List Oper} {op : Oper} {a : Act} {w : World} {Q : Exit → Act → World → Prop} (hgd : op.guard = none) (hd0 : op.dst = none) (x y : Operand) (ho : op.op = .store 23 x y)
    (g o : Nat) (hx : a.eval x = .pointer (some ⟨g, o, none⟩)) (e : Pk) (hy : a.eval y = pkV e) (C : Array Value) (t : TypeId) (hg : Has w g C t) (hs : o + 2 ≤ C.size)
    (h : wpList Try.prog ops Q rest a (w.setCells g o [.int .i64 e.1, .int .i64 e.2])) : wpList Try.prog ops Q (op :: rest) a w :=
  wpList_plain hgd fun _ hK => wp_store_pk hd0 x y ho g o hx e hy C t hg hs (hK _ _ h)
end Go.Proofs.Ytokbbjpnahpeaaa
