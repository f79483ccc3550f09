/-
  Blocks of a world, known whole; worlds that keep all but some blocks; slices of any records, as rows of cells, read and appended to. No condition but what each law names.
-/
import Derived.Test.YtfhplbmgjgfihaaGreatDoorZzaa
import Derived.Deep.MidRow
import Derived.Laws.Rows
import Derived.Laws.Tables
import Derived.Deep.RegionHeld3
import Derived.Deep.WholeRow
import Derived.BigQuiet
import Derived.Deep.QuietTactic
import Derived.Laws.AppendOwn
import Derived.Laws.OwnMore
import Derived.Maps.AppendAt
import Derived.Laws.CopyOwn
import Derived.Laws.Shifts
import Derived.Laws.EntriesVeiled
import Derived.Laws.BitsAllLaws
namespace Go.Proofs.YtfhplbmgjgfihaaGreatDoor
open Go.ChangeShapes Go.WideShapes Go.ChangeAt Go.RowKit
set_option linter.unusedVariables false
theorem ret_int {k : IntKind} {a b : Int} (h : a = b) : Ending.returned (.int k a) = .returned (.int k b) := by rw [h]
/-- the block g has these cells -/
def Has (w : World) (g : Nat) (C : Array Value) (t : TypeId) : Prop := w.heap[g]? = some (.cells C t (0, 0))
theorem Has.of {w : World} {g : Nat} {C D : Array Value} {t : TypeId} (h : Has w g C t) (e : C = D) : Has w g D t := by rw [← e]; exact h
theorem Has.lt {w : World} {g : Nat} {C : Array Value} {t : TypeId} (h : Has w g C t) : g < w.heap.size := (Array.getElem?_eq_some_iff.1 h).1
theorem Has.later {w w' : World} {g : Nat} {C : Array Value} {t : TypeId} (h : Has w g C t) (k : Gr w w') : Has w' g C t := (k.block g h.lt).trans h
theorem Has.new (w : World) (C : Array Value) (t : TypeId) : Has (w.alloc (.cells C t)) w.heap.size C t := by show (w.heap.push _)[w.heap.size]? = _; simp
theorem Has.alloc {w : World} {g : Nat} {C : Array Value} {t : TypeId} (h : Has w g C t) (D : Array Value) (u : TypeId) : Has (w.alloc (.cells D u)) g C t := h.later ((Gr.refl w).alloc D u)
theorem Has.cell {w : World} {g : Nat} {C : Array Value} {t : TypeId} (h : Has w g C t) {o : Nat} {v : Value} (hv : C[o]? = some v) : w.cell? ⟨g, o, none⟩ = some v := (cell_of_row w g o C t (0, 0) h).trans hv
theorem Has.free {w : World} {g : Nat} {C : Array Value} {t : TypeId} (h : Has w g C t) (o : Nat) : w.frozen? ⟨g, o, none⟩ = false := frozen_of_row w g o C t h
theorem Has.drew {w : World} {g : Nat} {C : Array Value} {t : TypeId} (h : Has w g C t) : Has w.drew g C t := h
theorem Has.drewN {w : World} {g : Nat} {C : Array Value} {t : TypeId} (h : Has w g C t) (n : Nat) : Has (w.drewN n) g C t := h
theorem Gr.drewN {w w' : World} (h : Gr w w') (n : Nat) : Gr w (w'.drewN n) := ⟨h.os, h.tape, h.output, h.size, h.block⟩
theorem Has.apart {w : World} {g k : Nat} {C D : Array Value} {t u : TypeId} (h : Has w g C t) (h' : Has w k D u) (ht : t ≠ u) : g ≠ k := by
  rintro rfl
  have e := Option.some.inj (h.symm.trans h')
  injection e with _ e2 _
  exact ht e2
theorem Has.set {w : World} {g : Nat} {C : Array Value} {t : TypeId} (h : Has w g C t) (o : Nat) (v : Value) : Has (w.setCell ⟨g, o, none⟩ v) g (C.setIfInBounds o v) t := heap_setCell_same w g o C t v h
theorem Has.aside {w : World} {g k : Nat} {C : Array Value} {t : TypeId} (h : Has w g C t) (hk : g ≠ k) (o : Nat) (v : Value) : Has (w.setCell ⟨k, o, none⟩ v) g C t := (Below.heap_setCell w ⟨k, o, none⟩ v g hk).trans h
theorem Has.row {w : World} {g : Nat} {C : Array Value} {t : TypeId} (h : Has w g C t) (D : Array Value) : Has (w.setRow g D) g D t := setRow_heap w g C D t (0, 0) h
theorem Has.rowAside {w : World} {g k : Nat} {C : Array Value} {t : TypeId} (h : Has w g C t) (hk : g ≠ k) (D : Array Value) : Has (w.setRow k D) g C t := (setRow_other w k g D hk).trans h
theorem Gr.setRow {w w' : World} (h : Gr w w') {g : Nat} (hg : w.heap.size ≤ g) (D : Array Value) : Gr w (w'.setRow g D) :=
  ⟨h.os, h.tape, h.output, by rw [size_setRow]; exact h.size, fun k hk => (setRow_other w' g k D (by omega)).trans (h.block k hk)⟩

theorem Has.there {w : World} {g : Nat} {C : Array Value} {t : TypeId} (h : Has w g C t) (o n : Nat) (hn : o + n ≤ C.size) : w.there g o n := by
  intro j hj
  refine ⟨?_, h.free _⟩
  rw [h.cell (o := o + j) (Array.getElem?_eq_getElem (by omega))]
  rfl
/-- the world keeps all but some blocks, and has new ones -/
structure Kp (e : List Nat) (w w' : World) : Prop where
  os : w'.os = w.os
  tape : w'.tape = w.tape
  output : w'.output = w.output
  size : w.heap.size ≤ w'.heap.size
  block : ∀ k, k < w.heap.size → k ∉ e → w'.heap[k]? = w.heap[k]?
theorem Gr.kp {w w' : World} (h : Gr w w') (e : List Nat) : Kp e w w' := ⟨h.os, h.tape, h.output, h.size, fun k hk _ => h.block k hk⟩
theorem Kp.refl (e : List Nat) (w : World) : Kp e w w := (Gr.refl w).kp e
/-- one behind the other; what is not kept is named, or new -/
theorem Kp.trans {e d f : List Nat} {a b c : World} (h : Kp e a b) (k : Kp d b c) (h1 : ∀ x ∈ e, x ∈ f) (h2 : ∀ x ∈ d, x ∈ f ∨ a.heap.size ≤ x) : Kp f a c :=
  ⟨k.os.trans h.os, k.tape.trans h.tape, k.output.trans h.output, Nat.le_trans h.size k.size, fun x hx hf =>
    (k.block x (Nat.lt_of_lt_of_le hx h.size) (fun q => (h2 x q).elim hf (fun h3 => absurd h3 (Nat.not_le.2 hx)))).trans (h.block x hx (fun q => hf (h1 x q)))⟩
theorem Kp.gr {e : List Nat} {w0 w w' : World} (h : Gr w0 w) (k : Kp e w w') (h2 : ∀ x ∈ e, w0.heap.size ≤ x) : Gr w0 w' :=
  ⟨k.os.trans h.os, k.tape.trans h.tape, k.output.trans h.output, Nat.le_trans h.size k.size, fun x hx =>
    (k.block x (Nat.lt_of_lt_of_le hx h.size) (fun q => by have := h2 x q; omega)).trans (h.block x hx)⟩
theorem Has.kept {w w' : World} {g : Nat} {C : Array Value} {t : TypeId} {e : List Nat} (h : Has w g C t) (k : Kp e w w') (hg : g ∉ e) : Has w' g C t := (k.block g h.lt hg).trans h
theorem Kp.setRow (w : World) (g : Nat) (D : Array Value) : Kp [g] w (w.setRow g D) :=
  ⟨rfl, rfl, rfl, by rw [size_setRow]; exact Nat.le_refl _, fun k hk hg => setRow_other w g k D (by simpa using hg)⟩
theorem Kp.setCell (w : World) (g o : Nat) (v : Value) : Kp [g] w (w.setCell ⟨g, o, none⟩ v) :=
  have h : Below 0 w (w.setCell ⟨g, o, none⟩ v) := Below.setCell (Below.refl 0 w) (Nat.zero_le _) v
  ⟨h.os, h.tape, h.output, h.size, fun k hk hg => Below.heap_setCell w ⟨g, o, none⟩ v k (by simpa using hg)⟩



theorem cell_same {w w' : World} {b : Nat} (o : Nat) (h : w'.heap[b]? = w.heap[b]?) : w'.cell? ⟨b, o, none⟩ = w.cell? ⟨b, o, none⟩ := by
  simp only [World.cell?, h]

/-- cells of records, one behind the other -/
def flatOf {α : Type} (f : α → List Value) (l : List α) : List Value := l.flatMap f
theorem flatOf_cons {α : Type} (f : α → List Value) (x : α) (l : List α) : flatOf f (x :: l) = f x ++ flatOf f l := by simp [flatOf]
theorem flatOf_append {α : Type} (f : α → List Value) (l k : List α) : flatOf f (l ++ k) = flatOf f l ++ flatOf f k := by simp [flatOf]
theorem flatOf_length {α : Type} {f : α → List Value} {sz : Nat} (hf : ∀ x, (f x).length = sz) : ∀ l : List α, (flatOf f l).length = l.length * sz
  | [] => by simp [flatOf]
  | x :: l => by rw [flatOf_cons, List.length_append, hf, flatOf_length hf l, List.length_cons, Nat.add_mul, Nat.one_mul, Nat.add_comm]
theorem flatOf_get {α : Type} {f : α → List Value} {sz : Nat} (hf : ∀ x, (f x).length = sz) : ∀ (l : List α) (i j : Nat) (d : α), i < l.length → j < sz → (flatOf f l)[i * sz + j]? = (f (l.getD i d))[j]?
  | [], i, j, d, hi, hj => by simp at hi
  | x :: l, 0, j, d, hi, hj => by
    rw [flatOf_cons, Nat.zero_mul, Nat.zero_add, List.getElem?_append_left (by rw [hf]; exact hj)]
    rfl
  | x :: l, i + 1, j, d, hi, hj => by
    have := flatOf_get hf l i j d (by simpa using hi) hj
    rw [flatOf_cons, List.getElem?_append_right (by rw [hf, Nat.add_mul, Nat.one_mul]; omega), hf, show (i + 1) * sz + j - sz = i * sz + j by rw [Nat.add_mul, Nat.one_mul]; omega, this]
    rfl
theorem flatOf_drop {α : Type} {f : α → List Value} {sz : Nat} (hf : ∀ x, (f x).length = sz) : ∀ (l : List α) (n : Nat), flatOf f (l.drop n) = (flatOf f l).drop (n * sz)
  | l, 0 => by simp
  | [], n + 1 => by simp [flatOf]
  | x :: l, n + 1 => by
    rw [List.drop_succ_cons, flatOf_drop hf l n, flatOf_cons, Nat.add_mul, Nat.one_mul, Nat.add_comm, ← List.drop_drop, List.drop_left' (hf x)]
theorem flatOf_take {α : Type} {f : α → List Value} {sz : Nat} (hf : ∀ x, (f x).length = sz) : ∀ (l : List α) (n : Nat), flatOf f (l.take n) = (flatOf f l).take (n * sz)
  | l, 0 => by simp [flatOf]
  | [], n + 1 => by simp [flatOf]
  | x :: l, n + 1 => by
    rw [List.take_succ_cons, flatOf_cons, flatOf_take hf l n, flatOf_cons, List.take_append, hf, show (n + 1) * sz - sz = n * sz by rw [Nat.add_mul, Nat.one_mul]; omega,
      List.take_of_length_le (l := f x) (by rw [hf, Nat.add_mul, Nat.one_mul]; omega)]
theorem flatOf_one {α : Type} {f : α → List Value} (hf : ∀ x, ∀ u ∈ f x, u.oneCell' = true) (l : List α) : ∀ u ∈ flatOf f l, u.oneCell' = true := by
  intro u hu
  obtain ⟨x, _, hx⟩ := List.mem_flatMap.1 hu
  exact hf x u hx

/-- a slice whose cells are these: none, or the cells from an address on -/
def RowAt (w : World) (a : Option Addr) (xs : List Value) : Prop :=
  xs = [] ∨ ∃ b off, a = some ⟨b, off, none⟩ ∧ ∀ j, j < xs.length → w.cell? ⟨b, off + j, none⟩ = xs[j]?
theorem RowAt.nil (w : World) (a : Option Addr) : RowAt w a [] := .inl rfl
theorem RowAt.move {w w' : World} {a : Option Addr} {xs : List Value} (h : RowAt w a xs) (hk : ∀ y, a = some y → y.block < w.heap.size → w'.heap[y.block]? = w.heap[y.block]?) : RowAt w' a xs := by
  rcases h with h | ⟨b, off, ha, h⟩
  · exact .inl h
  · exact .inr ⟨b, off, ha, fun j hj => (cell_same _ (hk ⟨b, off, none⟩ ha (block_lt_of_cell (a := ⟨b, off + j, none⟩) ((h j hj).trans (List.getElem?_eq_getElem hj))))).trans (h j hj)⟩
theorem RowAt.later {w w' : World} {a : Option Addr} {xs : List Value} (h : RowAt w a xs) (g : Gr w w') : RowAt w' a xs := h.move fun y _ hy => g.block _ hy
theorem RowAt.kept {w w' : World} {a : Option Addr} {xs : List Value} {e : List Nat} (h : RowAt w a xs) (g : Kp e w w') (ha : ∀ y, a = some y → y.block ∉ e) : RowAt w' a xs := h.move fun y hy hb => g.block _ hb (ha y hy)
theorem RowAt.get {w : World} {a : Option Addr} {xs : List Value} (h : RowAt w a xs) (hi : 0 < xs.length) :
    ∃ b off, a = some ⟨b, off, none⟩ ∧ ∀ j, j < xs.length → w.cell? ⟨b, off + j, none⟩ = xs[j]? := by
  rcases h with h | h
  · subst h; simp at hi
  · exact h
theorem RowAt.lt {w : World} {b off : Nat} {xs : List Value} (h : RowAt w (some ⟨b, off, none⟩) xs) (hi : 0 < xs.length) : b < w.heap.size := by
  obtain ⟨b', off', ha, h⟩ := h.get hi
  cases ha
  exact block_lt_of_cell (a := ⟨b, off + 0, none⟩) ((h 0 hi).trans (List.getElem?_eq_getElem hi))
theorem RowAt.drop {w : World} {b off : Nat} {xs : List Value} (h : RowAt w (some ⟨b, off, none⟩) xs) (n : Nat) : RowAt w (some ⟨b, off + n, none⟩) (xs.drop n) := by
  rcases h with h | ⟨b', off', ha, h⟩
  · subst h; exact .inl (by simp)
  · cases ha
    refine .inr ⟨b, off + n, rfl, fun j hj => ?_⟩
    rw [List.length_drop] at hj
    rw [Nat.add_assoc, h (n + j) (by omega), List.getElem?_drop]
theorem RowAt.take {w : World} {a : Option Addr} {xs : List Value} (h : RowAt w a xs) (n : Nat) : RowAt w a (xs.take n) := by
  rcases h with h | ⟨b, off, ha, h⟩
  · subst h; exact .inl (by simp)
  · refine .inr ⟨b, off, ha, fun j hj => ?_⟩
    rw [List.length_take] at hj
    rw [List.getElem?_take, if_pos (by omega)]
    exact h j (by omega)
theorem Has.rowAt {w : World} {g : Nat} {xs : List Value} {t : TypeId} (h : Has w g xs.toArray t) : RowAt w (some ⟨g, 0, none⟩) xs :=
  .inr ⟨g, 0, rfl, fun j hj => by rw [Nat.zero_add]; exact h.cell (by rw [List.getElem?_toArray]; exact List.getElem?_eq_getElem hj) |>.trans (List.getElem?_eq_getElem hj).symm⟩
/-- a cell of a record of a slice -/
theorem RowAt.cell {α : Type} {f : α → List Value} {sz : Nat} (hf : ∀ x, (f x).length = sz) {w : World} {b off : Nat} {l : List α} (h : RowAt w (some ⟨b, off, none⟩) (flatOf f l)) {i : Nat} (hi : i < l.length) (d : α) (j : Nat) (hj : j < sz) :
    w.cell? ⟨b, off + (i * sz + j), none⟩ = (f (l.getD i d))[j]? := by
  have hlen := flatOf_length hf l
  have hlt : i * sz + j < l.length * sz := by
    have : (i + 1) * sz ≤ l.length * sz := Nat.mul_le_mul_right _ hi
    rw [Nat.add_mul, Nat.one_mul] at this
    omega
  obtain ⟨b', off', ha, h⟩ := h.get (by rw [hlen]; omega)
  cases ha
  rw [h _ (by rw [hlen]; exact hlt), flatOf_get hf l i j d hi hj]

theorem own_move {w w' : World} {base sz n : Nat} {t : TypeId} {v : Value} {xs : List Value} (h : w.ownsRow base t sz v n xs) (hk : ∀ k C, base ≤ k → v.ownBlock = some k → Has w k C t → w'.heap[k]? = w.heap[k]?) : w'.ownsRow base t sz v n xs := by
  refine ⟨h.1, ?_⟩
  rcases h.2 with h2 | ⟨g, cap, cur, hv, hb, hg, rest⟩
  · exact .inl h2
  · exact .inr ⟨g, cap, cur, hv, hb, (hk g cur hb (by rw [hv]; rfl) hg).trans hg, rest⟩
theorem own_kept {w w' : World} {base sz n : Nat} {t : TypeId} {v : Value} {xs : List Value} {e : List Nat} (h : w.ownsRow base t sz v n xs) (k : Kp e w w') (hg : ∀ g, v.ownBlock = some g → g ∉ e) : w'.ownsRow base t sz v n xs :=
  own_move h fun x D _ hv hx => k.block x hx.lt (hg x hv)
theorem own_later {w w' : World} {base sz n : Nat} {t : TypeId} {v : Value} {xs : List Value} (h : w.ownsRow base t sz v n xs) (k : Gr w w') : w'.ownsRow base t sz v n xs :=
  own_move h fun x D _ _ hx => k.block x hx.lt
theorem own_nil (w : World) (base sz : Nat) (t : TypeId) : w.ownsRow base t sz (.slice none 0 0) 0 [] := ⟨by simp, .inl ⟨rfl, rfl⟩⟩
theorem own_at {w : World} {base sz n : Nat} {t : TypeId} {v : Value} {xs : List Value} (h : w.ownsRow base t sz v n xs) : ∃ a c, v = .slice a n c ∧ RowAt w a xs ∧ (a = none → c = 0) ∧ n ≤ c ∧ ∀ y, a = some y → base ≤ y.block ∧ y = ⟨y.block, 0, none⟩ ∧ v.ownBlock = some y.block := by
  have h1 := h.1
  rcases h.2 with ⟨rfl, h0⟩ | ⟨g, cap, cur, rfl, hb, hg, hnc, hcm, hs, ht⟩
  · subst h0
    have : xs = [] := List.length_eq_zero_iff.1 (by simpa using h1)
    subst this
    exact ⟨none, 0, rfl, .inl rfl, fun _ => rfl, by omega, fun y h => by cases h⟩
  · refine ⟨_, _, rfl, .inr ⟨g, 0, rfl, fun j hj => ?_⟩, fun h => (by cases h), hnc, fun y h => by cases h; exact ⟨hb, rfl, rfl⟩⟩
    rw [Nat.zero_add]
    have e : cur[j]? = xs[j]? := by
      rw [← ht, List.getElem?_take, if_pos (by omega)]
      simp
    rw [← e]
    rw [List.getElem?_eq_getElem hj] at e
    rw [e]
    exact Has.cell hg e
theorem own_lower {w : World} {base base' sz n : Nat} {t : TypeId} {v : Value} {xs : List Value} (h : w.ownsRow base t sz v n xs) (hb : base' ≤ base) : w.ownsRow base' t sz v n xs := by
  refine ⟨h.1, ?_⟩
  rcases h.2 with h2 | ⟨g, cap, cur, hv, hg, rest⟩
  · exact .inl h2
  · exact .inr ⟨g, cap, cur, hv, Nat.le_trans hb hg, rest⟩
theorem grown_gr {w0 w w' : World} {base sz n : Nat} {t : TypeId} {v : Value} {xs : List Value} (h : Gr w0 w) (ho : w.ownsRow base t sz v n xs) (k : w.grownBy w' v.ownBlock) (hb : w0.heap.size ≤ base) : Gr w0 w' :=
  Below.grown h k h.size (fun x hx => Nat.le_trans hb (ho.lt x hx).1)

/-- a row is appended to a row of one's own -/
theorem app_row {T t ty : TypeId} {zero : Value} {sz bytes : Nat} (hT : Tryz.prog.underlying T = some (.slice t)) (info : (Tryz.prog.info? t).map (fun i => (i.zero, i.size, i.bytes)) = some (some zero, sz, bytes)) (hz : zero.cells.size = sz) (hsz : 0 < sz) (hby : bytes ≤ 1000)
    {w : World} {base : Nat} {v : Value} {n : Nat} {xs : List Value} (hown : w.ownsRow base t sz v n xs) (ad : Option Addr) (c m : Nat) (ys : List Value) (hm : RowAt w ad ys) (hc : ad = none → c = 0 ∧ m = 0) (hy : ys.length = m * sz)
    (h1y : ∀ u ∈ ys, u.oneCell' = true) (hn : n + m ≤ 100000) (hb : base ≤ w.heap.size) :
    ∃ v' w', (Builtin.append_ #[T, T] ty #[v, .slice ad m c]).run Tryz.prog w = .ok v' w' ∧ w'.ownsRow base t sz v' (n + m) (xs ++ ys) ∧ w.grownBy w' v.ownBlock ∧ (v'.ownBlock = v.ownBlock ∨ v'.ownBlock = some w.heap.size) := by
  obtain ⟨i, h1, h2, h3, h4⟩ := info_parts info
  cases ad with
  | none =>
    obtain ⟨rfl, rfl⟩ := hc rfl
    obtain rfl : ys = [] := List.length_eq_zero_iff.1 (by simpa using hy)
    refine ⟨v, w, run_append_owned_none w base _ ty _ i sz hT h1 v _ _ hown, by simpa using hown, ⟨rfl, rfl, rfl, Nat.le_refl _, fun k _ _ => rfl⟩, .inl rfl⟩
  | some a =>
    obtain ⟨v', w', hr, ho, hg, _, hb'⟩ := run_append_own_at (P := Tryz.prog) w base T ty t i zero sz bytes hT h1 h2 h3 h4 hz hsz v _ _ hown a m c ys hy (by
      intro j u hj
      have hj' : j < ys.length := (List.getElem?_eq_some_iff.1 hj).1
      rcases hm with rfl | ⟨b, off, h, hcc⟩
      · simp at hj'
      · cases h
        rw [Addr.add_mid, hcc j hj', ← hj]) h1y (by unfold maxLen; omega) (by have := Nat.mul_le_mul hn hby; omega) hb
    exact ⟨v', w', hr, ho, hg, hb'⟩
/-- the block of a row of one's own, as a list -/
def ob (v : Value) : List Nat := v.ownBlock.toList
theorem mem_ob {v : Value} {k : Nat} : k ∈ ob v ↔ v.ownBlock = some k := by unfold ob; cases v.ownBlock <;> simp [eq_comm]
theorem Kp.grown {w w' : World} {v : Value} (k : w.grownBy w' v.ownBlock) : Kp (ob v) w w' :=
  ⟨k.os, k.tape, k.output, k.size, fun x hx hn => k.block x hx fun q => hn (mem_ob.2 q.symm)⟩
theorem own_has {w : World} {base sz n : Nat} {t : TypeId} {v : Value} {xs : List Value} (h : w.ownsRow base t sz v n xs) {k : Nat} (hk : k ∈ ob v) : ∃ C, Has w k C t := by
  rw [mem_ob] at hk
  rcases h.2 with ⟨rfl, _⟩ | ⟨g, cap, cur, rfl, hb, hg, rest⟩
  · cases hk
  · cases hk; exact ⟨cur, hg⟩
/-- rows of unlike types lie apart -/
theorem own_apart {w : World} {base base' sz sz' n n' : Nat} {t u : TypeId} {v v' : Value} {xs ys : List Value} (h : w.ownsRow base t sz v n xs) (h' : w.ownsRow base' u sz' v' n' ys) (ht : t ≠ u) {k : Nat} (hk : k ∈ ob v) : k ∉ ob v' := by
  intro q
  obtain ⟨C, hC⟩ := own_has h hk
  obtain ⟨D, hD⟩ := own_has h' q
  exact hC.apart hD ht rfl
theorem own_aside {w : World} {base sz n g : Nat} {t u : TypeId} {v : Value} {xs : List Value} {C : Array Value} (h : w.ownsRow base t sz v n xs) (hg : Has w g C u) (ht : t ≠ u) : g ∉ ob v := by
  intro q
  obtain ⟨D, hD⟩ := own_has h q
  exact hD.apart hg ht rfl
/-- a cell of a row of one's own is set -/
theorem own_set {w : World} {base sz n : Nat} {t : TypeId} {b c : Nat} {xs : List Value} (h : w.ownsRow base t sz (.slice (some ⟨b, 0, none⟩) n c) n xs) (i : Nat) (u : Value) (hi : i < n * sz) : (w.setCell ⟨b, i, none⟩ u).ownsRow base t sz (.slice (some ⟨b, 0, none⟩) n c) n (xs.set i u) := by
  refine ⟨by rw [List.length_set]; exact h.1, ?_⟩
  rcases h.2 with ⟨q, _⟩ | ⟨g, cap, cur, q, hb, hg, h1, h2, h3, h4⟩
  · cases q
  · cases q
    refine .inr ⟨b, c, cur.setIfInBounds i u, rfl, hb, Has.set hg i u, h1, h2, by simpa using h3, ?_⟩
    rw [← h4]
    simp [List.take_set]

/-- an append whose run is known -/
theorem wp_app {o : Oper} {a : Act} {w : World} {K : Act → World → Prop} {Q : Exit → Act → World → Prop} (d : Option Tmp) (hd : o.dst = d) (s x : Operand) (t : TypeId) (ho : o.op = .call { callee := .builtin .append, args := #[s, x], argTypes := #[t, t] })
    (v u : Value) (hs : a.eval s = v) (hx : a.eval x = u) (v' : Value) (w' : World) (hr : (Builtin.append_ #[t, t] o.type #[v, u]).run Tryz.prog w = .ok v' w') (h : K (a.put d v') w') : o.wp Tryz.prog a w K Q := by
  subst hd
  unfold Oper.wp execOp
  simp only [ho, resolve, invoke, builtin, Sem.run_bind, Sem.run_pure, Result.andThen_ok, List.map_toArray, List.map_cons, List.map_nil, hs, hx, hr]
  exact h
theorem step_app {ops : Array Oper} {rest : List Oper} {o : Oper} {a : Act} {w : World} {Q : Exit → Act → World → Prop} (hgd : o.guard = none) (d : Option Tmp) (hd : o.dst = d) (s x : Operand) (t : TypeId) (ho : o.op = .call { callee := .builtin .append, args := #[s, x], argTypes := #[t, t] })
    (v u : Value) (hs : a.eval s = v) (hx : a.eval x = u) (v' : Value) (w' : World) (hr : (Builtin.append_ #[t, t] o.type #[v, u]).run Tryz.prog w = .ok v' w') (h : wpList Tryz.prog ops Q rest (a.put d v') w') : wpList Tryz.prog ops Q (o :: rest) a w :=
  wpList_plain hgd fun _ hK => wp_app d hd s x t ho v u hs hx v' w' hr (hK _ _ h)
/-- what an operation makes of two words -/
def doF (op : Int) (a b : Nat) : Nat :=
  if op = 3 then (a + b) % 4294967296
  else if op = 4 then (a + (4294967296 - b)) % 4294967296
  else if op = 5 then (a * b) % 4294967296
  else if op = 6 then a &&& b
  else if op = 7 then a ||| b
  else if op = 8 then a ^^^ b
  else if op = 9 then (a * 2 ^ (b % 32)) % 4294967296
  else if op = 10 then a / 2 ^ (b % 32)
  else if op = 11 then (if a < b then 1 else 0)
  else if op = 12 then (if a = b then 1 else 0)
  else 0

theorem ret2 {x y : Int} (h : x = y) : Ending.returned (.tuple #[.int .u32 x, .bool true]) = .returned (.tuple #[.int .u32 y, .bool true]) := by rw [h]
theorem ret1 {x y : Int} (h : x = y) : Ending.returned (.int .u32 x) = .returned (.int .u32 y) := by rw [h]

theorem doF_lt (op : Int) (a b : Nat) (ha : a < 4294967296) (hb : b < 4294967296) : doF op a b < 4294967296 := by
  unfold doF
  have h1 : a &&& b < 2 ^ 32 := Nat.and_lt_two_pow _ (by omega)
  have h2 : a ||| b < 2 ^ 32 := Nat.or_lt_two_pow (by omega) (by omega)
  have h3 : a ^^^ b < 2 ^ 32 := Nat.xor_lt_two_pow (by omega) (by omega)
  have h4 : a / 2 ^ (b % 32) ≤ a := Nat.div_le_self _ _
  split
  · omega
  split
  · omega
  split
  · omega
  split
  · omega
  split
  · omega
  split
  · omega
  split
  · omega
  split
  · omega
  split
  · split <;> omega
  split
  · split <;> omega
  · omega

abbrev table : Array Value := #[.nilFunc, .nilFunc, .nilFunc, .func (Fn.func 111) #[] #[],
              .func (Fn.func 112) #[] #[], .func (Fn.func 113) #[] #[], .func (Fn.func 114) #[] #[],
              .func (Fn.func 115) #[] #[], .func (Fn.func 116) #[] #[], .func (Fn.func 117) #[] #[],
              .func (Fn.func 118) #[] #[], .func (Fn.func 119) #[] #[], .func (Fn.func 120) #[] #[]]
set_option maxHeartbeats 400000 in
theorem ops_calls (w : World) :
    Calls Tryz.prog 109 #[] w fun e w' => e = .returned (.agg table) ∧ Gr w w' := by
  go_enter Tryz.func109, Tryz.ntmps109
  go_wp2
  exact bodyPost_ret (v := .agg table) (by simp [results, Tryz.results109, go_sem]) rfl ⟨rfl, Gr.alloc (Gr.refl _) _ _⟩

theorem aluis_calls (op : Int) (w : World) :
    Calls Tryz.prog 97 #[.int .i64 op] w fun e w' => e = .returned (.bool (decide (3 ≤ op) && decide (op ≤ 12))) ∧ w' = w := by
  by_cases h : 3 ≤ op <;> by_cases h' : op ≤ 12
  all_goals
    go_enter Tryz.func97, Tryz.ntmps97
    go_wp2
    go_ret
    exact ⟨by simp [h, h'], rfl⟩

set_option maxHeartbeats 400000 in
theorem do_add (a b : Nat) (ha : a < 4294967296) (hb : b < 4294967296) (w : World) :
    Calls Tryz.prog 98 #[.int .i64 3, .int .u32 a, .int .u32 b] w fun e w' => e = .returned (.tuple #[.int .u32 (doF 3 a b), .bool true]) ∧ Gr w w' := by
  go_enter Tryz.func98, Tryz.ntmps98
  go_wp2_with (first | (go_at_call 97; refine (aluis_calls _ _).mono ?_; rintro e w' ⟨rfl, rfl⟩) | (go_at_call 109; refine (ops_calls _).mono ?_; rintro e w1 ⟨rfl, hg⟩) | go_in)
  go_ret2
  exact ⟨ret2 (by simp [doF]), Gr.alloc hg _ _⟩

set_option maxHeartbeats 400000 in
theorem do_sub (a b : Nat) (ha : a < 4294967296) (hb : b < 4294967296) (w : World) :
    Calls Tryz.prog 98 #[.int .i64 4, .int .u32 a, .int .u32 b] w fun e w' => e = .returned (.tuple #[.int .u32 (doF 4 a b), .bool true]) ∧ Gr w w' := by
  go_enter Tryz.func98, Tryz.ntmps98
  go_wp2_with (first | (go_at_call 97; refine (aluis_calls _ _).mono ?_; rintro e w' ⟨rfl, rfl⟩) | (go_at_call 109; refine (ops_calls _).mono ?_; rintro e w1 ⟨rfl, hg⟩) | go_in)
  go_ret2
  exact ⟨ret2 (by simp [doF]; omega), Gr.alloc hg _ _⟩

set_option maxHeartbeats 400000 in
theorem do_mul (a b : Nat) (ha : a < 4294967296) (hb : b < 4294967296) (w : World) :
    Calls Tryz.prog 98 #[.int .i64 5, .int .u32 a, .int .u32 b] w fun e w' => e = .returned (.tuple #[.int .u32 (doF 5 a b), .bool true]) ∧ Gr w w' := by
  go_enter Tryz.func98, Tryz.ntmps98
  go_wp2_with (first | (go_at_call 97; refine (aluis_calls _ _).mono ?_; rintro e w' ⟨rfl, rfl⟩) | (go_at_call 109; refine (ops_calls _).mono ?_; rintro e w1 ⟨rfl, hg⟩) | go_in)
  go_ret2
  exact ⟨ret2 (by simp [doF]), Gr.alloc hg _ _⟩

set_option maxHeartbeats 400000 in
theorem do_and (a b : Nat) (ha : a < 4294967296) (hb : b < 4294967296) (w : World) :
    Calls Tryz.prog 98 #[.int .i64 6, .int .u32 a, .int .u32 b] w fun e w' => e = .returned (.tuple #[.int .u32 (doF 6 a b), .bool true]) ∧ Gr w w' := by
  go_enter Tryz.func98, Tryz.ntmps98
  go_wp2_with (first | (go_at_call 97; refine (aluis_calls _ _).mono ?_; rintro e w' ⟨rfl, rfl⟩) | (go_at_call 109; refine (ops_calls _).mono ?_; rintro e w1 ⟨rfl, hg⟩) | go_in)
  go_ret2
  exact ⟨ret2 (by simp [doF]; exact u32_and_nat a b ha hb), Gr.alloc hg _ _⟩

set_option maxHeartbeats 400000 in
theorem do_or (a b : Nat) (ha : a < 4294967296) (hb : b < 4294967296) (w : World) :
    Calls Tryz.prog 98 #[.int .i64 7, .int .u32 a, .int .u32 b] w fun e w' => e = .returned (.tuple #[.int .u32 (doF 7 a b), .bool true]) ∧ Gr w w' := by
  go_enter Tryz.func98, Tryz.ntmps98
  go_wp2_with (first | (go_at_call 97; refine (aluis_calls _ _).mono ?_; rintro e w' ⟨rfl, rfl⟩) | (go_at_call 109; refine (ops_calls _).mono ?_; rintro e w1 ⟨rfl, hg⟩) | go_in)
  go_ret2
  exact ⟨ret2 (by simp [doF]; exact u32_or_nat a b ha hb), Gr.alloc hg _ _⟩

set_option maxHeartbeats 400000 in
theorem do_xor (a b : Nat) (ha : a < 4294967296) (hb : b < 4294967296) (w : World) :
    Calls Tryz.prog 98 #[.int .i64 8, .int .u32 a, .int .u32 b] w fun e w' => e = .returned (.tuple #[.int .u32 (doF 8 a b), .bool true]) ∧ Gr w w' := by
  go_enter Tryz.func98, Tryz.ntmps98
  go_wp2_with (first | (go_at_call 97; refine (aluis_calls _ _).mono ?_; rintro e w' ⟨rfl, rfl⟩) | (go_at_call 109; refine (ops_calls _).mono ?_; rintro e w1 ⟨rfl, hg⟩) | go_in)
  go_ret2
  exact ⟨ret2 (by simp [doF]; exact u32_xor_nat a b ha hb), Gr.alloc hg _ _⟩

set_option maxHeartbeats 400000 in
theorem do_shl (a b : Nat) (ha : a < 4294967296) (hb : b < 4294967296) (w : World) :
    Calls Tryz.prog 98 #[.int .i64 9, .int .u32 a, .int .u32 b] w fun e w' => e = .returned (.tuple #[.int .u32 (doF 9 a b), .bool true]) ∧ Gr w w' := by
  go_enter Tryz.func98, Tryz.ntmps98
  go_wp2_with (first | (go_at_call 97; refine (aluis_calls _ _).mono ?_; rintro e w' ⟨rfl, rfl⟩) | (go_at_call 109; refine (ops_calls _).mono ?_; rintro e w1 ⟨rfl, hg⟩) | go_in)
  go_ret2
  exact ⟨ret2 (by simp [doF]), Gr.alloc hg _ _⟩

set_option maxHeartbeats 400000 in
theorem do_shr (a b : Nat) (ha : a < 4294967296) (hb : b < 4294967296) (w : World) :
    Calls Tryz.prog 98 #[.int .i64 10, .int .u32 a, .int .u32 b] w fun e w' => e = .returned (.tuple #[.int .u32 (doF 10 a b), .bool true]) ∧ Gr w w' := by
  go_enter Tryz.func98, Tryz.ntmps98
  go_wp2_with (first | (go_at_call 97; refine (aluis_calls _ _).mono ?_; rintro e w' ⟨rfl, rfl⟩) | (go_at_call 109; refine (ops_calls _).mono ?_; rintro e w1 ⟨rfl, hg⟩) | go_in)
  go_ret2
  exact ⟨ret2 (by simp [doF]), Gr.alloc hg _ _⟩

set_option maxHeartbeats 400000 in
theorem do_less (a b : Nat) (ha : a < 4294967296) (hb : b < 4294967296) (w : World) :
    Calls Tryz.prog 98 #[.int .i64 11, .int .u32 a, .int .u32 b] w fun e w' => e = .returned (.tuple #[.int .u32 (doF 11 a b), .bool true]) ∧ Gr w w' := by
  by_cases h : a < b
  · have h0 : ((a : Int) < b)  := by omega
    have hf : doF 11 a b = 1 := by simp [doF, h]
    go_enter Tryz.func98, Tryz.ntmps98
    go_wp2_with (first | (go_at_call 97; refine (aluis_calls _ _).mono ?_; rintro e w' ⟨rfl, rfl⟩) | (go_at_call 109; refine (ops_calls _).mono ?_; rintro e w1 ⟨rfl, hg⟩) | go_in)
    go_ret2
    exact ⟨ret2 (by rw [hf]; rfl), Gr.alloc hg _ _⟩
  · have h0 : ¬ ((a : Int) < b) := by omega
    have hf : doF 11 a b = 0 := by simp [doF, h]
    go_enter Tryz.func98, Tryz.ntmps98
    go_wp2_with (first | (go_at_call 97; refine (aluis_calls _ _).mono ?_; rintro e w' ⟨rfl, rfl⟩) | (go_at_call 109; refine (ops_calls _).mono ?_; rintro e w1 ⟨rfl, hg⟩) | go_in)
    go_ret2
    exact ⟨ret2 (by rw [hf]; rfl), Gr.alloc hg _ _⟩

set_option maxHeartbeats 400000 in
theorem do_same (a b : Nat) (ha : a < 4294967296) (hb : b < 4294967296) (w : World) :
    Calls Tryz.prog 98 #[.int .i64 12, .int .u32 a, .int .u32 b] w fun e w' => e = .returned (.tuple #[.int .u32 (doF 12 a b), .bool true]) ∧ Gr w w' := by
  by_cases h : a = b
  · have h0 : ((a : Int) == b) = true := by simp [h]
    have hf : doF 12 a b = 1 := by simp [doF, h]
    go_enter Tryz.func98, Tryz.ntmps98
    go_wp2_with (first | (go_at_call 97; refine (aluis_calls _ _).mono ?_; rintro e w' ⟨rfl, rfl⟩) | (go_at_call 109; refine (ops_calls _).mono ?_; rintro e w1 ⟨rfl, hg⟩) | go_in)
    go_ret2
    exact ⟨ret2 (by rw [hf]; rfl), Gr.alloc hg _ _⟩
  · have h0 : ((a : Int) == b) = false := by simp; omega
    have hf : doF 12 a b = 0 := by simp [doF, h]
    go_enter Tryz.func98, Tryz.ntmps98
    go_wp2_with (first | (go_at_call 97; refine (aluis_calls _ _).mono ?_; rintro e w' ⟨rfl, rfl⟩) | (go_at_call 109; refine (ops_calls _).mono ?_; rintro e w1 ⟨rfl, hg⟩) | go_in)
    go_ret2
    exact ⟨ret2 (by rw [hf]; rfl), Gr.alloc hg _ _⟩

theorem do_yes (op : Int) (a b : Nat) (h : 3 ≤ op) (h' : op ≤ 12) (ha : a < 4294967296) (hb : b < 4294967296) (w : World) :
    Calls Tryz.prog 98 #[.int .i64 op, .int .u32 a, .int .u32 b] w fun e w' => e = .returned (.tuple #[.int .u32 (doF op a b), .bool true]) ∧ Gr w w' := by
  have hc : op = 3 ∨ op = 4 ∨ op = 5 ∨ op = 6 ∨ op = 7 ∨ op = 8 ∨ op = 9 ∨ op = 10 ∨ op = 11 ∨ op = 12 := by omega
  rcases hc with rfl | rfl | rfl | rfl | rfl | rfl | rfl | rfl | rfl | rfl
  · exact do_add a b ha hb w
  · exact do_sub a b ha hb w
  · exact do_mul a b ha hb w
  · exact do_and a b ha hb w
  · exact do_or a b ha hb w
  · exact do_xor a b ha hb w
  · exact do_shl a b ha hb w
  · exact do_shr a b ha hb w
  · exact do_less a b ha hb w
  · exact do_same a b ha hb w

/-- a word, as a number -/
def U32 (a : Int) : Prop := 0 ≤ a ∧ a < 4294967296
/-- what an operation makes of two words, as numbers -/
def doI (op a b : Int) : Int := ((doF op a.toNat b.toNat % 4294967296 : Nat) : Int)

theorem u32_doI (op a b : Int) : U32 (doI op a b) := by
  unfold U32 doI
  omega
theorem u32_nat {a : Int} (h : U32 a) : ∃ n : Nat, a = n ∧ n < 4294967296 := by
  obtain ⟨n, rfl⟩ := Int.eq_ofNat_of_zero_le h.1
  exact ⟨n, rfl, by have := h.2; omega⟩

theorem doI_nat (op : Int) (a b : Nat) (ha : a < 4294967296) (hb : b < 4294967296) : doI op a b = doF op a b := by
  unfold doI
  rw [Int.toNat_natCast, Int.toNat_natCast, Nat.mod_eq_of_lt (doF_lt op a b ha hb)]

theorem aluDo_calls (op a b : Int) (h : 3 ≤ op) (h' : op ≤ 12) (ha : U32 a) (hb : U32 b) (w : World) :
    Calls Tryz.prog 98 #[.int .i64 op, .int .u32 a, .int .u32 b] w fun e w' => e = .returned (.tuple #[.int .u32 (doI op a b), .bool true]) ∧ Gr w w' := by
  obtain ⟨m, rfl, hm⟩ := u32_nat ha
  obtain ⟨n, rfl, hn⟩ := u32_nat hb
  rw [doI_nat op m n hm hn]
  exact do_yes op m n h h' hm hn w
/-- a number of a kind -/
def isB (op : Int) : Bool := decide (0 ≤ op) && decide (op < 28)
theorem isB_nat {op : Int} (h : isB op = true) : ∃ n : Nat, op = n ∧ n < 28 := by
  simp [isB] at h
  obtain ⟨n, rfl⟩ := Int.eq_ofNat_of_zero_le h.1
  exact ⟨n, rfl, by omega⟩
theorem isB_of {n : Nat} (h : n < 28) : isB n = true := by simp [isB]; omega

theorem is_calls (op : Int) (w : World) :
    Calls Tryz.prog 68 #[.int .i64 op] w fun e w' => e = .returned (.bool (isB op)) ∧ w' = w := by
  by_cases h : 0 ≤ op <;> by_cases h' : op < 28
  all_goals
    go_enter Tryz.func68, Tryz.ntmps68
    go_wp2
    go_ret
    exact ⟨by simp [isB, h, h'], rfl⟩

/-- a register -/
def regB (n : Int) : Bool := decide (0 ≤ n) && decide (n < 8)
theorem reg_calls (n : Int) (w : World) :
    Calls Tryz.prog 101 #[.int .i64 n] w fun e w' => e = .returned (.bool (regB n)) ∧ w' = w := by
  by_cases h : 0 ≤ n <;> by_cases h' : n < 8
  all_goals
    go_enter Tryz.func101, Tryz.ntmps101
    go_wp2
    go_ret
    exact ⟨by simp [regB, h, h'], rfl⟩

def fitsB (u n : Int) : Bool := if u = 1 then regB n else if u = 2 then (regB n || (n == 8)) else (n == 0)
theorem fits_calls (u n : Int) (w : World) :
    Calls Tryz.prog 69 #[.int .i64 u, .int .i64 n] w fun e w' => e = .returned (.bool (fitsB u n)) ∧ w' = w := by
  by_cases h1 : u = 1
  · subst h1
    go_enter Tryz.func69, Tryz.ntmps69
    go_wp2_with (go_at_call 101; refine (reg_calls _ _).mono ?_; rintro e w1 ⟨rfl, rfl⟩)
    go_ret
    exact ⟨by simp [fitsB], rfl⟩
  by_cases h2 : u = 2
  · subst h2
    cases hr : regB n
    · go_enter Tryz.func69, Tryz.ntmps69
      go_wp2_with (go_at_call 101; refine (reg_calls _ _).mono ?_; rw [hr]; rintro e w1 ⟨rfl, rfl⟩)
      go_ret
      exact ⟨by simp [fitsB, hr], rfl⟩
    · go_enter Tryz.func69, Tryz.ntmps69
      go_wp2_with (go_at_call 101; refine (reg_calls _ _).mono ?_; rw [hr]; rintro e w1 ⟨rfl, rfl⟩)
      go_ret
      exact ⟨by simp [fitsB, hr], rfl⟩
  · have e1 : (u == 1) = false := by simp [h1]
    have e2 : (u == 2) = false := by simp [h2]
    go_enter Tryz.func69, Tryz.ntmps69
    go_wp2
    go_ret
    exact ⟨by simp [fitsB, h1, h2], rfl⟩

def holdsB (u k size : Int) : Bool := if u = 3 then true else if u = 4 then decide (k ≤ size) else (k == 0)
theorem holds_calls (u k size : Int) (h0 : 0 ≤ k) (hk : k < 4294967296) (w : World) :
    Calls Tryz.prog 70 #[.int .i64 u, .int .u32 k, .int .i64 size] w fun e w' => e = .returned (.bool (holdsB u k size)) ∧ w' = w := by
  by_cases h1 : u = 3
  · subst h1
    go_enter Tryz.func70, Tryz.ntmps70
    go_wp2
    go_ret
    exact ⟨by simp [holdsB], rfl⟩
  by_cases h2 : u = 4
  · subst h2
    go_enter Tryz.func70, Tryz.ntmps70
    go_wp2
    go_ret
    exact ⟨by simp [holdsB], rfl⟩
  · have e1 : (u == 3) = false := by simp [h1]
    have e2 : (u == 4) = false := by simp [h2]
    go_enter Tryz.func70, Tryz.ntmps70
    go_wp2
    go_ret
    exact ⟨by simp [holdsB, h1, h2], rfl⟩

/-- an instruction, as a value -/
abbrev insV (op a b c k : Int) : Value := .agg #[.int .i64 op, .int .i64 a, .int .i64 b, .int .i64 c, .int .u32 k]

def rightB (op a b c k size : Int) : Bool :=
  isB op && (fitsB (kA op.toNat) a && fitsB (kB op.toNat) b && fitsB (kC op.toNat) c && holdsB (kK op.toNat) k size)

set_option maxHeartbeats 1000000 in
theorem right_no (op a b c k size : Int) (w : World) (h : isB op = false) :
    Calls Tryz.prog 41 #[insV op a b c k, .int .i64 size] w fun e w' => e = .returned (.bool (rightB op a b c k size)) ∧ Gr w w' := by
  go_enter Tryz.func41, Tryz.ntmps41
  go_wp2_with (go_at_call 68; refine (is_calls _ _).mono ?_; rw [h]; rintro e w1 ⟨rfl, rfl⟩)
  go_ret
  exact ⟨by simp [rightB, h], Gr.alloc (Gr.refl _) _ _⟩

set_option maxHeartbeats 1000000 in
theorem right_yes (n : Nat) (hn : n < 28) (a b c k size : Int) (h0 : 0 ≤ k) (hk : k < 4294967296) (w : World) (L : Laid w) :
    Calls Tryz.prog 41 #[insV n a b c k, .int .i64 size] w fun e w' => e = .returned (.bool (fitsB (kA n) a && fitsB (kB n) b && fitsB (kC n) c && holdsB (kK n) k size)) ∧ Gr w w' := by
  have h := isB_of hn
  obtain ⟨hc0, hc1, hc2, hc3, hc4⟩ := (L.later (Gr.alloc (Gr.refl w) #[.int .i64 n, .int .i64 a, .int .i64 b, .int .i64 c, .int .u32 k] 53)).kd n hn
  have hi : (n : Int) < 28 := by omega
  have hlt := L.lt
  clear L
  cases hA : fitsB (kA n) a
  · go_enter Tryz.func41, Tryz.ntmps41
    go_wp2_with (first | (go_at_call 68; refine (is_calls _ _).mono ?_; rw [h]; rintro e w1 ⟨rfl, rfl⟩) | (go_at_call 69; refine (fits_calls _ _ _).mono ?_; rintro e w1 ⟨rfl, rfl⟩) | (go_at_call 70; refine (holds_calls _ _ _ h0 hk _).mono ?_; rintro e w1 ⟨rfl, rfl⟩))
    go_ret
    exact ⟨by simp, Gr.alloc (Gr.alloc (Gr.refl _) _ _) _ _⟩
  cases hB : fitsB (kB n) b
  · go_enter Tryz.func41, Tryz.ntmps41
    go_wp2_with (first | (go_at_call 68; refine (is_calls _ _).mono ?_; rw [h]; rintro e w1 ⟨rfl, rfl⟩) | (go_at_call 69; refine (fits_calls _ _ _).mono ?_; rintro e w1 ⟨rfl, rfl⟩) | (go_at_call 70; refine (holds_calls _ _ _ h0 hk _).mono ?_; rintro e w1 ⟨rfl, rfl⟩))
    go_ret
    exact ⟨by simp, Gr.alloc (Gr.alloc (Gr.refl _) _ _) _ _⟩
  cases hC : fitsB (kC n) c
  · go_enter Tryz.func41, Tryz.ntmps41
    go_wp2_with (first | (go_at_call 68; refine (is_calls _ _).mono ?_; rw [h]; rintro e w1 ⟨rfl, rfl⟩) | (go_at_call 69; refine (fits_calls _ _ _).mono ?_; rintro e w1 ⟨rfl, rfl⟩) | (go_at_call 70; refine (holds_calls _ _ _ h0 hk _).mono ?_; rintro e w1 ⟨rfl, rfl⟩))
    go_ret
    exact ⟨by simp, Gr.alloc (Gr.alloc (Gr.refl _) _ _) _ _⟩
  · go_enter Tryz.func41, Tryz.ntmps41
    go_wp2_with (first | (go_at_call 68; refine (is_calls _ _).mono ?_; rw [h]; rintro e w1 ⟨rfl, rfl⟩) | (go_at_call 69; refine (fits_calls _ _ _).mono ?_; rintro e w1 ⟨rfl, rfl⟩) | (go_at_call 70; refine (holds_calls _ _ _ h0 hk _).mono ?_; rintro e w1 ⟨rfl, rfl⟩))
    go_ret
    exact ⟨by simp, Gr.alloc (Gr.alloc (Gr.refl _) _ _) _ _⟩

theorem right_calls (op a b c k size : Int) (h0 : 0 ≤ k) (hk : k < 4294967296) (w : World) (L : Laid w) :
    Calls Tryz.prog 41 #[insV op a b c k, .int .i64 size] w fun e w' => e = .returned (.bool (rightB op a b c k size)) ∧ Gr w w' := by
  cases h : isB op
  · exact right_no op a b c k size w h
  · obtain ⟨n, rfl, hn⟩ := isB_nat h
    have e1 : rightB (n : Int) a b c k size = (fitsB (kA n) a && fitsB (kB n) b && fitsB (kC n) c && holdsB (kK n) k size) := by simp [rightB, h]
    rw [e1]
    exact right_yes n hn a b c k size h0 hk w L

def jumpB (op : Int) : Bool := isB op && (kK op.toNat == 4)
def askB (op : Int) : Bool := isB op && (kB op.toNat == 2)
def drainB (op : Int) : Bool := isB op && kD op.toNat
theorem jumps_calls (op : Int) (w : World) (L : Laid w) :
    Calls Tryz.prog 94 #[.int .i64 op] w fun e w' => e = .returned (.bool (jumpB op)) ∧ w' = w := by
  cases h : isB op
  · clear L
    go_enter Tryz.func94, Tryz.ntmps94
    go_wp2_with (go_at_call 68; refine (is_calls _ _).mono ?_; rw [h]; rintro e w1 ⟨rfl, rfl⟩)
    go_ret
    exact ⟨by simp [jumpB, h], rfl⟩
  · obtain ⟨n, rfl, hn⟩ := isB_nat h
    obtain ⟨hc0, hc1, hc2, hc3, hc4⟩ := L.kd n hn
    have hi : (n : Int) < 28 := by omega
    clear L
    go_enter Tryz.func94, Tryz.ntmps94
    go_wp2_with (go_at_call 68; refine (is_calls _ _).mono ?_; rw [h]; rintro e w1 ⟨rfl, rfl⟩)
    go_ret
    exact ⟨by simp [jumpB, h], rfl⟩
theorem asks_calls (op : Int) (w : World) (L : Laid w) :
    Calls Tryz.prog 60 #[.int .i64 op] w fun e w' => e = .returned (.bool (askB op)) ∧ w' = w := by
  cases h : isB op
  · clear L
    go_enter Tryz.func60, Tryz.ntmps60
    go_wp2_with (go_at_call 68; refine (is_calls _ _).mono ?_; rw [h]; rintro e w1 ⟨rfl, rfl⟩)
    go_ret
    exact ⟨by simp [askB, h], rfl⟩
  · obtain ⟨n, rfl, hn⟩ := isB_nat h
    obtain ⟨hc0, hc1, hc2, hc3, hc4⟩ := L.kd n hn
    have hi : (n : Int) < 28 := by omega
    clear L
    go_enter Tryz.func60, Tryz.ntmps60
    go_wp2_with (go_at_call 68; refine (is_calls _ _).mono ?_; rw [h]; rintro e w1 ⟨rfl, rfl⟩)
    go_ret
    exact ⟨by simp [askB, h], rfl⟩
theorem drains_calls (op : Int) (w : World) (L : Laid w) :
    Calls Tryz.prog 93 #[.int .i64 op] w fun e w' => e = .returned (.bool (drainB op)) ∧ w' = w := by
  cases h : isB op
  · clear L
    go_enter Tryz.func93, Tryz.ntmps93
    go_wp2_with (go_at_call 68; refine (is_calls _ _).mono ?_; rw [h]; rintro e w1 ⟨rfl, rfl⟩)
    go_ret
    exact ⟨by simp [drainB, h], rfl⟩
  · obtain ⟨n, rfl, hn⟩ := isB_nat h
    obtain ⟨hc0, hc1, hc2, hc3, hc4⟩ := L.kd n hn
    have hi : (n : Int) < 28 := by omega
    clear L
    go_enter Tryz.func93, Tryz.ntmps93
    go_wp2_with (go_at_call 68; refine (is_calls _ _).mono ?_; rw [h]; rintro e w1 ⟨rfl, rfl⟩)
    go_ret
    exact ⟨by simp [drainB, h], rfl⟩
end Go.Proofs.YtfhplbmgjgfihaaGreatDoor
