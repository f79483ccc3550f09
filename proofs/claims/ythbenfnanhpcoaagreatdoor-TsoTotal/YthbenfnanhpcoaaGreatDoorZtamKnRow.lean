/-
  Slices of numbers and of sleepers in a world, made and appended to. No condition but what each law names.
-/
import Derived.Test.YthbenfnanhpcoaaGreatDoorZtak
import Derived.Laws.AppendOwn
import Derived.Laws.OwnMore
import Derived.Maps.AppendAt
import Derived.Laws.CopyOwn
namespace Go.Proofs.YthbenfnanhpcoaaGreatDoor.Kn
open Go.ChangeShapes Go.WideShapes Go.ChangeAt Go.RowKit
set_option linter.unusedVariables false
set_option maxRecDepth 20000

/-- a slice of sleepers: none, or their cells from an address on -/
def EntsAt (w : World) (a : Option Addr) (l : List Ent) : Prop :=
  l = [] ∨ ∃ b off, a = some ⟨b, off, none⟩ ∧ ∀ i, i < l.length → w.cell? ⟨b, off + i * 2, none⟩ = some (.int .i64 (l.getD i ent0).a) ∧ w.cell? ⟨b, off + i * 2 + 1, none⟩ = some (.int .i64 (l.getD i ent0).v)
theorem EntsAt.move {w w' : World} {a : Option Addr} {l : List Ent} (h : EntsAt w a l) (hk : ∀ y, a = some y → y.block < w.heap.size → w'.heap[y.block]? = w.heap[y.block]?) : EntsAt w' a l := by
  rcases h with h | ⟨b, off, ha, h⟩
  · exact .inl h
  · refine .inr ⟨b, off, ha, fun i hi => ?_⟩
    obtain ⟨h1, h2⟩ := h i hi
    have hb : w'.heap[b]? = w.heap[b]? := hk ⟨b, off, none⟩ ha (block_lt_of_cell (a := ⟨b, off + i * 2, none⟩) h1)
    exact ⟨(cell_same _ hb).trans h1, (cell_same _ hb).trans h2⟩
theorem EntsAt.later {w w' : World} {a : Option Addr} {l : List Ent} (h : EntsAt w a l) (g : Gr w w') : EntsAt w' a l := h.move fun y _ hy => g.block _ hy
theorem EntsAt.kept {w w' : World} {a : Option Addr} {l : List Ent} {e : List Nat} (h : EntsAt w a l) (g : Kp e w w') (ha : ∀ y, a = some y → y.block ∉ e) : EntsAt w' a l := h.move fun y hy hb => g.block _ hb (ha y hy)
theorem EntsAt.get {w : World} {a : Option Addr} {l : List Ent} (h : EntsAt w a l) {i : Nat} (hi : i < l.length) :
    ∃ b off, a = some ⟨b, off, none⟩ ∧ w.cell? ⟨b, off + i * 2, none⟩ = some (.int .i64 (l.getD i ent0).a) ∧ w.cell? ⟨b, off + i * 2 + 1, none⟩ = some (.int .i64 (l.getD i ent0).v) := by
  rcases h with h | ⟨b, off, ha, h⟩
  · subst h; simp at hi
  · exact ⟨b, off, ha, h i hi⟩
theorem EntsAt.drop {w : World} {b off : Nat} {l : List Ent} (h : EntsAt w (some ⟨b, off, none⟩) l) (n : Nat) : EntsAt w (some ⟨b, off + n * 2, none⟩) (l.drop n) := by
  rcases h with h | ⟨b', off', ha, h⟩
  · subst h; exact .inl (by simp)
  · cases ha
    refine .inr ⟨b, off + n * 2, rfl, fun i hi => ?_⟩
    rw [List.length_drop] at hi
    obtain ⟨h1, h2⟩ := h (n + i) (by omega)
    have e : off + (n + i) * 2 = off + n * 2 + i * 2 := by omega
    have e2 : (l.drop n).getD i ent0 = l.getD (n + i) ent0 := by simp [List.getD_eq_getElem?_getD]
    rw [e] at h1 h2
    rw [e2]
    exact ⟨h1, h2⟩
theorem EntsAt.take {w : World} {a : Option Addr} {l : List Ent} (h : EntsAt w a l) (n : Nat) : EntsAt w a (l.take n) := by
  rcases h with h | ⟨b, off, ha, h⟩
  · subst h; exact .inl (by simp)
  · refine .inr ⟨b, off, ha, fun i hi => ?_⟩
    rw [List.length_take] at hi
    have e2 : (l.take n).getD i ent0 = l.getD i ent0 := by
      rw [List.getD_eq_getElem?_getD, List.getD_eq_getElem?_getD, List.getElem?_take, if_pos (by omega)]
    rw [e2]
    exact h i (by omega)

theorem flatC_a (l : List Ent) (i : Nat) (hi : i < l.length) : (flat l).toArray[i * 2]? = some (.int .i64 (l.getD i ent0).a) := by
  rw [List.getElem?_toArray, flat_a, List.getD_eq_getElem?_getD, List.getElem?_eq_getElem hi]; rfl
theorem flatC_v (l : List Ent) (i : Nat) (hi : i < l.length) : (flat l).toArray[i * 2 + 1]? = some (.int .i64 (l.getD i ent0).v) := by
  rw [List.getElem?_toArray, flat_v, List.getD_eq_getElem?_getD, List.getElem?_eq_getElem hi]; rfl
theorem flatC_size (l : List Ent) : (flat l).toArray.size = l.length * 2 := by simp [flat_length]
end Go.Proofs.YthbenfnanhpcoaaGreatDoor.Kn
namespace Go.Proofs.YthbenfnanhpcoaaGreatDoor
open Go.ChangeShapes Go.WideShapes Go.ChangeAt Go.RowKit
set_option linter.unusedVariables false
set_option maxRecDepth 20000
open Go.Proofs.YthbenfnanhpcoaaGreatDoor.Kn
theorem Has.ents {w : World} {g : Nat} {l : List Ent} {t : TypeId} (h : Has w g (flat l).toArray t) : EntsAt w (some ⟨g, 0, none⟩) l :=
  .inr ⟨g, 0, rfl, fun i hi => by rw [Nat.zero_add]; exact ⟨h.cell (flatC_a l i hi), h.cell (flatC_v l i hi)⟩⟩
end Go.Proofs.YthbenfnanhpcoaaGreatDoor
namespace Go.Proofs.YthbenfnanhpcoaaGreatDoor.Kn
open Go.ChangeShapes Go.WideShapes Go.ChangeAt Go.RowKit
set_option linter.unusedVariables false
set_option maxRecDepth 20000
theorem IsB.ents {w : World} {g : Nat} {C : Array Value} {t : TypeId} {l : List Ent} (h : Has w g C t) (hi : IsB C l) : EntsAt w (some ⟨g, 0, none⟩) l :=
  .inr ⟨g, 0, rfl, fun i hl => by rw [Nat.zero_add]; exact ⟨h.cell (hi.ent i hl).1, h.cell (hi.ent i hl).2⟩⟩

abbrev zeroE : Value := .agg #[.int .i64 0, .int .i64 0]
theorem infoE3 : (Tryz.prog.info? 83).map (fun i => (i.zero, i.size, i.bytes)) = some (some zeroE, 2, 16) := by kernel_rfl
theorem infoR3 : (Tryz.prog.info? 109).map (fun i => (i.zero, i.size, i.bytes)) = some (some zeroE, 2, 16) := by kernel_rfl
theorem infoN3 : (Tryz.prog.info? 3).map (fun i => (i.zero, i.size, i.bytes)) = some (some (.int .i64 0), 1, 8) := by kernel_rfl
theorem flat_rep : ∀ n : Nat, (madeCells zeroE.cells (n * 2)) = (flat (List.replicate n ent0)).toArray := by
  intro n
  apply Array.ext_getElem?
  intro i
  rcases Nat.lt_or_ge i (n * 2) with h | h
  · have e : i = i / 2 * 2 + i % 2 := by omega
    have hi : i / 2 < n := by omega
    rcases (by omega : i % 2 = 0 ∨ i % 2 = 1) with h2 | h2
    · have e2 : i = i / 2 * 2 := by omega
      rw [e2, flatC_a _ _ (by simpa using hi)]
      have e3 : (List.replicate n ent0).getD (i / 2) ent0 = ent0 := by simp [List.getD_eq_getElem?_getD, hi]
      rw [e3]
      have : i / 2 * 2 < n * 2 := by omega
      simp [madeCells, this, Value.cells, ent0]
    · have e2 : i = i / 2 * 2 + 1 := by omega
      rw [e2, flatC_v _ _ (by simpa using hi)]
      have e3 : (List.replicate n ent0).getD (i / 2) ent0 = ent0 := by simp [List.getD_eq_getElem?_getD, hi]
      rw [e3]
      have : i / 2 * 2 + 1 < n * 2 := by omega
      have m : (i / 2 * 2 + 1) % 2 = 1 := by omega
      simp [madeCells, this, Value.cells, ent0, m]
  · rw [Array.getElem?_eq_none (by simpa [size_madeCells] using h), Array.getElem?_eq_none (by simpa [flat_length] using h)]
theorem make_ents (n : Nat) (h : n ≤ 5000) (w : World) : (Instr.makeSlice 62 (.int .i64 n) (.int .i64 n)).run Tryz.prog w = .ok (.slice (some ⟨w.heap.size, 0, none⟩) n n) (w.alloc (.cells (flat (List.replicate n ent0)).toArray 83)) := by
  obtain ⟨i, h1, h2, h3, h4⟩ := info_parts infoE3
  have := run_make (P := Tryz.prog) w 62 83 i zeroE Tryz.underlying62 h1 h2 .i64 .i64 n n (by omega) (Int.le_refl _) (by rw [h4]; omega) (by omega)
  rw [h3] at this
  rw [← flat_rep]
  simpa using this

/-- a slice of numbers: none, or their cells from an address on -/
def NumsAt (w : World) (a : Option Addr) (m : List Int) : Prop :=
  m = [] ∨ ∃ b off, a = some ⟨b, off, none⟩ ∧ ∀ i, i < m.length → w.cell? ⟨b, off + i, none⟩ = some (.int .i64 (m.getD i 0))
theorem NumsAt.move {w w' : World} {a : Option Addr} {m : List Int} (h : NumsAt w a m) (hk : ∀ y, a = some y → y.block < w.heap.size → w'.heap[y.block]? = w.heap[y.block]?) : NumsAt w' a m := by
  rcases h with h | ⟨b, off, ha, h⟩
  · exact .inl h
  · exact .inr ⟨b, off, ha, fun i hi => (cell_same _ (hk ⟨b, off, none⟩ ha (block_lt_of_cell (a := ⟨b, off + i, none⟩) (h i hi)))).trans (h i hi)⟩
theorem NumsAt.later {w w' : World} {a : Option Addr} {m : List Int} (h : NumsAt w a m) (g : Gr w w') : NumsAt w' a m := h.move fun y _ hy => g.block _ hy
theorem NumsAt.kept {w w' : World} {a : Option Addr} {m : List Int} {e : List Nat} (h : NumsAt w a m) (g : Kp e w w') (ha : ∀ y, a = some y → y.block ∉ e) : NumsAt w' a m := h.move fun y hy hb => g.block _ hb (ha y hy)
theorem NumsAt.get {w : World} {a : Option Addr} {m : List Int} (h : NumsAt w a m) {i : Nat} (hi : i < m.length) :
    ∃ b off, a = some ⟨b, off, none⟩ ∧ w.cell? ⟨b, off + i, none⟩ = some (.int .i64 (m.getD i 0)) := by
  rcases h with h | ⟨b, off, ha, h⟩
  · subst h; simp at hi
  · exact ⟨b, off, ha, h i hi⟩

def ints (m : List Int) : List Value := m.map (Value.int .i64)
theorem ints_length (m : List Int) : (ints m).length = m.length := by simp [ints]
theorem ints_append (m k : List Int) : ints (m ++ k) = ints m ++ ints k := by simp [ints]
theorem ints_at (m : List Int) (i : Nat) (h : i < m.length) : (ints m)[i]? = some (.int .i64 (m.getD i 0)) := by
  simp [ints, List.getD_eq_getElem?_getD, h]
theorem ints_one (m : List Int) : ∀ u ∈ ints m, u.oneCell' = true := by
  intro v hv
  obtain ⟨x, _, rfl⟩ := List.mem_map.1 hv
  rfl
end Go.Proofs.YthbenfnanhpcoaaGreatDoor.Kn
namespace Go.Proofs.YthbenfnanhpcoaaGreatDoor
open Go.ChangeShapes Go.WideShapes Go.ChangeAt Go.RowKit
set_option linter.unusedVariables false
set_option maxRecDepth 20000
open Go.Proofs.YthbenfnanhpcoaaGreatDoor.Kn
theorem Has.nums {w : World} {g : Nat} {m : List Int} {t : TypeId} (h : Has w g (ints m).toArray t) : NumsAt w (some ⟨g, 0, none⟩) m :=
  .inr ⟨g, 0, rfl, fun i hi => by rw [Nat.zero_add]; exact h.cell (by rw [List.getElem?_toArray]; exact Kn.ints_at m i hi)⟩
end Go.Proofs.YthbenfnanhpcoaaGreatDoor
namespace Go.Proofs.YthbenfnanhpcoaaGreatDoor.Kn
open Go.ChangeShapes Go.WideShapes Go.ChangeAt Go.RowKit
set_option linter.unusedVariables false
set_option maxRecDepth 20000
/-- a row of numbers of one's own; a row of sleepers of one's own -/
def Nown (w : World) (base : Nat) (v : Value) (m : List Int) : Prop := w.ownsRow base 3 1 v m.length (ints m)
def Eown (w : World) (base : Nat) (v : Value) (l : List Ent) : Prop := w.ownsRow base 109 2 v l.length (flat l)

theorem own_move {w w' : World} {base sz n : Nat} {t : TypeId} {v : Value} {xs : List Value} (h : w.ownsRow base t sz v n xs) (hk : ∀ k C, base ≤ k → Has w k C t → w'.heap[k]? = w.heap[k]?) : w'.ownsRow base t sz v n xs := by
  refine ⟨h.1, ?_⟩
  rcases h.2 with h2 | ⟨g, cap, cur, hv, hb, hg, rest⟩
  · exact .inl h2
  · exact .inr ⟨g, cap, cur, hv, hb, (hk g cur hb hg).trans hg, rest⟩
/-- rows are kept where blocks of another type are not -/
theorem own_kept {w w' : World} {base sz n g : Nat} {t u : TypeId} {v : Value} {xs : List Value} {C : Array Value} (h : w.ownsRow base t sz v n xs) (k : Kp [g] w w') (hg : Has w g C u) (ht : t ≠ u) : w'.ownsRow base t sz v n xs :=
  own_move h fun x D _ hx => k.block x hx.lt (by simpa using hx.apart hg ht)
theorem own_later {w w' : World} {base sz n : Nat} {t : TypeId} {v : Value} {xs : List Value} (h : w.ownsRow base t sz v n xs) (k : Gr w w') : w'.ownsRow base t sz v n xs :=
  own_move h fun x D _ hx => k.block x hx.lt

/-- numbers are appended -/
theorem app_nums {w : World} {base : Nat} (ty : TypeId) {v : Value} {xs : List Int} (hown : Nown w base v xs) (ad : Option Addr) (c : Nat) (m : List Int) (hm : NumsAt w ad m) (hc : ad = none → c = 0)
    (hn : xs.length + m.length ≤ 100000) (hb : base ≤ w.heap.size) :
    ∃ v' w', (Builtin.append_ #[143, 143] ty #[v, .slice ad m.length c]).run Tryz.prog w = .ok v' w' ∧ Nown w' base v' (xs ++ m) ∧ w.grownBy w' v.ownBlock := by
  unfold Nown at *
  obtain ⟨i, h1, h2, h3, h4⟩ := info_parts infoN3
  cases ad with
  | none =>
    obtain rfl : m = [] := by
      rcases hm with h | ⟨b, off, h, _⟩
      · exact h
      · cases h
    obtain rfl := hc rfl
    refine ⟨v, w, run_append_owned_none w base _ ty _ i 1 Tryz.underlying143 h1 v _ _ hown, by simpa [ints] using hown, ⟨rfl, rfl, rfl, Nat.le_refl _, fun k _ _ => rfl⟩⟩
  | some a =>
    obtain ⟨v', w', hr, ho, hg, _⟩ := run_append_own (P := Tryz.prog) w base 143 ty 3 i (.int .i64 0) 1 8 Tryz.underlying143 h1 h2 h3 h4 rfl (by omega) v _ _ hown a m.length c (ints m) (by simp [ints]) (by
      intro j u hj
      have hj' : j < m.length := by have := (List.getElem?_eq_some_iff.1 hj).1; simpa [ints] using this
      rcases hm with rfl | ⟨b, off, h, hcc⟩
      · simp at hj'
      · cases h
        rw [Addr.add_mid, hcc j hj', ← hj, ints_at m j hj']) (ints_one m) (by unfold maxLen; omega) (by omega) hb
    rw [← ints_append, ← List.length_append] at ho
    exact ⟨v', w', hr, ho, hg⟩

/-- sleepers are appended -/
theorem app_ents {w : World} {base : Nat} (ty : TypeId) {v : Value} {xs : List Ent} (hown : Eown w base v xs) (ad : Option Addr) (c : Nat) (l : List Ent) (hm : EntsAt w ad l) (hc : ad = none → c = 0)
    (hn : xs.length + l.length ≤ 100000) (hb : base ≤ w.heap.size) :
    ∃ v' w', (Builtin.append_ #[51, 51] ty #[v, .slice ad l.length c]).run Tryz.prog w = .ok v' w' ∧ Eown w' base v' (xs ++ l) ∧ w.grownBy w' v.ownBlock := by
  unfold Eown at *
  obtain ⟨i, h1, h2, h3, h4⟩ := info_parts infoR3
  cases ad with
  | none =>
    obtain rfl : l = [] := by
      rcases hm with h | ⟨b, off, h, _⟩
      · exact h
      · cases h
    obtain rfl := hc rfl
    refine ⟨v, w, run_append_owned_none w base _ ty _ i 2 Tryz.underlying51 h1 v _ _ hown, by simpa [flat] using hown, ⟨rfl, rfl, rfl, Nat.le_refl _, fun k _ _ => rfl⟩⟩
  | some a =>
    obtain ⟨v', w', hr, ho, hg, _⟩ := run_append_own (P := Tryz.prog) w base 51 ty 109 i zeroE 2 16 Tryz.underlying51 h1 h2 h3 h4 rfl (by omega) v _ _ hown a l.length c (flat l) (flat_length l) (by
      intro j u hj
      have hj' : j < l.length * 2 := by have := (List.getElem?_eq_some_iff.1 hj).1; rw [flat_length] at this; exact this
      rcases hm with rfl | ⟨b, off, h, hcc⟩
      · simp at hj'
      · cases h
        obtain ⟨c1, c2⟩ := hcc (j / 2) (by omega)
        rw [Addr.add_mid, ← hj]
        rcases (by omega : j % 2 = 0 ∨ j % 2 = 1) with h2 | h2
        · have e : j = j / 2 * 2 := by omega
          have q := flatC_a l (j / 2) (by omega)
          rw [List.getElem?_toArray, ← e] at q
          rw [q, ← c1, ← e]
        · have e : j = j / 2 * 2 + 1 := by omega
          have q := flatC_v l (j / 2) (by omega)
          rw [List.getElem?_toArray, ← e] at q
          rw [q, ← c2, Nat.add_assoc, ← e]) (flat_one l) (by unfold maxLen; omega) (by omega) hb
    rw [← flat_append, ← List.length_append] at ho
    exact ⟨v', w', hr, ho, hg⟩

/-- what a row of numbers of one's own is -/
theorem Nown.at {w : World} {base : Nat} {v : Value} {m : List Int} (h : Nown w base v m) : ∃ a c, v = .slice a m.length c ∧ NumsAt w a m ∧ (a = none → c = 0) ∧ ∀ y, a = some y → base ≤ y.block := by
  rcases h.2 with ⟨rfl, h0⟩ | ⟨g, cap, cur, rfl, hb, hg, hnc, hcm, hs, ht⟩
  · have : m = [] := List.length_eq_zero_iff.1 h0
    subst this
    exact ⟨none, 0, rfl, .inl rfl, fun _ => rfl, fun y h => by cases h⟩
  · refine ⟨_, _, rfl, .inr ⟨g, 0, rfl, fun i hi => ?_⟩, fun h => (by cases h), fun y h => by cases h; exact hb⟩
    rw [Nat.zero_add]
    refine Has.cell hg ?_
    have := ints_at m i hi
    rw [← ht, List.getElem?_take, if_pos (by omega)] at this
    simpa using this
theorem Eown.at {w : World} {base : Nat} {v : Value} {l : List Ent} (h : Eown w base v l) : ∃ a c, v = .slice a l.length c ∧ EntsAt w a l ∧ (a = none → c = 0) ∧ ∀ y, a = some y → base ≤ y.block ∧ ∃ D, Has w y.block D 109 := by
  rcases h.2 with ⟨rfl, h0⟩ | ⟨g, cap, cur, rfl, hb, hg, hnc, hcm, hs, ht⟩
  · have : l = [] := List.length_eq_zero_iff.1 h0
    subst this
    exact ⟨none, 0, rfl, .inl rfl, fun _ => rfl, fun y h => by cases h⟩
  · have hc : ∀ j, j < l.length * 2 → cur[j]? = (flat l)[j]? := by
      intro j hj
      rw [← ht, List.getElem?_take, if_pos hj]
      simp
    refine ⟨_, _, rfl, .inr ⟨g, 0, rfl, fun i hi => ?_⟩, fun h => (by cases h), fun y h => by cases h; exact ⟨hb, cur, hg⟩⟩
    rw [Nat.zero_add]
    have qa := flatC_a l i hi
    have qv := flatC_v l i hi
    rw [List.getElem?_toArray, ← hc _ (by omega)] at qa qv
    exact ⟨Has.cell hg qa, Has.cell hg qv⟩
theorem Nown.nil (w : World) (base : Nat) : Nown w base (.slice none 0 0) [] := ⟨rfl, .inl ⟨rfl, rfl⟩⟩
theorem Eown.nil (w : World) (base : Nat) : Eown w base (.slice none 0 0) [] := ⟨rfl, .inl ⟨rfl, rfl⟩⟩
theorem Nown.lower {w : World} {base base' : Nat} {v : Value} {m : List Int} (h : Nown w base v m) (hb : base' ≤ base) : Nown w base' v m := by
  refine ⟨h.1, ?_⟩
  rcases h.2 with h2 | ⟨g, cap, cur, hv, hg, rest⟩
  · exact .inl h2
  · exact .inr ⟨g, cap, cur, hv, Nat.le_trans hb hg, rest⟩
theorem Eown.lower {w : World} {base base' : Nat} {v : Value} {m : List Ent} (h : Eown w base v m) (hb : base' ≤ base) : Eown w base' v m := by
  refine ⟨h.1, ?_⟩
  rcases h.2 with h2 | ⟨g, cap, cur, hv, hg, rest⟩
  · exact .inl h2
  · exact .inr ⟨g, cap, cur, hv, Nat.le_trans hb hg, rest⟩
theorem Nown.later {w w' : World} {base : Nat} {v : Value} {m : List Int} (h : Nown w base v m) (k : Gr w w') : Nown w' base v m := own_later h k
theorem Eown.later {w w' : World} {base : Nat} {v : Value} {l : List Ent} (h : Eown w base v l) (k : Gr w w') : Eown w' base v l := own_later h k
theorem Nown.kept {w w' : World} {base g : Nat} {v : Value} {m : List Int} {l : List Ent} (h : Nown w base v m) (k : Kp [g] w w') (hg : K w g l) : Nown w' base v m := by
  obtain ⟨C, hc, _⟩ := hg
  exact own_kept h k hc (by decide)
theorem Eown.kept {w w' : World} {base g : Nat} {v : Value} {m : List Ent} {l : List Ent} (h : Eown w base v m) (k : Kp [g] w w') (hg : K w g l) : Eown w' base v m := by
  obtain ⟨C, hc, _⟩ := hg
  exact own_kept h k hc (by decide)
end Go.Proofs.YthbenfnanhpcoaaGreatDoor.Kn
namespace Go.Proofs.YthbenfnanhpcoaaGreatDoor
open Go.ChangeShapes Go.WideShapes Go.ChangeAt Go.RowKit
set_option linter.unusedVariables false
set_option maxRecDepth 20000
open Go.Proofs.YthbenfnanhpcoaaGreatDoor.Kn
/-- blocks of another type are kept where a row grows -/
theorem Has.grown {w w' : World} {base sz n g : Nat} {t u : TypeId} {v : Value} {xs : List Value} {C : Array Value} (hg : Has w g C u) (ho : w.ownsRow base t sz v n xs) (k : w.grownBy w' v.ownBlock) (ht : t ≠ u) : Has w' g C u := by
  refine (k.block g hg.lt fun q => ?_).trans hg
  rcases ho.2 with ⟨rfl, _⟩ | ⟨x, cap, cur, rfl, hb, hx, rest⟩
  · simp [Value.ownBlock] at q
  · simp only [Value.ownBlock, Option.some.injEq] at q
    subst q
    exact Has.apart hx hg ht rfl
end Go.Proofs.YthbenfnanhpcoaaGreatDoor
namespace Go.Proofs.YthbenfnanhpcoaaGreatDoor.Kn
open Go.ChangeShapes Go.WideShapes Go.ChangeAt Go.RowKit
set_option linter.unusedVariables false
set_option maxRecDepth 20000
theorem K.nums {w w' : World} {g base : Nat} {l : List Ent} {v : Value} {m : List Int} (h : K w g l) (ho : Nown w base v m) (k : w.grownBy w' v.ownBlock) : K w' g l := by
  obtain ⟨C, h1, h2⟩ := h
  exact ⟨C, h1.grown ho k (by decide), h2⟩
theorem K.ents {w w' : World} {g base : Nat} {l : List Ent} {v : Value} {m : List Ent} (h : K w g l) (ho : Eown w base v m) (k : w.grownBy w' v.ownBlock) : K w' g l := by
  obtain ⟨C, h1, h2⟩ := h
  exact ⟨C, h1.grown ho k (by decide), h2⟩
/-- rows of another type are kept where a row grows -/
theorem own_grown {w w' : World} {base base' sz sz' n n' : Nat} {t u : TypeId} {v v' : Value} {xs ys : List Value} (h : w.ownsRow base t sz v n xs) (ho : w.ownsRow base' u sz' v' n' ys) (k : w.grownBy w' v'.ownBlock) (ht : u ≠ t) : w'.ownsRow base t sz v n xs :=
  own_move h fun x D _ hx => (Has.grown hx ho k ht).trans hx.symm
theorem Eown.nums {w w' : World} {base base' : Nat} {v u : Value} {l : List Ent} {m : List Int} (h : Eown w base v l) (ho : Nown w base' u m) (k : w.grownBy w' u.ownBlock) : Eown w' base v l := own_grown h ho k (by decide)
theorem Nown.ents {w w' : World} {base base' : Nat} {v u : Value} {l : List Ent} {m : List Int} (h : Nown w base v m) (ho : Eown w base' u l) (k : w.grownBy w' u.ownBlock) : Nown w' base v m := own_grown h ho k (by decide)
/-- an older row is kept where a newer one grows -/
theorem Nown.aside {w w' : World} {base base' : Nat} {v u : Value} {m m' : List Int} (h : Nown w base v m) (hv : ∀ k, v.ownBlock = some k → k < base') (ho : Nown w base' u m') (k : w.grownBy w' u.ownBlock) : Nown w' base v m := by
  refine World.ownsRow.kept h k ?_
  cases e : v.ownBlock with
  | none => exact .inl rfl
  | some x =>
    refine .inr fun q => ?_
    have h1 := hv x e
    have h2 := (World.ownsRow.lt ho x q.symm).1
    omega
/-- one number is appended -/
theorem app_num {w : World} {base : Nat} {v : Value} {xs : List Int} (hown : Nown w base v xs) (x : Int) (hn : xs.length ≤ 1000) (hb : base ≤ w.heap.size) :
    ∃ v' w', (Builtin.append_ #[143, 143] 143 #[v, .slice (some ⟨w.heap.size, 0, none⟩) 1 1]).run Tryz.prog (w.alloc (.cells #[.int .i64 x] 3)) = .ok v' w' ∧ Nown w' base v' (xs ++ [x]) ∧ (w.alloc (.cells #[.int .i64 x] 3)).grownBy w' v.ownBlock := by
  have hx : Has (w.alloc (.cells #[.int .i64 x] 3)) w.heap.size (ints [x]).toArray 3 := Has.new w _ _
  exact app_nums 143 (hown.later ((Gr.refl w).alloc _ _)) (some ⟨w.heap.size, 0, none⟩) 1 [x] hx.nums (by simp) (by simp; omega) (by simp; omega)
/-- one sleeper is appended -/
theorem app_ent {w : World} {base : Nat} {v : Value} {xs : List Ent} (hown : Eown w base v xs) (x : Ent) (hn : xs.length ≤ 1000) (hb : base ≤ w.heap.size) :
    ∃ v' w', (Builtin.append_ #[51, 51] 51 #[v, .slice (some ⟨w.heap.size, 0, none⟩) 1 1]).run Tryz.prog (w.alloc (.cells #[.int .i64 x.a, .int .i64 x.v] 109)) = .ok v' w' ∧ Eown w' base v' (xs ++ [x]) ∧ (w.alloc (.cells #[.int .i64 x.a, .int .i64 x.v] 109)).grownBy w' v.ownBlock := by
  have hx : Has (w.alloc (.cells #[.int .i64 x.a, .int .i64 x.v] 109)) w.heap.size (flat [x]).toArray 109 := Has.new w _ _
  exact app_ents 51 (hown.later ((Gr.refl w).alloc _ _)) (some ⟨w.heap.size, 0, none⟩) 1 [x] hx.ents (by simp) (by simp; omega) (by simp; omega)

end Go.Proofs.YthbenfnanhpcoaaGreatDoor.Kn
