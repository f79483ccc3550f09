/-
  Rows of picks and of numbers of one's own, made and appended to. No condition but what each law names.
-/
import Derived.Test.YtokbbjpnahpeaaaDue2
namespace Go.Proofs.Ytokbbjpnahpeaaa
open Go.ChangeShapes Go.WideShapes Go.ChangeAt Go.RowKit
set_option linter.unusedVariables false

/-- a slice of numbers: none, or their cells from an address on -/
def NumsAt (w : World) (a : Option Addr) (m : List Int) : Prop :=
  m = [] ∨ ∃ b off, a = some ⟨b, off, none⟩ ∧ ∀ i, i < m.length → w.cell? ⟨b, off + i, none⟩ = some (.int .i64 (m.getD i 0))
theorem NumsAt.move {w w' : World} {a : Option Addr} {m : List Int} (h : NumsAt w a m) (hk : ∀ y, a = some y → y.block < w.heap.size → w'.heap[y.block]? = w.heap[y.block]?) : NumsAt w' a m := by
  rcases h with h | ⟨b, off, ha, h⟩
  · exact .inl h
  · exact .inr ⟨b, off, ha, fun i hi => (cell_same _ (hk ⟨b, off, none⟩ ha (block_lt_of_cell (a := ⟨b, off + i, none⟩) (h i hi)))).trans (h i hi)⟩
theorem NumsAt.later {w w' : World} {a : Option Addr} {m : List Int} (h : NumsAt w a m) (g : Gr w w') : NumsAt w' a m := h.move fun y _ hy => g.block _ hy
theorem NumsAt.get {w : World} {a : Option Addr} {m : List Int} (h : NumsAt w a m) {i : Nat} (hi : i < m.length) :
    ∃ b off, a = some ⟨b, off, none⟩ ∧ w.cell? ⟨b, off + i, none⟩ = some (.int .i64 (m.getD i 0)) := by
  rcases h with h | ⟨b, off, ha, h⟩
  · subst h; simp at hi
  · exact ⟨b, off, ha, h i hi⟩

def ints (m : List Int) : List Value := m.map (Value.int .i64)
theorem ints_length (m : List Int) : (ints m).length = m.length := by simp [ints]
theorem ints_append (m k : List Int) : ints (m ++ k) = ints m ++ ints k := by simp [ints]
theorem ints_at (m : List Int) (i : Nat) (h : i < m.length) : (ints m)[i]? = some (.int .i64 (m.getD i 0)) := by
  simp [ints, List.getD_eq_getElem?_getD, h]
theorem ints_one (m : List Int) : ∀ u ∈ ints m, u.oneCell' = true := by
  intro v hv
  obtain ⟨x, _, rfl⟩ := List.mem_map.1 hv
  rfl
theorem Has.nums {w : World} {g : Nat} {m : List Int} {t : TypeId} (h : Has w g (ints m).toArray t) : NumsAt w (some ⟨g, 0, none⟩) m :=
  .inr ⟨g, 0, rfl, fun i hi => by rw [Nat.zero_add]; exact h.cell (by rw [List.getElem?_toArray]; exact ints_at m i hi)⟩

/-- a row of numbers of one's own; a row of picks of one's own -/
def Nown (w : World) (base : Nat) (v : Value) (m : List Int) : Prop := w.ownsRow base 3 1 v m.length (ints m)
def Pown (w : World) (base : Nat) (v : Value) (l : List Pk) : Prop := w.ownsRow base 23 2 v l.length (flatP l)
theorem own_later {w w' : World} {base sz n : Nat} {t : TypeId} {v : Value} {xs : List Value} (h : w.ownsRow base t sz v n xs) (k : Gr w w') : w'.ownsRow base t sz v n xs :=
  own_move h fun x D _ hx => k.block x hx.lt
theorem Nown.later {w w' : World} {base : Nat} {v : Value} {m : List Int} (h : Nown w base v m) (k : Gr w w') : Nown w' base v m := own_later h k
theorem Pown.later {w w' : World} {base : Nat} {v : Value} {l : List Pk} (h : Pown w base v l) (k : Gr w w') : Pown w' base v l := own_later h k
theorem Nown.nil (w : World) (base : Nat) : Nown w base (.slice none 0 0) [] := ⟨rfl, .inl ⟨rfl, rfl⟩⟩
theorem Pown.nil (w : World) (base : Nat) : Pown w base (.slice none 0 0) [] := ⟨rfl, .inl ⟨rfl, rfl⟩⟩

/-- numbers are appended -/
theorem app_nums {w : World} {base : Nat} (ty : TypeId) {v : Value} {xs : List Int} (hown : Nown w base v xs) (ad : Option Addr) (c : Nat) (m : List Int) (hm : NumsAt w ad m) (hc : ad = none → c = 0)
    (hn : xs.length + m.length ≤ 1000000) (hb : base ≤ w.heap.size) :
    ∃ v' w', (Builtin.append_ #[51, 51] ty #[v, .slice ad m.length c]).run Try.prog w = .ok v' w' ∧ Nown w' base v' (xs ++ m) ∧ w.grownBy w' v.ownBlock := by
  unfold Nown at *
  obtain ⟨i, h1, h2, h3, h4⟩ := info_parts infoN3
  cases ad with
  | none =>
    obtain rfl : m = [] := by
      rcases hm with h | ⟨b, off, h, _⟩
      · exact h
      · cases h
    obtain rfl := hc rfl
    refine ⟨v, w, run_append_owned_none w base _ ty _ i 1 Try.underlying51 h1 v _ _ hown, by simpa [ints] using hown, ⟨rfl, rfl, rfl, Nat.le_refl _, fun k _ _ => rfl⟩⟩
  | some a =>
    obtain ⟨v', w', hr, ho, hg, _⟩ := run_append_own (P := Try.prog) w base 51 ty 3 i (.int .i64 0) 1 8 Try.underlying51 h1 h2 h3 h4 rfl (by omega) v _ _ hown a m.length c (ints m) (by simp [ints]) (by
      intro j u hj
      have hj' : j < m.length := by have := (List.getElem?_eq_some_iff.1 hj).1; simpa [ints] using this
      rcases hm with rfl | ⟨b, off, h, hcc⟩
      · simp at hj'
      · cases h
        rw [Addr.add_mid, hcc j hj', ← hj, ints_at m j hj']) (ints_one m) (by unfold maxLen; omega) (by omega) hb
    rw [← ints_append, ← List.length_append] at ho
    exact ⟨v', w', hr, ho, hg⟩

/-- picks are appended -/
theorem app_picks {w : World} {base : Nat} (ty : TypeId) {v : Value} {xs : List Pk} (hown : Pown w base v xs) (ad : Option Addr) (c : Nat) (l : List Pk) (hm : PicksAt w ad l) (hc : ad = none → c = 0)
    (hn : xs.length + l.length ≤ 1000000) (hb : base ≤ w.heap.size) :
    ∃ v' w', (Builtin.append_ #[30, 30] ty #[v, .slice ad l.length c]).run Try.prog w = .ok v' w' ∧ Pown w' base v' (xs ++ l) ∧ w.grownBy w' v.ownBlock := by
  unfold Pown at *
  obtain ⟨i, h1, h2, h3, h4⟩ := info_parts infoP3
  cases ad with
  | none =>
    obtain rfl : l = [] := by
      rcases hm with h | ⟨b, off, h, _⟩
      · exact h
      · cases h
    obtain rfl := hc rfl
    refine ⟨v, w, run_append_owned_none w base _ ty _ i 2 Try.underlying30 h1 v _ _ hown, by simpa [flatP] using hown, ⟨rfl, rfl, rfl, Nat.le_refl _, fun k _ _ => rfl⟩⟩
  | some a =>
    obtain ⟨v', w', hr, ho, hg, _⟩ := run_append_own (P := Try.prog) w base 30 ty 23 i zeroP 2 16 Try.underlying30 h1 h2 h3 h4 rfl (by omega) v _ _ hown a l.length c (flatP l) (flatP_length l) (by
      intro j u hj
      have hj' : j < l.length * 2 := by have := (List.getElem?_eq_some_iff.1 hj).1; rw [flatP_length] at this; exact this
      rcases hm with rfl | ⟨b, off, h, hcc⟩
      · simp at hj'
      · cases h
        obtain ⟨c1, c2⟩ := hcc (j / 2) (by omega)
        rw [Addr.add_mid, ← hj]
        rcases (by omega : j % 2 = 0 ∨ j % 2 = 1) with h2 | h2
        · have e : j = j / 2 * 2 := by omega
          have q := flatPC_a l (j / 2) (by omega)
          rw [List.getElem?_toArray, ← e] at q
          rw [q, ← c1, ← e]
        · have e : j = j / 2 * 2 + 1 := by omega
          have q := flatPC_v l (j / 2) (by omega)
          rw [List.getElem?_toArray, ← e] at q
          rw [q, ← c2, Nat.add_assoc, ← e]) (flatP_one l) (by unfold maxLen; omega) (by omega) hb
    rw [← flatP_append, ← List.length_append] at ho
    exact ⟨v', w', hr, ho, hg⟩

/-- what a row of numbers of one's own is -/
theorem Nown.at {w : World} {base : Nat} {v : Value} {m : List Int} (h : Nown w base v m) : ∃ a c, v = .slice a m.length c ∧ NumsAt w a m ∧ (a = none → c = 0) ∧ ∀ y, a = some y → base ≤ y.block := by
  rcases h.2 with ⟨rfl, h0⟩ | ⟨g, cap, cur, rfl, hb, hg, hnc, hcm, hs, ht⟩
  · have : m = [] := List.length_eq_zero_iff.1 h0
    subst this
    exact ⟨none, 0, rfl, .inl rfl, fun _ => rfl, fun y h => by cases h⟩
  · refine ⟨_, _, rfl, .inr ⟨g, 0, rfl, fun i hi => ?_⟩, fun h => (by cases h), fun y h => by cases h; exact hb⟩
    rw [Nat.zero_add]
    refine Has.cell hg ?_
    have := ints_at m i hi
    rw [← ht, List.getElem?_take, if_pos (by omega)] at this
    simpa using this
theorem Pown.at {w : World} {base : Nat} {v : Value} {l : List Pk} (h : Pown w base v l) : ∃ a c, v = .slice a l.length c ∧ PicksAt w a l ∧ (a = none → c = 0) ∧ ∀ y, a = some y → base ≤ y.block ∧ ∃ D, Has w y.block D 23 := by
  rcases h.2 with ⟨rfl, h0⟩ | ⟨g, cap, cur, rfl, hb, hg, hnc, hcm, hs, ht⟩
  · have : l = [] := List.length_eq_zero_iff.1 h0
    subst this
    exact ⟨none, 0, rfl, .inl rfl, fun _ => rfl, fun y h => by cases h⟩
  · have hc : ∀ j, j < l.length * 2 → cur[j]? = (flatP l)[j]? := by
      intro j hj
      rw [← ht, List.getElem?_take, if_pos hj]
      simp
    refine ⟨_, _, rfl, .inr ⟨g, 0, rfl, fun i hi => ?_⟩, fun h => (by cases h), fun y h => by cases h; exact ⟨hb, cur, hg⟩⟩
    rw [Nat.zero_add]
    have qa := flatPC_a l i hi
    have qv := flatPC_v l i hi
    rw [List.getElem?_toArray, ← hc _ (by omega)] at qa qv
    exact ⟨Has.cell hg qa, Has.cell hg qv⟩
/-- rows of another type are kept where a row grows -/
theorem own_grown {w w' : World} {base base' sz sz' n n' : Nat} {t u : TypeId} {v v' : Value} {xs ys : List Value} (h : w.ownsRow base t sz v n xs) (ho : w.ownsRow base' u sz' v' n' ys) (k : w.grownBy w' v'.ownBlock) (ht : u ≠ t) : w'.ownsRow base t sz v n xs :=
  own_move h fun x D _ hx => (Has.grown hx ho k ht).trans hx.symm
theorem grown_gr {w0 w w' : World} {base sz n : Nat} {t : TypeId} {v : Value} {xs : List Value} (h : Gr w0 w) (ho : w.ownsRow base t sz v n xs) (k : w.grownBy w' v.ownBlock) (hb : w0.heap.size ≤ base) : Gr w0 w' :=
  Below.grown h k h.size (fun x hx => Nat.le_trans hb (ho.lt x hx).1)


theorem Pown.nums {w w' : World} {base base' : Nat} {v u : Value} {l : List Pk} {m : List Int} (h : Pown w base v l) (ho : Nown w base' u m) (k : w.grownBy w' u.ownBlock) : Pown w' base v l := own_grown h ho k (by decide)
theorem Nown.picks {w w' : World} {base base' : Nat} {v u : Value} {l : List Pk} {m : List Int} (h : Nown w base v m) (ho : Pown w base' u l) (k : w.grownBy w' u.ownBlock) : Nown w' base v m := own_grown h ho k (by decide)
/-- an older row is kept where a newer one grows -/
theorem Pown.aside {w w' : World} {base base' : Nat} {v u : Value} {m m' : List Pk} (h : Pown w base v m) (hv : ∀ k, v.ownBlock = some k → k < base') (ho : Pown w base' u m') (k : w.grownBy w' u.ownBlock) : Pown w' base v m := by
  refine World.ownsRow.kept h k ?_
  cases e : v.ownBlock with
  | none => exact .inl rfl
  | some x =>
    refine .inr fun q => ?_
    have h1 := hv x e
    have h2 := (World.ownsRow.lt ho x q.symm).1
    omega
/-- one pick is appended; two picks; two numbers -/
theorem app_pk1 {w : World} {base : Nat} {v : Value} {xs : List Pk} (hown : Pown w base v xs) (x : Pk) (hn : xs.length ≤ 1000) (hb : base ≤ w.heap.size) :
    ∃ v' w', (Builtin.append_ #[30, 30] 30 #[v, .slice (some ⟨w.heap.size, 0, none⟩) 1 1]).run Try.prog (w.alloc (.cells #[.int .i64 x.1, .int .i64 x.2] 23)) = .ok v' w' ∧ Pown w' base v' (xs ++ [x]) ∧ (w.alloc (.cells #[.int .i64 x.1, .int .i64 x.2] 23)).grownBy w' v.ownBlock := by
  have hx : Has (w.alloc (.cells #[.int .i64 x.1, .int .i64 x.2] 23)) w.heap.size (flatP [x]).toArray 23 := Has.new w _ _
  exact app_picks 30 (hown.later ((Gr.refl w).alloc _ _)) (some ⟨w.heap.size, 0, none⟩) 1 [x] hx.picks (by simp) (by simp; omega) (by simp; omega)
theorem app_pk2 {w : World} {base : Nat} {v : Value} {xs : List Pk} (hown : Pown w base v xs) (x y : Pk) (hn : xs.length ≤ 1000) (hb : base ≤ w.heap.size) :
    ∃ v' w', (Builtin.append_ #[30, 30] 30 #[v, .slice (some ⟨w.heap.size, 0, none⟩) 2 2]).run Try.prog (w.alloc (.cells #[.int .i64 x.1, .int .i64 x.2, .int .i64 y.1, .int .i64 y.2] 23)) = .ok v' w' ∧ Pown w' base v' (xs ++ [x, y]) ∧ (w.alloc (.cells #[.int .i64 x.1, .int .i64 x.2, .int .i64 y.1, .int .i64 y.2] 23)).grownBy w' v.ownBlock := by
  have hx : Has (w.alloc (.cells #[.int .i64 x.1, .int .i64 x.2, .int .i64 y.1, .int .i64 y.2] 23)) w.heap.size (flatP [x, y]).toArray 23 := Has.new w _ _
  exact app_picks 30 (hown.later ((Gr.refl w).alloc _ _)) (some ⟨w.heap.size, 0, none⟩) 2 [x, y] hx.picks (by simp) (by simp; omega) (by simp; omega)
theorem app_num2 {w : World} {base : Nat} {v : Value} {xs : List Int} (hown : Nown w base v xs) (x y : Int) (hn : xs.length ≤ 1000) (hb : base ≤ w.heap.size) :
    ∃ v' w', (Builtin.append_ #[51, 51] 51 #[v, .slice (some ⟨w.heap.size, 0, none⟩) 2 2]).run Try.prog (w.alloc (.cells #[.int .i64 x, .int .i64 y] 3)) = .ok v' w' ∧ Nown w' base v' (xs ++ [x, y]) ∧ (w.alloc (.cells #[.int .i64 x, .int .i64 y] 3)).grownBy w' v.ownBlock := by
  have hx : Has (w.alloc (.cells #[.int .i64 x, .int .i64 y] 3)) w.heap.size (ints [x, y]).toArray 3 := Has.new w _ _
  exact app_nums 51 (hown.later ((Gr.refl w).alloc _ _)) (some ⟨w.heap.size, 0, none⟩) 2 [x, y] hx.nums (by simp) (by simp; omega) (by simp; omega)
end Go.Proofs.Ytokbbjpnahpeaaa
