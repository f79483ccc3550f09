/-
  Slices of words and of entries that are appended to a slice of one's own: what they hold then. No condition but what each law names.
-/
import Derived.Test.YtiogacfejchimaaWord
import Derived.Laws.AppendOwn
import Derived.Laws.OwnMore
import Derived.Maps.AppendAt
namespace Go.Proofs.Ytiogacfejchimaa
open Go.ChangeShapes Go.WideShapes Go.ChangeAt Go.RowKit
set_option linter.unusedVariables false

def ints (m : List Int) : List Value := m.map (Value.int .u32)
theorem ints_length (m : List Int) : (ints m).length = m.length := by simp [ints]
theorem ints_at (m : List Int) (i : Nat) (h : i < m.length) : (ints m)[i]? = some (.int .u32 (m.getD i 0)) := by
  simp [ints, List.getD_eq_getElem?_getD, h]
theorem ints_one (m : List Int) : ∀ u ∈ ints m, u.oneCell' = true := by
  intro v hv
  obtain ⟨x, _, rfl⟩ := List.mem_map.1 hv
  rfl

/-- words are appended -/
theorem app_words (w : World) (base : Nat) (ty : TypeId) (v : Value) (n : Nat) (xs : List Value) (hown : w.ownsRow base 24 1 v n xs) (ad : Option Addr) (c : Nat) (m : List Int) (hm : WordsAt w ad m) (hc : ad = none → c = 0)
    (hn : n + m.length ≤ 100000) (hb : base ≤ w.heap.size) :
    ∃ v' w', (Builtin.append_ #[48, 48] ty #[v, .slice ad m.length c]).run Try.prog w = .ok v' w' ∧ w'.ownsRow base 24 1 v' (n + m.length) (xs ++ ints m) ∧ w.grownBy w' v.ownBlock := by
  obtain ⟨i, h1, h2, h3, h4⟩ := info_parts infoW3
  cases ad with
  | none =>
    obtain rfl : m = [] := by
      rcases hm with h | ⟨b, off, h, _⟩
      · exact h
      · cases h
    obtain rfl := hc rfl
    refine ⟨v, w, run_append_owned_none w base _ ty _ i 1 Try.underlying48 h1 v n xs hown, by simpa [ints] using hown, ⟨rfl, rfl, rfl, Nat.le_refl _, fun k _ _ => rfl⟩⟩
  | some a =>
    obtain ⟨v', w', hr, ho, hg, _⟩ := run_append_own (P := Try.prog) w base 48 ty 24 i (.int .u32 0) 1 4 Try.underlying48 h1 h2 h3 h4 rfl (by omega) v n xs hown a m.length c (ints m) (by simp [ints]) (by
      intro j u hj
      have hj' : j < m.length := by have := (List.getElem?_eq_some_iff.1 hj).1; simpa [ints] using this
      rcases hm with rfl | ⟨b, off, h, hcc⟩
      · simp at hj'
      · cases h
        rw [Addr.add_mid, hcc j hj', ← hj, ints_at m j hj']) (ints_one m) (by unfold maxLen; omega) (by omega) hb
    exact ⟨v', w', hr, ho, hg⟩

/-- entries are appended -/
theorem app_ents (w : World) (base : Nat) (ty : TypeId) (v : Value) (n : Nat) (xs : List Value) (hown : w.ownsRow base 26 2 v n xs) (ad : Option Addr) (c : Nat) (l : List Ent) (hm : EntsAt w ad l) (hc : ad = none → c = 0)
    (hn : n + l.length ≤ 100000) (hb : base ≤ w.heap.size) :
    ∃ v' w', (Builtin.append_ #[34, 34] ty #[v, .slice ad l.length c]).run Try.prog w = .ok v' w' ∧ w'.ownsRow base 26 2 v' (n + l.length) (xs ++ flat l) ∧ w.grownBy w' v.ownBlock := by
  obtain ⟨i, h1, h2, h3, h4⟩ := info_parts infoE3
  cases ad with
  | none =>
    obtain rfl : l = [] := by
      rcases hm with h | ⟨b, off, h, _⟩
      · exact h
      · cases h
    obtain rfl := hc rfl
    refine ⟨v, w, run_append_owned_none w base _ ty _ i 2 Try.underlying34 h1 v n xs hown, by simpa [flat] using hown, ⟨rfl, rfl, rfl, Nat.le_refl _, fun k _ _ => rfl⟩⟩
  | some a =>
    obtain ⟨v', w', hr, ho, hg, _⟩ := run_append_own (P := Try.prog) w base 34 ty 26 i zeroE 2 16 Try.underlying34 h1 h2 h3 h4 rfl (by omega) v n xs hown a l.length c (flat l) (flat_length l) (by
      intro j u hj
      have hj' : j < l.length * 2 := by have := (List.getElem?_eq_some_iff.1 hj).1; rw [flat_length] at this; exact this
      rcases hm with rfl | ⟨b, off, h, hcc⟩
      · simp at hj'
      · cases h
        obtain ⟨c1, c2⟩ := hcc (j / 2) (by omega)
        rw [Addr.add_mid, ← hj]
        rcases (by omega : j % 2 = 0 ∨ j % 2 = 1) with h2 | h2
        · have e : j = j / 2 * 2 := by omega
          have q := flatC_a l (j / 2) (by omega)
          rw [List.getElem?_toArray, ← e] at q
          rw [q, ← c1, ← e]
        · have e : j = j / 2 * 2 + 1 := by omega
          have q := flatC_v l (j / 2) (by omega)
          rw [List.getElem?_toArray, ← e] at q
          rw [q, ← c2, Nat.add_assoc, ← e]) (flat_one l) (by unfold maxLen; omega) (by omega) hb
    exact ⟨v', w', hr, ho, hg⟩

/-- words of one's own -/
theorem own_words {w : World} {base : Nat} {v : Value} {m : List Int} (h : w.ownsRow base 24 1 v m.length (ints m)) : ∃ a c, v = .slice a m.length c ∧ WordsAt w a m ∧ (a = none → c = 0) ∧
    (m = [] ∨ ∃ g cur, a = some ⟨g, 0, none⟩ ∧ base ≤ g ∧ Has w g cur 24 ∧ m.length ≤ cur.size ∧ ∀ i, i < m.length → cur[i]? = some (.int .u32 (m.getD i 0))) := by
  rcases h.2 with ⟨rfl, h0⟩ | ⟨g, cap, cur, rfl, hb, hg, hnc, hcm, hs, ht⟩
  · have : m = [] := List.length_eq_zero_iff.1 h0
    subst this
    exact ⟨none, 0, rfl, .inl rfl, fun _ => rfl, .inl rfl⟩
  · have hc : ∀ i, i < m.length → cur[i]? = some (.int .u32 (m.getD i 0)) := by
      intro i hi
      have := ints_at m i hi
      rw [← ht, List.getElem?_take, if_pos (by omega)] at this
      simpa using this
    refine ⟨_, _, rfl, .inr ⟨g, 0, rfl, fun i hi => ?_⟩, fun h => (by cases h), .inr ⟨g, cur, rfl, hb, hg, by omega, hc⟩⟩
    rw [Nat.zero_add]
    exact Has.cell hg (hc i hi)
/-- entries of one's own -/
theorem own_ents {w : World} {base : Nat} {v : Value} {l : List Ent} (h : w.ownsRow base 26 2 v l.length (flat l)) : ∃ a c, v = .slice a l.length c ∧ EntsAt w a l ∧ (a = none → c = 0) ∧ l.length ≤ c ∧ ∀ y, a = some y → base ≤ y.block := by
  rcases h.2 with ⟨rfl, h0⟩ | ⟨g, cap, cur, rfl, hb, hg, hnc, hcm, hs, ht⟩
  · have : l = [] := List.length_eq_zero_iff.1 h0
    subst this
    exact ⟨none, 0, rfl, .inl rfl, fun _ => rfl, Nat.le_refl _, fun y h => by cases h⟩
  · have hc : ∀ j, j < l.length * 2 → cur[j]? = (flat l)[j]? := by
      intro j hj
      rw [← ht, List.getElem?_take, if_pos hj]
      simp
    refine ⟨_, _, rfl, .inr ⟨g, 0, rfl, fun i hi => ?_⟩, fun h => (by cases h), hnc, fun y h => by cases h; exact hb⟩
    rw [Nat.zero_add]
    have qa := flatC_a l i hi
    have qv := flatC_v l i hi
    rw [List.getElem?_toArray, ← hc _ (by omega)] at qa qv
    exact ⟨Has.cell hg qa, Has.cell hg qv⟩

/-- words that may be written -/
def Outs (base : Nat) (w : World) (a : Option Addr) (m : List Int) : Prop :=
  m = [] ∨ ∃ g cur, a = some ⟨g, 0, none⟩ ∧ base ≤ g ∧ Has w g cur 24 ∧ m.length ≤ cur.size ∧ ∀ i, i < m.length → cur[i]? = some (.int .u32 (m.getD i 0))
theorem getD_setI (m : List Int) (p i : Nat) (x : Int) (h : p < m.length) : (m.set p x).getD i 0 = if i = p then x else m.getD i 0 := by
  simp only [List.getD_eq_getElem?_getD, List.getElem?_set]
  by_cases e : p = i
  · subst e; simp [h]
  · have e' : ¬ i = p := fun q => e q.symm
    simp [e, e']
theorem Outs.put {base : Nat} {w : World} {a : Option Addr} {m : List Int} (h : Outs base w a m) {i : Nat} (hi : i < m.length) :
    ∃ g, a = some ⟨g, 0, none⟩ ∧ base ≤ g ∧ g < w.heap.size ∧ w.cell? ⟨g, i, none⟩ = some (.int .u32 (m.getD i 0)) ∧ w.frozen? ⟨g, i, none⟩ = false ∧ ∀ v : Int, Outs base (w.setCell ⟨g, i, none⟩ (.int .u32 v)) a (m.set i v) := by
  rcases h with rfl | ⟨g, cur, rfl, hb, hg, hs, hc⟩
  · simp at hi
  · refine ⟨g, rfl, hb, hg.lt, hg.cell (hc i hi), hg.free _, fun v => .inr ⟨g, _, rfl, hb, hg.set i (.int .u32 v), by simpa using hs, fun j hj => ?_⟩⟩
    rw [List.length_set] at hj
    rw [getD_setI m i j v hi, Array.getElem?_setIfInBounds]
    by_cases e : i = j
    · subst e
      have : i < cur.size := by omega
      simp [this]
    · have e' : ¬ j = i := fun q => e q.symm
      simp [e, e', hc j hj]
theorem Outs.later {base : Nat} {w w' : World} {a : Option Addr} {m : List Int} (h : Outs base w a m) (k : Gr w w') : Outs base w' a m := by
  rcases h with h | ⟨g, cur, ha, hb, hg, hs, hc⟩
  · exact .inl h
  · exact .inr ⟨g, cur, ha, hb, hg.later k, hs, hc⟩
theorem Outs.words {base : Nat} {w : World} {a : Option Addr} {m : List Int} (h : Outs base w a m) : WordsAt w a m := by
  rcases h with h | ⟨g, cur, ha, hb, hg, hs, hc⟩
  · exact .inl h
  · exact .inr ⟨g, 0, ha, fun i hi => by rw [Nat.zero_add]; exact hg.cell (hc i hi)⟩

theorem build0 {o : Oper} {a : Act} {w : World} (ho : o.op = .buildSlice 34 0 #[]) : (execOp a.eval o).run Try.prog w = .ok (.value (.slice (some ⟨w.heap.size, 0, none⟩) 0 0)) (w.alloc (.cells #[] 26)) := by
  unfold execOp
  simp only [ho]
  go_simp
theorem build1 {o : Oper} {a : Act} {w : World} (x : Operand) (ho : o.op = .buildSlice 34 1 #[(0, x)]) (e : Ent) (hx : a.eval x = .agg #[.int .i64 e.a, .int .u32 e.v]) :
    (execOp a.eval o).run Try.prog w = .ok (.value (.slice (some ⟨w.heap.size, 0, none⟩) 1 1)) (w.alloc (.cells (flat [e]).toArray 26)) := by
  unfold execOp
  simp only [ho, List.map_toArray, List.map_cons, List.map_nil, hx]
  simp only [flat, entC, List.flatMap_cons, List.flatMap_nil, List.append_nil]
  clear hx
  go_simp
theorem EntsAt.aside {w : World} {a : Option Addr} {l : List Ent} (h : EntsAt w a l) {n : Nat} (hn : ∀ y, a = some y → y.block ≠ n) (D : Array Value) : EntsAt (w.setRow n D) a l := by
  rcases h with h | ⟨b, off, rfl, h⟩
  · exact .inl h
  · have hb : b ≠ n := hn _ rfl
    exact .inr ⟨b, off, rfl, fun i hi => ⟨(cell_setRow_other w n D ⟨b, _, none⟩ hb).trans (h i hi).1, (cell_setRow_other w n D ⟨b, _, none⟩ hb).trans (h i hi).2⟩⟩
theorem EntsAt.tail {w : World} {b off : Nat} {y : Ent} {l : List Ent} (h : EntsAt w (some ⟨b, off, none⟩) (y :: l)) : EntsAt w (some ⟨b, off + 2, none⟩) l := by
  rcases h with h | ⟨b', off', ha, h⟩
  · cases h
  · cases ha
    refine .inr ⟨b, off + 2, rfl, fun i hi => ?_⟩
    obtain ⟨h1, h2⟩ := h (i + 1) (by simp; omega)
    have e : off + (i + 1) * 2 = off + 2 + i * 2 := by omega
    rw [e] at h1 h2
    exact ⟨h1, h2⟩

/-- an append whose run is known -/
theorem wp_app {o : Oper} {a : Act} {w : World} {K : Act → World → Prop} {Q : Exit → Act → World → Prop} (d : Option Tmp) (hd : o.dst = d) (s x : Operand) (t : TypeId) (ho : o.op = .call { callee := .builtin .append, args := #[s, x], argTypes := #[t, t] })
    (v u : Value) (hs : a.eval s = v) (hx : a.eval x = u) (v' : Value) (w' : World) (hr : (Builtin.append_ #[t, t] o.type #[v, u]).run Try.prog w = .ok v' w') (h : K (a.put d v') w') : o.wp Try.prog a w K Q := by
  subst hd
  unfold Oper.wp execOp
  simp only [ho, resolve, invoke, builtin, Sem.run_bind, Sem.run_pure, Result.andThen_ok, List.map_toArray, List.map_cons, List.map_nil, hs, hx, hr]
  exact h
theorem step_app {ops : Array Oper} {rest : List Oper} {o : Oper} {a : Act} {w : World} {Q : Exit → Act → World → Prop} (hgd : o.guard = none) (d : Option Tmp) (hd : o.dst = d) (s x : Operand) (t : TypeId) (ho : o.op = .call { callee := .builtin .append, args := #[s, x], argTypes := #[t, t] })
    (v u : Value) (hs : a.eval s = v) (hx : a.eval x = u) (v' : Value) (w' : World) (hr : (Builtin.append_ #[t, t] o.type #[v, u]).run Try.prog w = .ok v' w') (h : wpList Try.prog ops Q rest (a.put d v') w') : wpList Try.prog ops Q (o :: rest) a w :=
  wpList_plain hgd fun _ hK => wp_app d hd s x t ho v u hs hx v' w' hr (hK _ _ h)

/-- a copy of words in new memory -/
theorem clone_words (w : World) (ty : TypeId) (ad : Option Addr) (c : Nat) (m : List Int) (hm : WordsAt w ad m) (hc : ad = none → c = 0) (hn : m.length ≤ 100000) :
    ∃ a' c' w', (Builtin.append_ #[48, 48] ty #[.slice (some ⟨w.heap.size, 0, none⟩) 0 0, .slice ad m.length c]).run Try.prog (w.alloc (.cells #[] 24)) = .ok (.slice a' m.length c') w' ∧ Gr w w' ∧ Outs w.heap.size w' a' m ∧ (a' = none → c' = 0) := by
  have hown : (w.alloc (.cells #[] 24)).ownsRow w.heap.size 24 1 (.slice (some ⟨w.heap.size, 0, none⟩) 0 0) 0 [] := World.ownsRow_made w #[] 0 (Nat.le_refl _) (Nat.zero_le _) rfl
  obtain ⟨v', w', hr, ho, hg⟩ := app_words (w.alloc (.cells #[] 24)) w.heap.size ty _ 0 [] hown ad c m (hm.later ((Gr.refl w).alloc _ _)) hc (by omega) (by simp)
  rw [Nat.zero_add, List.nil_append] at ho
  obtain ⟨a', c', rfl, _, h3, h4⟩ := own_words ho
  exact ⟨a', c', w', hr, Below.grown ((Gr.refl w).alloc _ _) hg (by simp) (fun k hk => by simp [Value.ownBlock] at hk; omega), h4, h3⟩

/-- all entries are appended to an empty block -/
theorem app_all (u : World) (ty : TypeId) (g0 : Nat) (h0 : Has u g0 #[] 26) (ad : Option Addr) (c : Nat) (L : List Ent) (hL : L.length ≤ 1000) (he : EntsAt u ad L) (hc : ad = none → c = 0) (w0 : World) (hw : Gr w0 u) (hg0 : w0.heap.size ≤ g0) :
    ∃ v1 u1, (Builtin.append_ #[34, 34] ty #[.slice (some ⟨g0, 0, none⟩) 0 0, .slice ad L.length c]).run Try.prog u = .ok v1 u1 ∧ u1.ownsRow w0.heap.size 26 2 v1 L.length (flat L) ∧ (∀ k C t, k ≠ g0 → Has u k C t → Has u1 k C t) ∧ Gr w0 u1 := by
  have hown : u.ownsRow w0.heap.size 26 2 (.slice (some ⟨g0, 0, none⟩) 0 0) 0 [] := ⟨rfl, .inr ⟨g0, 0, #[], rfl, hg0, h0, Nat.le_refl _, Nat.zero_le _, rfl, rfl⟩⟩
  obtain ⟨v1, u1, hr, ho, hg⟩ := app_ents u w0.heap.size ty _ 0 [] hown ad c L he hc (by omega) hw.size
  rw [Nat.zero_add, List.nil_append] at ho
  refine ⟨v1, u1, hr, ho, fun k C t hk hh => ?_, Below.grown hw hg hw.size (fun k hk => by simp [Value.ownBlock] at hk; omega)⟩
  exact (hg.block k hh.lt (by simp [Value.ownBlock]; omega)).trans hh
/-- one entry is appended -/
theorem app_one (u : World) (base : Nat) (ty : TypeId) (v : Value) (L : List Ent) (x : Ent) (hL : L.length ≤ 1000) (hown : u.ownsRow base 26 2 v L.length (flat L)) (gx : Nat) (hx : Has u gx (flat [x]).toArray 26) (w0 : World) (hw : Gr w0 u) (hb : w0.heap.size = base) :
    ∃ a' c' u', (Builtin.append_ #[34, 34] ty #[v, .slice (some ⟨gx, 0, none⟩) 1 1]).run Try.prog u = .ok (.slice a' (L ++ [x]).length c') u' ∧ EntsAt u' a' (L ++ [x]) ∧ (a' = none → c' = 0) ∧ (L ++ [x]).length ≤ c' ∧ (∀ y, a' = some y → base ≤ y.block) ∧ Gr w0 u' := by
  subst hb
  obtain ⟨v1, u1, hr, ho, hg⟩ := app_ents u w0.heap.size ty v L.length (flat L) hown (some ⟨gx, 0, none⟩) 1 [x] hx.ents (fun h => by cases h) (by simp; omega) hw.size
  rw [← flat_append, show L.length + [x].length = (L ++ [x]).length by simp] at ho
  obtain ⟨a', c', rfl, h1, h2, h3, h4⟩ := own_ents ho
  exact ⟨a', c', u1, hr, h1, h2, h3, h4, Below.grown hw hg hw.size (fun k hk => (hown.lt k hk).1)⟩
end Go.Proofs.Ytiogacfejchimaa
