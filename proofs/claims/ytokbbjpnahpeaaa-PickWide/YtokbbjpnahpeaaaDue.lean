/-
  What is due, as a row of one's own behind a pointer; its methods Len, Less, Swap, Push and Pop. No condition but what each law names.
-/
import Derived.Test.YtokbbjpnahpeaaaSml
namespace Go.Proofs.Ytokbbjpnahpeaaa
open Go.ChangeShapes Go.WideShapes Go.ChangeAt Go.RowKit
set_option linter.unusedVariables false

def d0 : Du := ⟨0, 0, 0⟩
abbrev duV (x : Du) : Value := .agg #[.int .i64 x.k, .int .i64 x.who, .int .i64 x.b]
def duC (x : Du) : List Value := [.int .i64 x.k, .int .i64 x.who, .int .i64 x.b]
def flatD (r : List Du) : List Value := r.flatMap duC
theorem flatD_cons (x : Du) (r : List Du) : flatD (x :: r) = .int .i64 x.k :: .int .i64 x.who :: .int .i64 x.b :: flatD r := rfl
theorem flatD_append (r s : List Du) : flatD (r ++ s) = flatD r ++ flatD s := by simp [flatD]
theorem flatD_length : ∀ r : List Du, (flatD r).length = r.length * 3
  | [] => rfl
  | x :: r => by rw [flatD_cons]; simp [flatD_length r]; omega
theorem flatD_at : ∀ (r : List Du) (i : Nat), (flatD r)[i * 3]? = (r[i]?.map fun x => Value.int .i64 x.k) ∧ (flatD r)[i * 3 + 1]? = (r[i]?.map fun x => Value.int .i64 x.who) ∧ (flatD r)[i * 3 + 2]? = (r[i]?.map fun x => Value.int .i64 x.b)
  | [], i => by simp [flatD]
  | x :: r, 0 => ⟨rfl, rfl, rfl⟩
  | x :: r, i + 1 => by
    obtain ⟨h1, h2, h3⟩ := flatD_at r i
    rw [flatD_cons, show (i + 1) * 3 + 2 = i * 3 + 2 + 1 + 1 + 1 from by omega, show (i + 1) * 3 + 1 = i * 3 + 1 + 1 + 1 + 1 from by omega, show (i + 1) * 3 = i * 3 + 1 + 1 + 1 from by omega]
    simp only [List.getElem?_cons_succ]
    exact ⟨h1, h2, h3⟩
theorem flatD_set : ∀ (r : List Du) (i : Nat) (x : Du), flatD (r.set i x) = (((flatD r).set (i * 3) (.int .i64 x.k)).set (i * 3 + 1) (.int .i64 x.who)).set (i * 3 + 2) (.int .i64 x.b)
  | [], i, x => by simp [flatD]
  | y :: r, 0, x => by simp [flatD_cons]
  | y :: r, i + 1, x => by
    rw [List.set_cons_succ, flatD_cons, flatD_cons, flatD_set r i x, show (i + 1) * 3 + 2 = i * 3 + 2 + 1 + 1 + 1 from by omega, show (i + 1) * 3 + 1 = i * 3 + 1 + 1 + 1 + 1 from by omega, show (i + 1) * 3 = i * 3 + 1 + 1 + 1 from by omega]
    simp
theorem flatD_take : ∀ (r : List Du) (n : Nat), flatD (r.take n) = (flatD r).take (n * 3)
  | [], n => by simp [flatD]
  | x :: r, 0 => by simp [flatD]
  | x :: r, n + 1 => by
    rw [List.take_succ_cons, flatD_cons, flatD_cons, flatD_take r n, show (n + 1) * 3 = n * 3 + 1 + 1 + 1 from by omega]
    simp
theorem flatD_one (r : List Du) : ∀ v ∈ flatD r, v.oneCell' = true := by
  intro v hv
  unfold flatD at hv
  obtain ⟨x, _, hx⟩ := List.mem_flatMap.1 hv
  simp only [duC, List.mem_cons, List.not_mem_nil, or_false] at hx
  rcases hx with rfl | rfl | rfl <;> rfl

/-- the places of a list as a function -/
def fn (l : List Du) (k : Nat) : Du := l.getD k d0
def swapL (l : List Du) (i j : Nat) : List Du := (l.set i (fn l j)).set j (fn l i)
theorem swapL_len (l : List Du) (i j : Nat) : (swapL l i j).length = l.length := by simp [swapL]
theorem fn_set (l : List Du) (p k : Nat) (x : Du) (h : p < l.length) : fn (l.set p x) k = if k = p then x else fn l k := by
  unfold fn
  simp only [List.getD_eq_getElem?_getD, List.getElem?_set]
  by_cases e : p = k
  · subst e; simp [h]
  · have e' : ¬ k = p := fun q => e q.symm
    simp [e, e']
theorem fn_swapL (l : List Du) (i j : Nat) (hi : i < l.length) (hj : j < l.length) : fn (swapL l i j) = swp (fn l) i j := by
  funext k
  unfold swapL
  rw [fn_set _ _ _ _ (by simpa using hj), fn_set _ _ _ _ hi, swp_comm]
  rfl
theorem fn_take (l : List Du) (n k : Nat) (h : k < n) : fn (l.take n) k = fn l k := by
  unfold fn
  rw [List.getD_eq_getElem?_getD, List.getD_eq_getElem?_getD, List.getElem?_take, if_pos h]
theorem fn_app (l : List Du) (x : Du) : fn (l ++ [x]) l.length = x := by simp [fn, List.getD_eq_getElem?_getD]
theorem fn_appl (l : List Du) (x : Du) (k : Nat) (h : k < l.length) : fn (l ++ [x]) k = fn l k := by
  unfold fn
  rw [List.getD_eq_getElem?_getD, List.getD_eq_getElem?_getD, List.getElem?_append_left h]

/-- what is due as a row of one's own -/
def Dw (w : World) (base : Nat) (v : Value) (l : List Du) : Prop := w.ownsRow base 49 3 v l.length (flatD l)
theorem Dw.nil (w : World) (base : Nat) : Dw w base (.slice none 0 0) [] := ⟨rfl, .inl ⟨rfl, rfl⟩⟩
theorem own_move {w w' : World} {base sz n : Nat} {t : TypeId} {v : Value} {xs : List Value} (h : w.ownsRow base t sz v n xs) (hk : ∀ k C, base ≤ k → Has w k C t → w'.heap[k]? = w.heap[k]?) : w'.ownsRow base t sz v n xs := by
  refine ⟨h.1, ?_⟩
  rcases h.2 with h2 | ⟨g, cap, cur, hv, hb, hg, rest⟩
  · exact .inl h2
  · exact .inr ⟨g, cap, cur, hv, hb, (hk g cur hb hg).trans hg, rest⟩
theorem Dw.later {w w' : World} {base : Nat} {v : Value} {l : List Du} (h : Dw w base v l) (g : Gr w w') : Dw w' base v l := own_move h fun k C _ hk => g.block k hk.lt
/-- a row that is not empty -/
theorem Dw.open {w : World} {base : Nat} {v : Value} {l : List Du} (h : Dw w base v l) (hl : 0 < l.length) :
    ∃ g cap cur, v = .slice (some ⟨g, 0, none⟩) l.length cap ∧ base ≤ g ∧ Has w g cur 49 ∧ l.length ≤ cap ∧ cap ≤ maxLen ∧ cur.size = cap * 3 ∧ cur.toList.take (l.length * 3) = flatD l := by
  rcases h.2 with ⟨_, h0⟩ | h1
  · omega
  · exact h1
theorem Dw.slice {w : World} {base : Nat} {v : Value} {l : List Du} (h : Dw w base v l) : ∃ a c, v = .slice a l.length c := by
  rcases h.2 with ⟨rfl, h0⟩ | ⟨g, cap, cur, rfl, _⟩
  · rw [h0]; exact ⟨none, 0, rfl⟩
  · exact ⟨_, _, rfl⟩
theorem dc_at {cur : Array Value} {l : List Du} (h : cur.toList.take (l.length * 3) = flatD l) (i : Nat) (hi : i < l.length) :
    cur[i * 3]? = some (.int .i64 (fn l i).k) ∧ cur[i * 3 + 1]? = some (.int .i64 (fn l i).who) ∧ cur[i * 3 + 2]? = some (.int .i64 (fn l i).b) := by
  have e : l[i]? = some (fn l i) := by unfold fn; rw [List.getD_eq_getElem?_getD, List.getElem?_eq_getElem hi]; rfl
  obtain ⟨h1, h2, h3⟩ := flatD_at l i
  rw [← h, List.getElem?_take, if_pos (by omega), e] at h1 h2 h3
  rw [Array.getElem?_toList] at h1 h2 h3
  exact ⟨h1, h2, h3⟩
theorem dc_set {cur : Array Value} {l : List Du} (h : cur.toList.take (l.length * 3) = flatD l) (i : Nat) (x : Du) :
    (((cur.setIfInBounds (i * 3) (.int .i64 x.k)).setIfInBounds (i * 3 + 1) (.int .i64 x.who)).setIfInBounds (i * 3 + 2) (.int .i64 x.b)).toList.take ((l.set i x).length * 3) = flatD (l.set i x) := by
  rw [flatD_set, ← h]
  simp only [Array.toList_setIfInBounds, List.take_set, List.length_set]
theorem Has.setDu {w : World} {g : Nat} {t : TypeId} {C : Array Value} (h : Has w g C t) (p : Nat) (x : Du) :
    Has (w.setCells g (p * 3) [.int .i64 x.k, .int .i64 x.who, .int .i64 x.b]) g (((C.setIfInBounds (p * 3) (.int .i64 x.k)).setIfInBounds (p * 3 + 1) (.int .i64 x.who)).setIfInBounds (p * 3 + 2) (.int .i64 x.b)) t :=
  ((h.set (p * 3) (.int .i64 x.k)).set (p * 3 + 1) (.int .i64 x.who)).set (p * 3 + 2) (.int .i64 x.b)
theorem Has.asideDu {w : World} {g k : Nat} {C : Array Value} {t : TypeId} (h : Has w g C t) (hk : g ≠ k) (o : Nat) (x y z : Value) : Has (w.setCells k o [x, y, z]) g C t := ((h.aside hk o x).aside hk (o + 1) y).aside hk (o + 1 + 1) z
theorem infoD3 : (Try.prog.info? 49).map (fun i => (i.zero, i.size, i.bytes)) = some (some (duV d0), 3, 24) := by kernel_rfl
theorem infoD : (Try.prog.info? 49).map (·.size) = some 3 := by kernel_rfl
theorem wp_store_du {op : Oper} (hd0 : op.dst = none) {a : Act} {w : World} {K : Act → World → Prop} {Q : Exit → Act → World → Prop} (x y : Operand) (ho : op.op = .store 49 x y)
    (g o : Nat) (hx : a.eval x = .pointer (some ⟨g, o, none⟩)) (e : Du) (hy : a.eval y = duV e) (C : Array Value) (t : TypeId) (hg : Has w g C t) (hs : o + 3 ≤ C.size)
    (h : K a (w.setCells g o [.int .i64 e.k, .int .i64 e.who, .int .i64 e.b])) : op.wp Try.prog a w K Q :=
  wp_store_mid 49 x y ho g o #[.int .i64 e.k, .int .i64 e.who, .int .i64 e.b] hx hy (hg.there o 3 hs) infoD (by simp [Value.oneCell']) (by rw [hd0]; exact h)

/-- what is below is kept, and all that is neither such a row nor what points to one -/
structure Fr (base : Nat) (w w' : World) : Prop where
  below : Below base w w'
  kept : ∀ k C t, t ≠ 46 → t ≠ 49 → Has w k C t → Has w' k C t
theorem Fr.gr {base : Nat} {w w' : World} (h : Gr w w') (hb : base ≤ w.heap.size) : Fr base w w' := ⟨Below.mono h hb, fun k C t _ _ hk => hk.later h⟩
theorem Fr.refl (base : Nat) (w : World) : Fr base w w := ⟨Below.refl base w, fun k C t _ _ h => h⟩
theorem Fr.trans {base : Nat} {a b c : World} (h : Fr base a b) (k : Fr base b c) : Fr base a c := ⟨Below.trans h.below k.below, fun x C t h1 h2 hx => k.kept x C t h1 h2 (h.kept x C t h1 h2 hx)⟩
theorem Fr.drewN (base : Nat) (w : World) (n : Nat) : Fr base w (w.drewN n) := ⟨⟨rfl, rfl, rfl, Nat.le_refl _, fun _ _ => rfl⟩, fun _ _ _ _ _ h => h⟩
theorem Fr.size {base : Nat} {w w' : World} (h : Fr base w w') : w.heap.size ≤ w'.heap.size := h.below.size
theorem Fr.setCell {base : Nat} {w : World} {g : Nat} {C : Array Value} {t : TypeId} (h : Has w g C t) (hb : base ≤ g) (ht : t = 46 ∨ t = 49) (o : Nat) (v : Value) : Fr base w (w.setCell ⟨g, o, none⟩ v) :=
  ⟨Below.setCell (Below.refl base w) hb v, fun k D u h1 h2 hk => hk.aside (hk.apart h (by rcases ht with rfl | rfl <;> assumption)) o v⟩
theorem Fr.setDu {base : Nat} {w : World} {g : Nat} {C : Array Value} (h : Has w g C 49) (hb : base ≤ g) (o : Nat) (x y z : Value) : Fr base w (w.setCells g o [x, y, z]) :=
  ((Fr.setCell h hb (.inr rfl) o x).trans (Fr.setCell (h.set o x) hb (.inr rfl) (o + 1) y)).trans (Fr.setCell ((h.set o x).set (o + 1) y) hb (.inr rfl) (o + 1 + 1) z)

theorem len_calls (a : Option Addr) (n c : Nat) (hn : n ≤ 1000) (w : World) : Calls Try.prog 42 #[.slice a n c] w fun e w' => e = .returned (.int .i64 n) ∧ w' = w := by
  go_enter Try.func42, Try.ntmps42
  go_wp2_with (fail)
  go_ret
  exact ⟨rfl, rfl⟩

set_option maxHeartbeats 400000 in
theorem less_calls {w : World} {base : Nat} {v : Value} {l : List Du} (h : Dw w base v l) (i j : Nat) (hi : i < l.length) (hj : j < l.length) (hl : l.length ≤ 1000) :
    Calls Try.prog 43 #[v, .int .i64 i, .int .i64 j] w fun e w' => e = .returned (.bool (decide ((fn l i).b < (fn l j).b))) ∧ ∃ n, w' = w.drewN n := by
  obtain ⟨g, cap, cur, rfl, hb, hg, _, _, hs, ht⟩ := h.open (by omega)
  have ci := hg.cell (dc_at ht i hi).2.2
  have cj := hg.cell (dc_at ht j hj).2.2
  have hi' : (i : Int) < l.length := by omega
  have hj' : (j : Int) < l.length := by omega
  clear ht hs hg h
  generalize fn l i = x at ci ⊢
  generalize fn l j = y at cj ⊢
  go_enter Try.func43, Try.ntmps43
  go_wp2_with (fail)
  go_quiet (fail)
  go_wp2_with (fail)
  go_ret
  exact ⟨rfl, _, rfl⟩

set_option maxHeartbeats 1000000 in
theorem swap_calls {w : World} {base : Nat} {v : Value} {l : List Du} (h : Dw w base v l) (hb0 : base ≤ w.heap.size) (i j : Nat) (hi : i < l.length) (hj : j < l.length) (hl : l.length ≤ 1000) :
    Calls Try.prog 44 #[v, .int .i64 i, .int .i64 j] w fun e w' => (e = .returned (.tuple #[]) ∧ Fr base w w') ∧ Dw w' base v (swapL l i j) ∧ (∀ k C, Has w k C 46 → Has w' k C 46) := by
  obtain ⟨g, cap, cur, rfl, hb, hg, hc, hm, hs, ht⟩ := h.open (by omega)
  have ci := dc_at ht i hi
  have cj := dc_at ht j hj
  have hi' : (i : Int) < l.length := by omega
  have hj' : (j : Int) < l.length := by omega
  have HT := hide ht
  have HS := hide hs
  clear ht hs h
  have E : swapL l i j = (l.set i (fn l j)).set j (fn l i) := rfl
  rw [E]
  generalize fn l i = x at ci E ⊢
  generalize fn l j = y at cj E ⊢
  clear E
  go_enter Try.func44, Try.ntmps44
  go_wp2_with (fail)
  refine begin_late 16 [13, 15] (fun w' => Gr w.drew w') (by kernel_rfl) rfl ?_
  have hH := Gr.refl w.drew
  refine AnyL.takeP 0 (some 6) (.slice (some ⟨g, 0, none⟩) l.length cap) rfl rfl (by kernel_rfl) (by kernel_rfl) (by kernel_rfl) (by kernel_rfl) (fun _ _ _ h => h) (by kernel_rfl) (fun w' => by go_simp) (fun _ => hH) ?_
  simp only [Act.put, List.setIfInBounds_toArray, List.set_cons_zero, List.set_cons_succ]
  refine AnyL.takeP 1 (some 7) (.int .i64 i) rfl rfl (by kernel_rfl) (by kernel_rfl) (by kernel_rfl) (by kernel_rfl) (fun _ _ _ h => h) (by kernel_rfl) (fun w' => by go_simp) (fun _ => hH) ?_
  simp only [Act.put, List.setIfInBounds_toArray, List.set_cons_zero, List.set_cons_succ]
  refine AnyL.takeP 2 (some 8) (.slice (some ⟨g, 0, none⟩) l.length cap) rfl rfl (by kernel_rfl) (by kernel_rfl) (by kernel_rfl) (by kernel_rfl) (fun _ _ _ h => h) (by kernel_rfl) (fun w' => by go_simp) (fun _ => hH) ?_
  simp only [Act.put, List.setIfInBounds_toArray, List.set_cons_zero, List.set_cons_succ]
  refine AnyL.takeP 3 (some 9) (.int .i64 j) rfl rfl (by kernel_rfl) (by kernel_rfl) (by kernel_rfl) (by kernel_rfl) (fun _ _ _ h => h) (by kernel_rfl) (fun w' => by go_simp) (fun _ => hH) ?_
  simp only [Act.put, List.setIfInBounds_toArray, List.set_cons_zero, List.set_cons_succ]
  refine AnyL.takeP 4 (some 10) (.slice (some ⟨g, 0, none⟩) l.length cap) rfl rfl (by kernel_rfl) (by kernel_rfl) (by kernel_rfl) (by kernel_rfl) (fun _ _ _ h => h) (by kernel_rfl) (fun w' => by go_simp) (fun _ => hH) ?_
  simp only [Act.put, List.setIfInBounds_toArray, List.set_cons_zero, List.set_cons_succ]
  refine AnyL.takeP 5 (some 11) (.int .i64 j) rfl rfl (by kernel_rfl) (by kernel_rfl) (by kernel_rfl) (by kernel_rfl) (fun _ _ _ h => h) (by kernel_rfl) (fun w' => by go_simp) (fun _ => hH) ?_
  simp only [Act.put, List.setIfInBounds_toArray, List.set_cons_zero, List.set_cons_succ]
  refine AnyL.takeP 6 (some 12) (.pointer (some ⟨g, j * 3, none⟩)) rfl rfl (by kernel_rfl) (by kernel_rfl) (by kernel_rfl) (by kernel_rfl) (fun _ _ _ h => h) (by kernel_rfl) (fun w' => by go_simp) (fun _ => hH) ?_
  simp only [Act.put, List.setIfInBounds_toArray, List.set_cons_zero, List.set_cons_succ]
  refine AnyL.take 7 (some 13) (duV y) rfl rfl (by kernel_rfl) (by kernel_rfl) (by kernel_rfl) (by kernel_rfl) (fun _ _ _ h => h) (yields_held _ (by kernel_rfl) (fun w' hw' => by have h1 := (hg.drew.later hw').cell cj.1; have h2 := (hg.drew.later hw').cell cj.2.1; have h3 := (hg.drew.later hw').cell cj.2.2; go_simp)) hH ?_
  simp only [Act.put, List.setIfInBounds_toArray, List.set_cons_zero, List.set_cons_succ]
  refine AnyL.takeP 8 (some 14) (.slice (some ⟨g, 0, none⟩) l.length cap) rfl rfl (by kernel_rfl) (by kernel_rfl) (by kernel_rfl) (by kernel_rfl) (fun _ _ _ h => h) (by kernel_rfl) (fun w' => by go_simp) (fun _ => hH) ?_
  simp only [Act.put, List.setIfInBounds_toArray, List.set_cons_zero, List.set_cons_succ]
  refine AnyL.takeP 9 (some 15) (.int .i64 i) rfl rfl (by kernel_rfl) (by kernel_rfl) (by kernel_rfl) (by kernel_rfl) (fun _ _ _ h => h) (by kernel_rfl) (fun w' => by go_simp) (fun _ => hH) ?_
  simp only [Act.put, List.setIfInBounds_toArray, List.set_cons_zero, List.set_cons_succ]
  refine AnyL.takeP 10 (some 16) (.pointer (some ⟨g, i * 3, none⟩)) rfl rfl (by kernel_rfl) (by kernel_rfl) (by kernel_rfl) (by kernel_rfl) (fun _ _ _ h => h) (by kernel_rfl) (fun w' => by go_simp) (fun _ => hH) ?_
  simp only [Act.put, List.setIfInBounds_toArray, List.set_cons_zero, List.set_cons_succ]
  refine AnyL.take 11 (some 17) (duV x) rfl rfl (by kernel_rfl) (by kernel_rfl) (by kernel_rfl) (by kernel_rfl) (fun _ _ _ h => h) (yields_held _ (by kernel_rfl) (fun w' hw' => by have h1 := (hg.drew.later hw').cell ci.1; have h2 := (hg.drew.later hw').cell ci.2.1; have h3 := (hg.drew.later hw').cell ci.2.2; go_simp)) hH ?_
  simp only [Act.put, List.setIfInBounds_toArray, List.set_cons_zero, List.set_cons_succ]
  refine AnyL.takeP 12 (some 18) (.pointer (some ⟨g, i * 3, none⟩)) rfl rfl (by kernel_rfl) (by kernel_rfl) (by kernel_rfl) (by kernel_rfl) (fun _ _ _ h => h) (by kernel_rfl) (fun w' => by go_simp) (fun _ => hH) ?_
  simp only [Act.put, List.setIfInBounds_toArray, List.set_cons_zero, List.set_cons_succ]
  refine AnyL.one 13 (by kernel_rfl) rfl (by kernel_rfl) ?_
  refine wp_store_du rfl _ _ rfl g (i * 3) rfl y rfl cur 49 hg.drew (by have := HS.out; omega) ?_
  refine ⟨late (by kernel_rfl), ?_⟩
  have g1 := hg.drew.setDu i y
  have f1 : Fr base w (w.drew.setCells g (i * 3) [.int .i64 y.k, .int .i64 y.who, .int .i64 y.b]) := (Fr.gr (Gr.drew (Gr.refl w)) hb0).trans (Fr.setDu hg.drew hb (i * 3) _ _ _)
  have k1 : ∀ k C, Has w k C 46 → Has (w.drew.setCells g (i * 3) [.int .i64 y.k, .int .i64 y.who, .int .i64 y.b]) k C 46 := fun k C hk => hk.drew.asideDu (hk.apart hg (by decide)) _ _ _ _
  have t1 := dc_set HT.out i y
  generalize w.drew.setCells g (i * 3) [.int .i64 y.k, .int .i64 y.who, .int .i64 y.b] = w1 at g1 f1 k1 ⊢
  have s1 : (((cur.setIfInBounds (i * 3) (.int .i64 y.k)).setIfInBounds (i * 3 + 1) (.int .i64 y.who)).setIfInBounds (i * 3 + 2) (.int .i64 y.b)).size = cap * 3 := by simp [HS.out]
  generalize ((cur.setIfInBounds (i * 3) (.int .i64 y.k)).setIfInBounds (i * 3 + 1) (.int .i64 y.who)).setIfInBounds (i * 3 + 2) (.int .i64 y.b) = cur1 at g1 t1 s1
  replace hH : earlyB [13, 15] #[true, true, true, true, true, true, true, true, true, true, true, true, true, true, false, false] = true → Gr w.drew w1 := late (by kernel_rfl)
  refine AnyL.takeP 14 (some 19) (.pointer (some ⟨g, j * 3, none⟩)) rfl rfl (by kernel_rfl) (by kernel_rfl) (by kernel_rfl) (by kernel_rfl) (fun _ _ _ h => h) (by kernel_rfl) (fun w' => by go_simp) hH ?_
  simp only [Act.put, List.setIfInBounds_toArray, List.set_cons_zero, List.set_cons_succ]
  refine AnyL.one 15 (by kernel_rfl) rfl (by kernel_rfl) ?_
  refine wp_store_du rfl _ _ rfl g (j * 3) rfl x rfl cur1 49 g1 (by omega) ?_
  refine ⟨late (by kernel_rfl), ?_⟩
  refine AnyL.done (by kernel_rfl) ?_
  have g2 := g1.setDu j x
  have f2 := f1.trans (Fr.setDu g1 hb (j * 3) (.int .i64 x.k) (.int .i64 x.who) (.int .i64 x.b))
  have k2 : ∀ k C, Has w k C 46 → Has (w1.setCells g (j * 3) [.int .i64 x.k, .int .i64 x.who, .int .i64 x.b]) k C 46 := fun k C hk => (k1 k C hk).asideDu ((k1 k C hk).apart g1 (by decide)) _ _ _ _
  have t2 := dc_set t1 j x
  have s2 : (((cur1.setIfInBounds (j * 3) (.int .i64 x.k)).setIfInBounds (j * 3 + 1) (.int .i64 x.who)).setIfInBounds (j * 3 + 2) (.int .i64 x.b)).size = cap * 3 := by simp [s1]
  generalize w1.setCells g (j * 3) [.int .i64 x.k, .int .i64 x.who, .int .i64 x.b] = w2 at g2 f2 k2 ⊢
  have e : ((l.set i y).set j x).length = l.length := by simp
  clear hH
  go_wp2_with (fail)
  go_end0
  refine ⟨⟨rfl, f2⟩, ⟨flatD_length _, .inr ⟨g, cap, _, by rw [e], hb, g2, by rw [e]; exact hc, hm, s2, t2⟩⟩, k2⟩
end Go.Proofs.Ytokbbjpnahpeaaa
