/-
  What All answers of a queue in memory: a new slice of its sleepers, the first asleep first. No condition but that.
-/
import Derived.Test.YtlcjobgnjmhokaaSlp
import Derived.Test.YtlcjobgnjmhokaaRow
namespace Go.Proofs.Ytlcjobgnjmhokaa
open Go.ChangeShapes Go.WideShapes Go.ChangeAt Go.RowKit
set_option linter.unusedVariables false

theorem copy_ents (w : World) (ty : TypeId) (g : Nat) (D : Array Value) (t : TypeId) (hg : Has w g D t) (s cap : Nat) (l : List Ent) (hD : D.size = l.length * 2) (he : EntsAt w (some ⟨s, 0, none⟩) l) :
    (Builtin.copy_ #[44, 44] ty #[.slice (some ⟨g, 0, none⟩) l.length l.length, .slice (some ⟨s, 0, none⟩) l.length cap]).run Try.prog w = .ok (goInt l.length) (w.setRow g (flat l).toArray) := by
  have hsrc : ∀ j v, (flat l)[j]? = some v → w.cell? ((⟨s, 0, none⟩ : Addr).add j) = some v := by
    intro j u hj
    have hj' : j < l.length * 2 := by have := (List.getElem?_eq_some_iff.1 hj).1; rw [flat_length] at this; exact this
    rcases he with rfl | ⟨b, off, h, hcc⟩
    · simp at hj'
    · cases h
      obtain ⟨c1, c2⟩ := hcc (j / 2) (by omega)
      rw [Nat.zero_add] at c1 c2
      rw [Addr.add_mid, Nat.zero_add, ← hj]
      rcases (by omega : j % 2 = 0 ∨ j % 2 = 1) with h2 | h2
      · have e : j = j / 2 * 2 := by omega
        have q := flatC_a l (j / 2) (by omega)
        rw [List.getElem?_toArray, ← e] at q
        rw [q, ← c1, ← e]
      · have e : j = j / 2 * 2 + 1 := by omega
        have q := flatC_v l (j / 2) (by omega)
        rw [List.getElem?_toArray, ← e] at q
        rw [q, ← c2, ← e]
  have hl := run_loadCells_list (P := Try.prog) w ⟨s, 0, none⟩ (flat l) hsrc
  have hst := run_storeCells_at Try.prog g 0 t (flat l) 0 D w hg (by rw [flat_length, hD]; omega) (flat_one l)
  rw [flat_length] at hl
  have e : (D.toList.take (0 + 0) ++ flat l ++ D.toList.drop (0 + 0 + (flat l).length)).toArray = (flat l).toArray := by
    have : D.toList.drop (0 + 0 + (flat l).length) = [] := by
      apply List.drop_eq_nil_of_le
      rw [flat_length]
      simp [hD]
    rw [this]
    simp
  rw [e] at hst
  obtain ⟨i, h1, h2, h3, h4⟩ := info_parts infoE3
  simp [Builtin.copy_, run_underlying Try.underlying44, Builtin.lenOf, Builtin.firstCells, sizeOf, typeInfo, h1, h3, hl, hst]

/-- a copy whose run is known -/
theorem wp_cp {o : Oper} {a : Act} {w : World} {K : Act → World → Prop} {Q : Exit → Act → World → Prop} (d : Option Tmp) (hd : o.dst = d) (s x : Operand) (t : TypeId) (ho : o.op = .call { callee := .builtin .copy, args := #[s, x], argTypes := #[t, t] })
    (v u : Value) (hs : a.eval s = v) (hx : a.eval x = u) (v' : Value) (w' : World) (hr : (Builtin.copy_ #[t, t] o.type #[v, u]).run Try.prog w = .ok v' w') (h : K (a.put d v') w') : o.wp Try.prog a w K Q := by
  subst hd
  unfold Oper.wp execOp
  simp only [ho, resolve, invoke, builtin, Sem.run_bind, Sem.run_pure, Result.andThen_ok, List.map_toArray, List.map_cons, List.map_nil, hs, hx, hr]
  exact h

set_option maxHeartbeats 1000000 in
theorem all_calls {g : Nat} {l : List Ent} {w : World} (h : K w g l) :
    Calls Try.prog 15 #[.pointer (some ⟨g, 0, none⟩)] w fun e w' => (e = .returned (.slice (some ⟨w.heap.size, 0, none⟩) l.length l.length) ∧ Gr w w') ∧ Has w' w.heap.size (flat l).toArray 25 := by
  obtain ⟨C, h0, hi⟩ := h
  have HB := hide hi
  have c16 : C[16]? = some (.int .i64 l.length) := hi.count
  have d16 := h0.cell c16
  have hlen := hi.len
  have hll : (l.length : Int) ≤ 8 := by omega
  have hmk := make_ents l.length (by omega)
  have hgs := h0.lt
  have a0 := h0.alloc (flat (List.replicate l.length ent0)).toArray 25
  have a1 := Has.new w (flat (List.replicate l.length ent0)).toArray 25
  have ag := (Gr.refl w).alloc (flat (List.replicate l.length ent0)).toArray 25
  clear hi h0
  go_enter Try.func15, Try.ntmps15
  go_wp2_with (fail)
  generalize hw1 : w.alloc (.cells (flat (List.replicate l.length ent0)).toArray 25) = w1 at a0 a1 ag
  refine begin_late 10 [] (fun w' => Has w' g C 28) (by kernel_rfl) rfl ?_
  have hH := a0.drew
  refine AnyL.takeP 0 (some 9) (.slice (some ⟨w.heap.size, 0, none⟩) l.length l.length) rfl rfl (by kernel_rfl) (by kernel_rfl) (by kernel_rfl) (by kernel_rfl) (fun _ _ _ h => h) (by kernel_rfl) (fun w' => by go_simp) (fun _ => hH) ?_
  simp only [Act.put, List.setIfInBounds_toArray, List.set_cons_zero, List.set_cons_succ]
  refine AnyL.takeP 1 (some 10) (.pointer (some ⟨g, 0, none⟩)) rfl rfl (by kernel_rfl) (by kernel_rfl) (by kernel_rfl) (by kernel_rfl) (fun _ _ _ h => h) (by kernel_rfl) (fun w' => by go_simp) (fun _ => hH) ?_
  simp only [Act.put, List.setIfInBounds_toArray, List.set_cons_zero, List.set_cons_succ]
  refine AnyL.takeP 2 (some 11) (.pointer (some ⟨g, 0, none⟩)) rfl rfl (by kernel_rfl) (by kernel_rfl) (by kernel_rfl) (by kernel_rfl) (fun _ _ _ h => h) (by kernel_rfl) (fun w' => by go_simp) (fun _ => hH) ?_
  simp only [Act.put, List.setIfInBounds_toArray, List.set_cons_zero, List.set_cons_succ]
  refine AnyL.takeP 3 (some 12) (.pointer (some ⟨g, 0, none⟩)) rfl rfl (by kernel_rfl) (by kernel_rfl) (by kernel_rfl) (by kernel_rfl) (fun _ _ _ h => h) (by kernel_rfl) (fun w' => by go_simp) (fun _ => hH) ?_
  simp only [Act.put, List.setIfInBounds_toArray, List.set_cons_zero, List.set_cons_succ]
  refine AnyL.takeP 4 (some 13) (.pointer (some ⟨g, 0, none⟩)) rfl rfl (by kernel_rfl) (by kernel_rfl) (by kernel_rfl) (by kernel_rfl) (fun _ _ _ h => h) (by kernel_rfl) (fun w' => by go_simp) (fun _ => hH) ?_
  simp only [Act.put, List.setIfInBounds_toArray, List.set_cons_zero, List.set_cons_succ]
  refine AnyL.takeP 5 (some 14) (.pointer (some ⟨g, 0, none⟩)) rfl rfl (by kernel_rfl) (by kernel_rfl) (by kernel_rfl) (by kernel_rfl) (fun _ _ _ h => h) (by kernel_rfl) (fun w' => by go_simp) (fun _ => hH) ?_
  simp only [Act.put, List.setIfInBounds_toArray, List.set_cons_zero, List.set_cons_succ]
  refine AnyL.takeP 6 (some 15) (.pointer (some ⟨g, 16, none⟩)) rfl rfl (by kernel_rfl) (by kernel_rfl) (by kernel_rfl) (by kernel_rfl) (fun _ _ _ h => h) (by kernel_rfl) (fun w' => by go_simp) (fun _ => hH) ?_
  simp only [Act.put, List.setIfInBounds_toArray, List.set_cons_zero, List.set_cons_succ]
  refine AnyL.take 7 (some 16) (.int .i64 l.length) rfl rfl (by kernel_rfl) (by kernel_rfl) (by kernel_rfl) (by kernel_rfl) (fun _ _ _ h => h) (yields_held _ (by kernel_rfl) (fun w' hw' => by have := hw'.cell c16; go_simp)) hH ?_
  simp only [Act.put, List.setIfInBounds_toArray, List.set_cons_zero, List.set_cons_succ]
  refine AnyL.takeP 8 (some 17) (.slice (some ⟨g, 0, none⟩) l.length 8) rfl rfl (by kernel_rfl) (by kernel_rfl) (by kernel_rfl) (by kernel_rfl) (fun _ _ _ h => h) (by kernel_rfl) (fun w' => by go_simp) (fun _ => hH) ?_
  simp only [Act.put, List.setIfInBounds_toArray, List.set_cons_zero, List.set_cons_succ]
  refine AnyL.one 9 (by kernel_rfl) rfl (by kernel_rfl) ?_
  have hcp := fun ty => copy_ents w1.drew ty w.heap.size _ _ a1.drew g 8 l (by rw [flatC_size]; simp) (HB.out.ents a0.drew)
  refine wp_cp (some 18) rfl (.tmp 9) (.tmp 17) 44 rfl _ _ rfl rfl _ _ (hcp _) ?_
  refine ⟨fun _ => a0.drew.rowAside (by omega) _, ?_⟩
  refine AnyL.done (by kernel_rfl) ?_
  replace a1 := a1.drew.row (flat l).toArray
  replace ag := ag.drew.setRow (Nat.le_refl _) (flat l).toArray
  generalize w1.drew.setRow w.heap.size (flat l).toArray = w2 at a1 ag ⊢
  clear a0 hH hcp hmk hw1 c16 d16
  simp only [Act.put, List.setIfInBounds_toArray, List.set_cons_zero, List.set_cons_succ]
  go_wp2_with (fail)
  go_ret
  exact ⟨⟨rfl, ag⟩, a1⟩
end Go.Proofs.Ytlcjobgnjmhokaa
