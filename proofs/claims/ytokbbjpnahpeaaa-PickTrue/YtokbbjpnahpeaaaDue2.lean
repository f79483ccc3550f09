/-
  Push and Pop of what is due; which method is found behind the interface. No condition but what each law names.
-/
import Derived.Test.YtokbbjpnahpeaaaDue
namespace Go.Proofs.Ytokbbjpnahpeaaa
open Go.ChangeShapes Go.WideShapes Go.ChangeAt Go.RowKit
set_option linter.unusedVariables false

/-- what is due, behind a pointer -/
structure Ds (w : World) (base d : Nat) (v : Value) (l : List Du) : Prop where
  head : Has w d #[v] 46
  row : Dw w base v l
  low : base ≤ d
theorem Ds.later {w w' : World} {base d : Nat} {v : Value} {l : List Du} (h : Ds w base d v l) (g : Gr w w') : Ds w' base d v l := ⟨h.head.later g, h.row.later g, h.low⟩
theorem Ds.size {w : World} {base d : Nat} {v : Value} {l : List Du} (h : Ds w base d v l) : base ≤ w.heap.size := by have := h.low; have := h.head.lt; omega
theorem Ds.drewN {w : World} {base d : Nat} {v : Value} {l : List Du} (h : Ds w base d v l) (n : Nat) : Ds (w.drewN n) base d v l := h.later ((Gr.refl w).drewN n)

abbrev ifc (d : Nat) : Value := .iface 53 (.pointer (some ⟨d, 0, none⟩))

theorem load_head {w : World} {d : Nat} {a : Option Addr} {n c : Nat} (h : Has w d #[.slice a n c] 46) : (loadVar 46 ⟨d, 0, none⟩).run Try.prog w = .ok (.slice a n c) w := by
  have h1 := h.cell (o := 0) rfl
  go_simp
theorem finds_val {w : World} {d : Nat} {a : Option Addr} {n c : Nat} (nm : String) (F : FuncId) (hm : (Array.find? (fun x => x.name == nm) Try.t53.methods).map (fun m => (m.path, m.func)) = some (#[], some (F, false)))
    (h : Has w d #[.slice a n c] 46) : Sem.run Try.prog (method 179 53 (.pointer (some ⟨d, 0, none⟩)) nm) w = .ok (F, .slice a n c) w := by
  have h1 := load_head h
  obtain ⟨m, hf, e⟩ := Option.map_eq_some_iff.1 hm
  obtain ⟨e1, e2⟩ := Prod.mk.inj e
  unfold method
  go_simp
  generalize (nm.splitOn ".").getLast?.getD nm = s
  have hw : ∀ s : String, Sem.run Try.prog (Builtin.ssaWrapNilChk_ #[53] 53 #[.pointer (some ⟨d, 0, none⟩), strVal "", strVal s]) w = .ok (.pointer (some ⟨d, 0, none⟩)) w := fun s => rfl
  simp [follow, receiverAt, Place.get, run_underlying Try.underlying53, asAddr, h1, hw]
theorem finds_ptr {w : World} {d : Nat} (nm : String) (F : FuncId) (hm : (Array.find? (fun x => x.name == nm) Try.t53.methods).map (fun m => (m.path, m.func)) = some (#[], some (F, true))) :
    Sem.run Try.prog (method 179 53 (.pointer (some ⟨d, 0, none⟩)) nm) w = .ok (F, .pointer (some ⟨d, 0, none⟩)) w := by
  obtain ⟨m, hf, e⟩ := Option.map_eq_some_iff.1 hm
  obtain ⟨e1, e2⟩ := Prod.mk.inj e
  unfold method
  go_simp
  generalize (nm.splitOn ".").getLast?.getD nm = s
  simp [follow, receiverAt, Place.get, run_underlying Try.underlying53]
theorem finds_len {w : World} {d : Nat} {a : Option Addr} {n c : Nat} (h : Has w d #[.slice a n c] 46) : Sem.run Try.prog (method 179 53 (.pointer (some ⟨d, 0, none⟩)) "Len") w = .ok (42, .slice a n c) w := finds_val "Len" _ (by kernel_rfl) h
theorem finds_less {w : World} {d : Nat} {a : Option Addr} {n c : Nat} (h : Has w d #[.slice a n c] 46) : Sem.run Try.prog (method 179 53 (.pointer (some ⟨d, 0, none⟩)) "Less") w = .ok (43, .slice a n c) w := finds_val "Less" _ (by kernel_rfl) h
theorem finds_swap {w : World} {d : Nat} {a : Option Addr} {n c : Nat} (h : Has w d #[.slice a n c] 46) : Sem.run Try.prog (method 179 53 (.pointer (some ⟨d, 0, none⟩)) "Swap") w = .ok (44, .slice a n c) w := finds_val "Swap" _ (by kernel_rfl) h
theorem finds_push {w : World} {d : Nat} : Sem.run Try.prog (method 179 53 (.pointer (some ⟨d, 0, none⟩)) "Push") w = .ok (46, .pointer (some ⟨d, 0, none⟩)) w := finds_ptr "Push" _ (by kernel_rfl)
theorem finds_pop {w : World} {d : Nat} : Sem.run Try.prog (method 179 53 (.pointer (some ⟨d, 0, none⟩)) "Pop") w = .ok (45, .pointer (some ⟨d, 0, none⟩)) w := finds_ptr "Pop" _ (by kernel_rfl)

theorem assert_due (w : World) (x : Value) (u : TypeId) : (Instr.typeAssert (.iface 49 x) u 49 false).run Try.prog w = .ok x w := by
  simp [Instr.typeAssert, run_underlying Try.underlying49]
/-- an operation that yields nothing and makes a world -/
theorem wp_skip {P : Program} {o : Oper} {a : Act} {w : World} {K : Act → World → Prop} {Q : Exit → Act → World → Prop} (hd : o.dst = none) (u : World) (hrun : (execOp a.eval o).run P w = .ok .skip u) (h : K a u) : Oper.wp P o a w K Q := by
  unfold Oper.wp
  rw [hrun]
  have : a.put o.dst undef = a := by rw [hd]; rfl
  first
    | exact h
    | (show K (a.put o.dst undef) u; rw [this]; exact h)
/-- an append whose run is known -/
theorem wp_app {o : Oper} {a : Act} {w : World} {K : Act → World → Prop} {Q : Exit → Act → World → Prop} (d : Option Tmp) (hd : o.dst = d) (s x : Operand) (t : TypeId) (ho : o.op = .call { callee := .builtin .append, args := #[s, x], argTypes := #[t, t] })
    (v u : Value) (hs : a.eval s = v) (hx : a.eval x = u) (v' : Value) (w' : World) (hr : (Builtin.append_ #[t, t] o.type #[v, u]).run Try.prog w = .ok v' w') (h : K (a.put d v') w') : o.wp Try.prog a w K Q := by
  subst hd
  unfold Oper.wp execOp
  simp only [ho, resolve, invoke, builtin, Sem.run_bind, Sem.run_pure, Result.andThen_ok, List.map_toArray, List.map_cons, List.map_nil, hs, hx, hr]
  exact h
theorem step_app {ops : Array Oper} {rest : List Oper} {o : Oper} {a : Act} {w : World} {Q : Exit → Act → World → Prop} (hgd : o.guard = none) (d : Option Tmp) (hd : o.dst = d) (s x : Operand) (t : TypeId) (ho : o.op = .call { callee := .builtin .append, args := #[s, x], argTypes := #[t, t] })
    (v u : Value) (hs : a.eval s = v) (hx : a.eval x = u) (v' : Value) (w' : World) (hr : (Builtin.append_ #[t, t] o.type #[v, u]).run Try.prog w = .ok v' w') (h : wpList Try.prog ops Q rest (a.put d v') w') : wpList Try.prog ops Q (o :: rest) a w :=
  wpList_plain hgd fun _ hK => wp_app d hd s x t ho v u hs hx v' w' hr (hK _ _ h)
/-- blocks of another type are kept where a row grows -/
theorem Has.grown {w w' : World} {base sz n g : Nat} {t u : TypeId} {v : Value} {xs : List Value} {C : Array Value} (hg : Has w g C u) (ho : w.ownsRow base t sz v n xs) (k : w.grownBy w' v.ownBlock) (ht : t ≠ u) : Has w' g C u := by
  refine (k.block g hg.lt fun q => ?_).trans hg
  rcases ho.2 with ⟨rfl, _⟩ | ⟨x, cap, cur, rfl, hb, hx, rest⟩
  · simp [Value.ownBlock] at q
  · simp only [Value.ownBlock, Option.some.injEq] at q
    subst q
    exact Has.apart hx hg ht rfl
/-- one is appended -/
theorem app_due {w : World} {base : Nat} {v : Value} {l : List Du} (hown : Dw w base v l) (x : Du) (hn : l.length ≤ 1000) (hb : base ≤ w.heap.size) :
    ∃ v' w', (Builtin.append_ #[46, 46] 46 #[v, .slice (some ⟨w.heap.size, 0, none⟩) 1 1]).run Try.prog (w.alloc (.cells #[.int .i64 x.k, .int .i64 x.who, .int .i64 x.b] 49)) = .ok v' w' ∧ Dw w' base v' (l ++ [x]) ∧ Fr base w w' ∧ (∀ k C, Has w k C 46 → Has w' k C 46) := by
  obtain ⟨i, h1, h2, h3, h4⟩ := info_parts infoD3
  have g0 := (Gr.refl w).alloc #[.int .i64 x.k, .int .i64 x.who, .int .i64 x.b] 49
  have hx : Has (w.alloc (.cells #[.int .i64 x.k, .int .i64 x.who, .int .i64 x.b] 49)) w.heap.size (flatD [x]).toArray 49 := Has.new w _ _
  have ho := hown.later g0
  have hs : base ≤ (w.alloc (.cells #[.int .i64 x.k, .int .i64 x.who, .int .i64 x.b] 49)).heap.size := Nat.le_trans hb g0.size
  obtain ⟨v', w', hr, ho', hg, _⟩ := run_append_own (P := Try.prog) _ base 46 46 49 i (duV d0) 3 24 Try.underlying46 h1 h2 h3 h4 rfl (by omega) v _ _ ho ⟨w.heap.size, 0, none⟩ 1 1 (flatD [x]) rfl (by
    intro j u hj
    rw [Addr.add_mid, Nat.zero_add]
    exact hx.cell (by rw [List.getElem?_toArray]; exact hj)) (flatD_one [x]) (by unfold maxLen; omega) (by omega) hs
  rw [← flatD_append] at ho'
  have e : (l ++ [x]).length = l.length + 1 := by simp
  refine ⟨v', w', hr, by unfold Dw; rw [e]; exact ho', ⟨Below.grown (Below.mono g0 hb) hg hs (fun k hk => (ho.lt k hk).1), fun k C t h5 h6 hk => (hk.later g0).grown ho hg (Ne.symm h6)⟩, fun k C hk => (hk.later g0).grown ho hg (by decide)⟩

set_option maxHeartbeats 1000000 in
theorem push_calls {w : World} {base d : Nat} {v : Value} {l : List Du} (h : Ds w base d v l) (x : Du) (hl : l.length ≤ 1000) :
    Calls Try.prog 46 #[.pointer (some ⟨d, 0, none⟩), .iface 49 (duV x)] w fun e w' => (e = .returned (.tuple #[]) ∧ Fr base w w') ∧ ∃ v', Ds w' base d v' (l ++ [x]) := by
  obtain ⟨a, c, rfl⟩ := h.row.slice
  have hb := h.size
  have hta : ∀ w, (Instr.typeAssert (.iface 49 (duV x)) 20 49 false).run Try.prog w = .ok (duV x) w := fun w => assert_due w _ _
  have H := hide h
  have hd := h.head
  clear h
  obtain ⟨v', w', hr, ho, hf, hk⟩ := app_due (w := w.drew) (H.out.row.later (Gr.drew (Gr.refl w))) x hl hb
  have HF := hide ((Fr.gr (Gr.drew (Gr.refl w)) hb).trans hf)
  have HO := hide ho
  have HK := hide hk
  obtain ⟨a', c', rfl⟩ := ho.slice
  clear hf ho hk
  go_enter Try.func46, Try.ntmps46
  go_wp2_with (fail)
  refine begin_late 10 [9] (fun w' => Has w' d #[.slice a l.length c] 46) (by kernel_rfl) rfl ?_
  have hH := hd.drew
  refine AnyL.takeP 0 (some 4) (.pointer (some ⟨d, 0, none⟩)) rfl rfl (by kernel_rfl) (by kernel_rfl) (by kernel_rfl) (by kernel_rfl) (fun _ _ _ h => h) (by kernel_rfl) (fun w' => by go_simp) (fun _ => hH) ?_
  simp only [Act.put, List.setIfInBounds_toArray, List.set_cons_zero, List.set_cons_succ]
  refine AnyL.takeP 1 (some 5) (.pointer (some ⟨d, 0, none⟩)) rfl rfl (by kernel_rfl) (by kernel_rfl) (by kernel_rfl) (by kernel_rfl) (fun _ _ _ h => h) (by kernel_rfl) (fun w' => by go_simp) (fun _ => hH) ?_
  simp only [Act.put, List.setIfInBounds_toArray, List.set_cons_zero, List.set_cons_succ]
  refine AnyL.takeP 2 (some 6) (.pointer (some ⟨d, 0, none⟩)) rfl rfl (by kernel_rfl) (by kernel_rfl) (by kernel_rfl) (by kernel_rfl) (fun _ _ _ h => h) (by kernel_rfl) (fun w' => by go_simp) (fun _ => hH) ?_
  simp only [Act.put, List.setIfInBounds_toArray, List.set_cons_zero, List.set_cons_succ]
  refine AnyL.take 3 (some 7) (.slice a l.length c) rfl rfl (by kernel_rfl) (by kernel_rfl) (by kernel_rfl) (by kernel_rfl) (fun _ _ _ h => h) (yields_held _ (by kernel_rfl) (fun w' hw' => by have h1 := hw'.cell (o := 0) rfl; go_simp)) hH ?_
  simp only [Act.put, List.setIfInBounds_toArray, List.set_cons_zero, List.set_cons_succ]
  refine AnyL.takeP 4 (some 8) (.iface 49 (duV x)) rfl rfl (by kernel_rfl) (by kernel_rfl) (by kernel_rfl) (by kernel_rfl) (fun _ _ _ h => h) (by kernel_rfl) (fun w' => by go_simp) (fun _ => hH) ?_
  simp only [Act.put, List.setIfInBounds_toArray, List.set_cons_zero, List.set_cons_succ]
  refine AnyL.takeP 5 (some 9) (duV x) rfl rfl (by kernel_rfl) (by kernel_rfl) (by kernel_rfl) (by kernel_rfl) (fun _ _ _ h => h) (by kernel_rfl) (fun w' => by go_simp) (fun _ => hH) ?_
  simp only [Act.put, List.setIfInBounds_toArray, List.set_cons_zero, List.set_cons_succ]
  refine AnyL.one 6 (by kernel_rfl) rfl (by kernel_rfl) ?_
  refine wp_made (some 10) rfl (.slice (some ⟨w.heap.size, 0, none⟩) 1 1) (w.drew.alloc (.cells #[.int .i64 x.k, .int .i64 x.who, .int .i64 x.b] 49)) (by go_simp) ?_
  refine ⟨fun _ => hH.alloc _ _, ?_⟩
  simp only [Act.put, List.setIfInBounds_toArray, List.set_cons_zero, List.set_cons_succ]
  refine AnyL.one 7 (by kernel_rfl) rfl (by kernel_rfl) ?_
  refine wp_app (some 11) rfl _ _ _ rfl _ _ rfl rfl (.slice a' (l ++ [x]).length c') w' hr ?_
  refine ⟨fun _ => HK.out _ _ hH, ?_⟩
  replace hH := HK.out _ _ hH
  simp only [Act.put, List.setIfInBounds_toArray, List.set_cons_zero, List.set_cons_succ]
  refine AnyL.takeP 8 (some 12) (.pointer (some ⟨d, 0, none⟩)) rfl rfl (by kernel_rfl) (by kernel_rfl) (by kernel_rfl) (by kernel_rfl) (fun _ _ _ h => h) (by kernel_rfl) (fun w' => by go_simp) (fun _ => hH) ?_
  simp only [Act.put, List.setIfInBounds_toArray, List.set_cons_zero, List.set_cons_succ]
  refine AnyL.one 9 (by kernel_rfl) rfl (by kernel_rfl) ?_
  have f1 := hH.cell (o := 0) rfl
  have f2 := hH.free 0
  refine wp_skip rfl (w'.setCell ⟨d, 0, none⟩ (.slice a' (l ++ [x]).length c')) (by go_simp) ?_
  refine ⟨late (by kernel_rfl), ?_⟩
  refine AnyL.done (by kernel_rfl) ?_
  have s0 := hH.set 0 (.slice a' (l ++ [x]).length c')
  have s1 := HF.out.trans (Fr.setCell hH H.out.low (.inl rfl) 0 (.slice a' (l ++ [x]).length c'))
  have s2 : Dw (w'.setCell ⟨d, 0, none⟩ (.slice a' (l ++ [x]).length c')) base (.slice a' (l ++ [x]).length c') (l ++ [x]) := own_move HO.out fun k C _ hk => Below.heap_setCell w' ⟨d, 0, none⟩ _ k (hk.apart hH (by decide))
  generalize w'.setCell ⟨d, 0, none⟩ (.slice a' (l ++ [x]).length c') = w2 at s0 s1 s2 ⊢
  clear hH f1 f2 hr hta hd
  go_wp2_with (fail)
  go_end0
  exact ⟨⟨rfl, s1⟩, _, s0, s2, H.out.low⟩
end Go.Proofs.Ytokbbjpnahpeaaa
