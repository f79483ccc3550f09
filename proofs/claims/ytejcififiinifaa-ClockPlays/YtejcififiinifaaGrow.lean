/-
  A region that draws its order and whose operations read, call what only makes memory, and make memory: whatever the order, each operation yields what it yields; what is stored leaves standing what they look at. No condition but that.
-/
import Derived.Test.YtejcififiinifaaMem
namespace Go.Proofs.Ytejcififiinifaa
set_option linter.unusedVariables false

/-- what is so of a world is so of whatever grows from it -/
def Stab (S : World → Prop) : Prop := ∀ w u, S w → Gr w u → S u
/-- a block was made, in a world that met S -/
def Made (S : World → Prop) (k : Nat) (C : Array Value) (t : TypeId) (u : World) : Prop := ∃ w, S w ∧ w.heap.size = k ∧ Gr (w.alloc (.cells C t)) u
theorem Stab.gr (w : World) : Stab (Gr w) := fun _ _ h k => h.trans k
theorem Stab.made {S : World → Prop} (k : Nat) (C : Array Value) (t : TypeId) : Stab (Made S k C t) := fun _ _ ⟨w, h, hk, g⟩ g2 => ⟨w, h, hk, g.trans g2⟩
theorem Made.under {S : World → Prop} (hS : Stab S) {k : Nat} {C : Array Value} {t : TypeId} {u : World} (h : Made S k C t u) : S u := by
  obtain ⟨w, h, _, g⟩ := h
  exact hS _ _ h (((Gr.refl w).alloc C t).trans g)
theorem Made.has {S : World → Prop} {k : Nat} {C : Array Value} {t : TypeId} {u : World} (h : Made S k C t u) : Has u k C t := by
  obtain ⟨w, _, rfl, g⟩ := h
  exact (Has.new w C t).later g
/-- what stood ahead of it lies beneath it -/
theorem Made.above {S : World → Prop} {k : Nat} {C : Array Value} {t : TypeId} {u : World} (h : Made S k C t u) : ∃ w, S w ∧ w.heap.size = k := by
  obtain ⟨w, h, e, _⟩ := h
  exact ⟨w, h, e⟩
theorem Made.mono {S T : World → Prop} (h : ∀ w, S w → T w) {k : Nat} {C : Array Value} {t : TypeId} {u : World} (m : Made S k C t u) : Made T k C t u := by
  obtain ⟨w, hw, e, g⟩ := m
  exact ⟨w, h w hw, e, g⟩

section
variable {P : Program} {ops : Array Oper} {Q : Exit → Act → World → Prop} {md : Region.Mode} {S T : World → Prop} {Z : List Nat}

/-- in every world that meets S the operation yields v, and makes new blocks alone -/
def YieldsG (P : Program) (ops : Array Oper) (S : World → Prop) (o : Oper) (v : Value) (a : Act) : Prop :=
  (Region.wanted o (yielded ops a.tmps) = true ∧ ∀ w, S w → (execOp a.eval o).run P w = .ok (.value v) w) ∨
  (Region.wanted o (yielded ops a.tmps) = true ∧ ∃ f args, ∀ w, S w → (execOp a.eval o).run P w = .ok (.enter f args) w ∧ Calls P f args w (fun e u => e = .returned v ∧ Gr w u)) ∨
  (Region.wanted o (yielded ops a.tmps) = false ∧ v = undef)
theorem YieldsG.of_same {o : Oper} {v : Value} {a b : Act} (hy : YieldsG P ops S o v a) (he : execOp b.eval o = execOp a.eval o)
    (hw : Region.wanted o (yielded ops b.tmps) = Region.wanted o (yielded ops a.tmps)) : YieldsG P ops S o v b := by
  unfold YieldsG at *
  rw [he, hw]
  exact hy
theorem YieldsG.under {o : Oper} {v : Value} {a : Act} (hy : YieldsG P ops S o v a) (h : ∀ w, T w → S w) : YieldsG P ops T o v a := by
  rcases hy with ⟨hw, hv⟩ | ⟨hw, f, args, hv⟩ | h0
  · exact .inl ⟨hw, fun w q => hv w (h w q)⟩
  · exact .inr (.inl ⟨hw, f, args, fun w q => hv w (h w q)⟩)
  · exact .inr (.inr h0)
theorem YieldsG.wpOp {i : Nat} {o : Oper} {v : Value} {a : Act} (hi : ops[i]? = some o) (hy : YieldsG P ops S o v a) {K : Act → World → Prop} {w : World} (hS : S w) (h : ∀ u, Gr w u → K (a.put o.dst v) u) : wpOp P ops Q i K a w := by
  unfold Go.wpOp
  simp only [hi]
  rcases hy with ⟨hw, hv⟩ | ⟨hw, f, args, hv⟩ | ⟨hw, rfl⟩
  · simp only [hw, if_true, Oper.wp, hv w hS, Oper.upon]
    exact .inl (h w (Gr.refl w))
  · simp only [hw, if_true, Oper.wp, (hv w hS).1, Oper.upon_enter]
    refine .inl ((hv w hS).2.mono ?_)
    rintro e u ⟨rfl, g⟩
    exact h u g
  · simp only [hw, Bool.false_eq_true, if_false]
    exact h w (Gr.refl w)

/-- whatever order is picked: each operation yields where T holds, or makes a block, or stores (and T holds still); until nothing but late operations may come up -/
def AnyG (P : Program) (md : Region.Mode) (ops : Array Oper) (Q : Exit → Act → World → Prop) (T : World → Prop) (Z : List Nat) : Nat → Array Bool → Act → (World → Prop) → Prop
  | 0, listed, a, S => Region.ready md ops listed = [] ∧ ∀ w, S w → Q .normal a w
  | fuel + 1, listed, a, S =>
    ((∀ i ∈ Region.ready md ops listed, i ∈ Z) ∧ ∀ w, S w → wpAny P md ops Q (fuel + 1) listed a w) ∨
    (Region.ready md ops listed ≠ [] ∧ ∀ i ∈ Region.ready md ops listed, ∃ o, ops[i]? = some o ∧
      ((∃ v, YieldsG P ops T o v a ∧ AnyG P md ops Q T Z fuel (listed.setIfInBounds i true) (a.put o.dst v) S) ∨
       (∃ C t, Region.wanted o (yielded ops a.tmps) = true ∧ (∀ w : World, (execOp a.eval o).run P w = .ok (.value (.pointer (some ⟨w.heap.size, 0, none⟩))) (w.alloc (.cells C t))) ∧
         ∀ k, AnyG P md ops Q T Z fuel (listed.setIfInBounds i true) (a.put o.dst (.pointer (some ⟨k, 0, none⟩))) (Made S k C t)) ∨
       (∃ S', Stab S' ∧ (∀ w, S' w → T w) ∧ Region.wanted o (yielded ops a.tmps) = true ∧ (∀ w, S w → ∃ u, (execOp a.eval o).run P w = .ok .skip u ∧ S' u) ∧
         AnyG P md ops Q T Z fuel (listed.setIfInBounds i true) (a.put o.dst undef) S')))

theorem AnyG.any : ∀ {fuel : Nat} {listed : Array Bool} {a : Act} {S : World → Prop}, Stab S → (∀ w, S w → T w) → AnyG P md ops Q T Z fuel listed a S → ∀ w, S w → wpAny P md ops Q fuel listed a w
  | 0, _, _, _, _, _, h, w, hw => ⟨h.1, h.2 w hw⟩
  | fuel + 1, listed, a, S, hS, hT, h, w, hw => by
    rcases h with h | ⟨hne, h⟩
    · exact h.2 w hw
    · refine ⟨fun q => absurd q hne, fun i hi => ?_⟩
      obtain ⟨o, ho, h⟩ := h i hi
      rcases h with ⟨v, hy, hk⟩ | ⟨C, t, hwt, hr, hk⟩ | ⟨S', hS', hT', hwt, hr, hk⟩
      · exact hy.wpOp ho (hT w hw) fun u g => AnyG.any hS hT hk u (hS w u hw g)
      · unfold Go.wpOp
        simp only [ho, hwt, if_true, Oper.wp, hr w, Oper.upon]
        exact .inl (AnyG.any (Stab.made _ C t) (fun u q => hT u (q.under hS)) (hk w.heap.size) _ ⟨w, hw, rfl, Gr.refl _⟩)
      · obtain ⟨u, hu, hs⟩ := hr w hw
        unfold Go.wpOp
        simp only [ho, hwt, if_true, Oper.wp, hu, Oper.upon]
        exact .inl (AnyG.any hS' hT' hk u hs)

theorem begin_grow {id : Nat} {a : Act} {w : World} (n : Nat) (Z : List Nat) (T : World → Prop) (hm : P.follows .mixedOrders = true) (hn : ops.size = n) (hT : Stab T) (h0 : T w.drew)
    (h : AnyG P .any ops Q T Z n (Array.replicate n false) a T) : (Code.region id ops true).wp P Q a w := by
  subst hn
  exact wp_region_any hm (h.any hT (fun _ q => q) _ h0)

/-- number i may be taken first -/
theorem AnyG.first {i : Nat} {o : Oper} {v : Value} (hi : ops[i]? = some o) (hsel : ∀ (j : Nat) (p : Oper) cs b, ops[j]? = some p → p.op ≠ .select cs b) {fuel : Nat} :
    ∀ {listed : Array Bool} {a : Act} {S : World → Prop}, lateB md ops Z listed i = true →
      (∀ j p, ops[j]? = some p → j ≠ i → listed.getD j true = false → (∀ e ∈ p.after, Region.binds md e = true → e.on ≠ i) → o.apart ops p = true) →
      i ∈ Region.ready md ops listed → YieldsG P ops T o v a →
      AnyG P md ops Q T Z fuel (listed.setIfInBounds i true) (a.put o.dst v) S → AnyG P md ops Q T Z (fuel + 1) listed a S := by
  induction fuel with
  | zero =>
    intro listed a S _ _ hr hy H
    refine .inr ⟨fun h => (by rw [h] at hr; cases hr), fun j hj => ?_⟩
    rcases Nat.decEq j i with hne | rfl
    · have := ready_mono hj hne
      rw [H.1] at this
      cases this
    · exact ⟨o, hi, .inl ⟨v, hy, H⟩⟩
  | succ fuel ih =>
    intro listed a S hl hfree hr hy H
    refine .inr ⟨fun h => (by rw [h] at hr; cases hr), fun j hj => ?_⟩
    rcases Nat.decEq j i with hne | rfl
    · obtain ⟨hun, p, hp, hall⟩ := mem_ready.1 hj
      have hnot := not_after (j := j) hr hall
      have hap := hfree j p hp hne hun hnot
      obtain ⟨h1, h2, h3⟩ := Oper.apart_spec hap
      have e1 : execOp (a.put o.dst v).eval p = execOp a.eval p := execOp_put p (fun cs b => hsel j p cs b hp) a o.dst v h1
      have e2 : Region.wanted p (yielded ops (a.put o.dst v).tmps) = Region.wanted p (yielded ops a.tmps) := wanted_put p a o.dst v h1
      have hy' : ∀ u, YieldsG P ops T o v (a.put p.dst u) := fun u => hy.of_same (execOp_put o (fun cs b => hsel i o cs b hi) a p.dst u h3) (wanted_put o a p.dst u h3)
      have hf' : ∀ k q, ops[k]? = some q → k ≠ i → (listed.setIfInBounds j true).getD k true = false → (∀ e ∈ q.after, Region.binds md e = true → e.on ≠ i) → o.apart ops q = true := by
        intro k q hk hki huk hno
        refine hfree k q hk hki ?_ hno
        rcases Nat.decEq j k with hjk | rfl
        · rw [getD_set_ne true hjk] at huk; exact huk
        · exact hun
      have hl' : lateB md ops Z (listed.setIfInBounds j true) i = true := List.all_eq_true.2 fun z hz => stuck_set hj hne (List.all_eq_true.1 hl z hz)
      have ec : ∀ u, ((a.put p.dst u).put o.dst v) = ((a.put o.dst v).put p.dst u) := fun u => Act.put_comm a u v (fun d hd hd2 => h2 d hd2 hd)
      have hr' := ready_mono hr (Ne.symm hne)
      rcases H with ⟨hz, _⟩ | ⟨_, H⟩
      · have h4 := List.all_eq_true.1 hl j (hz j (ready_mono hj hne))
        rw [stuck_not hj hne] at h4
        cases h4
      · obtain ⟨p', hp', H⟩ := H j (ready_mono hj hne)
        rw [hp] at hp'
        cases hp'
        refine ⟨p, hp, ?_⟩
        rcases H with ⟨vj, yj, H⟩ | ⟨C, t, hwt, hrun, H⟩ | ⟨S', hS', hT', hwt, hrun, H⟩
        · refine .inl ⟨vj, yj.of_same e1.symm e2.symm, ih hl' hf' hr' (hy' vj) ?_⟩
          rw [Array.setIfInBounds_comm _ _ hne, ec]
          exact H
        · rw [e2] at hwt
          rw [e1] at hrun
          refine .inr (.inl ⟨C, t, hwt, hrun, fun k => ih hl' hf' hr' (hy' _) ?_⟩)
          rw [Array.setIfInBounds_comm _ _ hne, ec]
          exact H k
        · rw [e2] at hwt
          rw [e1] at hrun
          refine .inr (.inr ⟨S', hS', hT', hwt, hrun, ih hl' hf' hr' (hy' _) ?_⟩)
          rw [Array.setIfInBounds_comm _ _ hne, ec]
          exact H
    · exact ⟨o, hi, .inl ⟨v, hy, H⟩⟩

/-- number i may be taken first: what is reckoned out, in one equation -/
theorem AnyG.take (i d : Nat) (v : Value) {o : Oper} {fuel : Nat} {listed : Array Bool} {a : Act} (hi : ops[i]? = some o) (hd : o.dst = some d)
    (hb : (Region.noSelect ops && (Region.free md ops listed i && ((Region.ready md ops listed).contains i && lateB md ops Z listed i))) = true) (hy : YieldsG P ops T o v a)
    (h : AnyG P md ops Q T Z fuel (listed.setIfInBounds i true) (a.put (some d) v) S) : AnyG P md ops Q T Z (fuel + 1) listed a S := by
  rw [← hd] at h
  simp only [Bool.and_eq_true] at hb
  exact AnyG.first hi (Region.noSelect_spec hb.1) hb.2.2.2 (Region.free_spec hi hb.2.1) (by simpa using hb.2.2.1) hy h
/-- number i, a block made, alone may come up -/
theorem AnyG.new (i d : Nat) (C : Array Value) (t : TypeId) {o : Oper} {fuel : Nat} {listed : Array Bool} {a : Act} (hr : Region.ready md ops listed = [i]) (hi : ops[i]? = some o) (hd : o.dst = some d) (hw : Region.wanted o (yielded ops a.tmps) = true)
    (hrun : ∀ w : World, (execOp a.eval o).run P w = .ok (.value (.pointer (some ⟨w.heap.size, 0, none⟩))) (w.alloc (.cells C t)))
    (h : ∀ k, AnyG P md ops Q T Z fuel (listed.setIfInBounds i true) (a.put (some d) (.pointer (some ⟨k, 0, none⟩))) (Made S k C t)) : AnyG P md ops Q T Z (fuel + 1) listed a S := by
  rw [← hd] at h
  refine .inr ⟨(by rw [hr]; simp), fun j hj => ?_⟩
  rw [hr] at hj
  obtain rfl := List.mem_singleton.1 hj
  exact ⟨o, hi, .inr (.inl ⟨C, t, hw, hrun, h⟩)⟩
/-- two blocks are made, in either order -/
theorem AnyG.new2 (i j d e : Nat) (C : Array Value) (t : TypeId) {o p : Oper} {fuel : Nat} {listed : Array Bool} {a : Act} (hr : Region.ready md ops listed = [i, j]) (hi : ops[i]? = some o) (hj : ops[j]? = some p) (hd : o.dst = some d) (he : p.dst = some e)
    (hw : (Region.wanted o (yielded ops a.tmps) && Region.wanted p (yielded ops a.tmps)) = true)
    (hrun : ∀ w : World, (execOp a.eval o).run P w = .ok (.value (.pointer (some ⟨w.heap.size, 0, none⟩))) (w.alloc (.cells C t)))
    (krun : ∀ w : World, (execOp a.eval p).run P w = .ok (.value (.pointer (some ⟨w.heap.size, 0, none⟩))) (w.alloc (.cells C t)))
    (h : ∀ k, AnyG P md ops Q T Z fuel (listed.setIfInBounds i true) (a.put (some d) (.pointer (some ⟨k, 0, none⟩))) (Made S k C t))
    (h' : ∀ k, AnyG P md ops Q T Z fuel (listed.setIfInBounds j true) (a.put (some e) (.pointer (some ⟨k, 0, none⟩))) (Made S k C t)) : AnyG P md ops Q T Z (fuel + 1) listed a S := by
  rw [← hd] at h
  rw [← he] at h'
  rw [Bool.and_eq_true] at hw
  refine .inr ⟨(by rw [hr]; simp), fun m hm => ?_⟩
  rw [hr] at hm
  rcases List.mem_cons.1 hm with rfl | hm
  · exact ⟨o, hi, .inr (.inl ⟨C, t, hw.1, hrun, h⟩)⟩
  · obtain rfl := List.mem_singleton.1 hm
    exact ⟨p, hj, .inr (.inl ⟨C, t, hw.2, krun, h'⟩)⟩
/-- three blocks are made, in whatever order -/
theorem AnyG.new3 (i j l d e f : Nat) (C : Array Value) (t : TypeId) {o p q : Oper} {fuel : Nat} {listed : Array Bool} {a : Act} (hr : Region.ready md ops listed = [i, j, l]) (hi : ops[i]? = some o) (hj : ops[j]? = some p) (hl : ops[l]? = some q) (hd : o.dst = some d) (he : p.dst = some e) (hf : q.dst = some f)
    (hw : (Region.wanted o (yielded ops a.tmps) && (Region.wanted p (yielded ops a.tmps) && Region.wanted q (yielded ops a.tmps))) = true)
    (hrun : ∀ w : World, (execOp a.eval o).run P w = .ok (.value (.pointer (some ⟨w.heap.size, 0, none⟩))) (w.alloc (.cells C t)))
    (krun : ∀ w : World, (execOp a.eval p).run P w = .ok (.value (.pointer (some ⟨w.heap.size, 0, none⟩))) (w.alloc (.cells C t)))
    (lrun : ∀ w : World, (execOp a.eval q).run P w = .ok (.value (.pointer (some ⟨w.heap.size, 0, none⟩))) (w.alloc (.cells C t)))
    (h : ∀ k, AnyG P md ops Q T Z fuel (listed.setIfInBounds i true) (a.put (some d) (.pointer (some ⟨k, 0, none⟩))) (Made S k C t))
    (h' : ∀ k, AnyG P md ops Q T Z fuel (listed.setIfInBounds j true) (a.put (some e) (.pointer (some ⟨k, 0, none⟩))) (Made S k C t))
    (h2 : ∀ k, AnyG P md ops Q T Z fuel (listed.setIfInBounds l true) (a.put (some f) (.pointer (some ⟨k, 0, none⟩))) (Made S k C t)) : AnyG P md ops Q T Z (fuel + 1) listed a S := by
  rw [← hd] at h
  rw [← he] at h'
  rw [← hf] at h2
  rw [Bool.and_eq_true, Bool.and_eq_true] at hw
  refine .inr ⟨(by rw [hr]; simp), fun m hm => ?_⟩
  rw [hr] at hm
  rcases List.mem_cons.1 hm with rfl | hm
  · exact ⟨o, hi, .inr (.inl ⟨C, t, hw.1, hrun, h⟩)⟩
  · rcases List.mem_cons.1 hm with rfl | hm
    · exact ⟨p, hj, .inr (.inl ⟨C, t, hw.2.1, krun, h'⟩)⟩
    · obtain rfl := List.mem_singleton.1 hm
      exact ⟨q, hl, .inr (.inl ⟨C, t, hw.2.2, lrun, h2⟩)⟩
/-- number i, a store, alone may come up; or what is known of the world is said in other words -/
theorem AnyG.store (i : Nat) (S' : World → Prop) {o : Oper} {fuel : Nat} {listed : Array Bool} {a : Act} (hr : Region.ready md ops listed = [i]) (hi : ops[i]? = some o) (hd : o.dst = none) (hw : Region.wanted o (yielded ops a.tmps) = true)
    (hS : Stab S') (hT : ∀ w, S' w → T w) (hrun : ∀ w, S w → ∃ u, (execOp a.eval o).run P w = .ok .skip u ∧ S' u) (h : AnyG P md ops Q T Z fuel (listed.setIfInBounds i true) a S') : AnyG P md ops Q T Z (fuel + 1) listed a S := by
  refine .inr ⟨(by rw [hr]; simp), fun j hj => ?_⟩
  rw [hr] at hj
  obtain rfl := List.mem_singleton.1 hj
  exact ⟨o, hi, .inr (.inr ⟨S', hS, hT, hw, hrun, by rw [hd]; exact h⟩)⟩
/-- all have come up -/
theorem AnyG.done {fuel : Nat} {listed : Array Bool} {a : Act} (hr : Region.ready md ops listed = []) (h : ∀ w, S w → Q .normal a w) : AnyG P md ops Q T Z fuel listed a S := by
  cases fuel with
  | zero => exact ⟨hr, h⟩
  | succ fuel => exact .inl ⟨fun i hi => (by rw [hr] at hi; cases hi), fun w hw => ⟨fun _ => h w hw, fun i hi => (by rw [hr] at hi; cases hi)⟩⟩
/-- nothing but late operations may come up -/
theorem AnyG.rest {fuel : Nat} {listed : Array Bool} {a : Act} (hz : (Region.ready md ops listed).all (Z.contains ·) = true) (h : ∀ w, S w → AnyL P md ops Q (fun _ => True) [] (fuel + 1) listed a w) : AnyG P md ops Q T Z (fuel + 1) listed a S :=
  .inl ⟨fun i hi => by have := List.all_eq_true.1 hz i hi; simpa using this, fun w hw => (h w hw).any⟩
/-- less is known of the world -/
theorem AnyG.weaken : ∀ {fuel : Nat} {listed : Array Bool} {a : Act} {S S' : World → Prop}, (∀ w, S w → S' w) → AnyG P md ops Q T Z fuel listed a S' → AnyG P md ops Q T Z fuel listed a S
  | 0, _, _, _, _, h, k => ⟨k.1, fun w hw => k.2 w (h w hw)⟩
  | fuel + 1, _, _, S, S', h, k => by
    rcases k with ⟨k1, k2⟩ | ⟨k1, k2⟩
    · exact .inl ⟨k1, fun w hw => k2 w (h w hw)⟩
    · refine .inr ⟨k1, fun i hi => ?_⟩
      obtain ⟨o, ho, k⟩ := k2 i hi
      refine ⟨o, ho, ?_⟩
      rcases k with ⟨v, hy, k⟩ | ⟨C, t, hw, hr, k⟩ | ⟨V, hS, hT, hw, hr, k⟩
      · exact .inl ⟨v, hy, AnyG.weaken h k⟩
      · exact .inr (.inl ⟨C, t, hw, hr, fun n => AnyG.weaken (fun w q => q.mono h) (k n)⟩)
      · exact .inr (.inr ⟨V, hS, hT, hw, fun w q => hr w (h w q), k⟩)

/-- what yields whatever the world -/
theorem yg_pure {o : Oper} {a : Act} {v : Value} (hw : Region.wanted o (yielded ops a.tmps) = true) (h : ∀ w, (execOp a.eval o).run P w = .ok (.value v) w) : YieldsG P ops S o v a := .inl ⟨hw, fun w _ => h w⟩
/-- what yields where S holds -/
theorem yg_held {o : Oper} {a : Act} {v : Value} (hw : Region.wanted o (yielded ops a.tmps) = true) (h : ∀ w, S w → (execOp a.eval o).run P w = .ok (.value v) w) : YieldsG P ops S o v a := .inl ⟨hw, h⟩
/-- a call by its contract -/
theorem yg_call {o : Oper} {a : Act} {v : Value} (f : FuncId) (args : Array Value) (hw : Region.wanted o (yielded ops a.tmps) = true) (hrun : ∀ w, (execOp a.eval o).run P w = .ok (.enter f args) w) (h : ∀ w, Calls P f args w (fun e u => e = .returned v ∧ Gr w u)) : YieldsG P ops S o v a :=
  .inr (.inl ⟨hw, f, args, fun w _ => ⟨hrun w, h w⟩⟩)
/-- what its guard passes over -/
theorem yg_skip {o : Oper} {a : Act} (hw : Region.wanted o (yielded ops a.tmps) = false) : YieldsG P ops S o undef a := .inr (.inr ⟨hw, rfl⟩)
end
end Go.Proofs.Ytejcififiinifaa
