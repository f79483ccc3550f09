/-
  Blocks known whole, beside each other; regions that draw their order and lay down two or three new variables: whatever the order, each variable has a block of its own, and holds what was stored. No condition but that.
-/
import Derived.Test.YtejcififiinifaaGrow
import Derived.Laws.Rows
import Derived.Laws.Tables
namespace Go.Proofs.Ytejcififiinifaa
set_option linter.unusedVariables false

/-- a block, its type, its cells -/
abbrev Blk := Nat × TypeId × Array Value
/-- the world has new blocks alone, and these blocks -/
structure Bks (w : World) (L : List Blk) (u : World) : Prop where
  gr : Gr w u
  at' : ∀ x ∈ L, Has u x.1 x.2.2 x.2.1
theorem Bks.get {w u : World} {L : List Blk} (h : Bks w L u) {g : Nat} {C : Array Value} {t : TypeId} (hm : (g, t, C) ∈ L) : Has u g C t := h.at' _ hm
theorem Bks.stab (w : World) (L : List Blk) : Stab (Bks w L) := fun _ _ h k => ⟨h.gr.trans k, fun x hx => (h.at' x hx).later k⟩
theorem Bks.later {w u v : World} {L : List Blk} (h : Bks w L u) (k : Gr u v) : Bks w L v := Bks.stab w L u v h k
theorem Bks.sub {w u : World} {L M : List Blk} (h : Bks w L u) (hs : ∀ x ∈ M, x ∈ L) : Bks w M u := ⟨h.gr, fun x hx => h.at' x (hs x hx)⟩
theorem Bks.nil {w u : World} (h : Gr w u) : Bks w [] u := ⟨h, fun x hx => (by cases hx)⟩
theorem Bks.add {w u : World} {L : List Blk} (h : Bks w L u) {g : Nat} {C : Array Value} {t : TypeId} (hg : Has u g C t) : Bks w ((g, t, C) :: L) u :=
  ⟨h.gr, fun x hx => by
    rcases List.mem_cons.1 hx with rfl | hx
    · exact hg
    · exact h.at' x hx⟩

/-- besides, these blocks are new, each another one, and zero -/
structure Fr (w : World) (T : TypeId) (Cz : Array Value) (L : List Blk) (ps : List Nat) (u : World) : Prop where
  bks : Bks w L u
  zero : ∀ p ∈ ps, Has u p Cz T
  nodup : ps.Nodup
  new : ∀ p ∈ ps, w.heap.size ≤ p
  away : ∀ p ∈ ps, ∀ x ∈ L, x.1 ≠ p
theorem Fr.none {w u : World} {T : TypeId} {Cz : Array Value} {L : List Blk} (h : Bks w L u) : Fr w T Cz L [] u :=
  ⟨h, fun p hp => (by cases hp), List.nodup_nil, fun p hp => (by cases hp), fun p hp => (by cases hp)⟩
theorem Fr.stab (w : World) (T : TypeId) (Cz : Array Value) (L : List Blk) (ps : List Nat) : Stab (Fr w T Cz L ps) := fun _ _ h k => ⟨h.bks.later k, fun p hp => (h.zero p hp).later k, h.nodup, h.new, h.away⟩
theorem Fr.made {w u : World} {T : TypeId} {Cz : Array Value} {L : List Blk} {ps : List Nat} {S : World → Prop} (hS : ∀ v, S v → Fr w T Cz L ps v) {k : Nat} (h : Made S k Cz T u) : Fr w T Cz L (k :: ps) u := by
  have hu := (h.mono hS).under (Fr.stab w T Cz L ps)
  obtain ⟨v, hv, e⟩ := (h.mono hS).above
  have lt : ∀ p ∈ ps, p < k := fun p hp => e ▸ (hv.zero p hp).lt
  refine ⟨hu.bks, fun p hp => ?_, List.nodup_cons.2 ⟨fun q => Nat.lt_irrefl _ (lt k q), hu.nodup⟩, fun p hp => ?_, fun p hp x hx => ?_⟩
  · rcases List.mem_cons.1 hp with rfl | hp
    · exact h.has
    · exact hu.zero p hp
  · rcases List.mem_cons.1 hp with rfl | hp
    · exact e ▸ hv.bks.gr.size
    · exact hu.new p hp
  · rcases List.mem_cons.1 hp with rfl | hp
    · have := (hv.bks.at' x hx).lt
      omega
    · exact hu.away p hp x hx
theorem Fr.re {w u : World} {T : TypeId} {Cz : Array Value} {L : List Blk} {ps qs : List Nat} (h : Fr w T Cz L ps u) (hs : ∀ x ∈ qs, x ∈ ps) (hn : ps.Nodup → qs.Nodup) : Fr w T Cz L qs u :=
  ⟨h.bks, fun p hp => h.zero p (hs p hp), hn h.nodup, fun p hp => h.new p (hs p hp), fun p hp => h.away p (hs p hp)⟩
/-- what is stored into the first of them -/
theorem Fr.fill {w u : World} {T : TypeId} {Cz : Array Value} {L : List Blk} {p : Nat} {ps : List Nat} (h : Fr w T Cz L (p :: ps) u) (C : Array Value) : Fr w T Cz ((p, T, C) :: L) ps (u.setRow p C) := by
  have hp := List.nodup_cons.1 h.nodup
  have hz := h.zero p List.mem_cons_self
  refine ⟨⟨h.bks.gr.setRow (h.new p List.mem_cons_self) C, fun x hx => ?_⟩, fun q hq => ?_, hp.2, fun q hq => h.new q (List.mem_cons_of_mem _ hq), fun q hq x hx => ?_⟩
  · rcases List.mem_cons.1 hx with rfl | hx
    · exact hz.row C
    · exact (h.bks.at' x hx).rowAside (h.away p List.mem_cons_self x hx) C
  · exact (h.zero q (List.mem_cons_of_mem _ hq)).rowAside (fun e => hp.1 (by rw [← e]; exact hq)) C
  · rcases List.mem_cons.1 hx with rfl | hx
    · exact fun e => hp.1 (by have e' : p = q := e; rw [e']; exact hq)
    · exact h.away q (List.mem_cons_of_mem _ hq) x hx

section
variable {P : Program} {ops : Array Oper} {Q : Exit → Act → World → Prop} {md : Region.Mode} {S U : World → Prop} {Z : List Nat}

/-- cells of a type: what a store of them asks -/
def Fits (P : Program) (T : TypeId) (Cz C : Array Value) : Prop := (P.info? T).map (·.size) = some C.size ∧ Cz.size = C.size ∧ C.all (·.oneCell') = true
theorem run_store_row {o : Oper} {a : Act} {w : World} {T : TypeId} {Cz C : Array Value} (hF : Fits P T Cz C) (x y : Operand) (ho : o.op = .store T x y) (g : Nat) (hx : a.eval x = .pointer (some ⟨g, 0, none⟩)) (hy : a.eval y = .agg C)
    (hg : Has w g Cz T) : (execOp a.eval o).run P w = .ok .skip (w.setRow g C) := by
  unfold execOp
  simp only [ho, hx, hy, Instr.storeAt, Instr.sureAddr, Sem.run_bind, Sem.run_pure, Result.andThen_ok, run_storeVar_row w g T T Cz C hg hF.1 hF.2.1 hF.2.2]
/-- the zero of a type in a new block -/
def Zero (P : Program) (T : TypeId) (Cz : Array Value) : Prop := ∀ (o : Oper) (a : Act) (w : World), o.op = .alloc T → (execOp a.eval o).run P w = .ok (.value (.pointer (some ⟨w.heap.size, 0, none⟩))) (w.alloc (.cells Cz T))
theorem wanted_free {o : Oper} {v : Nat → Option Bool} (h : o.guard = none) : Region.wanted o v = true := by unfold Region.wanted; rw [h]

/-- what may come up, when, where two variables are laid down, and stored into -/
def two_ready (md : Region.Mode) (ops : Array Oper) (l : Array Bool) (i j m n : Nat) : Bool :=
  Region.ready md ops l == [i, j] && (Region.ready md ops (l.setIfInBounds i true) == [j] && (Region.ready md ops (l.setIfInBounds j true) == [i] &&
  (Region.ready md ops ((l.setIfInBounds i true).setIfInBounds j true) == [m] && (Region.ready md ops (((l.setIfInBounds i true).setIfInBounds j true).setIfInBounds m true) == [n] &&
  (Region.ready md ops ((((l.setIfInBounds i true).setIfInBounds j true).setIfInBounds m true).setIfInBounds n true)).isEmpty && i != j))))
/-- two variables are laid down, and stored into -/
theorem AnyG.var2 (i j m n d e : Nat) {w : World} {T : TypeId} {Cz C D : Array Value} {L : List Blk} (hz : Zero P T Cz) (hC : Fits P T Cz C) (hD : Fits P T Cz D) {o p q r : Oper} {fuel : Nat} {listed : Array Bool} {a : Act}
    (hb : two_ready md ops listed i j m n = true) (hi : ops[i]? = some o) (hj : ops[j]? = some p) (hm : ops[m]? = some q) (hn : ops[n]? = some r)
    (ho : o.op = .alloc T ∧ o.dst = some d ∧ o.guard = none) (hp : p.op = .alloc T ∧ p.dst = some e ∧ p.guard = none)
    (x y x' y' : Operand) (hq : q.op = .store T x y ∧ q.dst = none ∧ q.guard = none) (hr : r.op = .store T x' y' ∧ r.dst = none ∧ r.guard = none) (hde : d ≠ e)
    (hx : ∀ u v, ((a.put (some d) (.pointer (some ⟨u, 0, none⟩))).put (some e) (.pointer (some ⟨v, 0, none⟩))).eval x = .pointer (some ⟨u, 0, none⟩))
    (hx' : ∀ u v, ((a.put (some d) (.pointer (some ⟨u, 0, none⟩))).put (some e) (.pointer (some ⟨v, 0, none⟩))).eval x' = .pointer (some ⟨v, 0, none⟩))
    (hy : ∀ u v, ((a.put (some d) (.pointer (some ⟨u, 0, none⟩))).put (some e) (.pointer (some ⟨v, 0, none⟩))).eval y = .agg C)
    (hy' : ∀ u v, ((a.put (some d) (.pointer (some ⟨u, 0, none⟩))).put (some e) (.pointer (some ⟨v, 0, none⟩))).eval y' = .agg D)
    (h : ∀ u v k, Bks w ((v, T, D) :: (u, T, C) :: L) k → Q .normal ((a.put (some d) (.pointer (some ⟨u, 0, none⟩))).put (some e) (.pointer (some ⟨v, 0, none⟩))) k) :
    AnyG P md ops Q (Bks w L) Z (fuel + 4) listed a (Bks w L) := by
  unfold two_ready at hb
  simp only [Bool.and_eq_true, beq_iff_eq, List.isEmpty_iff, bne_iff_ne, ne_eq] at hb
  obtain ⟨r1, r2, r3, r4, ⟨r5, r6⟩, hij⟩ := hb
  obtain ⟨o1, o2, o3⟩ := ho
  obtain ⟨p1, p2, p3⟩ := hp
  obtain ⟨q1, q2, q3⟩ := hq
  obtain ⟨s1, s2, s3⟩ := hr
  have fin : ∀ u v, AnyG P md ops Q (Bks w L) Z (fuel + 2) ((listed.setIfInBounds i true).setIfInBounds j true) ((a.put (some d) (.pointer (some ⟨u, 0, none⟩))).put (some e) (.pointer (some ⟨v, 0, none⟩))) (Fr w T Cz L [u, v]) := by
    intro u v
    refine AnyG.store m (Fr w T Cz ((u, T, C) :: L) [v]) r4 hm q2 (wanted_free q3) (Fr.stab _ _ _ _ _) (fun k hk => hk.bks.sub fun x hx => List.mem_cons_of_mem _ hx) (fun k hk => ⟨_, run_store_row hC x y q1 u (hx u v) (hy u v) (hk.zero u List.mem_cons_self), hk.fill C⟩) ?_
    refine AnyG.store n (Fr w T Cz ((v, T, D) :: (u, T, C) :: L) []) r5 hn s2 (wanted_free s3) (Fr.stab _ _ _ _ _) (fun k hk => hk.bks.sub fun x hx => List.mem_cons_of_mem _ (List.mem_cons_of_mem _ hx)) (fun k hk => ⟨_, run_store_row hD x' y' s1 v (hx' u v) (hy' u v) (hk.zero v List.mem_cons_self), hk.fill D⟩) ?_
    exact AnyG.done r6 fun k hk => h u v k hk.bks
  refine AnyG.new2 i j d e Cz T r1 hi hj o2 p2 (by rw [wanted_free o3, wanted_free p3]; rfl) (fun k => hz o a k o1) (fun k => hz p a k p1) (fun u => ?_) (fun v => ?_)
  · refine AnyG.new j e Cz T r2 hj p2 (wanted_free p3) (fun k => hz p _ k p1) fun v => ?_
    exact AnyG.weaken (fun k hk => ((Fr.made (fun _ q => Fr.made (fun _ q => Fr.none q) q) hk).re (qs := [u, v]) (by simp <;> omega) (by simp <;> omega))) (fin u v)
  · refine AnyG.new i d Cz T r3 hi o2 (wanted_free o3) (fun k => hz o _ k o1) fun u => ?_
    rw [Array.setIfInBounds_comm _ _ (Ne.symm hij), Act.put_comm a (x := some e) (y := some d) _ _ (by intro z hz1 hz2; cases hz1; cases hz2; exact hde rfl)]
    exact AnyG.weaken (fun k hk => ((Fr.made (fun _ q => Fr.made (fun _ q => Fr.none q) q) hk).re (qs := [u, v]) (by simp <;> omega) (by simp <;> omega))) (fin u v)

/-- what may come up, when, where three variables are laid down, and stored into -/
def three_ready (md : Region.Mode) (ops : Array Oper) (l : Array Bool) (i j k m n z : Nat) : Bool :=
  let A := (l.setIfInBounds i true).setIfInBounds j true
  let B := A.setIfInBounds k true
  Region.ready md ops l == [i, j, k] && (Region.ready md ops (l.setIfInBounds i true) == [j, k] && (Region.ready md ops (l.setIfInBounds j true) == [i, k] && (Region.ready md ops (l.setIfInBounds k true) == [i, j] &&
  (Region.ready md ops A == [k] && (Region.ready md ops ((l.setIfInBounds i true).setIfInBounds k true) == [j] && (Region.ready md ops ((l.setIfInBounds j true).setIfInBounds k true) == [i] &&
  (Region.ready md ops B == [m] && (Region.ready md ops (B.setIfInBounds m true) == [n] && (Region.ready md ops ((B.setIfInBounds m true).setIfInBounds n true) == [z] && (Region.ready md ops (((B.setIfInBounds m true).setIfInBounds n true).setIfInBounds z true)).isEmpty)))))))))
/-- three variables are laid down, and stored into -/
theorem AnyG.var3 (i j k m n z d e f : Nat) {w : World} {T : TypeId} {Cz C D E : Array Value} {L : List Blk} (hz : Zero P T Cz) (hC : Fits P T Cz C) (hD : Fits P T Cz D) (hE : Fits P T Cz E) {o p t q r s : Oper} {fuel : Nat} {listed : Array Bool} {a : Act}
    (hb : three_ready md ops listed i j k m n z = true) (hi : ops[i]? = some o) (hj : ops[j]? = some p) (hk : ops[k]? = some t) (hm : ops[m]? = some q) (hn : ops[n]? = some r) (hs : ops[z]? = some s)
    (ho : o.op = .alloc T ∧ o.dst = some d ∧ o.guard = none) (hp : p.op = .alloc T ∧ p.dst = some e ∧ p.guard = none) (ht : t.op = .alloc T ∧ t.dst = some f ∧ t.guard = none)
    (x y x' y' x2 y2 : Operand) (hq : q.op = .store T x y ∧ q.dst = none ∧ q.guard = none) (hr : r.op = .store T x' y' ∧ r.dst = none ∧ r.guard = none) (hs' : s.op = .store T x2 y2 ∧ s.dst = none ∧ s.guard = none)
    (hne : i ≠ j ∧ i ≠ k ∧ j ≠ k) (hde : d ≠ e ∧ d ≠ f ∧ e ≠ f)
    (hx : ∀ u v c, (((a.put (some d) (.pointer (some ⟨u, 0, none⟩))).put (some e) (.pointer (some ⟨v, 0, none⟩))).put (some f) (.pointer (some ⟨c, 0, none⟩))).eval x = .pointer (some ⟨u, 0, none⟩))
    (hx' : ∀ u v c, (((a.put (some d) (.pointer (some ⟨u, 0, none⟩))).put (some e) (.pointer (some ⟨v, 0, none⟩))).put (some f) (.pointer (some ⟨c, 0, none⟩))).eval x' = .pointer (some ⟨v, 0, none⟩))
    (hx2 : ∀ u v c, (((a.put (some d) (.pointer (some ⟨u, 0, none⟩))).put (some e) (.pointer (some ⟨v, 0, none⟩))).put (some f) (.pointer (some ⟨c, 0, none⟩))).eval x2 = .pointer (some ⟨c, 0, none⟩))
    (hy : ∀ u v c, (((a.put (some d) (.pointer (some ⟨u, 0, none⟩))).put (some e) (.pointer (some ⟨v, 0, none⟩))).put (some f) (.pointer (some ⟨c, 0, none⟩))).eval y = .agg C)
    (hy' : ∀ u v c, (((a.put (some d) (.pointer (some ⟨u, 0, none⟩))).put (some e) (.pointer (some ⟨v, 0, none⟩))).put (some f) (.pointer (some ⟨c, 0, none⟩))).eval y' = .agg D)
    (hy2 : ∀ u v c, (((a.put (some d) (.pointer (some ⟨u, 0, none⟩))).put (some e) (.pointer (some ⟨v, 0, none⟩))).put (some f) (.pointer (some ⟨c, 0, none⟩))).eval y2 = .agg E)
    (h : ∀ u v c g, Bks w ((c, T, E) :: (v, T, D) :: (u, T, C) :: L) g → Q .normal (((a.put (some d) (.pointer (some ⟨u, 0, none⟩))).put (some e) (.pointer (some ⟨v, 0, none⟩))).put (some f) (.pointer (some ⟨c, 0, none⟩))) g) :
    AnyG P md ops Q (Bks w L) Z (fuel + 6) listed a (Bks w L) := by
  simp only [three_ready, Bool.and_eq_true, beq_iff_eq, List.isEmpty_iff] at hb
  obtain ⟨r1, r2, r3, r4, r5, r6, r7, r8, r9, r10, r11⟩ := hb
  obtain ⟨o1, o2, o3⟩ := ho
  obtain ⟨p1, p2, p3⟩ := hp
  obtain ⟨t1, t2, t3⟩ := ht
  obtain ⟨q1, q2, q3⟩ := hq
  obtain ⟨s1, s2, s3⟩ := hr
  obtain ⟨z1, z2, z3⟩ := hs'
  have wo : ∀ v : Nat → Option Bool, Region.wanted o v = true := fun v => wanted_free o3
  have wp : ∀ v : Nat → Option Bool, Region.wanted p v = true := fun v => wanted_free p3
  have wt : ∀ v : Nat → Option Bool, Region.wanted t v = true := fun v => wanted_free t3
  have cde : ∀ (b : Act) u v, (b.put (some e) (.pointer (some ⟨v, 0, none⟩))).put (some d) (.pointer (some ⟨u, 0, none⟩)) = (b.put (some d) (.pointer (some ⟨u, 0, none⟩))).put (some e) (.pointer (some ⟨v, 0, none⟩)) := fun b u v => Act.put_comm b _ _ (by intro c h1 h2; cases h1; cases h2; exact hde.1 rfl)
  have cdf : ∀ (b : Act) u v, (b.put (some f) (.pointer (some ⟨v, 0, none⟩))).put (some d) (.pointer (some ⟨u, 0, none⟩)) = (b.put (some d) (.pointer (some ⟨u, 0, none⟩))).put (some f) (.pointer (some ⟨v, 0, none⟩)) := fun b u v => Act.put_comm b _ _ (by intro c h1 h2; cases h1; cases h2; exact hde.2.1 rfl)
  have cef : ∀ (b : Act) u v, (b.put (some f) (.pointer (some ⟨v, 0, none⟩))).put (some e) (.pointer (some ⟨u, 0, none⟩)) = (b.put (some e) (.pointer (some ⟨u, 0, none⟩))).put (some f) (.pointer (some ⟨v, 0, none⟩)) := fun b u v => Act.put_comm b _ _ (by intro c h1 h2; cases h1; cases h2; exact hde.2.2 rfl)
  have lij : ∀ l : Array Bool, (l.setIfInBounds j true).setIfInBounds i true = (l.setIfInBounds i true).setIfInBounds j true := fun l => Array.setIfInBounds_comm _ _ (Ne.symm hne.1)
  have lik : ∀ l : Array Bool, (l.setIfInBounds k true).setIfInBounds i true = (l.setIfInBounds i true).setIfInBounds k true := fun l => Array.setIfInBounds_comm _ _ (Ne.symm hne.2.1)
  have ljk : ∀ l : Array Bool, (l.setIfInBounds k true).setIfInBounds j true = (l.setIfInBounds j true).setIfInBounds k true := fun l => Array.setIfInBounds_comm _ _ (Ne.symm hne.2.2)
  have fin : ∀ u v c, AnyG P md ops Q (Bks w L) Z (fuel + 3) (((listed.setIfInBounds i true).setIfInBounds j true).setIfInBounds k true) (((a.put (some d) (.pointer (some ⟨u, 0, none⟩))).put (some e) (.pointer (some ⟨v, 0, none⟩))).put (some f) (.pointer (some ⟨c, 0, none⟩))) (Fr w T Cz L [u, v, c]) := by
    intro u v c
    refine AnyG.store m (Fr w T Cz ((u, T, C) :: L) [v, c]) r8 hm q2 (wanted_free q3) (Fr.stab _ _ _ _ _) (fun b hb => hb.bks.sub fun x hx => List.mem_cons_of_mem _ hx) (fun b hb => ⟨_, run_store_row hC x y q1 u (hx u v c) (hy u v c) (hb.zero u List.mem_cons_self), hb.fill C⟩) ?_
    refine AnyG.store n (Fr w T Cz ((v, T, D) :: (u, T, C) :: L) [c]) r9 hn s2 (wanted_free s3) (Fr.stab _ _ _ _ _) (fun b hb => hb.bks.sub fun x hx => List.mem_cons_of_mem _ (List.mem_cons_of_mem _ hx)) (fun b hb => ⟨_, run_store_row hD x' y' s1 v (hx' u v c) (hy' u v c) (hb.zero v List.mem_cons_self), hb.fill D⟩) ?_
    refine AnyG.store z (Fr w T Cz ((c, T, E) :: (v, T, D) :: (u, T, C) :: L) []) r10 hs z2 (wanted_free z3) (Fr.stab _ _ _ _ _) (fun b hb => hb.bks.sub fun x hx => List.mem_cons_of_mem _ (List.mem_cons_of_mem _ (List.mem_cons_of_mem _ hx))) (fun b hb => ⟨_, run_store_row hE x2 y2 z1 c (hx2 u v c) (hy2 u v c) (hb.zero c List.mem_cons_self), hb.fill E⟩) ?_
    exact AnyG.done r11 fun b hb => h u v c b hb.bks
  have mk : ∀ {u v c u' v' c' : Nat} (hs : ∀ x ∈ [u', v', c'], x ∈ [c, v, u]) (hn : [c, v, u].Nodup → [u', v', c'].Nodup) (b : World), Made (Made (Made (Bks w L) u Cz T) v Cz T) c Cz T b → Fr w T Cz L [u', v', c'] b := fun hs hn b hb => (Fr.made (fun _ q => Fr.made (fun _ q => Fr.made (fun _ q => Fr.none q) q) q) hb).re hs hn
  refine AnyG.new3 i j k d e f Cz T r1 hi hj hk o2 p2 t2 (by rw [wo, wp, wt]; rfl) (fun b => hz o a b o1) (fun b => hz p a b p1) (fun b => hz t a b t1) (fun u => ?_) (fun v => ?_) (fun c => ?_)
  · refine AnyG.new2 j k e f Cz T r2 hj hk p2 t2 (by rw [wp, wt]; rfl) (fun b => hz p _ b p1) (fun b => hz t _ b t1) (fun v => ?_) (fun c => ?_)
    · refine AnyG.new k f Cz T r5 hk t2 (wt _) (fun b => hz t _ b t1) fun c => ?_
      exact AnyG.weaken (mk (by simp <;> omega) (by simp <;> omega)) (fin u v c)
    · refine AnyG.new j e Cz T r6 hj p2 (wp _) (fun b => hz p _ b p1) fun v => ?_
      rw [ljk, cef]
      exact AnyG.weaken (mk (by simp <;> omega) (by simp <;> omega)) (fin u v c)
  · refine AnyG.new2 i k d f Cz T r3 hi hk o2 t2 (by rw [wo, wt]; rfl) (fun b => hz o _ b o1) (fun b => hz t _ b t1) (fun u => ?_) (fun c => ?_)
    · rw [lij, cde]
      refine AnyG.new k f Cz T r5 hk t2 (wt _) (fun b => hz t _ b t1) fun c => ?_
      exact AnyG.weaken (mk (by simp <;> omega) (by simp <;> omega)) (fin u v c)
    · refine AnyG.new i d Cz T r7 hi o2 (wo _) (fun b => hz o _ b o1) fun u => ?_
      rw [lik, lij, cdf, cde]
      exact AnyG.weaken (mk (by simp <;> omega) (by simp <;> omega)) (fin u v c)
  · refine AnyG.new2 i j d e Cz T r4 hi hj o2 p2 (by rw [wo, wp]; rfl) (fun b => hz o _ b o1) (fun b => hz p _ b p1) (fun u => ?_) (fun v => ?_)
    · rw [lik, cdf]
      refine AnyG.new j e Cz T r6 hj p2 (wp _) (fun b => hz p _ b p1) fun v => ?_
      rw [ljk, cef]
      exact AnyG.weaken (mk (by simp <;> omega) (by simp <;> omega)) (fin u v c)
    · rw [ljk, cef]
      refine AnyG.new i d Cz T r7 hi o2 (wo _) (fun b => hz o _ b o1) fun u => ?_
      rw [lik, lij, cdf, cde]
      exact AnyG.weaken (mk (by simp <;> omega) (by simp <;> omega)) (fin u v c)
end
end Go.Proofs.Ytejcififiinifaa
