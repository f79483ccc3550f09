/-
  A port, by what each of its functions makes of a state; functions that ask a port, as contracts: what is answered, and that nothing is changed but what the state owns. No condition but what each law names.
-/
import Derived.Test.YtbmlliohepidaaaDoorTh
namespace Go.Proofs.YtbmlliohepidaaaDoor
open Go.ChangeShapes Go.WideShapes Go.ChangeAt Go.RowKit
set_option linter.unusedVariables false

/-- what a state is in a world, whose blocks are these -/
structure Inv {S : Type} (I : List Nat → S → World → Prop) : Prop where
  stab : ∀ {F : List Nat} {s : S} {w w' : World} {G : List Nat}, I F s w → Kp G w w' → (∀ x ∈ G, x ∉ F ∧ x ≠ 0) → I F s w'
  bnd : ∀ {F : List Nat} {s : S} {w : World}, I F s w → ∀ x ∈ F, x < w.heap.size
  laid : ∀ {F : List Nat} {s : S} {w : World}, I F s w → Laid w

/-- behind a run from a world: the state; blocks that aren't the state's -/
def Pst {S : Type} (I : List Nat → S → World → Prop) (F0 : List Nat) (w0 : World) (L : List Nat) (s : S) (w : World) : Prop :=
  ∃ F, I F s w ∧ Kp F0 w0 w ∧ (∀ x ∈ F, (x ∈ F0 ∨ w0.heap.size ≤ x) ∧ x ∉ L) ∧ (∀ x ∈ L, x < w.heap.size) ∧ 0 < w0.heap.size
/-- these blocks are as they were -/
def Loc (L : List Nat) (w w' : World) : Prop := ∀ k ∈ L, w'.heap[k]? = w.heap[k]?
theorem Has.loc {w w' : World} {g : Nat} {C : Array Value} {t : TypeId} {L : List Nat} (h : Has w g C t) (k : Loc L w w') (hg : g ∈ L) : Has w' g C t := (k g hg).trans h

section
variable {S : Type} {I : List Nat → S → World → Prop}

theorem Pst.start (V : Inv I) {F : List Nat} {s : S} {w : World} (h : I F s w) : Pst I F w [] s w := ⟨F, h, Kp.refl _ _, fun x hx => ⟨.inl hx, by simp⟩, by simp, (V.laid h).lt⟩
theorem Pst.laid (V : Inv I) {F0 L : List Nat} {w0 w : World} {s : S} (p : Pst I F0 w0 L s w) : Laid w := by
  obtain ⟨F, h, _⟩ := p
  exact V.laid h
theorem Pst.gr (V : Inv I) {F0 L : List Nat} {w0 w w' : World} {s : S} (p : Pst I F0 w0 L s w) (g : Gr w w') : Pst I F0 w0 L s w' := by
  obtain ⟨F, h, k, n, l, z⟩ := p
  exact ⟨F, V.stab h (g.kp []) (by simp), k.trans (g.kp []) (fun _ h => h) (by simp), n, fun x hx => Nat.lt_of_lt_of_le (l x hx) g.size, z⟩
theorem Pst.alloc (V : Inv I) {F0 L : List Nat} {w0 w : World} {s : S} (p : Pst I F0 w0 L s w) (C : Array Value) (t : TypeId) : Pst I F0 w0 (w.heap.size :: L) s (w.alloc (.cells C t)) := by
  obtain ⟨F, h, k, n, l, z⟩ := p
  have g := (Gr.refl w).alloc C t
  refine ⟨F, V.stab h (g.kp []) (by simp), k.trans (g.kp []) (fun _ h => h) (by simp), fun x hx => ⟨(n x hx).1, fun q => ?_⟩, fun x hx => ?_, z⟩
  · rcases List.mem_cons.1 q with rfl | q
    · exact Nat.lt_irrefl _ (V.bnd h _ hx)
    · exact (n x hx).2 q
  · rcases List.mem_cons.1 hx with rfl | q
    · simp
    · have := l x q; simp; omega
theorem Pst.kept (V : Inv I) {F0 L G : List Nat} {w0 w w' : World} {s : S} (p : Pst I F0 w0 L s w) (k : Kp G w w') (hG : ∀ x ∈ G, x ∈ L ∧ w0.heap.size ≤ x) : Pst I F0 w0 L s w' := by
  obtain ⟨F, h, q, n, l, z⟩ := p
  exact ⟨F, V.stab h k (fun x hx => ⟨fun hf => (n x hf).2 (hG x hx).1, by have := (hG x hx).2; omega⟩), q.trans k (fun _ h => h) (fun x hx => .inr (hG x hx).2), n, fun x hx => Nat.lt_of_lt_of_le (l x hx) k.size, z⟩
theorem Pst.setCell (V : Inv I) {F0 L : List Nat} {w0 w : World} {s : S} (p : Pst I F0 w0 L s w) (g o : Nat) (v : Value) (hg : g ∈ L) (h0 : w0.heap.size ≤ g) : Pst I F0 w0 L s (w.setCell ⟨g, o, none⟩ v) :=
  p.kept V (Kp.setCell w g o v) (by simpa using ⟨hg, h0⟩)
theorem Pst.setRow (V : Inv I) {F0 L : List Nat} {w0 w : World} {s : S} (p : Pst I F0 w0 L s w) (g : Nat) (C : Array Value) (hg : g ∈ L) (h0 : w0.heap.size ≤ g) : Pst I F0 w0 L s (w.setRow g C) :=
  p.kept V (Kp.setRow w g C) (by simpa using ⟨hg, h0⟩)
theorem Pst.less {F0 L M : List Nat} {w0 w : World} {s : S} (p : Pst I F0 w0 L s w) (h : ∀ x ∈ M, x ∈ L) : Pst I F0 w0 M s w := by
  obtain ⟨F, i, k, n, l, z⟩ := p
  exact ⟨F, i, k, fun x hx => ⟨(n x hx).1, fun q => (n x hx).2 (h x q)⟩, fun x hx => l x (h x hx), z⟩
theorem Pst.end {F0 L : List Nat} {w0 w : World} {s : S} (p : Pst I F0 w0 L s w) : Pst I F0 w0 [] s w := p.less (by simp)

/-- a call that asks a port: what it answers, and what becomes of the state -/
def Does (I : List Nat → S → World → Prop) (s : S) (w : World) (G : FuncId) (args : Array Value) (v : Value) (s' : S) : Prop :=
  ∀ F, I F s w → Calls Tryd.prog G args w fun e w' => e = .returned v ∧ Pst I F w [] s' w'
theorem Does.go {s s' : S} {w : World} {G : FuncId} {args : Array Value} {v : Value} (d : Does I s w G args v s') {F0 L : List Nat} {w0 : World} (p : Pst I F0 w0 L s w) :
    Calls Tryd.prog G args w fun e w' => (e = .returned v ∧ Loc L w w') ∧ Pst I F0 w0 L s' w' := by
  obtain ⟨F, h, k, n, l, z⟩ := p
  refine (d F h).mono ?_
  rintro e w' ⟨rfl, F', h', k', n', _, _⟩
  refine ⟨⟨rfl, fun x hx => k'.block x (l x hx) fun q => (n x q).2 hx⟩, F', h', k.trans k' (fun _ h => h) fun x hx => (n x hx).1, fun x hx => ?_, fun x hx => Nat.lt_of_lt_of_le (l x hx) k'.size, z⟩
  rcases (n' x hx).1 with q | q
  · exact n x q
  · exact ⟨.inr (Nat.le_trans k.size q), fun hl => by have := l x hl; omega⟩
/-- a function value of the program's own that is called so -/
structure DoesV (I : List Nat → S → World → Prop) (s : S) (w : World) (G : FuncId) (caps args : Array Value) (v : Value) (s' : S) : Prop where
  run : ∀ args w, (callFunc G args).run Tryd.prog w = .ok (.enter G args) w
  does : Does I s w G (args ++ caps) v s'
end

/-- what a port makes of a state -/
structure Prt (S : Type) where
  size : Int
  /-- how much may be added yet -/
  fuel : S → Nat
  load : S → Int → Int
  loadS : S → Int → S
  room : S → Bool
  store : S → Int → Int → S
  empty : S → Bool
  flush : S → S
  swap : S → Int → Int → Int
  swapS : S → Int → Int → S
  sleep : S → Int → S
  wake : S → Int → Int → Int
  wakeS : S → Int → Int → S
  remote : S → S
  note : S → Ev → S

/-- a port's ten functions: each with what it holds -/
structure Fns where
  f1 : FuncId
  c1 : Array Value
  f2 : FuncId
  c2 : Array Value
  f3 : FuncId
  c3 : Array Value
  f4 : FuncId
  c4 : Array Value
  f5 : FuncId
  c5 : Array Value
  f6 : FuncId
  c6 : Array Value
  f7 : FuncId
  c7 : Array Value
  f8 : FuncId
  c8 : Array Value
  f9 : FuncId
  c9 : Array Value
  f10 : FuncId
  c10 : Array Value
abbrev portA (z : Int) (f : Fns) : Array Value := #[.int .i64 z, .func (.func f.f1) #[] f.c1, .func (.func f.f2) #[] f.c2, .func (.func f.f3) #[] f.c3, .func (.func f.f4) #[] f.c4, .func (.func f.f5) #[] f.c5, .func (.func f.f6) #[] f.c6, .func (.func f.f7) #[] f.c7, .func (.func f.f8) #[] f.c8, .func (.func f.f9) #[] f.c9, .func (.func f.f10) #[] f.c10]

/-- these functions are that port's, as long as there is room for what they add -/
structure PortOk {S : Type} (I : List Nat → S → World → Prop) (M : Prt S) (f : Fns) : Prop where
  inv : Inv I
  size : 0 ≤ M.size ∧ M.size ≤ 4611686018427387904
  load : ∀ s w m, 0 ≤ m → m < M.size → 200 ≤ M.fuel s → DoesV I s w f.f1 f.c1 #[.int .i64 m] (.int .u32 (M.load s m)) (M.loadS s m)
  loadU : ∀ F s w m, I F s w → U32 (M.load s m)
  loadF : ∀ s m, M.fuel s ≤ M.fuel (M.loadS s m) + 200
  room : ∀ s w, 200 ≤ M.fuel s → DoesV I s w f.f2 f.c2 #[] (.bool (M.room s)) s
  store : ∀ s w m v, 0 ≤ m → m < M.size → U32 v → M.room s = true → 200 ≤ M.fuel s → DoesV I s w f.f3 f.c3 #[.int .i64 m, .int .u32 v] (.tuple #[]) (M.store s m v)
  storeF : ∀ s m v, M.fuel s ≤ M.fuel (M.store s m v) + 200
  empty : ∀ s w, 200 ≤ M.fuel s → DoesV I s w f.f4 f.c4 #[] (.bool (M.empty s)) s
  flush : ∀ s w, 200 ≤ M.fuel s → DoesV I s w f.f5 f.c5 #[] (.tuple #[]) (M.flush s)
  swap : ∀ s w m v, 0 ≤ m → m < M.size → U32 v → 200 ≤ M.fuel s → DoesV I s w f.f6 f.c6 #[.int .i64 m, .int .u32 v] (.int .u32 (M.swap s m v)) (M.swapS s m v)
  swapF : ∀ s m v, M.fuel s ≤ M.fuel (M.swapS s m v) + 200
  sleep : ∀ s w m, 0 ≤ m → m < M.size → 200 ≤ M.fuel s → DoesV I s w f.f7 f.c7 #[.int .i64 m] (.tuple #[]) (M.sleep s m)
  wake : ∀ s w m v, 0 ≤ m → m < M.size → U32 v → 200 ≤ M.fuel s → DoesV I s w f.f8 f.c8 #[.int .i64 m, .int .u32 v] (.int .u32 (M.wake s m v)) (M.wakeS s m v)
  wakeU : ∀ F s w m v, I F s w → U32 (M.wake s m v)
  wakeF : ∀ s m v, M.fuel s ≤ M.fuel (M.wakeS s m v) + 200
  remote : ∀ s w, 200 ≤ M.fuel s → DoesV I s w f.f9 f.c9 #[] (.tuple #[]) (M.remote s)
  remoteF : ∀ s, M.fuel s ≤ M.fuel (M.remote s) + 200
  note : ∀ s w x, 200 ≤ M.fuel s → DoesV I s w f.f10 f.c10 #[.agg (evA x)] (.tuple #[]) (M.note s x)
  noteF : ∀ s x, M.fuel s ≤ M.fuel (M.note s x) + 200
end Go.Proofs.YtbmlliohepidaaaDoor
