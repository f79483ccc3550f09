/-
  Threads, instructions and events, by plain numbers and as cells. No condition but what each law names.
-/
import Derived.Test.YthbenfnanhpcoaaGreatDoorZtacMem
import Derived.Test.YthbenfnanhpcoaaGreatDoorZtadAlu
import Derived.Test.YthbenfnanhpcoaaGreatDoorZtaeIsa
namespace Go.Proofs.YthbenfnanhpcoaaGreatDoor
open Go.ChangeShapes Go.WideShapes Go.ChangeAt Go.RowKit
set_option linter.unusedVariables false

/-- a thread: its place, its registers, its status -/
structure Th where
  pc : Int
  r : List Int
  st : Int
/-- an instruction -/
structure Ins where
  op : Int
  a : Int
  b : Int
  c : Int
  k : Int
/-- an event -/
structure Ev where
  kind : Int
  who : Int
  pc : Int
  addr : Int
  value : Int
  old : Int
  k : Int
  ok : Bool

def thL (t : Th) : List Value := .int .i64 t.pc :: (t.r.map (Value.int .u32) ++ [.int .i64 t.st])
def thC (t : Th) : Array Value := (thL t).toArray
abbrev insA (i : Ins) : Array Value := #[.int .i64 i.op, .int .i64 i.a, .int .i64 i.b, .int .i64 i.c, .int .u32 i.k]
def insL (i : Ins) : List Value := [.int .i64 i.op, .int .i64 i.a, .int .i64 i.b, .int .i64 i.c, .int .u32 i.k]
abbrev evA (x : Ev) : Array Value := #[.int .i64 x.kind, .int .i64 x.who, .int .i64 x.pc, .int .i64 x.addr, .int .u32 x.value, .int .u32 x.old, .int .u32 x.k, .bool x.ok]
def evL (x : Ev) : List Value := [.int .i64 x.kind, .int .i64 x.who, .int .i64 x.pc, .int .i64 x.addr, .int .u32 x.value, .int .u32 x.old, .int .u32 x.k, .bool x.ok]
def ins0 : Ins := ⟨0, 0, 0, 0, 0⟩

/-- eight registers, of a word each -/
structure ThOk (t : Th) : Prop where
  len : t.r.length = 8
  u32 : ∀ x ∈ t.r, U32 x
structure InsOk (i : Ins) : Prop where
  k0 : 0 ≤ i.k
  k1 : i.k < 4294967296

def Th.reg (t : Th) (k : Int) : Int := t.r.getD k.toNat 0
def Th.put (t : Th) (k v : Int) : Th := ⟨t.pc, t.r.set k.toNat v, t.st⟩
def Th.at (t : Th) (pc : Int) : Th := ⟨pc, t.r, t.st⟩
def Th.is (t : Th) (st : Int) : Th := ⟨t.pc, t.r, st⟩

theorem ThOk.reg {t : Th} (h : ThOk t) (k : Int) : U32 (t.reg k) := by
  unfold Th.reg
  rw [List.getD_eq_getElem?_getD]
  rcases Nat.lt_or_ge k.toNat t.r.length with q | q
  · rw [List.getElem?_eq_getElem q]
    exact h.u32 _ (List.getElem_mem q)
  · rw [List.getElem?_eq_none q]
    exact ⟨Int.le_refl _, by decide⟩
theorem ThOk.put {t : Th} (h : ThOk t) (k v : Int) (hv : U32 v) : ThOk (t.put k v) := by
  refine ⟨by simp [Th.put, h.len], fun x hx => ?_⟩
  rcases List.mem_or_eq_of_mem_set hx with q | q
  · exact h.u32 x q
  · rw [q]; exact hv
theorem ThOk.at {t : Th} (h : ThOk t) (pc : Int) : ThOk (t.at pc) := ⟨h.len, h.u32⟩
theorem ThOk.is {t : Th} (h : ThOk t) (st : Int) : ThOk (t.is st) := ⟨h.len, h.u32⟩

theorem thC_size {t : Th} (h : ThOk t) : (thC t).size = 10 := by simp [thC, thL, h.len]
theorem thC_pc (t : Th) : (thC t)[0]? = some (.int .i64 t.pc) := by simp [thC, thL]
theorem thC_st {t : Th} (h : ThOk t) : (thC t)[9]? = some (.int .i64 t.st) := by
  simp [thC, thL, h.len]
theorem thC_reg {t : Th} (h : ThOk t) (k : Nat) (hk : k < 8) : (thC t)[1 + k]? = some (.int .u32 (t.reg k)) := by
  rw [Nat.add_comm]
  have : k < t.r.length := by rw [h.len]; exact hk
  simp only [thC, thL, List.getElem?_toArray, List.getElem?_cons_succ, Th.reg, Int.toNat_natCast]
  rw [List.getElem?_append_left (by simpa using this)]
  simp [List.getD_eq_getElem?_getD, this]
theorem thC_at (t : Th) (n : Int) : (thC t).setIfInBounds 0 (.int .i64 n) = thC (t.at n) := by simp [thC, thL, Th.at]
theorem thC_is {t : Th} (h : ThOk t) (n : Int) : (thC t).setIfInBounds 9 (.int .i64 n) = thC (t.is n) := by
  simp [thC, thL, Th.is, h.len]
theorem thC_put {t : Th} (h : ThOk t) (k : Nat) (hk : k < 8) (v : Int) : (thC t).setIfInBounds (1 + k) (.int .u32 v) = thC (t.put k v) := by
  rw [Nat.add_comm]
  have : k < t.r.length := by rw [h.len]; exact hk
  simp only [thC, thL, Th.put, List.setIfInBounds_toArray, List.set_cons_succ, Int.toNat_natCast]
  rw [List.set_append_left _ _ (by simpa using this)]
  simp
theorem thC_one (t : Th) : (thC t).all (·.oneCell') = true := by
  refine all_oneCell_toArray fun v hv => ?_
  unfold thL at hv
  rcases List.mem_cons.1 hv with rfl | hv
  · rfl
  · rcases List.mem_append.1 hv with h | h
    · obtain ⟨x, _, rfl⟩ := List.mem_map.1 h; rfl
    · rw [List.mem_singleton.1 h]; rfl

theorem infoT : (Tryz.prog.info? 42).map (·.size) = some 10 := by kernel_rfl
theorem infoT_of {t : Th} (h : ThOk t) : (Tryz.prog.info? 42).map (·.size) = some (thC t).size := by rw [thC_size h]; exact infoT

/-- a thread is read whole -/
theorem load_th {ops : Array Oper} {rest : List Oper} {op : Oper} {a : Act} {w : World} {Q : Exit → Act → World → Prop} (hgd : op.guard = none) (x : Operand) (ho : op.op = .load 42 x)
    (g : Nat) (hx : a.eval x = .pointer (some ⟨g, 0, none⟩)) (t : Th) (hg : Has w g (thC t) 42) (hs : ThOk t)
    (h : wpList Tryz.prog ops Q rest (a.put op.dst (.agg (thC t))) w) : wpList Tryz.prog ops Q (op :: rest) a w :=
  wpList_load_row hgd 42 x ho g hx 42 (thC t) (0, 0) _ hg Tryz.underlying42 rfl (infoT_of hs) h
/-- a thread is written whole -/
theorem store_th {ops : Array Oper} {rest : List Oper} {op : Oper} {a : Act} {w : World} {Q : Exit → Act → World → Prop} (hgd : op.guard = none) (x y : Operand) (ho : op.op = .store 42 x y)
    (g : Nat) (hx : a.eval x = .pointer (some ⟨g, 0, none⟩)) (t : Th) (hy : a.eval y = .agg (thC t)) (u : Th) (hg : Has w g (thC u) 42) (hs : ThOk t) (hd : ThOk u)
    (h : wpList Tryz.prog ops Q rest (a.put op.dst undef) (w.setRow g (thC t))) : wpList Tryz.prog ops Q (op :: rest) a w :=
  wpList_store_row hgd 42 x y ho g (thC t) hx hy 42 (thC u) hg (infoT_of hs) (by rw [thC_size hs, thC_size hd]) (thC_one t) h
end Go.Proofs.YthbenfnanhpcoaaGreatDoor

namespace Go.Proofs.YthbenfnanhpcoaaGreatDoor
open Go.ChangeShapes Go.WideShapes Go.ChangeAt Go.RowKit
set_option linter.unusedVariables false

/-- what a state is in a world, whose blocks are these -/
structure Inv {S : Type} (I : List Nat → S → World → Prop) : Prop where
  stab : ∀ {F : List Nat} {s : S} {w w' : World} {G : List Nat}, I F s w → Kp G w w' → (∀ x ∈ G, x ∉ F ∧ x ≠ 0) → I F s w'
  bnd : ∀ {F : List Nat} {s : S} {w : World}, I F s w → ∀ x ∈ F, x < w.heap.size
  laid : ∀ {F : List Nat} {s : S} {w : World}, I F s w → Laid w

/-- behind a run from a world: the state; blocks that aren't the state's -/
def Pst {S : Type} (I : List Nat → S → World → Prop) (F0 : List Nat) (w0 : World) (L : List Nat) (s : S) (w : World) : Prop :=
  ∃ F, I F s w ∧ Kp F0 w0 w ∧ (∀ x ∈ F, (x ∈ F0 ∨ w0.heap.size ≤ x) ∧ x ∉ L) ∧ (∀ x ∈ L, x < w.heap.size) ∧ 0 < w0.heap.size
/-- these blocks are as they were -/
def Loc (L : List Nat) (w w' : World) : Prop := ∀ k ∈ L, w'.heap[k]? = w.heap[k]?
theorem Has.loc {w w' : World} {g : Nat} {C : Array Value} {t : TypeId} {L : List Nat} (h : Has w g C t) (k : Loc L w w') (hg : g ∈ L) : Has w' g C t := (k g hg).trans h

section
variable {S : Type} {I : List Nat → S → World → Prop}

theorem Pst.start (V : Inv I) {F : List Nat} {s : S} {w : World} (h : I F s w) : Pst I F w [] s w := ⟨F, h, Kp.refl _ _, fun x hx => ⟨.inl hx, by simp⟩, by simp, (V.laid h).lt⟩
theorem Pst.laid (V : Inv I) {F0 L : List Nat} {w0 w : World} {s : S} (p : Pst I F0 w0 L s w) : Laid w := by
  obtain ⟨F, h, _⟩ := p
  exact V.laid h
theorem Pst.gr (V : Inv I) {F0 L : List Nat} {w0 w w' : World} {s : S} (p : Pst I F0 w0 L s w) (g : Gr w w') : Pst I F0 w0 L s w' := by
  obtain ⟨F, h, k, n, l, z⟩ := p
  exact ⟨F, V.stab h (g.kp []) (by simp), k.trans (g.kp []) (fun _ h => h) (by simp), n, fun x hx => Nat.lt_of_lt_of_le (l x hx) g.size, z⟩
theorem Pst.alloc (V : Inv I) {F0 L : List Nat} {w0 w : World} {s : S} (p : Pst I F0 w0 L s w) (C : Array Value) (t : TypeId) : Pst I F0 w0 (w.heap.size :: L) s (w.alloc (.cells C t)) := by
  obtain ⟨F, h, k, n, l, z⟩ := p
  have g := (Gr.refl w).alloc C t
  refine ⟨F, V.stab h (g.kp []) (by simp), k.trans (g.kp []) (fun _ h => h) (by simp), fun x hx => ⟨(n x hx).1, fun q => ?_⟩, fun x hx => ?_, z⟩
  · rcases List.mem_cons.1 q with rfl | q
    · exact Nat.lt_irrefl _ (V.bnd h _ hx)
    · exact (n x hx).2 q
  · rcases List.mem_cons.1 hx with rfl | q
    · simp
    · have := l x q; simp; omega
theorem Pst.kept (V : Inv I) {F0 L G : List Nat} {w0 w w' : World} {s : S} (p : Pst I F0 w0 L s w) (k : Kp G w w') (hG : ∀ x ∈ G, x ∈ L ∧ w0.heap.size ≤ x) : Pst I F0 w0 L s w' := by
  obtain ⟨F, h, q, n, l, z⟩ := p
  exact ⟨F, V.stab h k (fun x hx => ⟨fun hf => (n x hf).2 (hG x hx).1, by have := (hG x hx).2; omega⟩), q.trans k (fun _ h => h) (fun x hx => .inr (hG x hx).2), n, fun x hx => Nat.lt_of_lt_of_le (l x hx) k.size, z⟩
theorem Pst.setCell (V : Inv I) {F0 L : List Nat} {w0 w : World} {s : S} (p : Pst I F0 w0 L s w) (g o : Nat) (v : Value) (hg : g ∈ L) (h0 : w0.heap.size ≤ g) : Pst I F0 w0 L s (w.setCell ⟨g, o, none⟩ v) :=
  p.kept V (Kp.setCell w g o v) (by simpa using ⟨hg, h0⟩)
theorem Pst.setRow (V : Inv I) {F0 L : List Nat} {w0 w : World} {s : S} (p : Pst I F0 w0 L s w) (g : Nat) (C : Array Value) (hg : g ∈ L) (h0 : w0.heap.size ≤ g) : Pst I F0 w0 L s (w.setRow g C) :=
  p.kept V (Kp.setRow w g C) (by simpa using ⟨hg, h0⟩)
theorem Pst.less {F0 L M : List Nat} {w0 w : World} {s : S} (p : Pst I F0 w0 L s w) (h : ∀ x ∈ M, x ∈ L) : Pst I F0 w0 M s w := by
  obtain ⟨F, i, k, n, l, z⟩ := p
  exact ⟨F, i, k, fun x hx => ⟨(n x hx).1, fun q => (n x hx).2 (h x q)⟩, fun x hx => l x (h x hx), z⟩
theorem Pst.end {F0 L : List Nat} {w0 w : World} {s : S} (p : Pst I F0 w0 L s w) : Pst I F0 w0 [] s w := p.less (by simp)

/-- a call that asks a port: what it answers, and what becomes of the state -/
def Does (I : List Nat → S → World → Prop) (s : S) (w : World) (G : FuncId) (args : Array Value) (v : Value) (s' : S) : Prop :=
  ∀ F, I F s w → Calls Tryz.prog G args w fun e w' => e = .returned v ∧ Pst I F w [] s' w'
theorem Does.go {s s' : S} {w : World} {G : FuncId} {args : Array Value} {v : Value} (d : Does I s w G args v s') {F0 L : List Nat} {w0 : World} (p : Pst I F0 w0 L s w) :
    Calls Tryz.prog G args w fun e w' => (e = .returned v ∧ Loc L w w') ∧ Pst I F0 w0 L s' w' := by
  obtain ⟨F, h, k, n, l, z⟩ := p
  refine (d F h).mono ?_
  rintro e w' ⟨rfl, F', h', k', n', _, _⟩
  refine ⟨⟨rfl, fun x hx => k'.block x (l x hx) fun q => (n x q).2 hx⟩, F', h', k.trans k' (fun _ h => h) fun x hx => (n x hx).1, fun x hx => ?_, fun x hx => Nat.lt_of_lt_of_le (l x hx) k'.size, z⟩
  rcases (n' x hx).1 with q | q
  · exact n x q
  · exact ⟨.inr (Nat.le_trans k.size q), fun hl => by have := l x hl; omega⟩
/-- a function value of the program's own that is called so -/
structure DoesV (I : List Nat → S → World → Prop) (s : S) (w : World) (G : FuncId) (caps args : Array Value) (v : Value) (s' : S) : Prop where
  run : ∀ args w, (callFunc G args).run Tryz.prog w = .ok (.enter G args) w
  does : Does I s w G (args ++ caps) v s'
end

/-- what a port makes of a state -/
structure Prt (S : Type) where
  size : Int
  /-- how much may be added yet -/
  fuel : S → Nat
  load : S → Int → Int
  loadS : S → Int → S
  room : S → Bool
  store : S → Int → Int → S
  empty : S → Bool
  flush : S → S
  swap : S → Int → Int → Int
  swapS : S → Int → Int → S
  sleep : S → Int → S
  wake : S → Int → Int → Int
  wakeS : S → Int → Int → S
  remote : S → S
  note : S → Ev → S

/-- a port's ten functions: each with what it holds -/
structure Fns where
  f1 : FuncId
  c1 : Array Value
  f2 : FuncId
  c2 : Array Value
  f3 : FuncId
  c3 : Array Value
  f4 : FuncId
  c4 : Array Value
  f5 : FuncId
  c5 : Array Value
  f6 : FuncId
  c6 : Array Value
  f7 : FuncId
  c7 : Array Value
  f8 : FuncId
  c8 : Array Value
  f9 : FuncId
  c9 : Array Value
  f10 : FuncId
  c10 : Array Value
abbrev portA (z : Int) (f : Fns) : Array Value := #[.int .i64 z, .func (.func f.f1) #[] f.c1, .func (.func f.f2) #[] f.c2, .func (.func f.f3) #[] f.c3, .func (.func f.f4) #[] f.c4, .func (.func f.f5) #[] f.c5, .func (.func f.f6) #[] f.c6, .func (.func f.f7) #[] f.c7, .func (.func f.f8) #[] f.c8, .func (.func f.f9) #[] f.c9, .func (.func f.f10) #[] f.c10]

/-- these functions are that port's, as long as there is room for what they add -/
structure PortOk {S : Type} (I : List Nat → S → World → Prop) (M : Prt S) (f : Fns) : Prop where
  inv : Inv I
  size : 0 ≤ M.size ∧ M.size ≤ 4611686018427387904
  load : ∀ s w m, 0 ≤ m → m < M.size → 200 ≤ M.fuel s → DoesV I s w f.f1 f.c1 #[.int .i64 m] (.int .u32 (M.load s m)) (M.loadS s m)
  loadU : ∀ F s w m, I F s w → U32 (M.load s m)
  loadF : ∀ s m, M.fuel s ≤ M.fuel (M.loadS s m) + 200
  room : ∀ s w, 200 ≤ M.fuel s → DoesV I s w f.f2 f.c2 #[] (.bool (M.room s)) s
  store : ∀ s w m v, 0 ≤ m → m < M.size → U32 v → M.room s = true → 200 ≤ M.fuel s → DoesV I s w f.f3 f.c3 #[.int .i64 m, .int .u32 v] (.tuple #[]) (M.store s m v)
  storeF : ∀ s m v, M.fuel s ≤ M.fuel (M.store s m v) + 200
  empty : ∀ s w, 200 ≤ M.fuel s → DoesV I s w f.f4 f.c4 #[] (.bool (M.empty s)) s
  flush : ∀ s w, 200 ≤ M.fuel s → DoesV I s w f.f5 f.c5 #[] (.tuple #[]) (M.flush s)
  swap : ∀ s w m v, 0 ≤ m → m < M.size → U32 v → 200 ≤ M.fuel s → DoesV I s w f.f6 f.c6 #[.int .i64 m, .int .u32 v] (.int .u32 (M.swap s m v)) (M.swapS s m v)
  swapF : ∀ s m v, M.fuel s ≤ M.fuel (M.swapS s m v) + 200
  sleep : ∀ s w m, 0 ≤ m → m < M.size → 200 ≤ M.fuel s → DoesV I s w f.f7 f.c7 #[.int .i64 m] (.tuple #[]) (M.sleep s m)
  wake : ∀ s w m v, 0 ≤ m → m < M.size → U32 v → 200 ≤ M.fuel s → DoesV I s w f.f8 f.c8 #[.int .i64 m, .int .u32 v] (.int .u32 (M.wake s m v)) (M.wakeS s m v)
  wakeU : ∀ F s w m v, I F s w → U32 (M.wake s m v)
  wakeF : ∀ s m v, M.fuel s ≤ M.fuel (M.wakeS s m v) + 200
  remote : ∀ s w, 200 ≤ M.fuel s → DoesV I s w f.f9 f.c9 #[] (.tuple #[]) (M.remote s)
  remoteF : ∀ s, M.fuel s ≤ M.fuel (M.remote s) + 200
  note : ∀ s w x, 200 ≤ M.fuel s → DoesV I s w f.f10 f.c10 #[.agg (evA x)] (.tuple #[]) (M.note s x)
  noteF : ∀ s x, M.fuel s ≤ M.fuel (M.note s x) + 200
end Go.Proofs.YthbenfnanhpcoaaGreatDoor
