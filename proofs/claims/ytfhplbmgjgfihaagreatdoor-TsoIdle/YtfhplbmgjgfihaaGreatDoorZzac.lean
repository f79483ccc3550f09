/-
  Threads, instructions and events, by plain numbers and as cells. No condition but what each law names.
-/
import Derived.Test.YtfhplbmgjgfihaaGreatDoorZzab
import Derived.WalkKit
import Derived.Below
import Derived.ProofKit
import Derived.OpenShut
import Derived.WalkSpells
import Derived.WalkLawsBesides
import Derived.MakeChecks
import Derived.LaidMore
import Derived.Deep.MidRow
import Derived.Laws.Rows
import Derived.Laws.Tables
namespace Go.Proofs.YtfhplbmgjgfihaaGreatDoor
open Go.ChangeShapes Go.WideShapes Go.ChangeAt Go.RowKit
set_option linter.unusedVariables false
/-- a thread: its place, its registers, its status -/
structure Th where
  pc : Int
  r : List Int
  st : Int
/-- an instruction -/
structure Ins where
  op : Int
  a : Int
  b : Int
  c : Int
  k : Int
/-- an event -/
structure Ev where
  kind : Int
  who : Int
  pc : Int
  addr : Int
  value : Int
  old : Int
  k : Int
  ok : Bool

def thL (t : Th) : List Value := .int .i64 t.pc :: (t.r.map (Value.int .u32) ++ [.int .i64 t.st])
def thC (t : Th) : Array Value := (thL t).toArray
abbrev insA (i : Ins) : Array Value := #[.int .i64 i.op, .int .i64 i.a, .int .i64 i.b, .int .i64 i.c, .int .u32 i.k]
def insL (i : Ins) : List Value := [.int .i64 i.op, .int .i64 i.a, .int .i64 i.b, .int .i64 i.c, .int .u32 i.k]
abbrev evA (x : Ev) : Array Value := #[.int .i64 x.kind, .int .i64 x.who, .int .i64 x.pc, .int .i64 x.addr, .int .u32 x.value, .int .u32 x.old, .int .u32 x.k, .bool x.ok]
def evL (x : Ev) : List Value := [.int .i64 x.kind, .int .i64 x.who, .int .i64 x.pc, .int .i64 x.addr, .int .u32 x.value, .int .u32 x.old, .int .u32 x.k, .bool x.ok]
def ins0 : Ins := ⟨0, 0, 0, 0, 0⟩

/-- eight registers, of a word each -/
structure ThOk (t : Th) : Prop where
  len : t.r.length = 8
  u32 : ∀ x ∈ t.r, U32 x
structure InsOk (i : Ins) : Prop where
  k0 : 0 ≤ i.k
  k1 : i.k < 4294967296

def Th.reg (t : Th) (k : Int) : Int := t.r.getD k.toNat 0
def Th.put (t : Th) (k v : Int) : Th := ⟨t.pc, t.r.set k.toNat v, t.st⟩
def Th.at (t : Th) (pc : Int) : Th := ⟨pc, t.r, t.st⟩
def Th.is (t : Th) (st : Int) : Th := ⟨t.pc, t.r, st⟩

theorem ThOk.reg {t : Th} (h : ThOk t) (k : Int) : U32 (t.reg k) := by
  unfold Th.reg
  rw [List.getD_eq_getElem?_getD]
  rcases Nat.lt_or_ge k.toNat t.r.length with q | q
  · rw [List.getElem?_eq_getElem q]
    exact h.u32 _ (List.getElem_mem q)
  · rw [List.getElem?_eq_none q]
    exact ⟨Int.le_refl _, by decide⟩
theorem ThOk.put {t : Th} (h : ThOk t) (k v : Int) (hv : U32 v) : ThOk (t.put k v) := by
  refine ⟨by simp [Th.put, h.len], fun x hx => ?_⟩
  rcases List.mem_or_eq_of_mem_set hx with q | q
  · exact h.u32 x q
  · rw [q]; exact hv
theorem ThOk.at {t : Th} (h : ThOk t) (pc : Int) : ThOk (t.at pc) := ⟨h.len, h.u32⟩
theorem ThOk.is {t : Th} (h : ThOk t) (st : Int) : ThOk (t.is st) := ⟨h.len, h.u32⟩

theorem thC_size {t : Th} (h : ThOk t) : (thC t).size = 10 := by simp [thC, thL, h.len]
theorem thC_pc (t : Th) : (thC t)[0]? = some (.int .i64 t.pc) := by simp [thC, thL]
theorem thC_st {t : Th} (h : ThOk t) : (thC t)[9]? = some (.int .i64 t.st) := by
  simp [thC, thL, h.len]
theorem thC_reg {t : Th} (h : ThOk t) (k : Nat) (hk : k < 8) : (thC t)[1 + k]? = some (.int .u32 (t.reg k)) := by
  rw [Nat.add_comm]
  have : k < t.r.length := by rw [h.len]; exact hk
  simp only [thC, thL, List.getElem?_toArray, List.getElem?_cons_succ, Th.reg, Int.toNat_natCast]
  rw [List.getElem?_append_left (by simpa using this)]
  simp [List.getD_eq_getElem?_getD, this]
theorem thC_at (t : Th) (n : Int) : (thC t).setIfInBounds 0 (.int .i64 n) = thC (t.at n) := by simp [thC, thL, Th.at]
theorem thC_is {t : Th} (h : ThOk t) (n : Int) : (thC t).setIfInBounds 9 (.int .i64 n) = thC (t.is n) := by
  simp [thC, thL, Th.is, h.len]
theorem thC_put {t : Th} (h : ThOk t) (k : Nat) (hk : k < 8) (v : Int) : (thC t).setIfInBounds (1 + k) (.int .u32 v) = thC (t.put k v) := by
  rw [Nat.add_comm]
  have : k < t.r.length := by rw [h.len]; exact hk
  simp only [thC, thL, Th.put, List.setIfInBounds_toArray, List.set_cons_succ, Int.toNat_natCast]
  rw [List.set_append_left _ _ (by simpa using this)]
  simp
theorem thC_one (t : Th) : (thC t).all (·.oneCell') = true := by
  refine all_oneCell_toArray fun v hv => ?_
  unfold thL at hv
  rcases List.mem_cons.1 hv with rfl | hv
  · rfl
  · rcases List.mem_append.1 hv with h | h
    · obtain ⟨x, _, rfl⟩ := List.mem_map.1 h; rfl
    · rw [List.mem_singleton.1 h]; rfl

theorem infoT : (Tryz.prog.info? 46).map (·.size) = some 10 := by kernel_rfl
theorem infoT_of {t : Th} (h : ThOk t) : (Tryz.prog.info? 46).map (·.size) = some (thC t).size := by rw [thC_size h]; exact infoT

/-- a thread is read whole -/
theorem load_th {ops : Array Oper} {rest : List Oper} {op : Oper} {a : Act} {w : World} {Q : Exit → Act → World → Prop} (hgd : op.guard = none) (x : Operand) (ho : op.op = .load 46 x)
    (g : Nat) (hx : a.eval x = .pointer (some ⟨g, 0, none⟩)) (t : Th) (hg : Has w g (thC t) 46) (hs : ThOk t)
    (h : wpList Tryz.prog ops Q rest (a.put op.dst (.agg (thC t))) w) : wpList Tryz.prog ops Q (op :: rest) a w :=
  wpList_load_row hgd 46 x ho g hx 46 (thC t) (0, 0) _ hg Tryz.underlying46 rfl (infoT_of hs) h
/-- a thread is written whole -/
theorem store_th {ops : Array Oper} {rest : List Oper} {op : Oper} {a : Act} {w : World} {Q : Exit → Act → World → Prop} (hgd : op.guard = none) (x y : Operand) (ho : op.op = .store 46 x y)
    (g : Nat) (hx : a.eval x = .pointer (some ⟨g, 0, none⟩)) (t : Th) (hy : a.eval y = .agg (thC t)) (u : Th) (hg : Has w g (thC u) 46) (hs : ThOk t) (hd : ThOk u)
    (h : wpList Tryz.prog ops Q rest (a.put op.dst undef) (w.setRow g (thC t))) : wpList Tryz.prog ops Q (op :: rest) a w :=
  wpList_store_row hgd 46 x y ho g (thC t) hx hy 46 (thC u) hg (infoT_of hs) (by rw [thC_size hs, thC_size hd]) (thC_one t) h
/-- what a state is in a world, whose blocks are these -/
structure Inv {S : Type} (I : List Nat → S → World → Prop) : Prop where
  stab : ∀ {F : List Nat} {s : S} {w w' : World} {G : List Nat}, I F s w → Kp G w w' → (∀ x ∈ G, x ∉ F ∧ x ≠ 0) → I F s w'
  bnd : ∀ {F : List Nat} {s : S} {w : World}, I F s w → ∀ x ∈ F, x < w.heap.size
  laid : ∀ {F : List Nat} {s : S} {w : World}, I F s w → Laid w

/-- behind a run from a world: the state; blocks that aren't the state's -/
def Pst {S : Type} (I : List Nat → S → World → Prop) (F0 : List Nat) (w0 : World) (L : List Nat) (s : S) (w : World) : Prop :=
  ∃ F, I F s w ∧ Kp F0 w0 w ∧ (∀ x ∈ F, (x ∈ F0 ∨ w0.heap.size ≤ x) ∧ x ∉ L) ∧ (∀ x ∈ L, x < w.heap.size) ∧ 0 < w0.heap.size
/-- these blocks are as they were -/
def Loc (L : List Nat) (w w' : World) : Prop := ∀ k ∈ L, w'.heap[k]? = w.heap[k]?
theorem Has.loc {w w' : World} {g : Nat} {C : Array Value} {t : TypeId} {L : List Nat} (h : Has w g C t) (k : Loc L w w') (hg : g ∈ L) : Has w' g C t := (k g hg).trans h

section
variable {S : Type} {I : List Nat → S → World → Prop}

theorem Pst.start (V : Inv I) {F : List Nat} {s : S} {w : World} (h : I F s w) : Pst I F w [] s w := ⟨F, h, Kp.refl _ _, fun x hx => ⟨.inl hx, by simp⟩, by simp, (V.laid h).lt⟩
theorem Pst.laid (V : Inv I) {F0 L : List Nat} {w0 w : World} {s : S} (p : Pst I F0 w0 L s w) : Laid w := by
  obtain ⟨F, h, _⟩ := p
  exact V.laid h
theorem Pst.gr (V : Inv I) {F0 L : List Nat} {w0 w w' : World} {s : S} (p : Pst I F0 w0 L s w) (g : Gr w w') : Pst I F0 w0 L s w' := by
  obtain ⟨F, h, k, n, l, z⟩ := p
  exact ⟨F, V.stab h (g.kp []) (by simp), k.trans (g.kp []) (fun _ h => h) (by simp), n, fun x hx => Nat.lt_of_lt_of_le (l x hx) g.size, z⟩
theorem Pst.alloc (V : Inv I) {F0 L : List Nat} {w0 w : World} {s : S} (p : Pst I F0 w0 L s w) (C : Array Value) (t : TypeId) : Pst I F0 w0 (w.heap.size :: L) s (w.alloc (.cells C t)) := by
  obtain ⟨F, h, k, n, l, z⟩ := p
  have g := (Gr.refl w).alloc C t
  refine ⟨F, V.stab h (g.kp []) (by simp), k.trans (g.kp []) (fun _ h => h) (by simp), fun x hx => ⟨(n x hx).1, fun q => ?_⟩, fun x hx => ?_, z⟩
  · rcases List.mem_cons.1 q with rfl | q
    · exact Nat.lt_irrefl _ (V.bnd h _ hx)
    · exact (n x hx).2 q
  · rcases List.mem_cons.1 hx with rfl | q
    · simp
    · have := l x q; simp; omega
theorem Pst.kept (V : Inv I) {F0 L G : List Nat} {w0 w w' : World} {s : S} (p : Pst I F0 w0 L s w) (k : Kp G w w') (hG : ∀ x ∈ G, x ∈ L ∧ w0.heap.size ≤ x) : Pst I F0 w0 L s w' := by
  obtain ⟨F, h, q, n, l, z⟩ := p
  exact ⟨F, V.stab h k (fun x hx => ⟨fun hf => (n x hf).2 (hG x hx).1, by have := (hG x hx).2; omega⟩), q.trans k (fun _ h => h) (fun x hx => .inr (hG x hx).2), n, fun x hx => Nat.lt_of_lt_of_le (l x hx) k.size, z⟩
theorem Pst.setCell (V : Inv I) {F0 L : List Nat} {w0 w : World} {s : S} (p : Pst I F0 w0 L s w) (g o : Nat) (v : Value) (hg : g ∈ L) (h0 : w0.heap.size ≤ g) : Pst I F0 w0 L s (w.setCell ⟨g, o, none⟩ v) :=
  p.kept V (Kp.setCell w g o v) (by simpa using ⟨hg, h0⟩)
theorem Pst.setRow (V : Inv I) {F0 L : List Nat} {w0 w : World} {s : S} (p : Pst I F0 w0 L s w) (g : Nat) (C : Array Value) (hg : g ∈ L) (h0 : w0.heap.size ≤ g) : Pst I F0 w0 L s (w.setRow g C) :=
  p.kept V (Kp.setRow w g C) (by simpa using ⟨hg, h0⟩)
theorem Pst.less {F0 L M : List Nat} {w0 w : World} {s : S} (p : Pst I F0 w0 L s w) (h : ∀ x ∈ M, x ∈ L) : Pst I F0 w0 M s w := by
  obtain ⟨F, i, k, n, l, z⟩ := p
  exact ⟨F, i, k, fun x hx => ⟨(n x hx).1, fun q => (n x hx).2 (h x q)⟩, fun x hx => l x (h x hx), z⟩
theorem Pst.end {F0 L : List Nat} {w0 w : World} {s : S} (p : Pst I F0 w0 L s w) : Pst I F0 w0 [] s w := p.less (by simp)

/-- a call that asks a port: what it answers, and what becomes of the state -/
def Does (I : List Nat → S → World → Prop) (s : S) (w : World) (G : FuncId) (args : Array Value) (v : Value) (s' : S) : Prop :=
  ∀ F, I F s w → Calls Tryz.prog G args w fun e w' => e = .returned v ∧ Pst I F w [] s' w'
theorem Does.go {s s' : S} {w : World} {G : FuncId} {args : Array Value} {v : Value} (d : Does I s w G args v s') {F0 L : List Nat} {w0 : World} (p : Pst I F0 w0 L s w) :
    Calls Tryz.prog G args w fun e w' => (e = .returned v ∧ Loc L w w') ∧ Pst I F0 w0 L s' w' := by
  obtain ⟨F, h, k, n, l, z⟩ := p
  refine (d F h).mono ?_
  rintro e w' ⟨rfl, F', h', k', n', _, _⟩
  refine ⟨⟨rfl, fun x hx => k'.block x (l x hx) fun q => (n x q).2 hx⟩, F', h', k.trans k' (fun _ h => h) fun x hx => (n x hx).1, fun x hx => ?_, fun x hx => Nat.lt_of_lt_of_le (l x hx) k'.size, z⟩
  rcases (n' x hx).1 with q | q
  · exact n x q
  · exact ⟨.inr (Nat.le_trans k.size q), fun hl => by have := l x hl; omega⟩
/-- a function value of the program's own that is called so -/
structure DoesV (I : List Nat → S → World → Prop) (s : S) (w : World) (G : FuncId) (caps args : Array Value) (v : Value) (s' : S) : Prop where
  run : ∀ args w, (callFunc G args).run Tryz.prog w = .ok (.enter G args) w
  does : Does I s w G (args ++ caps) v s'
end

/-- what a port makes of a state -/
structure Prt (S : Type) where
  size : Int
  /-- how much may be added yet -/
  fuel : S → Nat
  load : S → Int → Int
  loadS : S → Int → S
  room : S → Bool
  store : S → Int → Int → S
  empty : S → Bool
  flush : S → S
  swap : S → Int → Int → Int
  swapS : S → Int → Int → S
  sleep : S → Int → S
  wake : S → Int → Int → Int
  wakeS : S → Int → Int → S
  remote : S → S
  note : S → Ev → S

/-- a port's ten functions: each with what it holds -/
structure Fns where
  f1 : FuncId
  c1 : Array Value
  f2 : FuncId
  c2 : Array Value
  f3 : FuncId
  c3 : Array Value
  f4 : FuncId
  c4 : Array Value
  f5 : FuncId
  c5 : Array Value
  f6 : FuncId
  c6 : Array Value
  f7 : FuncId
  c7 : Array Value
  f8 : FuncId
  c8 : Array Value
  f9 : FuncId
  c9 : Array Value
  f10 : FuncId
  c10 : Array Value
abbrev portA (z : Int) (f : Fns) : Array Value := #[.int .i64 z, .func (.func f.f1) #[] f.c1, .func (.func f.f2) #[] f.c2, .func (.func f.f3) #[] f.c3, .func (.func f.f4) #[] f.c4, .func (.func f.f5) #[] f.c5, .func (.func f.f6) #[] f.c6, .func (.func f.f7) #[] f.c7, .func (.func f.f8) #[] f.c8, .func (.func f.f9) #[] f.c9, .func (.func f.f10) #[] f.c10]

/-- these functions are that port's, as long as there is room for what they add -/
structure PortOk {S : Type} (I : List Nat → S → World → Prop) (M : Prt S) (f : Fns) : Prop where
  inv : Inv I
  size : 0 ≤ M.size ∧ M.size ≤ 4611686018427387904
  load : ∀ s w m, 0 ≤ m → m < M.size → 200 ≤ M.fuel s → DoesV I s w f.f1 f.c1 #[.int .i64 m] (.int .u32 (M.load s m)) (M.loadS s m)
  loadU : ∀ F s w m, I F s w → U32 (M.load s m)
  loadF : ∀ s m, M.fuel s ≤ M.fuel (M.loadS s m) + 200
  room : ∀ s w, 200 ≤ M.fuel s → DoesV I s w f.f2 f.c2 #[] (.bool (M.room s)) s
  store : ∀ s w m v, 0 ≤ m → m < M.size → U32 v → M.room s = true → 200 ≤ M.fuel s → DoesV I s w f.f3 f.c3 #[.int .i64 m, .int .u32 v] (.tuple #[]) (M.store s m v)
  storeF : ∀ s m v, M.fuel s ≤ M.fuel (M.store s m v) + 200
  empty : ∀ s w, 200 ≤ M.fuel s → DoesV I s w f.f4 f.c4 #[] (.bool (M.empty s)) s
  flush : ∀ s w, 200 ≤ M.fuel s → DoesV I s w f.f5 f.c5 #[] (.tuple #[]) (M.flush s)
  swap : ∀ s w m v, 0 ≤ m → m < M.size → U32 v → 200 ≤ M.fuel s → DoesV I s w f.f6 f.c6 #[.int .i64 m, .int .u32 v] (.int .u32 (M.swap s m v)) (M.swapS s m v)
  swapF : ∀ s m v, M.fuel s ≤ M.fuel (M.swapS s m v) + 200
  sleep : ∀ s w m, 0 ≤ m → m < M.size → 200 ≤ M.fuel s → DoesV I s w f.f7 f.c7 #[.int .i64 m] (.tuple #[]) (M.sleep s m)
  wake : ∀ s w m v, 0 ≤ m → m < M.size → U32 v → 200 ≤ M.fuel s → DoesV I s w f.f8 f.c8 #[.int .i64 m, .int .u32 v] (.int .u32 (M.wake s m v)) (M.wakeS s m v)
  wakeU : ∀ F s w m v, I F s w → U32 (M.wake s m v)
  wakeF : ∀ s m v, M.fuel s ≤ M.fuel (M.wakeS s m v) + 200
  remote : ∀ s w, 200 ≤ M.fuel s → DoesV I s w f.f9 f.c9 #[] (.tuple #[]) (M.remote s)
  remoteF : ∀ s, M.fuel s ≤ M.fuel (M.remote s) + 200
  note : ∀ s w x, 200 ≤ M.fuel s → DoesV I s w f.f10 f.c10 #[.agg (evA x)] (.tuple #[]) (M.note s x)
  noteF : ∀ s x, M.fuel s ≤ M.fuel (M.note s x) + 200
end Go.Proofs.YtfhplbmgjgfihaaGreatDoor
namespace Go.Proofs.YtfhplbmgjgfihaaGreatDoor
set_option linter.unusedVariables false
/-- the address of an instruction -/
def addrM (t : Th) (i : Ins) : Int := if regB i.b then IntKind.u32.wrap (i.k + t.reg i.b) else i.k
def evt (kind pc : Int) : Ev := ⟨kind, 0, pc, 0, 0, 0, 0, false⟩
def nextM (t : Th) (i : Ins) : Int := if (i.op == 14 && t.reg i.a != 0) || (i.op == 15 && t.reg i.a == 0) then t.pc + 1 else i.k
def insteadM (t : Th) (i : Ins) (old : Int) : Int × Bool :=
  if i.op = 20 then (IntKind.u32.wrap (old + t.reg i.a), true)
  else if i.op = 21 then (if old == t.reg i.a then (t.reg i.c, true) else (old, false))
  else (t.reg i.a, true)
/-- is it an operation of two words? -/
def aluB (op : Int) : Bool := decide (3 ≤ op) && decide (op ≤ 12)

section
variable {S : Type} (M : Prt S)
def inMemM (t : Th) (i : Ins) : Bool := decide (addrM t i < M.size)
def heldM (i : Ins) (s : S) : Bool := if drainB i.op then !M.empty s else i.op == 17 && !M.room s
def endM (t : Th) (s : S) (st ev : Int) : Th × S := (t.is st, M.note s (evt ev t.pc))
def loadedM (t : Th) (i : Ins) (s : S) (m : Int) : Th × S := (t.put i.a (M.load s m), M.note (M.loadS s m) ⟨1, 0, t.pc, m, M.load s m, 0, 0, false⟩)
def storedM (t : Th) (i : Ins) (s : S) (m : Int) : Th × S := (t, M.note (M.store s m (t.reg i.a)) ⟨2, 0, t.pc, m, t.reg i.a, 0, 0, false⟩)
def swapM (t : Th) (i : Ins) (s : S) (m : Int) : S :=
  if (insteadM t i (M.load s m)).2 then M.swapS (M.loadS s m) m (insteadM t i (M.load s m)).1 else M.loadS s m
def swappedM (t : Th) (i : Ins) (s : S) (m : Int) : Th × S :=
  (t.put i.a (M.load s m), M.note (swapM M t i s m) ⟨4, 0, t.pc, m, (insteadM t i (M.load s m)).1, M.load s m, 0, (insteadM t i (M.load s m)).2⟩)
def waitedM (t : Th) (i : Ins) (s : S) (m : Int) : Th × S :=
  if M.load s m == t.reg i.a then ((t.put i.a 0).is 1, M.sleep (M.note (M.loadS s m) ⟨8, 0, t.pc, m, M.load s m, 0, 0, true⟩) m)
  else (t.put i.a 1, M.note (M.loadS s m) ⟨8, 0, t.pc, m, M.load s m, 0, 0, false⟩)
def wokeM (t : Th) (i : Ins) (s : S) (m : Int) : Th × S :=
  (t.put i.a (M.wake s m (t.reg i.a)), M.note (M.wakeS s m (t.reg i.a)) ⟨9, 0, t.pc, m, M.wake s m (t.reg i.a), 0, 0, false⟩)
def askedM (t : Th) (i : Ins) (s : S) : Th × S :=
  if i.op = 16 then loadedM M t i s (addrM t i) else if i.op = 17 then storedM M t i s (addrM t i) else if i.op = 23 then waitedM M t i s (addrM t i)
  else if i.op = 24 then wokeM M t i s (addrM t i) else swappedM M t i s (addrM t i)
def aloneM (t : Th) (i : Ins) (s : S) : Th × S :=
  if i.op = 1 then (t.put i.a i.k, s) else if i.op = 2 then (t.put i.a (t.reg i.b), s)
  else if i.op = 18 then (t, M.note s (evt 5 t.pc)) else if i.op = 22 then (t, M.note s ⟨6, 0, t.pc, 0, t.reg i.a, 0, 0, false⟩)
  else if i.op = 25 then (t, M.note (M.remote s) (evt 10 t.pc)) else if i.op = 27 then (t, M.note s ⟨7, 0, t.pc, 0, t.reg i.a, 0, i.k, false⟩)
  else (t, s)
def onM (q : Th × S) : Th × S := (q.1.at (q.1.pc + 1), q.2)
def doneM (t : Th) (i : Ins) (s : S) : Th × S :=
  if i.op == 0 then endM M t s 2 12 else if jumpB i.op then (t.at (nextM t i), s)
  else onM (if askB i.op then askedM M t i s else if aluB i.op then (t.put i.a (doI i.op (t.reg i.b) (t.reg i.c)), s) else aloneM M t i s)
/-- the step of a thread at an instruction, in a code of so many -/
def atM (t : Th) (i : Ins) (n : Int) (s : S) : Th × S :=
  if !rightB i.op i.a i.b i.c i.k n || (askB i.op && !inMemM M t i) then endM M t s 3 13
  else if heldM M i s then (t, M.flush s) else doneM M t i s
/-- the step of a thread -/
def stepM (t : Th) (code : List Ins) (s : S) : Th × S :=
  if t.st != 0 then (t, s) else if decide (t.pc < 0) || decide ((code.length : Int) ≤ t.pc) then endM M t s 2 12
  else atM M t (code.getD t.pc.toNat ins0) code.length s
end
end Go.Proofs.YtfhplbmgjgfihaaGreatDoor
namespace Go.Proofs.YtfhplbmgjgfihaaGreatDoor
open Go.ChangeShapes Go.WideShapes Go.ChangeAt Go.RowKit
set_option linter.unusedVariables false
/-- two numbers: an entry (address, value), or a sleeper (thread, address) -/
structure Ent where
  a : Int
  v : Int
def ent0 : Ent := ⟨0, 0⟩
def entL (x : Ent) : List Value := [.int .i64 x.a, .int .u32 x.v]
def slpL (x : Ent) : List Value := [.int .i64 x.a, .int .i64 x.v]
def wordL (x : Int) : List Value := [.int .u32 x]
theorem entL_len (x : Ent) : (entL x).length = 2 := rfl
theorem slpL_len (x : Ent) : (slpL x).length = 2 := rfl
theorem wordL_len (x : Int) : (wordL x).length = 1 := rfl
theorem evL_len (x : Ev) : (evL x).length = 8 := rfl
theorem insL_len (x : Ins) : (insL x).length = 5 := rfl
theorem entL_one (x : Ent) : ∀ u ∈ entL x, u.oneCell' = true := by intro u hu; simp [entL] at hu; rcases hu with rfl | rfl <;> rfl
theorem slpL_one (x : Ent) : ∀ u ∈ slpL x, u.oneCell' = true := by intro u hu; simp [slpL] at hu; rcases hu with rfl | rfl <;> rfl
theorem wordL_one (x : Int) : ∀ u ∈ wordL x, u.oneCell' = true := by intro u hu; simp [wordL] at hu; subst hu; rfl
theorem evL_one (x : Ev) : ∀ u ∈ evL x, u.oneCell' = true := by intro u hu; simp [evL] at hu; rcases hu with rfl | rfl | rfl | rfl | rfl | rfl | rfl | rfl <;> rfl
theorem insL_one (x : Ins) : ∀ u ∈ insL x, u.oneCell' = true := by intro u hu; simp [insL] at hu; rcases hu with rfl | rfl | rfl | rfl | rfl <;> rfl

abbrev WordsO (w : World) (base : Nat) (v : Value) (l : List Int) : Prop := w.ownsRow base 43 1 v l.length (flatOf wordL l)
abbrev EvsO (w : World) (base : Nat) (v : Value) (l : List Ev) : Prop := w.ownsRow base 79 8 v l.length (flatOf evL l)
abbrev InssO (w : World) (base : Nat) (v : Value) (l : List Ins) : Prop := w.ownsRow base 53 5 v l.length (flatOf insL l)

/-- records are appended -/
theorem app_recs {α : Type} {f : α → List Value} {sz : Nat} (hf : ∀ x, (f x).length = sz) (h1 : ∀ x, ∀ u ∈ f x, u.oneCell' = true)
    {T t ty : TypeId} {zero : Value} {bytes : Nat} (hT : Tryz.prog.underlying T = some (.slice t)) (info : (Tryz.prog.info? t).map (fun i => (i.zero, i.size, i.bytes)) = some (some zero, sz, bytes)) (hz : zero.cells.size = sz) (hsz : 0 < sz) (hby : bytes ≤ 1000)
    {w : World} {base : Nat} {v : Value} {l : List α} (hown : w.ownsRow base t sz v l.length (flatOf f l)) (ad : Option Addr) (c : Nat) (m : List α) (hm : RowAt w ad (flatOf f m)) (hc : ad = none → c = 0 ∧ m = [])
    (hn : l.length + m.length ≤ 100000) (hb : base ≤ w.heap.size) :
    ∃ v' w', (Builtin.append_ #[T, T] ty #[v, .slice ad m.length c]).run Tryz.prog w = .ok v' w' ∧ w'.ownsRow base t sz v' (l ++ m).length (flatOf f (l ++ m)) ∧ w.grownBy w' v.ownBlock ∧ (v'.ownBlock = v.ownBlock ∨ v'.ownBlock = some w.heap.size) := by
  obtain ⟨v', w', h1, h2, h3, h4⟩ := app_row (ty := ty) hT info hz hsz hby hown ad c m.length (flatOf f m) hm (fun h => ⟨(hc h).1, by rw [(hc h).2]; rfl⟩) (flatOf_length hf m) (flatOf_one h1 m) hn hb
  rw [← flatOf_append, ← List.length_append] at h2
  exact ⟨v', w', h1, h2, h3, h4⟩
/-- one record is appended -/
theorem app_rec {α : Type} {f : α → List Value} {sz : Nat} (hf : ∀ x, (f x).length = sz) (h1 : ∀ x, ∀ u ∈ f x, u.oneCell' = true)
    {T t ty : TypeId} {zero : Value} {bytes : Nat} (hT : Tryz.prog.underlying T = some (.slice t)) (info : (Tryz.prog.info? t).map (fun i => (i.zero, i.size, i.bytes)) = some (some zero, sz, bytes)) (hz : zero.cells.size = sz) (hsz : 0 < sz) (hby : bytes ≤ 1000)
    {w : World} {base : Nat} {v : Value} {l : List α} (hown : w.ownsRow base t sz v l.length (flatOf f l)) (x : α) (C : Array Value) (hC : C = (f x).toArray) (hn : l.length ≤ 99999) (hb : base ≤ w.heap.size) :
    ∃ v' w', (Builtin.append_ #[T, T] ty #[v, .slice (some ⟨w.heap.size, 0, none⟩) 1 1]).run Tryz.prog (w.alloc (.cells C t)) = .ok v' w' ∧ w'.ownsRow base t sz v' (l ++ [x]).length (flatOf f (l ++ [x])) ∧ (w.alloc (.cells C t)).grownBy w' v.ownBlock ∧ (v'.ownBlock = v.ownBlock ∨ v'.ownBlock = some (w.heap.size + 1)) := by
  subst hC
  have hx : Has (w.alloc (.cells (f x).toArray t)) w.heap.size (f x).toArray t := Has.new w _ _
  have hr := hx.rowAt
  have e : f x = flatOf f [x] := by simp [flatOf]
  rw [e] at hr
  obtain ⟨v', w', q1, q2, q3, q4⟩ := app_recs (ty := ty) hf h1 hT info hz hsz hby (own_later hown ((Gr.refl w).alloc (f x).toArray t)) (some ⟨w.heap.size, 0, none⟩) 1 [x] (by rw [e]; exact hr) (by simp) (by simp; omega) (by simp; omega)
  have e2 : (w.alloc (.cells (f x).toArray t)).heap.size = w.heap.size + 1 := by simp
  rw [e2] at q4
  exact ⟨v', w', q1, q2, q3, q4⟩

theorem infoEnt : (Tryz.prog.info? 77).map (fun i => (i.zero, i.size, i.bytes)) = some (some (.agg #[.int .i64 0, .int .u32 0]), 2, 16) := by kernel_rfl
theorem infoSlp : (Tryz.prog.info? 80).map (fun i => (i.zero, i.size, i.bytes)) = some (some (.agg #[.int .i64 0, .int .i64 0]), 2, 16) := by kernel_rfl
theorem infoWrd : (Tryz.prog.info? 43).map (fun i => (i.zero, i.size, i.bytes)) = some (some (.int .u32 0), 1, 4) := by kernel_rfl
theorem infoEv : (Tryz.prog.info? 79).map (fun i => (i.zero, i.size, i.bytes)) = some (some (.agg #[.int .i64 0, .int .i64 0, .int .i64 0, .int .i64 0, .int .u32 0, .int .u32 0, .int .u32 0, .bool false]), 8, 48) := by kernel_rfl
theorem infoIns : (Tryz.prog.info? 53).map (fun i => (i.zero, i.size, i.bytes)) = some (some (.agg #[.int .i64 0, .int .i64 0, .int .i64 0, .int .i64 0, .int .u32 0]), 5, 40) := by kernel_rfl
end Go.Proofs.YtfhplbmgjgfihaaGreatDoor
namespace Go.Proofs.YtfhplbmgjgfihaaGreatDoor.Bf
open Go.ChangeShapes Go.WideShapes Go.ChangeAt Go.RowKit
set_option linter.unusedVariables false
set_option maxRecDepth 20000
def entC (x : Ent) : List Value := [.int .i64 x.a, .int .u32 x.v]
def entV (x : Ent) : Value := .agg #[.int .i64 x.a, .int .u32 x.v]
def flat (r : List Ent) : List Value := r.flatMap entC
def bufL (r : List Ent) (room first count : Int) : List Value := flat r ++ [.int .i64 room, .int .i64 first, .int .i64 count]
def bufC (r : List Ent) (room first count : Int) : Array Value := (bufL r room first count).toArray

theorem flat_cons (x : Ent) (r : List Ent) : flat (x :: r) = .int .i64 x.a :: .int .u32 x.v :: flat r := rfl
theorem flat_append (r s : List Ent) : flat (r ++ s) = flat r ++ flat s := by simp [flat]
theorem flat_length : ∀ r : List Ent, (flat r).length = r.length * 2
  | [] => rfl
  | x :: r => by rw [flat_cons]; simp [flat_length r]; omega
theorem flat_a : ∀ (r : List Ent) (i : Nat), (flat r)[i * 2]? = r[i]?.map fun x => Value.int .i64 x.a
  | [], i => by simp [flat]
  | x :: r, 0 => rfl
  | x :: r, i + 1 => by
    rw [flat_cons, show (i + 1) * 2 = i * 2 + 1 + 1 from by omega, List.getElem?_cons_succ, List.getElem?_cons_succ, List.getElem?_cons_succ, flat_a r i]
theorem flat_v : ∀ (r : List Ent) (i : Nat), (flat r)[i * 2 + 1]? = r[i]?.map fun x => Value.int .u32 x.v
  | [], i => by simp [flat]
  | x :: r, 0 => rfl
  | x :: r, i + 1 => by
    rw [flat_cons, show (i + 1) * 2 + 1 = i * 2 + 1 + 1 + 1 from by omega, List.getElem?_cons_succ, List.getElem?_cons_succ, List.getElem?_cons_succ, flat_v r i]
theorem flat_set : ∀ (r : List Ent) (i : Nat) (x : Ent), flat (r.set i x) = ((flat r).set (i * 2) (.int .i64 x.a)).set (i * 2 + 1) (.int .u32 x.v)
  | [], i, x => by simp [flat]
  | y :: r, 0, x => by simp [flat_cons]
  | y :: r, i + 1, x => by
    rw [List.set_cons_succ, flat_cons, flat_cons, flat_set r i x, show (i + 1) * 2 + 1 = i * 2 + 1 + 1 + 1 from by omega, show (i + 1) * 2 = i * 2 + 1 + 1 from by omega]
    simp

theorem bufC_size {r : List Ent} (h : r.length = 16) (room first count : Int) : (bufC r room first count).size = 35 := by
  simp [bufC, bufL, flat_length, h]
theorem bufC_room {r : List Ent} (h : r.length = 16) (room first count : Int) : (bufC r room first count)[32]? = some (.int .i64 room) := by
  simp [bufC, bufL, flat_length, h]
theorem bufC_first {r : List Ent} (h : r.length = 16) (room first count : Int) : (bufC r room first count)[33]? = some (.int .i64 first) := by
  simp [bufC, bufL, flat_length, h]
theorem bufC_count {r : List Ent} (h : r.length = 16) (room first count : Int) : (bufC r room first count)[34]? = some (.int .i64 count) := by
  simp [bufC, bufL, flat_length, h]
theorem bufC_a {r : List Ent} (h : r.length = 16) (room first count : Int) (i : Nat) (hi : i < 16) : (bufC r room first count)[i * 2]? = some (.int .i64 (r.getD i ent0).a) := by
  have e : (flat r)[i * 2]? = some (.int .i64 (r.getD i ent0).a) := by
    rw [flat_a, List.getD_eq_getElem?_getD, List.getElem?_eq_getElem (by omega)]; rfl
  simp only [bufC, bufL, List.getElem?_toArray]
  rw [List.getElem?_append_left (by rw [flat_length]; omega), e]
theorem bufC_v {r : List Ent} (h : r.length = 16) (room first count : Int) (i : Nat) (hi : i < 16) : (bufC r room first count)[i * 2 + 1]? = some (.int .u32 (r.getD i ent0).v) := by
  have e : (flat r)[i * 2 + 1]? = some (.int .u32 (r.getD i ent0).v) := by
    rw [flat_v, List.getD_eq_getElem?_getD, List.getElem?_eq_getElem (by omega)]; rfl
  simp only [bufC, bufL, List.getElem?_toArray]
  rw [List.getElem?_append_left (by rw [flat_length]; omega), e]
theorem bufC_set {r : List Ent} (h : r.length = 16) (room first count : Int) (i : Nat) (hi : i < 16) (x : Ent) :
    ((bufC r room first count).setIfInBounds (i * 2) (.int .i64 x.a)).setIfInBounds (i * 2 + 1) (.int .u32 x.v) = bufC (r.set i x) room first count := by
  simp only [bufC, bufL, List.setIfInBounds_toArray, flat_set]
  rw [List.set_append_left _ _ (by rw [flat_length]; omega), List.set_append_left _ _ (by rw [List.length_set, flat_length]; omega)]
theorem bufC_set_first {r : List Ent} (h : r.length = 16) (room first count n : Int) : (bufC r room first count).setIfInBounds 33 (.int .i64 n) = bufC r room n count := by
  simp [bufC, bufL, flat_length, h]
theorem bufC_set_count {r : List Ent} (h : r.length = 16) (room first count n : Int) : (bufC r room first count).setIfInBounds 34 (.int .i64 n) = bufC r room first n := by
  simp [bufC, bufL, flat_length, h]
theorem flat_one (r : List Ent) : ∀ v ∈ flat r, v.oneCell' = true := by
  intro v hv
  unfold flat at hv
  obtain ⟨x, _, hx⟩ := List.mem_flatMap.1 hv
  simp only [entC, List.mem_cons, List.not_mem_nil, or_false] at hx
  rcases hx with rfl | rfl <;> rfl
theorem bufC_one (r : List Ent) (room first count : Int) : (bufC r room first count).all (·.oneCell') = true := by
  refine all_oneCell_toArray fun v hv => ?_
  unfold bufL at hv
  rcases List.mem_append.1 hv with h | h
  · exact flat_one r v h
  · simp only [List.mem_cons, List.not_mem_nil, or_false] at h
    rcases h with rfl | rfl | rfl <;> rfl

/-- the entry of an age in a ring -/
def ringAt (r : List Ent) (first i : Nat) : Ent := r.getD ((first + i) % 16) ent0

/-- these cells are a buffer of a room whose entries are l, the oldest first: its ring and its first place -/
structure Is (C : Array Value) (room : Nat) (l : List Ent) (r : List Ent) (first : Nat) : Prop where
  ring : r.length = 16
  fst : first < 16
  len : l.length ≤ room
  most : room ≤ 16
  cells : C = bufC r room first l.length
  at_ : ∀ i, i < l.length → l.getD i ent0 = ringAt r first i

def IsB (C : Array Value) (room : Nat) (l : List Ent) : Prop := ∃ r first, Is C room l r first

theorem is_new (room : Nat) (h : room ≤ 16) : IsB (bufC (List.replicate 16 ent0) room 0 0) room [] :=
  ⟨List.replicate 16 ent0, 0, by simp, by omega, by simp, h, rfl, fun i hi => by simp at hi⟩

theorem getD_set (r : List Ent) (p i : Nat) (x : Ent) (h : p < r.length) : (r.set p x).getD i ent0 = if i = p then x else r.getD i ent0 := by
  simp only [List.getD_eq_getElem?_getD, List.getElem?_set]
  by_cases e : p = i
  · subst e; simp [h]
  · have e' : ¬ i = p := fun q => e q.symm
    simp [e, e']

theorem is_put {C : Array Value} {room : Nat} {l r : List Ent} {first : Nat} (h : Is C room l r first) (hl : l.length < room) (x : Ent) :
    Is (bufC (r.set ((first + l.length) % 16) x) room first (l.length + 1)) room (l ++ [x]) (r.set ((first + l.length) % 16) x) first := by
  have h1 := h.ring
  have h2 := h.fst
  have h3 := h.most
  refine ⟨by simp [h1], h2, by simp; omega, h3, by simp, fun i hi => ?_⟩
  simp only [List.length_append, List.length_cons, List.length_nil] at hi
  unfold ringAt
  rw [getD_set _ _ _ _ (by omega)]
  by_cases e : i = l.length
  · subst e; simp
  · rw [if_neg (by omega)]
    have := h.at_ i (by omega)
    unfold ringAt at this
    rw [← this, List.getD_eq_getElem?_getD, List.getD_eq_getElem?_getD, List.getElem?_append_left (by omega)]

theorem is_pop {C : Array Value} {room : Nat} {x : Ent} {l r : List Ent} {first : Nat} (h : Is C room (x :: l) r first) :
    r.getD first ent0 = x ∧ Is (bufC (r.set first ent0) room ((first + 1) % 16 : Nat) l.length) room l (r.set first ent0) ((first + 1) % 16) := by
  have h1 := h.ring
  have h2 := h.fst
  have h3 := h.most
  have h4 := h.len
  simp only [List.length_cons] at h4
  have h0 := h.at_ 0 (by simp)
  unfold ringAt at h0
  rw [Nat.add_zero, Nat.mod_eq_of_lt h2] at h0
  refine ⟨by rw [← h0]; simp, by simp [h1], by omega, by omega, h3, rfl, fun i hi => ?_⟩
  have hi' := h.at_ (i + 1) (by simp; omega)
  unfold ringAt at *
  rw [getD_set _ _ _ _ (by omega), if_neg (by omega)]
  have e : ((first + 1) % 16 + i) % 16 = (first + (i + 1)) % 16 := by omega
  rw [e, ← hi']
  simp
set_option maxHeartbeats 400000 in
theorem len_calls {C : Array Value} {room : Nat} {l : List Ent} (h : IsB C room l) (w : World) :
    Calls Tryz.prog 74 #[.agg C] w fun e w' => e = .returned (.int .i64 l.length) ∧ Gr w w' := by
  obtain ⟨r, first, hi⟩ := h
  have hc : C[34]? = some (.int .i64 l.length) := by rw [hi.cells]; exact bufC_count hi.ring _ _ _
  clear hi
  go_enter Tryz.func74, Tryz.ntmps74
  go_wp2
  go_ret
  exact ⟨rfl, (Gr.refl _).alloc _ _⟩

/-- as many as the room? -/
def fullB (l : List Ent) (room : Nat) : Bool := ((l.length : Int) == (room : Int))

set_option maxHeartbeats 400000 in
theorem full_calls {C : Array Value} {room : Nat} {l : List Ent} (h : IsB C room l) (w : World) :
    Calls Tryz.prog 72 #[.agg C] w fun e w' => e = .returned (.bool (fullB l room)) ∧ Gr w w' := by
  obtain ⟨r, first, hi⟩ := h
  have hc : C[34]? = some (.int .i64 l.length) := by rw [hi.cells]; exact bufC_count hi.ring _ _ _
  have hr : C[32]? = some (.int .i64 room) := by rw [hi.cells]; exact bufC_room hi.ring _ _ _
  clear hi
  go_enter Tryz.func72, Tryz.ntmps72
  go_wp2
  go_ret
  exact ⟨rfl, (Gr.refl _).alloc _ _⟩

set_option maxHeartbeats 400000 in
theorem place_calls {C : Array Value} {first : Nat} (hc : C[33]? = some (.int .i64 first)) (hf : first < 16) (n : Nat) (hn : n ≤ 16) (w : World) :
    Calls Tryz.prog 65 #[.agg C, .int .i64 n] w fun e w' => e = .returned (.int .i64 ((first + n) % 16 : Nat)) ∧ Gr w w' := by
  go_enter Tryz.func65, Tryz.ntmps65
  go_wp2
  go_ret
  exact ⟨ret_int (by omega), (Gr.refl _).alloc _ _⟩
end Go.Proofs.YtfhplbmgjgfihaaGreatDoor.Bf
