/-
  A thread's step, by plain numbers, over any port. No program, no condition.
-/
import Derived.Test.YthbenfnanhpcoaaDoorZzaf
namespace Go.Proofs.YthbenfnanhpcoaaDoor
set_option linter.unusedVariables false

/-- the address of an instruction -/
def addrM (t : Th) (i : Ins) : Int := if regB i.b then IntKind.u32.wrap (i.k + t.reg i.b) else i.k
def evt (kind pc : Int) : Ev := ⟨kind, 0, pc, 0, 0, 0, 0, false⟩
def nextM (t : Th) (i : Ins) : Int := if (i.op == 14 && t.reg i.a != 0) || (i.op == 15 && t.reg i.a == 0) then t.pc + 1 else i.k
def insteadM (t : Th) (i : Ins) (old : Int) : Int × Bool :=
  if i.op = 20 then (IntKind.u32.wrap (old + t.reg i.a), true)
  else if i.op = 21 then (if old == t.reg i.a then (t.reg i.c, true) else (old, false))
  else (t.reg i.a, true)
/-- is it an operation of two words? -/
def aluB (op : Int) : Bool := decide (3 ≤ op) && decide (op ≤ 12)

section
variable {S : Type} (M : Prt S)
def inMemM (t : Th) (i : Ins) : Bool := decide (addrM t i < M.size)
def heldM (i : Ins) (s : S) : Bool := if drainB i.op then !M.empty s else i.op == 17 && !M.room s
def endM (t : Th) (s : S) (st ev : Int) : Th × S := (t.is st, M.note s (evt ev t.pc))
def loadedM (t : Th) (i : Ins) (s : S) (m : Int) : Th × S := (t.put i.a (M.load s m), M.note (M.loadS s m) ⟨1, 0, t.pc, m, M.load s m, 0, 0, false⟩)
def storedM (t : Th) (i : Ins) (s : S) (m : Int) : Th × S := (t, M.note (M.store s m (t.reg i.a)) ⟨2, 0, t.pc, m, t.reg i.a, 0, 0, false⟩)
def swapM (t : Th) (i : Ins) (s : S) (m : Int) : S :=
  if (insteadM t i (M.load s m)).2 then M.swapS (M.loadS s m) m (insteadM t i (M.load s m)).1 else M.loadS s m
def swappedM (t : Th) (i : Ins) (s : S) (m : Int) : Th × S :=
  (t.put i.a (M.load s m), M.note (swapM M t i s m) ⟨4, 0, t.pc, m, (insteadM t i (M.load s m)).1, M.load s m, 0, (insteadM t i (M.load s m)).2⟩)
def waitedM (t : Th) (i : Ins) (s : S) (m : Int) : Th × S :=
  if M.load s m == t.reg i.a then ((t.put i.a 0).is 1, M.sleep (M.note (M.loadS s m) ⟨8, 0, t.pc, m, M.load s m, 0, 0, true⟩) m)
  else (t.put i.a 1, M.note (M.loadS s m) ⟨8, 0, t.pc, m, M.load s m, 0, 0, false⟩)
def wokeM (t : Th) (i : Ins) (s : S) (m : Int) : Th × S :=
  (t.put i.a (M.wake s m (t.reg i.a)), M.note (M.wakeS s m (t.reg i.a)) ⟨9, 0, t.pc, m, M.wake s m (t.reg i.a), 0, 0, false⟩)
def askedM (t : Th) (i : Ins) (s : S) : Th × S :=
  if i.op = 16 then loadedM M t i s (addrM t i) else if i.op = 17 then storedM M t i s (addrM t i) else if i.op = 23 then waitedM M t i s (addrM t i)
  else if i.op = 24 then wokeM M t i s (addrM t i) else swappedM M t i s (addrM t i)
def aloneM (t : Th) (i : Ins) (s : S) : Th × S :=
  if i.op = 1 then (t.put i.a i.k, s) else if i.op = 2 then (t.put i.a (t.reg i.b), s)
  else if i.op = 18 then (t, M.note s (evt 5 t.pc)) else if i.op = 22 then (t, M.note s ⟨6, 0, t.pc, 0, t.reg i.a, 0, 0, false⟩)
  else if i.op = 25 then (t, M.note (M.remote s) (evt 10 t.pc)) else if i.op = 27 then (t, M.note s ⟨7, 0, t.pc, 0, t.reg i.a, 0, i.k, false⟩)
  else (t, s)
def onM (q : Th × S) : Th × S := (q.1.at (q.1.pc + 1), q.2)
def doneM (t : Th) (i : Ins) (s : S) : Th × S :=
  if i.op == 0 then endM M t s 2 12 else if jumpB i.op then (t.at (nextM t i), s)
  else onM (if askB i.op then askedM M t i s else if aluB i.op then (t.put i.a (doI i.op (t.reg i.b) (t.reg i.c)), s) else aloneM M t i s)
/-- the step of a thread at an instruction, in a code of so many -/
def atM (t : Th) (i : Ins) (n : Int) (s : S) : Th × S :=
  if !rightB i.op i.a i.b i.c i.k n || (askB i.op && !inMemM M t i) then endM M t s 3 13
  else if heldM M i s then (t, M.flush s) else doneM M t i s
/-- the step of a thread -/
def stepM (t : Th) (code : List Ins) (s : S) : Th × S :=
  if t.st != 0 then (t, s) else if decide (t.pc < 0) || decide ((code.length : Int) ≤ t.pc) then endM M t s 2 12
  else atM M t (code.getD t.pc.toNat ins0) code.length s
end
end Go.Proofs.YthbenfnanhpcoaaDoor

namespace Go.Proofs.YthbenfnanhpcoaaDoor
open Go.ChangeShapes Go.WideShapes Go.ChangeAt Go.RowKit
set_option linter.unusedVariables false

/-- two numbers: an entry (address, value), or a sleeper (thread, address) -/
structure Ent where
  a : Int
  v : Int
def ent0 : Ent := ⟨0, 0⟩
def entL (x : Ent) : List Value := [.int .i64 x.a, .int .u32 x.v]
def slpL (x : Ent) : List Value := [.int .i64 x.a, .int .i64 x.v]
def wordL (x : Int) : List Value := [.int .u32 x]
def numL (x : Int) : List Value := [.int .i64 x]
theorem entL_len (x : Ent) : (entL x).length = 2 := rfl
theorem slpL_len (x : Ent) : (slpL x).length = 2 := rfl
theorem wordL_len (x : Int) : (wordL x).length = 1 := rfl
theorem numL_len (x : Int) : (numL x).length = 1 := rfl
theorem evL_len (x : Ev) : (evL x).length = 8 := rfl
theorem insL_len (x : Ins) : (insL x).length = 5 := rfl
theorem entL_one (x : Ent) : ∀ u ∈ entL x, u.oneCell' = true := by intro u hu; simp [entL] at hu; rcases hu with rfl | rfl <;> rfl
theorem slpL_one (x : Ent) : ∀ u ∈ slpL x, u.oneCell' = true := by intro u hu; simp [slpL] at hu; rcases hu with rfl | rfl <;> rfl
theorem wordL_one (x : Int) : ∀ u ∈ wordL x, u.oneCell' = true := by intro u hu; simp [wordL] at hu; subst hu; rfl
theorem numL_one (x : Int) : ∀ u ∈ numL x, u.oneCell' = true := by intro u hu; simp [numL] at hu; subst hu; rfl
theorem evL_one (x : Ev) : ∀ u ∈ evL x, u.oneCell' = true := by intro u hu; simp [evL] at hu; rcases hu with rfl | rfl | rfl | rfl | rfl | rfl | rfl | rfl <;> rfl
theorem insL_one (x : Ins) : ∀ u ∈ insL x, u.oneCell' = true := by intro u hu; simp [insL] at hu; rcases hu with rfl | rfl | rfl | rfl | rfl <;> rfl

abbrev EntsO (w : World) (base : Nat) (v : Value) (l : List Ent) : Prop := w.ownsRow base 87 2 v l.length (flatOf entL l)
abbrev WordsO (w : World) (base : Nat) (v : Value) (l : List Int) : Prop := w.ownsRow base 41 1 v l.length (flatOf wordL l)
abbrev NumsO (w : World) (base : Nat) (v : Value) (l : List Int) : Prop := w.ownsRow base 3 1 v l.length (flatOf numL l)
abbrev EvsO (w : World) (base : Nat) (v : Value) (l : List Ev) : Prop := w.ownsRow base 78 8 v l.length (flatOf evL l)
abbrev InssO (w : World) (base : Nat) (v : Value) (l : List Ins) : Prop := w.ownsRow base 43 5 v l.length (flatOf insL l)

/-- records are appended -/
theorem app_recs {α : Type} {f : α → List Value} {sz : Nat} (hf : ∀ x, (f x).length = sz) (h1 : ∀ x, ∀ u ∈ f x, u.oneCell' = true)
    {T t ty : TypeId} {zero : Value} {bytes : Nat} (hT : Tryd.prog.underlying T = some (.slice t)) (info : (Tryd.prog.info? t).map (fun i => (i.zero, i.size, i.bytes)) = some (some zero, sz, bytes)) (hz : zero.cells.size = sz) (hsz : 0 < sz) (hby : bytes ≤ 1000)
    {w : World} {base : Nat} {v : Value} {l : List α} (hown : w.ownsRow base t sz v l.length (flatOf f l)) (ad : Option Addr) (c : Nat) (m : List α) (hm : RowAt w ad (flatOf f m)) (hc : ad = none → c = 0 ∧ m = [])
    (hn : l.length + m.length ≤ 100000) (hb : base ≤ w.heap.size) :
    ∃ v' w', (Builtin.append_ #[T, T] ty #[v, .slice ad m.length c]).run Tryd.prog w = .ok v' w' ∧ w'.ownsRow base t sz v' (l ++ m).length (flatOf f (l ++ m)) ∧ w.grownBy w' v.ownBlock ∧ (v'.ownBlock = v.ownBlock ∨ v'.ownBlock = some w.heap.size) := by
  obtain ⟨v', w', h1, h2, h3, h4⟩ := app_row (ty := ty) hT info hz hsz hby hown ad c m.length (flatOf f m) hm (fun h => ⟨(hc h).1, by rw [(hc h).2]; rfl⟩) (flatOf_length hf m) (flatOf_one h1 m) hn hb
  rw [← flatOf_append, ← List.length_append] at h2
  exact ⟨v', w', h1, h2, h3, h4⟩
/-- one record is appended -/
theorem app_rec {α : Type} {f : α → List Value} {sz : Nat} (hf : ∀ x, (f x).length = sz) (h1 : ∀ x, ∀ u ∈ f x, u.oneCell' = true)
    {T t ty : TypeId} {zero : Value} {bytes : Nat} (hT : Tryd.prog.underlying T = some (.slice t)) (info : (Tryd.prog.info? t).map (fun i => (i.zero, i.size, i.bytes)) = some (some zero, sz, bytes)) (hz : zero.cells.size = sz) (hsz : 0 < sz) (hby : bytes ≤ 1000)
    {w : World} {base : Nat} {v : Value} {l : List α} (hown : w.ownsRow base t sz v l.length (flatOf f l)) (x : α) (C : Array Value) (hC : C = (f x).toArray) (hn : l.length ≤ 99999) (hb : base ≤ w.heap.size) :
    ∃ v' w', (Builtin.append_ #[T, T] ty #[v, .slice (some ⟨w.heap.size, 0, none⟩) 1 1]).run Tryd.prog (w.alloc (.cells C t)) = .ok v' w' ∧ w'.ownsRow base t sz v' (l ++ [x]).length (flatOf f (l ++ [x])) ∧ (w.alloc (.cells C t)).grownBy w' v.ownBlock ∧ (v'.ownBlock = v.ownBlock ∨ v'.ownBlock = some (w.heap.size + 1)) := by
  subst hC
  have hx : Has (w.alloc (.cells (f x).toArray t)) w.heap.size (f x).toArray t := Has.new w _ _
  have hr := hx.rowAt
  have e : f x = flatOf f [x] := by simp [flatOf]
  rw [e] at hr
  obtain ⟨v', w', q1, q2, q3, q4⟩ := app_recs (ty := ty) hf h1 hT info hz hsz hby (own_later hown ((Gr.refl w).alloc (f x).toArray t)) (some ⟨w.heap.size, 0, none⟩) 1 [x] (by rw [e]; exact hr) (by simp) (by simp; omega) (by simp; omega)
  have e2 : (w.alloc (.cells (f x).toArray t)).heap.size = w.heap.size + 1 := by simp
  rw [e2] at q4
  exact ⟨v', w', q1, q2, q3, q4⟩

theorem infoEnt : (Tryd.prog.info? 87).map (fun i => (i.zero, i.size, i.bytes)) = some (some (.agg #[.int .i64 0, .int .u32 0]), 2, 16) := by kernel_rfl
theorem infoWrd : (Tryd.prog.info? 41).map (fun i => (i.zero, i.size, i.bytes)) = some (some (.int .u32 0), 1, 4) := by kernel_rfl
theorem infoNum : (Tryd.prog.info? 3).map (fun i => (i.zero, i.size, i.bytes)) = some (some (.int .i64 0), 1, 8) := by kernel_rfl
theorem infoEv : (Tryd.prog.info? 78).map (fun i => (i.zero, i.size, i.bytes)) = some (some (.agg #[.int .i64 0, .int .i64 0, .int .i64 0, .int .i64 0, .int .u32 0, .int .u32 0, .int .u32 0, .bool false]), 8, 48) := by kernel_rfl
theorem infoIns : (Tryd.prog.info? 43).map (fun i => (i.zero, i.size, i.bytes)) = some (some (.agg #[.int .i64 0, .int .i64 0, .int .i64 0, .int .i64 0, .int .u32 0]), 5, 40) := by kernel_rfl
end Go.Proofs.YthbenfnanhpcoaaDoor
