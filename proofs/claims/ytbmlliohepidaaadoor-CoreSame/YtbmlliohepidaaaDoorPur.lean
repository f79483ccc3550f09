/-
  A thread's step, by plain numbers, over any port. No program, no condition.
-/
import Derived.Test.YtbmlliohepidaaaDoorPort
namespace Go.Proofs.YtbmlliohepidaaaDoor
set_option linter.unusedVariables false

/-- the address of an instruction -/
def addrM (t : Th) (i : Ins) : Int := if regB i.b then IntKind.u32.wrap (i.k + t.reg i.b) else i.k
def evt (kind pc : Int) : Ev := ⟨kind, 0, pc, 0, 0, 0, 0, false⟩
def nextM (t : Th) (i : Ins) : Int := if (i.op == 14 && t.reg i.a != 0) || (i.op == 15 && t.reg i.a == 0) then t.pc + 1 else i.k
def insteadM (t : Th) (i : Ins) (old : Int) : Int × Bool :=
  if i.op = 20 then (IntKind.u32.wrap (old + t.reg i.a), true)
  else if i.op = 21 then (if old == t.reg i.a then (t.reg i.c, true) else (old, false))
  else (t.reg i.a, true)
/-- is it an operation of two words? -/
def aluB (op : Int) : Bool := decide (3 ≤ op) && decide (op ≤ 12)

section
variable {S : Type} (M : Prt S)
def inMemM (t : Th) (i : Ins) : Bool := decide (addrM t i < M.size)
def heldM (i : Ins) (s : S) : Bool := if drainB i.op then !M.empty s else i.op == 17 && !M.room s
def endM (t : Th) (s : S) (st ev : Int) : Th × S := (t.is st, M.note s (evt ev t.pc))
def loadedM (t : Th) (i : Ins) (s : S) (m : Int) : Th × S := (t.put i.a (M.load s m), M.note (M.loadS s m) ⟨1, 0, t.pc, m, M.load s m, 0, 0, false⟩)
def storedM (t : Th) (i : Ins) (s : S) (m : Int) : Th × S := (t, M.note (M.store s m (t.reg i.a)) ⟨2, 0, t.pc, m, t.reg i.a, 0, 0, false⟩)
def swapM (t : Th) (i : Ins) (s : S) (m : Int) : S :=
  if (insteadM t i (M.load s m)).2 then M.swapS (M.loadS s m) m (insteadM t i (M.load s m)).1 else M.loadS s m
def swappedM (t : Th) (i : Ins) (s : S) (m : Int) : Th × S :=
  (t.put i.a (M.load s m), M.note (swapM M t i s m) ⟨4, 0, t.pc, m, (insteadM t i (M.load s m)).1, M.load s m, 0, (insteadM t i (M.load s m)).2⟩)
def waitedM (t : Th) (i : Ins) (s : S) (m : Int) : Th × S :=
  if M.load s m == t.reg i.a then ((t.put i.a 0).is 1, M.sleep (M.note (M.loadS s m) ⟨8, 0, t.pc, m, M.load s m, 0, 0, true⟩) m)
  else (t.put i.a 1, M.note (M.loadS s m) ⟨8, 0, t.pc, m, M.load s m, 0, 0, false⟩)
def wokeM (t : Th) (i : Ins) (s : S) (m : Int) : Th × S :=
  (t.put i.a (M.wake s m (t.reg i.a)), M.note (M.wakeS s m (t.reg i.a)) ⟨9, 0, t.pc, m, M.wake s m (t.reg i.a), 0, 0, false⟩)
def askedM (t : Th) (i : Ins) (s : S) : Th × S :=
  if i.op = 16 then loadedM M t i s (addrM t i) else if i.op = 17 then storedM M t i s (addrM t i) else if i.op = 23 then waitedM M t i s (addrM t i)
  else if i.op = 24 then wokeM M t i s (addrM t i) else swappedM M t i s (addrM t i)
def aloneM (t : Th) (i : Ins) (s : S) : Th × S :=
  if i.op = 1 then (t.put i.a i.k, s) else if i.op = 2 then (t.put i.a (t.reg i.b), s)
  else if i.op = 18 then (t, M.note s (evt 5 t.pc)) else if i.op = 22 then (t, M.note s ⟨6, 0, t.pc, 0, t.reg i.a, 0, 0, false⟩)
  else if i.op = 25 then (t, M.note (M.remote s) (evt 10 t.pc)) else if i.op = 27 then (t, M.note s ⟨7, 0, t.pc, 0, t.reg i.a, 0, i.k, false⟩)
  else (t, s)
def onM (q : Th × S) : Th × S := (q.1.at (q.1.pc + 1), q.2)
def doneM (t : Th) (i : Ins) (s : S) : Th × S :=
  if i.op == 0 then endM M t s 2 12 else if jumpB i.op then (t.at (nextM t i), s)
  else onM (if askB i.op then askedM M t i s else if aluB i.op then (t.put i.a (doI i.op (t.reg i.b) (t.reg i.c)), s) else aloneM M t i s)
/-- the step of a thread at an instruction, in a code of so many -/
def atM (t : Th) (i : Ins) (n : Int) (s : S) : Th × S :=
  if !rightB i.op i.a i.b i.c i.k n || (askB i.op && !inMemM M t i) then endM M t s 3 13
  else if heldM M i s then (t, M.flush s) else doneM M t i s
/-- the step of a thread -/
def stepM (t : Th) (code : List Ins) (s : S) : Th × S :=
  if t.st != 0 then (t, s) else if decide (t.pc < 0) || decide ((code.length : Int) ≤ t.pc) then endM M t s 2 12
  else atM M t (code.getD t.pc.toNat ins0) code.length s
end
end Go.Proofs.YtbmlliohepidaaaDoor
