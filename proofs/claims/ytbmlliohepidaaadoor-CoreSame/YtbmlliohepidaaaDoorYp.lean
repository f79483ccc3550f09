/-
  The law's yard, by plain lists: what its port's functions make of memory, the buffer, the sleepers, the events and what was asked. No program, no condition.
-/
import Derived.Test.YtbmlliohepidaaaDoorPur
import Derived.Test.YtbmlliohepidaaaDoorRec
namespace Go.Proofs.YtbmlliohepidaaaDoor
set_option linter.unusedVariables false

/-- a yard -/
structure Ys where
  mem : List Int
  buf : List Ent
  slp : List Ent
  evs : List Ev
  asks : List UInt8
  room : Nat

/-- what a load tells: the youngest of the first n entries, else memory -/
def seeY (l : List Ent) (mem : List Int) (m : Int) : Nat → Int
  | 0 => mem.getD m.toNat 0
  | n + 1 => if (l.getD n ent0).a == m then (l.getD n ent0).v else seeY l mem m n
/-- what is so while sleepers are woken: how many more may be, who was, who is left -/
structure S3 where
  n : Nat
  out : List Int
  left : List Ent
def stW (addr : Int) (n : Nat) (x : Ent) : Bool := (x.v == addr) && decide (0 < n)
def sift1 (addr : Int) (s : S3) (x : Ent) : S3 :=
  ⟨if stW addr s.n x then s.n - 1 else s.n, if stW addr s.n x then s.out ++ [x.a] else s.out, if stW addr s.n x then s.left else s.left ++ [x]⟩
def siftS (addr : Int) (n : Nat) (l : List Ent) : S3 := l.foldl (sift1 addr) ⟨n, [], []⟩
theorem siftS_snoc (addr : Int) (n : Nat) (l : List Ent) (x : Ent) : siftS addr n (l ++ [x]) = sift1 addr (siftS addr n l) x := by
  unfold siftS
  rw [List.foldl_append]
  rfl
theorem foldl_len (addr : Int) : ∀ (l : List Ent) (s : S3), (l.foldl (sift1 addr) s).left.length ≤ s.left.length + l.length ∧ (l.foldl (sift1 addr) s).out.length ≤ s.out.length + l.length
  | [], s => by simp
  | x :: l, s => by
    have := foldl_len addr l (sift1 addr s x)
    have h1 : (sift1 addr s x).left.length ≤ s.left.length + 1 := by unfold sift1; simp only; split <;> simp
    have h2 : (sift1 addr s x).out.length ≤ s.out.length + 1 := by unfold sift1; simp only; split <;> simp
    simp only [List.foldl_cons, List.length_cons]
    omega
theorem siftS_len (addr : Int) (n : Nat) (l : List Ent) : (siftS addr n l).left.length ≤ l.length ∧ (siftS addr n l).out.length ≤ l.length := by
  have := foldl_len addr l ⟨n, [], []⟩
  simpa [siftS] using this
theorem take_get {α : Type} (d : α) (l : List α) (k : Nat) (h : k < l.length) : l.take (k + 1) = l.take k ++ [l.getD k d] := by
  rw [List.take_succ_eq_append_getElem h, List.getD_eq_getElem?_getD, List.getElem?_eq_getElem h]; rfl

def Ys.ask (s : Ys) (b : UInt8) : Ys := ⟨s.mem, s.buf, s.slp, s.evs, s.asks ++ [b], s.room⟩
/-- the oldest entry goes into memory -/
def Ys.flush (s : Ys) : Ys := match s.buf with
  | [] => s
  | x :: l => ⟨s.mem.set x.a.toNat x.v, l, s.slp, s.evs ++ [⟨3, 0, 0, x.a, x.v, 0, 0, false⟩], s.asks, s.room⟩
def Ys.load (s : Ys) (m : Int) : Int := seeY s.buf s.mem m s.buf.length
def Ys.store (s : Ys) (m v : Int) : Ys := ⟨s.mem, s.buf ++ [⟨m, v⟩], s.slp, s.evs, s.asks, s.room⟩
def Ys.swap (s : Ys) (m v : Int) : Ys := ⟨s.mem.set m.toNat v, s.buf, s.slp, s.evs, s.asks, s.room⟩
def Ys.sleep (s : Ys) (m : Int) : Ys := ⟨s.mem, s.buf, s.slp ++ [⟨0, m⟩], s.evs, s.asks, s.room⟩
def Ys.woken (s : Ys) (m n : Int) : Int := IntKind.u32.wrap ((siftS m n.toNat s.slp).out.length : Int)
def Ys.wake (s : Ys) (m n : Int) : Ys := ⟨s.mem, s.buf, (siftS m n.toNat s.slp).left, s.evs, s.asks, s.room⟩
def Ys.note (s : Ys) (x : Ev) : Ys := ⟨s.mem, s.buf, s.slp, s.evs ++ [x], s.asks, s.room⟩
def Ys.fuel (s : Ys) : Nat := 90000 - (s.evs.length + s.buf.length + s.slp.length + s.asks.length)

def yardM (n : Int) : Prt Ys where
  size := n
  fuel := Ys.fuel
  load s m := s.load m
  loadS s m := s.ask 108
  room s := decide (s.buf.length < s.room)
  store s m v := (s.ask 115).store m v
  empty s := ((s.buf.length : Int) == 0)
  flush s := (s.ask 102).flush
  swap s m v := s.mem.getD m.toNat 0
  swapS s m v := (s.ask 120).swap m v
  sleep s m := (s.ask 122).sleep m
  wake s m v := s.woken m v
  wakeS s m v := (s.ask 119).wake m v
  remote s := s.ask 114
  note s x := s.note x

theorem Ys.fuel_ask (s : Ys) (b : UInt8) : s.fuel ≤ (s.ask b).fuel + 1 := by simp only [Ys.fuel, Ys.ask, List.length_append, List.length_cons, List.length_nil]; omega
theorem Ys.fuel_store (s : Ys) (m v : Int) : s.fuel ≤ (s.store m v).fuel + 1 := by simp only [Ys.fuel, Ys.store, List.length_append, List.length_cons, List.length_nil]; omega
theorem Ys.fuel_swap (s : Ys) (m v : Int) : s.fuel ≤ (s.swap m v).fuel := by simp only [Ys.fuel, Ys.swap]; omega
theorem Ys.fuel_note (s : Ys) (x : Ev) : s.fuel ≤ (s.note x).fuel + 1 := by simp only [Ys.fuel, Ys.note, List.length_append, List.length_cons, List.length_nil]; omega
theorem Ys.fuel_wake (s : Ys) (m n : Int) : s.fuel ≤ (s.wake m n).fuel := by
  have := (siftS_len m n.toNat s.slp).1
  simp only [Ys.fuel, Ys.wake]; omega
end Go.Proofs.YtbmlliohepidaaaDoor
