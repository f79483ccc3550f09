/-
  What an instruction, a slice of instructions and a program that came in hold, said of cells and plain numbers; and that they hold it in every later world. No condition.
-/
import Derived.Test.YthooopcoemdphaaDoorBase
import Derived.Deep.Slices
import Derived.Deep.MidRow
namespace Go.Proofs.YthooopcoemdphaaDoor
open Go.ChangeShapes Go.WideShapes Go.ChangeAt Go.RowKit Go.Deep
set_option linter.unusedVariables false

/-- an instruction, by its numbers -/
structure Ins where
  op : Int
  a : Int
  b : Int
  c : Int
  k : Int
def ins0 : Ins := ⟨0, 0, 0, 0, 0⟩
def Ins.ok (i : Ins) : Prop := 0 ≤ i.k ∧ i.k < 4294967296
abbrev Ins.vals (i : Ins) : List Value := [.int .i64 i.op, .int .i64 i.a, .int .i64 i.b, .int .i64 i.c, .int .u32 i.k]

theorem cells47 : Tryd.prog.cellsOf 47 = 5 := by kernel_rfl
theorem cells3 : Tryd.prog.cellsOf 3 = 1 := by kernel_rfl
theorem cells45 : Tryd.prog.cellsOf 45 = 1 := by kernel_rfl
theorem cells27 : Tryd.prog.cellsOf 27 = 3 := by kernel_rfl
theorem cells24 : Tryd.prog.cellsOf 24 = 1 := by kernel_rfl
theorem cells25 : Tryd.prog.cellsOf 25 = 1 := by kernel_rfl
theorem cells55 : Tryd.prog.cellsOf 55 = 1 := by kernel_rfl

section
variable {H : Type} {enc : TypeId × Value → H} {w : World} {sp : Nat → Bool} {held : Bool}

theorem list5 {α : Type} {l : List α} (h : l.length = 5) : ∃ a b c d e, l = [a, b, c, d, e] := by
  match l, h with
  | [a, b, c, d, e], _ => exact ⟨a, b, c, d, e, rfl⟩
theorem list3 {α : Type} {l : List α} (h : l.length = 3) : ∃ a b c, l = [a, b, c] := by
  match l, h with
  | [a, b, c], _ => exact ⟨a, b, c, rfl⟩

theorem open_ins {n : Nat} {cs : List Value} {x : DataW H × List MemPlace} (h : DataW.trod enc Tryd.prog w 0 sp held n 47 cs = some x) : ∃ i : Ins, cs = i.vals ∧ i.ok := by
  obtain ⟨xs, m, rfl, _, hl, hlen, hf⟩ := DataW.trod_struct Tryd.underlying47 h
  rw [cells47] at hl
  obtain ⟨c0, c1, c2, c3, c4, rfl⟩ := list5 hl
  obtain ⟨x0, x1, x2, x3, x4, rfl⟩ := list5 hlen
  obtain ⟨n0, e0, _, _⟩ := DataW.trod_int Tryd.underlying3 (hf 0 _ rfl)
  obtain ⟨n1, e1, _, _⟩ := DataW.trod_int Tryd.underlying3 (hf 1 _ rfl)
  obtain ⟨n2, e2, _, _⟩ := DataW.trod_int Tryd.underlying3 (hf 2 _ rfl)
  obtain ⟨n3, e3, _, _⟩ := DataW.trod_int Tryd.underlying3 (hf 3 _ rfl)
  obtain ⟨n4, e4, _, w4⟩ := DataW.trod_int Tryd.underlying45 (hf 4 _ rfl)
  have q0 : [c0] = [Value.int .i64 n0] := e0
  have q1 : [c1] = [Value.int .i64 n1] := e1
  have q2 : [c2] = [Value.int .i64 n2] := e2
  have q3 : [c3] = [Value.int .i64 n3] := e3
  have q4 : [c4] = [Value.int .u32 n4] := e4
  simp only [List.cons.injEq, and_true] at q0 q1 q2 q3 q4
  subst q0 q1 q2 q3 q4
  have := bounds_u32 w4
  exact ⟨⟨n0, n1, n2, n3, n4⟩, rfl, this.1, by show n4 < 4294967296; omega⟩

/-- an instruction lies in a block, from a place on -/
def Lies (w : World) (b o : Nat) (i : Ins) : Prop :=
  w.cell? ⟨b, o, none⟩ = some (.int .i64 i.op) ∧ w.cell? ⟨b, o + 1, none⟩ = some (.int .i64 i.a) ∧ w.cell? ⟨b, o + 2, none⟩ = some (.int .i64 i.b) ∧ w.cell? ⟨b, o + 3, none⟩ = some (.int .i64 i.c) ∧ w.cell? ⟨b, o + 4, none⟩ = some (.int .u32 i.k)
theorem cell_later {w w' : World} {a : Addr} {v : Value} (g : Gr w w') (h : w.cell? a = some v) : w'.cell? a = some v := (Below.cell g (World.block_lt_of_cell? w a h)).trans h
theorem Lies.later {w w' : World} {b o : Nat} {i : Ins} (h : Lies w b o i) (g : Gr w w') : Lies w' b o i :=
  ⟨cell_later g h.1, cell_later g h.2.1, cell_later g h.2.2.1, cell_later g h.2.2.2.1, cell_later g h.2.2.2.2⟩
theorem Lies.range {w : World} {b o : Nat} {i : Ins} (h : Lies w b o i) : w.rangeAt b o i.vals := by
  intro j v hj
  match j, hj with
  | 0, hj => cases hj; exact h.1
  | 1, hj => cases hj; exact h.2.1
  | 2, hj => cases hj; exact h.2.2.1
  | 3, hj => cases hj; exact h.2.2.2.1
  | 4, hj => cases hj; exact h.2.2.2.2
  | j + 5, hj => simp [Ins.vals] at hj

/-- a slice of instructions -/
def InsRow (w : World) (a : Option Addr) (len : Nat) (f : Nat → Ins) : Prop :=
  len ≤ maxLen ∧ (len = 0 ∨ ∃ b off, a = some ⟨b, off, none⟩ ∧ ∀ i, i < len → Lies w b (off + i * 5) (f i) ∧ (f i).ok)
theorem InsRow.later {w w' : World} {a : Option Addr} {len : Nat} {f : Nat → Ins} (h : InsRow w a len f) (g : Gr w w') : InsRow w' a len f := by
  refine ⟨h.1, ?_⟩
  rcases h.2 with h0 | ⟨b, off, ha, hl⟩
  · exact .inl h0
  · exact .inr ⟨b, off, ha, fun i hi => ⟨(hl i hi).1.later g, (hl i hi).2⟩⟩

theorem addr_add (b o : Nat) (n : Nat) : (⟨b, o, none⟩ : Addr).add n = ⟨b, o + n, none⟩ := Addr.add_mid b o n

theorem open_insrow {n : Nat} {v : Value} {x : DataW H × List MemPlace} (h : DataW.trod enc Tryd.prog w 0 (fun _ => true) held n 55 [v] = some x) : ∃ a len cap f, v = .slice a len cap ∧ InsRow w a len f := by
  rcases open_slice Tryd.underlying55 h with ⟨h0, _⟩ | ⟨a, len, cap, m, n', D, Pl, hcs, _, hl, hm, hmm, _, hx⟩
  · simp at h0
    exact ⟨none, 0, 0, fun _ => ins0, h0, Nat.zero_le _, .inl rfl⟩
  · simp at hcs hmm
    subst hmm
    rw [cells47] at hx
    have each : ∀ i, i < len → ∃ f : Ins, w.cells? 0 (a.add (i * 5)) 5 = some f.vals ∧ f.ok := by
      intro i hi
      obtain ⟨cs', h1, h2⟩ := hx i (by omega)
      obtain ⟨f, rfl, hf⟩ := open_ins h2
      exact ⟨f, h1, hf⟩
    have inh : Inhabited Ins := ⟨ins0⟩
    obtain ⟨f, hf⟩ := choose_lt each
    refine ⟨some a, len, _, f, hcs, Nat.le_trans hl hm, ?_⟩
    by_cases h0 : len = 0
    · exact .inl h0
    right
    obtain ⟨b, off, spot⟩ := a
    have hs : spot = none := by
      obtain ⟨_, _, hc⟩ := World.cells?_some (hf 0 (by omega)).1
      have := hc 0 (by omega)
      have := World.cell?_spot (this.trans rfl)
      simpa [Addr.add] using this
    subst hs
    refine ⟨b, off, rfl, fun i hi => ⟨?_, (hf i hi).2⟩⟩
    obtain ⟨_, _, hc⟩ := World.cells?_some (hf i hi).1
    simp only [addr_add] at hc
    exact ⟨(hc 0 (by omega)).trans rfl, (hc 1 (by omega)).trans rfl, (hc 2 (by omega)).trans rfl, (hc 3 (by omega)).trans rfl, (hc 4 (by omega)).trans rfl⟩

/-- a slice of slices of instructions -/
def CodeRow (w : World) (a : Option Addr) (len : Nat) (A : Nat → Option Addr) (L C : Nat → Nat) (F : Nat → Nat → Ins) : Prop :=
  len ≤ maxLen ∧ (len = 0 ∨ ∃ b off, a = some ⟨b, off, none⟩ ∧ ∀ r, r < len → w.cell? ⟨b, off + r, none⟩ = some (.slice (A r) (L r) (C r)) ∧ InsRow w (A r) (L r) (F r))
theorem CodeRow.later {w w' : World} {a : Option Addr} {len : Nat} {A : Nat → Option Addr} {L C : Nat → Nat} {F : Nat → Nat → Ins} (h : CodeRow w a len A L C F) (g : Gr w w') : CodeRow w' a len A L C F := by
  refine ⟨h.1, ?_⟩
  rcases h.2 with h0 | ⟨b, off, ha, hl⟩
  · exact .inl h0
  · exact .inr ⟨b, off, ha, fun i hi => ⟨cell_later g (hl i hi).1, (hl i hi).2.later g⟩⟩

theorem open_coderow {n : Nat} {v : Value} {x : DataW H × List MemPlace} (h : DataW.trod enc Tryd.prog w 0 (fun _ => true) held n 24 [v] = some x) : ∃ a len cap A L C F, v = .slice a len cap ∧ CodeRow w a len A L C F := by
  rcases open_slice1 Tryd.underlying24 cells55 h with ⟨h0, _⟩ | ⟨a, len, cap, m, n', V, D, Pl, hcs, _, hl, hm, hmm, _, hx⟩
  · simp at h0
    exact ⟨none, 0, 0, fun _ => none, fun _ => 0, fun _ => 0, fun _ _ => ins0, h0, Nat.zero_le _, .inl rfl⟩
  · simp at hcs hmm
    subst hmm
    have each : ∀ i, i < len → ∃ y : Option Addr × Nat × Nat × (Nat → Ins), w.cell? (a.add i) = some (.slice y.1 y.2.1 y.2.2.1) ∧ InsRow w y.1 y.2.1 y.2.2.2 := by
      intro i hi
      obtain ⟨h1, h2⟩ := hx i (by omega)
      obtain ⟨a', l', c', f', e, hr⟩ := open_insrow h2
      exact ⟨(a', l', c', f'), by rw [h1, e], hr⟩
    have inh : Inhabited Ins := ⟨ins0⟩
    obtain ⟨y, hy⟩ := choose_lt each
    refine ⟨some a, len, _, fun i => (y i).1, fun i => (y i).2.1, fun i => (y i).2.2.1, fun i => (y i).2.2.2, hcs, Nat.le_trans hl hm, ?_⟩
    by_cases h0 : len = 0
    · exact .inl h0
    right
    obtain ⟨b, off, spot⟩ := a
    have hs : spot = none := by
      have := World.cell?_spot (hy 0 (by omega)).1
      simpa [Addr.add] using this
    subst hs
    refine ⟨b, off, rfl, fun i hi => ⟨?_, (hy i hi).2⟩⟩
    have := (hy i hi).1
    rw [addr_add] at this
    exact this

/-- a program, as a value -/
theorem open_prog {r : Reach} {b0 : Nat} {v : Value} {d : DataW H} {p : List MemPlace} (hv : Value.okWide Tryd.prog w r b0 27 v) (h : DataW.Trod enc Tryd.prog w 0 (fun _ => true) held 27 v d p) :
    ∃ a len cap A L C F ma ml mc room, v = .agg #[.slice a len cap, .slice ma ml mc, .int .i64 room] ∧ CodeRow w a len A L C F ∧ ml ≤ maxLen := by
  obtain ⟨cs, rfl, hsz⟩ := okWide_struct Tryd.underlying27 hv
  obtain ⟨n, h⟩ := h
  obtain ⟨l⟩ := cs
  simp only [Value.cells] at h
  obtain ⟨xs, m, rfl, _, hl, hlen, hf⟩ := DataW.trod_struct Tryd.underlying27 h
  rw [cells27] at hl
  obtain ⟨c0, c1, c2, rfl⟩ := list3 hl
  obtain ⟨x0, x1, x2, rfl⟩ := list3 hlen
  have f0 := hf 0 _ rfl
  have f1 := hf 1 _ rfl
  obtain ⟨n2, e2, _, _⟩ := DataW.trod_int Tryd.underlying3 (hf 2 _ rfl)
  have q2 : [c2] = [Value.int .i64 n2] := e2
  simp only [List.cons.injEq, and_true] at q2
  subst q2
  have f0' : DataW.trod enc Tryd.prog w 0 (fun _ => true) held m 24 [c0] = some x0 := f0
  have f1' : DataW.trod enc Tryd.prog w 0 (fun _ => true) held m 25 [c1] = some x1 := f1
  obtain ⟨a, len, cap, A, L, C, F, rfl, hr⟩ := open_coderow f0'
  rcases open_slice Tryd.underlying25 f1' with ⟨h0, _⟩ | ⟨a', len', cap', m', n', D, Pl, hcs, _, hl', hm', _⟩
  · simp at h0
    subst h0
    exact ⟨a, len, cap, A, L, C, F, none, 0, 0, n2, rfl, hr, Nat.zero_le _⟩
  · simp at hcs
    subst hcs
    exact ⟨a, len, cap, A, L, C, F, some a', len', cap', n2, rfl, hr, Nat.le_trans hl' hm'⟩

theorem open_insval {r : Reach} {b0 : Nat} {v : Value} {d : DataW H} {p : List MemPlace} (hv : Value.okWide Tryd.prog w r b0 47 v) (h : DataW.Trod enc Tryd.prog w 0 sp held 47 v d p) :
    ∃ i : Ins, v = .agg i.vals.toArray ∧ i.ok := by
  obtain ⟨cs, rfl, hsz⟩ := okWide_struct Tryd.underlying47 hv
  obtain ⟨n, h⟩ := h
  obtain ⟨l⟩ := cs
  simp only [Value.cells] at h
  obtain ⟨i, e, hi⟩ := open_ins h
  exact ⟨i, by rw [← e], hi⟩
end
end Go.Proofs.YthooopcoemdphaaDoor
