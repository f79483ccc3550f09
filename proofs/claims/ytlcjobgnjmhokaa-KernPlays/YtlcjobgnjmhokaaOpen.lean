/-
  What a slice of numbers and a slice of acts that came in hold, said of cells and plain lists. No condition.
-/
import Derived.Test.YtlcjobgnjmhokaaRow
import Derived.ChangeSlices
import Derived.Deep.Slices
namespace Go.Proofs.Ytlcjobgnjmhokaa
open Go.ChangeShapes Go.WideShapes Go.ChangeAt Go.RowKit Go.Deep
set_option linter.unusedVariables false

theorem cellsA : Try.prog.cellsOf 32 = 4 := by kernel_rfl

/-- something that befalls a queue -/
structure Act6 where
  d : Int
  who : Int
  addr : Int
  n : Nat
def act0 : Act6 := ⟨0, 0, 0, 0⟩
def Act6.ok (x : Act6) : Prop := (0 ≤ x.d ∧ x.d < 256) ∧ x.n < 4294967296
def actC (x : Act6) : List Value := [.int .u8 x.d, .int .i64 x.who, .int .i64 x.addr, .int .u32 (x.n : Int)]

section
variable {H : Type} {enc : TypeId × Value → H} {w : World} {sp : Nat → Bool} {held : Bool}

theorem list4 {α : Type} {l : List α} (h : l.length = 4) : ∃ a b c d, l = [a, b, c, d] := by
  match l, h with
  | [a, b, c, d], _ => exact ⟨a, b, c, d, rfl⟩

theorem open_act {n : Nat} {cs : List Value} {x : DataW H × List MemPlace} (h : DataW.trod enc Try.prog w 0 sp held n 32 cs = some x) : ∃ i : Act6, cs = actC i ∧ i.ok := by
  obtain ⟨xs, m, rfl, _, hl, hlen, hf⟩ := DataW.trod_struct Try.underlying32 h
  rw [cellsA] at hl
  obtain ⟨c0, c1, c2, c3, rfl⟩ := list4 hl
  obtain ⟨x0, x1, x2, x3, rfl⟩ := list4 hlen
  obtain ⟨n0, e0, _, w0⟩ := DataW.trod_int Try.underlying5 (hf 0 _ rfl)
  obtain ⟨n1, e1, _, _⟩ := DataW.trod_int Try.underlying3 (hf 1 _ rfl)
  obtain ⟨n2, e2, _, _⟩ := DataW.trod_int Try.underlying3 (hf 2 _ rfl)
  obtain ⟨n3, e3, _, w3⟩ := DataW.trod_int Try.underlying30 (hf 3 _ rfl)
  have q0 : [c0] = [Value.int .u8 n0] := e0
  have q1 : [c1] = [Value.int .i64 n1] := e1
  have q2 : [c2] = [Value.int .i64 n2] := e2
  have q3 : [c3] = [Value.int .u32 n3] := e3
  simp only [List.cons.injEq, and_true] at q0 q1 q2 q3
  subst q0 q1 q2 q3
  have b0 := bounds_u8 w0
  have b3 := bounds_u32 w3
  obtain ⟨k, rfl⟩ : ∃ k : Nat, n3 = k := ⟨n3.toNat, by omega⟩
  exact ⟨⟨n0, n1, n2, k⟩, rfl, ⟨b0.1, by show n0 < 256; omega⟩, by show k < 4294967296; omega⟩

theorem addr_add (b o : Nat) (n : Nat) : (⟨b, o, none⟩ : Addr).add n = ⟨b, o + n, none⟩ := Addr.add_mid b o n

/-- a slice of acts: none, or their cells from an address on -/
def ActsAt (w : World) (a : Option Addr) (l : List Act6) : Prop :=
  l = [] ∨ ∃ b off, a = some ⟨b, off, none⟩ ∧ ∀ i, i < l.length → (l.getD i act0).ok ∧ w.cell? ⟨b, off + i * 4, none⟩ = some (.int .u8 (l.getD i act0).d) ∧ w.cell? ⟨b, off + i * 4 + 1, none⟩ = some (.int .i64 (l.getD i act0).who) ∧ w.cell? ⟨b, off + i * 4 + 2, none⟩ = some (.int .i64 (l.getD i act0).addr) ∧ w.cell? ⟨b, off + i * 4 + 3, none⟩ = some (.int .u32 ((l.getD i act0).n : Int))
theorem cell_later {w w' : World} {a : Addr} {v : Value} (g : Gr w w') (h : w.cell? a = some v) : w'.cell? a = some v := (Below.cell g (World.block_lt_of_cell? w a h)).trans h

theorem open_acts {n : Nat} {v : Value} {x : DataW H × List MemPlace} (h : DataW.trod enc Try.prog w 0 (fun _ => true) held n 22 [v] = some x) :
    ∃ a cap l, v = .slice a (l : List Act6).length cap ∧ ActsAt w a l ∧ l.length ≤ maxLen := by
  rcases open_slice Try.underlying22 h with ⟨h0, _⟩ | ⟨a, len, cap, m, n', D, Pl, hcs, _, hl, hm, hmm, _, hx⟩
  · simp at h0
    exact ⟨none, 0, [], h0, .inl rfl, Nat.zero_le _⟩
  · simp at hcs hmm
    subst hmm
    rw [cellsA] at hx
    have each : ∀ i, i < len → ∃ f : Act6, w.cells? 0 (a.add (i * 4)) 4 = some (actC f) ∧ f.ok := by
      intro i hi
      obtain ⟨cs', h1, h2⟩ := hx i (by omega)
      obtain ⟨f, rfl, hk⟩ := open_act h2
      exact ⟨f, h1, hk⟩
    have inh : Inhabited Act6 := ⟨act0⟩
    obtain ⟨f, hf⟩ := choose_lt each
    refine ⟨some a, _, (List.range len).map f, by simpa using hcs, ?_, by simpa using Nat.le_trans hl hm⟩
    by_cases h0 : len = 0
    · subst h0; exact .inl rfl
    right
    obtain ⟨b, off, spot⟩ := a
    have hs : spot = none := by
      obtain ⟨_, _, hc⟩ := World.cells?_some (hf 0 (by omega)).1
      have := hc 0 (by omega)
      have := World.cell?_spot (this.trans rfl)
      simpa [Addr.add] using this
    subst hs
    refine ⟨b, off, rfl, fun i hi => ?_⟩
    have hi' : i < len := by simpa using hi
    obtain ⟨_, _, hc⟩ := World.cells?_some (hf i hi').1
    simp only [addr_add] at hc
    have e : ((List.range len).map f).getD i act0 = f i := by simp [List.getD_eq_getElem?_getD, hi']
    rw [e]
    exact ⟨(hf i hi').2, (hc 0 (by omega)).trans rfl, (hc 1 (by omega)).trans rfl, (hc 2 (by omega)).trans rfl, (hc 3 (by omega)).trans rfl⟩

theorem cellsN : Try.prog.cellsOf 3 = 1 := by kernel_rfl
theorem open_nums {n : Nat} {v : Value} {x : DataW H × List MemPlace} (h : DataW.trod enc Try.prog w 0 (fun _ => true) held n 37 [v] = some x) :
    ∃ a cap l, v = .slice a (l : List Int).length cap ∧ NumsAt w a l ∧ l.length ≤ maxLen := by
  rcases open_ints Try.underlying37 Try.underlying3 cellsN h with ⟨hcs, _⟩ | ⟨a, len, cap, zs, hcs, _, hl, hm, hz, _, hcell, _⟩
  · simp at hcs
    exact ⟨none, 0, [], hcs, .inl rfl, Nat.zero_le _⟩
  · simp at hcs hz
    refine ⟨some a, cap, zs.take len, by rw [hcs, List.length_take, Nat.min_eq_left (by omega)], ?_, by rw [List.length_take]; omega⟩
    by_cases h0 : len = 0
    · subst h0; exact .inl rfl
    right
    obtain ⟨b, off, spot⟩ := a
    have hspot : spot = none := by
      have := World.cell?_spot (hcell 0 (by omega))
      simpa [Addr.add] using this
    subst hspot
    refine ⟨b, off, rfl, fun i hi => ?_⟩
    rw [List.length_take] at hi
    have hci := hcell i (by omega)
    rw [addr_add] at hci
    rw [hci]
    congr 2
    simp only [List.getD_eq_getElem?_getD]
    rw [List.getElem?_take, if_pos (by omega)]
end
end Go.Proofs.Ytlcjobgnjmhokaa
