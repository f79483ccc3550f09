/-
  What an entry, a slice of entries and a slice of acts that came in hold, said of cells and plain lists. No condition.
-/
import Derived.Test.YtiogacfejchimaaWord
import Derived.ChangeSlices
import Derived.Deep.Slices
namespace Go.Proofs.Ytiogacfejchimaa
open Go.ChangeShapes Go.WideShapes Go.ChangeAt Go.RowKit Go.Deep
set_option linter.unusedVariables false

theorem cellsE : Try.prog.cellsOf 26 = 2 := by kernel_rfl
theorem cellsA : Try.prog.cellsOf 36 = 3 := by kernel_rfl

/-- something that befalls a buffer -/
structure Act5 where
  pop : Bool
  x : Ent
def act0 : Act5 := ⟨false, ent0⟩

section
variable {H : Type} {enc : TypeId × Value → H} {w : World} {sp : Nat → Bool} {held : Bool}

theorem list2 {α : Type} {l : List α} (h : l.length = 2) : ∃ a b, l = [a, b] := by
  match l, h with
  | [a, b], _ => exact ⟨a, b, rfl⟩
theorem list3 {α : Type} {l : List α} (h : l.length = 3) : ∃ a b c, l = [a, b, c] := by
  match l, h with
  | [a, b, c], _ => exact ⟨a, b, c, rfl⟩

theorem open_ent {n : Nat} {cs : List Value} {x : DataW H × List MemPlace} (h : DataW.trod enc Try.prog w 0 sp held n 26 cs = some x) : ∃ i : Ent, cs = entC i := by
  obtain ⟨xs, m, rfl, _, hl, hlen, hf⟩ := DataW.trod_struct Try.underlying26 h
  rw [cellsE] at hl
  obtain ⟨c0, c1, rfl⟩ := list2 hl
  obtain ⟨x0, x1, rfl⟩ := list2 hlen
  obtain ⟨n0, e0, _, _⟩ := DataW.trod_int Try.underlying3 (hf 0 _ rfl)
  obtain ⟨n1, e1, _, _⟩ := DataW.trod_int Try.underlying24 (hf 1 _ rfl)
  have q0 : [c0] = [Value.int .i64 n0] := e0
  have q1 : [c1] = [Value.int .u32 n1] := e1
  simp only [List.cons.injEq, and_true] at q0 q1
  subst q0 q1
  exact ⟨⟨n0, n1⟩, rfl⟩

theorem open_act {n : Nat} {cs : List Value} {x : DataW H × List MemPlace} (h : DataW.trod enc Try.prog w 0 sp held n 36 cs = some x) : ∃ i : Act5, cs = [.bool i.pop, .int .i64 i.x.a, .int .u32 i.x.v] := by
  obtain ⟨xs, m, rfl, _, hl, hlen, hf⟩ := DataW.trod_struct Try.underlying36 h
  rw [cellsA] at hl
  obtain ⟨c0, c1, c2, rfl⟩ := list3 hl
  obtain ⟨x0, x1, rfl⟩ := list2 hlen
  obtain ⟨n0, e0, _⟩ := DataW.trod_bool Try.underlying4 (hf 0 _ rfl)
  obtain ⟨i, e1⟩ := open_ent (hf 1 _ rfl)
  have q0 : [c0] = [Value.bool n0] := e0
  have q1 : [c1, c2] = [Value.int .i64 i.a, Value.int .u32 i.v] := e1
  simp only [List.cons.injEq, and_true] at q0 q1
  obtain ⟨q1, q2⟩ := q1
  subst q0 q1 q2
  exact ⟨⟨n0, i⟩, rfl⟩

theorem addr_add (b o : Nat) (n : Nat) : (⟨b, o, none⟩ : Addr).add n = ⟨b, o + n, none⟩ := Addr.add_mid b o n

theorem open_ents {n : Nat} {v : Value} {x : DataW H × List MemPlace} (h : DataW.trod enc Try.prog w 0 (fun _ => true) held n 34 [v] = some x) :
    ∃ a cap l, v = .slice a (l : List Ent).length cap ∧ EntsAt w a l ∧ l.length ≤ maxLen := by
  rcases open_slice Try.underlying34 h with ⟨h0, _⟩ | ⟨a, len, cap, m, n', D, Pl, hcs, _, hl, hm, hmm, _, hx⟩
  · simp at h0
    exact ⟨none, 0, [], h0, .inl rfl, Nat.zero_le _⟩
  · simp at hcs hmm
    subst hmm
    rw [cellsE] at hx
    have each : ∀ i, i < len → ∃ f : Ent, w.cells? 0 (a.add (i * 2)) 2 = some (entC f) := by
      intro i hi
      obtain ⟨cs', h1, h2⟩ := hx i (by omega)
      obtain ⟨f, rfl⟩ := open_ent h2
      exact ⟨f, h1⟩
    have inh : Inhabited Ent := ⟨ent0⟩
    obtain ⟨f, hf⟩ := choose_lt each
    refine ⟨some a, _, (List.range len).map f, by simpa using hcs, ?_, by simpa using Nat.le_trans hl hm⟩
    by_cases h0 : len = 0
    · subst h0; exact .inl rfl
    right
    obtain ⟨b, off, spot⟩ := a
    have hs : spot = none := by
      obtain ⟨_, _, hc⟩ := World.cells?_some (hf 0 (by omega))
      have := hc 0 (by omega)
      have := World.cell?_spot (this.trans rfl)
      simpa [Addr.add] using this
    subst hs
    refine ⟨b, off, rfl, fun i hi => ?_⟩
    have hi' : i < len := by simpa using hi
    obtain ⟨_, _, hc⟩ := World.cells?_some (hf i hi')
    simp only [addr_add] at hc
    have e : ((List.range len).map f).getD i ent0 = f i := by simp [List.getD_eq_getElem?_getD, hi']
    rw [e]
    exact ⟨(hc 0 (by omega)).trans rfl, (hc 1 (by omega)).trans rfl⟩

/-- a slice of acts: none, or their cells from an address on -/
def ActsAt (w : World) (a : Option Addr) (l : List Act5) : Prop :=
  l = [] ∨ ∃ b off, a = some ⟨b, off, none⟩ ∧ ∀ i, i < l.length → w.cell? ⟨b, off + i * 3, none⟩ = some (.bool (l.getD i act0).pop) ∧ w.cell? ⟨b, off + i * 3 + 1, none⟩ = some (.int .i64 (l.getD i act0).x.a) ∧ w.cell? ⟨b, off + i * 3 + 2, none⟩ = some (.int .u32 (l.getD i act0).x.v)
theorem cell_later {w w' : World} {a : Addr} {v : Value} (g : Gr w w') (h : w.cell? a = some v) : w'.cell? a = some v := (Below.cell g (World.block_lt_of_cell? w a h)).trans h
theorem ActsAt.later {w w' : World} {a : Option Addr} {l : List Act5} (h : ActsAt w a l) (g : Gr w w') : ActsAt w' a l := by
  rcases h with h | ⟨b, off, ha, h⟩
  · exact .inl h
  · exact .inr ⟨b, off, ha, fun i hi => ⟨cell_later g (h i hi).1, cell_later g (h i hi).2.1, cell_later g (h i hi).2.2⟩⟩

theorem open_acts {n : Nat} {v : Value} {x : DataW H × List MemPlace} (h : DataW.trod enc Try.prog w 0 (fun _ => true) held n 22 [v] = some x) :
    ∃ a cap l, v = .slice a (l : List Act5).length cap ∧ ActsAt w a l ∧ l.length ≤ maxLen := by
  rcases open_slice Try.underlying22 h with ⟨h0, _⟩ | ⟨a, len, cap, m, n', D, Pl, hcs, _, hl, hm, hmm, _, hx⟩
  · simp at h0
    exact ⟨none, 0, [], h0, .inl rfl, Nat.zero_le _⟩
  · simp at hcs hmm
    subst hmm
    rw [cellsA] at hx
    have each : ∀ i, i < len → ∃ f : Act5, w.cells? 0 (a.add (i * 3)) 3 = some [.bool f.pop, .int .i64 f.x.a, .int .u32 f.x.v] := by
      intro i hi
      obtain ⟨cs', h1, h2⟩ := hx i (by omega)
      obtain ⟨f, rfl⟩ := open_act h2
      exact ⟨f, h1⟩
    have inh : Inhabited Act5 := ⟨act0⟩
    obtain ⟨f, hf⟩ := choose_lt each
    refine ⟨some a, _, (List.range len).map f, by simpa using hcs, ?_, by simpa using Nat.le_trans hl hm⟩
    by_cases h0 : len = 0
    · subst h0; exact .inl rfl
    right
    obtain ⟨b, off, spot⟩ := a
    have hs : spot = none := by
      obtain ⟨_, _, hc⟩ := World.cells?_some (hf 0 (by omega))
      have := hc 0 (by omega)
      have := World.cell?_spot (this.trans rfl)
      simpa [Addr.add] using this
    subst hs
    refine ⟨b, off, rfl, fun i hi => ?_⟩
    have hi' : i < len := by simpa using hi
    obtain ⟨_, _, hc⟩ := World.cells?_some (hf i hi')
    simp only [addr_add] at hc
    have e : ((List.range len).map f).getD i act0 = f i := by simp [List.getD_eq_getElem?_getD, hi']
    rw [e]
    exact ⟨(hc 0 (by omega)).trans rfl, (hc 1 (by omega)).trans rfl, (hc 2 (by omega)).trans rfl⟩

theorem cellsW : Try.prog.cellsOf 24 = 1 := by kernel_rfl
theorem open_words {n : Nat} {v : Value} {x : DataW H × List MemPlace} (h : DataW.trod enc Try.prog w 0 (fun _ => true) held n 48 [v] = some x) :
    ∃ a cap l, v = .slice a (l : List Int).length cap ∧ (WordsAt w a l ∧ (a = none → cap = 0)) ∧ l.length ≤ maxLen := by
  rcases open_ints Try.underlying48 Try.underlying24 cellsW h with ⟨hcs, _⟩ | ⟨a, len, cap, zs, hcs, _, hl, hm, hz, _, hcell, _⟩
  · simp at hcs
    exact ⟨none, 0, [], hcs, ⟨.inl rfl, fun _ => rfl⟩, Nat.zero_le _⟩
  · simp at hcs hz
    refine ⟨some a, cap, zs.take len, by rw [hcs, List.length_take, Nat.min_eq_left (by omega)], ⟨?_, fun h => by cases h⟩, by rw [List.length_take]; omega⟩
    by_cases h0 : len = 0
    · subst h0; exact .inl rfl
    right
    obtain ⟨b, off, spot⟩ := a
    have hspot : spot = none := by
      have := World.cell?_spot (hcell 0 (by omega))
      simpa [Addr.add] using this
    subst hspot
    refine ⟨b, off, rfl, fun i hi => ?_⟩
    rw [List.length_take] at hi
    have hci := hcell i (by omega)
    rw [addr_add] at hci
    rw [hci]
    congr 2
    simp only [List.getD_eq_getElem?_getD]
    rw [List.getElem?_take, if_pos (by omega)]

theorem open_entval {r : Reach} {b0 : Nat} {v : Value} {d : DataW H} {p : List MemPlace} (hv : Value.okWide Try.prog w r b0 26 v) (h : DataW.Trod enc Try.prog w 0 sp held 26 v d p) :
    ∃ i : Ent, v = .agg #[.int .i64 i.a, .int .u32 i.v] := by
  obtain ⟨cs, rfl, hsz⟩ := okWide_struct Try.underlying26 hv
  obtain ⟨n, h⟩ := h
  obtain ⟨l⟩ := cs
  simp only [Value.cells] at h
  obtain ⟨i, e⟩ := open_ent h
  exact ⟨i, by rw [e]; rfl⟩
end
end Go.Proofs.Ytiogacfejchimaa
