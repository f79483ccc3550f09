/-
  What came in, said of plain lists: slices of events. No condition.
-/
import Derived.Test.YtfhplbmgjgfihaaPlc
import Derived.ChangeSlices
import Derived.Deep.Slices
namespace Go.Proofs.Ytfhplbmgjgfihaa
open Go.ChangeShapes Go.WideShapes Go.ChangeAt Go.RowKit Go.Deep
set_option linter.unusedVariables false
set_option maxRecDepth 20000

theorem cells_evs : Try.prog.cellsOf 35 = 8 := by kernel_rfl
theorem list8 {α : Type} {l : List α} (h : l.length = 8) : ∃ a b c d e f g i, l = [a, b, c, d, e, f, g, i] := by
  match l, h with
  | [a, b, c, d, e, f, g, i], _ => exact ⟨a, b, c, d, e, f, g, i, rfl⟩
theorem addr_add (b o : Nat) (n : Nat) : (⟨b, o, none⟩ : Addr).add n = ⟨b, o + n, none⟩ := Addr.add_mid b o n

section
variable {H : Type} {enc : TypeId × Value → H} {w : World} {held : Bool}

theorem open_recs {α : Type} (f : α → List Value) (sz : Nat) (hf : ∀ x, (f x).length = sz) (hsz : 0 < sz) (d0 : α) (ok : α → Prop) {T t : TypeId} (hT : Try.prog.underlying T = some (.slice t)) (hc : Try.prog.cellsOf t = sz)
    (each : ∀ {n : Nat} {cs : List Value} {x : DataW H × List MemPlace}, DataW.trod enc Try.prog w 0 (fun _ => true) held n t cs = some x → ∃ i, cs = f i ∧ ok i)
    {n : Nat} {v : Value} {x : DataW H × List MemPlace} (h : DataW.trod enc Try.prog w 0 (fun _ => true) held n T [v] = some x) :
    ∃ a cap l, v = .slice a (l : List α).length cap ∧ RowAt w a (flatOf f l) ∧ (∀ i ∈ l, ok i) ∧ (a = none → cap = 0 ∧ l = []) ∧ l.length ≤ maxLen := by
  rcases open_slice hT h with ⟨h0, _⟩ | ⟨a, len, cap, m, n', D, Pl, hcs, _, hl, hm, hmm, _, hx⟩
  · simp at h0
    exact ⟨none, 0, [], h0, .inl rfl, by simp, by simp, Nat.zero_le _⟩
  · simp at hcs hmm
    subst hmm
    rw [hc] at hx
    have each' : ∀ i, i < len → ∃ g : α, w.cells? 0 (a.add (i * sz)) sz = some (f g) ∧ ok g := by
      intro i hi
      obtain ⟨cs', h1, h2⟩ := hx i (by omega)
      obtain ⟨g, rfl, hg⟩ := each h2
      exact ⟨g, h1, hg⟩
    have inh : Inhabited α := ⟨d0⟩
    obtain ⟨g, hg⟩ := choose_lt each'
    refine ⟨some a, _, (List.range len).map g, by simpa using hcs, ?_, ?_, by simp, by simpa using Nat.le_trans hl hm⟩
    · by_cases h0 : len = 0
      · subst h0; exact .inl rfl
      right
      obtain ⟨b, off, spot⟩ := a
      have hs : spot = none := by
        obtain ⟨_, _, hc⟩ := World.cells?_some (hg 0 (by omega)).1
        have h1 := hc 0 hsz
        rw [List.getElem?_eq_getElem (by rw [hf]; exact hsz)] at h1
        have := World.cell?_spot h1
        simpa [Addr.add] using this
      subst hs
      refine ⟨b, off, rfl, fun j hj => ?_⟩
      rw [flatOf_length hf, List.length_map, List.length_range] at hj
      obtain ⟨i, r, rfl, hi, hr⟩ : ∃ i r, j = i * sz + r ∧ i < len ∧ r < sz :=
        ⟨j / sz, j % sz, (Nat.div_add_mod' j sz).symm, Nat.div_lt_of_lt_mul (by rw [Nat.mul_comm]; exact hj), Nat.mod_lt _ hsz⟩
      obtain ⟨_, _, hcell⟩ := World.cells?_some (hg i hi).1
      have h1 := hcell r hr
      simp only [addr_add] at h1
      rw [flatOf_get hf _ i r d0 (by simpa using hi) hr, ← Nat.add_assoc, h1]
      simp [List.getD_eq_getElem?_getD, hi]
    · intro i hi
      obtain ⟨j, hj, rfl⟩ := List.mem_map.1 hi
      exact (hg j (List.mem_range.1 hj)).2

theorem open_ev1 {n : Nat} {cs : List Value} {x : DataW H × List MemPlace} (h : DataW.trod enc Try.prog w 0 (fun _ => true) held n 35 cs = some x) : ∃ i : Ev, cs = evL i ∧ EvOk i := by
  obtain ⟨xs, m, rfl, _, hl, hlen, hf⟩ := DataW.trod_struct Try.underlying35 h
  rw [cells_evs] at hl
  obtain ⟨c0, c1, c2, c3, c4, c5, c6, c7, rfl⟩ := list8 hl
  obtain ⟨x0, x1, x2, x3, x4, x5, x6, x7, rfl⟩ := list8 hlen
  obtain ⟨n0, e0, _, _⟩ := DataW.trod_int Try.underlying3 (hf 0 _ rfl)
  obtain ⟨n1, e1, _, _⟩ := DataW.trod_int Try.underlying3 (hf 1 _ rfl)
  obtain ⟨n2, e2, _, _⟩ := DataW.trod_int Try.underlying3 (hf 2 _ rfl)
  obtain ⟨n3, e3, _, _⟩ := DataW.trod_int Try.underlying3 (hf 3 _ rfl)
  obtain ⟨n4, e4, _, _⟩ := DataW.trod_int Try.underlying33 (hf 4 _ rfl)
  obtain ⟨n5, e5, _, _⟩ := DataW.trod_int Try.underlying33 (hf 5 _ rfl)
  obtain ⟨n6, e6, _, w6⟩ := DataW.trod_int Try.underlying33 (hf 6 _ rfl)
  obtain ⟨n7, e7, _⟩ := DataW.trod_bool Try.underlying4 (hf 7 _ rfl)
  have q0 : [c0] = [Value.int .i64 n0] := e0
  have q1 : [c1] = [Value.int .i64 n1] := e1
  have q2 : [c2] = [Value.int .i64 n2] := e2
  have q3 : [c3] = [Value.int .i64 n3] := e3
  have q4 : [c4] = [Value.int .u32 n4] := e4
  have q5 : [c5] = [Value.int .u32 n5] := e5
  have q6 : [c6] = [Value.int .u32 n6] := e6
  have q7 : [c7] = [Value.bool n7] := e7
  simp only [List.cons.injEq, and_true] at q0 q1 q2 q3 q4 q5 q6 q7
  subst q0 q1 q2 q3 q4 q5 q6 q7
  have := bounds_u32 w6
  exact ⟨⟨n0, n1, n2, n3, n4, n5, n6, n7⟩, rfl, this.1, by show n6 < 4294967296; omega⟩
theorem open_evs {n : Nat} {v : Value} {x : DataW H × List MemPlace} (h : DataW.trod enc Try.prog w 0 (fun _ => true) held n 22 [v] = some x) :
    ∃ a cap l, v = .slice a (l : List Ev).length cap ∧ (RowAt w a (flatOf evL l) ∧ (∀ i ∈ l, EvOk i) ∧ (a = none → cap = 0 ∧ l = [])) ∧ l.length ≤ maxLen := by
  obtain ⟨a, cap, l, h1, h2, h3, h4, h5⟩ := open_recs evL 8 evL_len (by omega) ev0 EvOk Try.underlying22 cells_evs (fun q => open_ev1 q) h
  exact ⟨a, cap, l, h1, ⟨h2, h3, h4⟩, h5⟩
end
end Go.Proofs.Ytfhplbmgjgfihaa
