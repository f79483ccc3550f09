/-
  What came in, said of plain lists: slices of records, instructions, entries, words, bytes, a thread, an input of stage 8's laws. No condition.
-/
import Derived.Test.YtbmlliohepidaaaDoorInp
import Derived.ChangeSlices
import Derived.Deep.Slices
namespace Go.Proofs.YtbmlliohepidaaaDoor
open Go.ChangeShapes Go.WideShapes Go.ChangeAt Go.RowKit Go.Deep
set_option linter.unusedVariables false
set_option maxRecDepth 20000

theorem cells_ins : Tryd.prog.cellsOf 54 = 5 := by kernel_rfl
theorem cells_ent : Tryd.prog.cellsOf 83 = 2 := by kernel_rfl
theorem cells_wrd : Tryd.prog.cellsOf 22 = 1 := by kernel_rfl
theorem cells_byt : Tryd.prog.cellsOf 5 = 1 := by kernel_rfl
theorem cells_thr : Tryd.prog.cellsOf 25 = 10 := by kernel_rfl
theorem cells_inp : Tryd.prog.cellsOf 31 = 15 := by kernel_rfl

theorem list2 {α : Type} {l : List α} (h : l.length = 2) : ∃ a b, l = [a, b] := by
  match l, h with
  | [a, b], _ => exact ⟨a, b, rfl⟩
theorem list3 {α : Type} {l : List α} (h : l.length = 3) : ∃ a b c, l = [a, b, c] := by
  match l, h with
  | [a, b, c], _ => exact ⟨a, b, c, rfl⟩
theorem list5 {α : Type} {l : List α} (h : l.length = 5) : ∃ a b c d e, l = [a, b, c, d, e] := by
  match l, h with
  | [a, b, c, d, e], _ => exact ⟨a, b, c, d, e, rfl⟩
theorem list6 {α : Type} {l : List α} (h : l.length = 6) : ∃ a b c d e f, l = [a, b, c, d, e, f] := by
  match l, h with
  | [a, b, c, d, e, f], _ => exact ⟨a, b, c, d, e, f, rfl⟩
theorem list8 {α : Type} {l : List α} (h : l.length = 8) : ∃ a b c d e f g i, l = [a, b, c, d, e, f, g, i] := by
  match l, h with
  | [a, b, c, d, e, f, g, i], _ => exact ⟨a, b, c, d, e, f, g, i, rfl⟩
theorem list10 {α : Type} {l : List α} (h : l.length = 10) : ∃ p a b c d e f g i q, l = [p, a, b, c, d, e, f, g, i, q] := by
  match l, h with
  | [p, a, b, c, d, e, f, g, i, q], _ => exact ⟨p, a, b, c, d, e, f, g, i, q, rfl⟩
theorem list15 {α : Type} {l : List α} (h : l.length = 15) : ∃ p a b c d e f g i q s t u v x, l = [p, a, b, c, d, e, f, g, i, q, s, t, u, v, x] := by
  match l, h with
  | [p, a, b, c, d, e, f, g, i, q, s, t, u, v, x], _ => exact ⟨p, a, b, c, d, e, f, g, i, q, s, t, u, v, x, rfl⟩
theorem addr_add (b o : Nat) (n : Nat) : (⟨b, o, none⟩ : Addr).add n = ⟨b, o + n, none⟩ := Addr.add_mid b o n

section
variable {H : Type} {enc : TypeId × Value → H} {w : World} {held : Bool}

theorem open_recs {α : Type} (f : α → List Value) (sz : Nat) (hf : ∀ x, (f x).length = sz) (hsz : 0 < sz) (d0 : α) (ok : α → Prop) {T t : TypeId} (hT : Tryd.prog.underlying T = some (.slice t)) (hc : Tryd.prog.cellsOf t = sz)
    (each : ∀ {n : Nat} {cs : List Value} {x : DataW H × List MemPlace}, DataW.trod enc Tryd.prog w 0 (fun _ => true) held n t cs = some x → ∃ i, cs = f i ∧ ok i)
    {n : Nat} {v : Value} {x : DataW H × List MemPlace} (h : DataW.trod enc Tryd.prog w 0 (fun _ => true) held n T [v] = some x) :
    ∃ a cap l, v = .slice a (l : List α).length cap ∧ RowAt w a (flatOf f l) ∧ (∀ i ∈ l, ok i) ∧ (a = none → cap = 0 ∧ l = []) ∧ l.length ≤ maxLen := by
  rcases open_slice hT h with ⟨h0, _⟩ | ⟨a, len, cap, m, n', D, Pl, hcs, _, hl, hm, hmm, _, hx⟩
  · simp at h0
    exact ⟨none, 0, [], h0, .inl rfl, by simp, by simp, Nat.zero_le _⟩
  · simp at hcs hmm
    subst hmm
    rw [hc] at hx
    have each' : ∀ i, i < len → ∃ g : α, w.cells? 0 (a.add (i * sz)) sz = some (f g) ∧ ok g := by
      intro i hi
      obtain ⟨cs', h1, h2⟩ := hx i (by omega)
      obtain ⟨g, rfl, hg⟩ := each h2
      exact ⟨g, h1, hg⟩
    have inh : Inhabited α := ⟨d0⟩
    obtain ⟨g, hg⟩ := choose_lt each'
    refine ⟨some a, _, (List.range len).map g, by simpa using hcs, ?_, ?_, by simp, by simpa using Nat.le_trans hl hm⟩
    · by_cases h0 : len = 0
      · subst h0; exact .inl rfl
      right
      obtain ⟨b, off, spot⟩ := a
      have hs : spot = none := by
        obtain ⟨_, _, hc⟩ := World.cells?_some (hg 0 (by omega)).1
        have h1 := hc 0 hsz
        rw [List.getElem?_eq_getElem (by rw [hf]; exact hsz)] at h1
        have := World.cell?_spot h1
        simpa [Addr.add] using this
      subst hs
      refine ⟨b, off, rfl, fun j hj => ?_⟩
      rw [flatOf_length hf, List.length_map, List.length_range] at hj
      obtain ⟨i, r, rfl, hi, hr⟩ : ∃ i r, j = i * sz + r ∧ i < len ∧ r < sz :=
        ⟨j / sz, j % sz, (Nat.div_add_mod' j sz).symm, Nat.div_lt_of_lt_mul (by rw [Nat.mul_comm]; exact hj), Nat.mod_lt _ hsz⟩
      obtain ⟨_, _, hcell⟩ := World.cells?_some (hg i hi).1
      have h1 := hcell r hr
      simp only [addr_add] at h1
      rw [flatOf_get hf _ i r d0 (by simpa using hi) hr, ← Nat.add_assoc, h1]
      simp [List.getD_eq_getElem?_getD, hi]
    · intro i hi
      obtain ⟨j, hj, rfl⟩ := List.mem_map.1 hi
      exact (hg j (List.mem_range.1 hj)).2

theorem open_ins1 {n : Nat} {cs : List Value} {x : DataW H × List MemPlace} (h : DataW.trod enc Tryd.prog w 0 (fun _ => true) held n 54 cs = some x) : ∃ i : Ins, cs = insL i ∧ InsOk i := by
  obtain ⟨xs, m, rfl, _, hl, hlen, hf⟩ := DataW.trod_struct Tryd.underlying54 h
  rw [cells_ins] at hl
  obtain ⟨c0, c1, c2, c3, c4, rfl⟩ := list5 hl
  obtain ⟨x0, x1, x2, x3, x4, rfl⟩ := list5 hlen
  obtain ⟨n0, e0, _, _⟩ := DataW.trod_int Tryd.underlying3 (hf 0 _ rfl)
  obtain ⟨n1, e1, _, _⟩ := DataW.trod_int Tryd.underlying3 (hf 1 _ rfl)
  obtain ⟨n2, e2, _, _⟩ := DataW.trod_int Tryd.underlying3 (hf 2 _ rfl)
  obtain ⟨n3, e3, _, _⟩ := DataW.trod_int Tryd.underlying3 (hf 3 _ rfl)
  obtain ⟨n4, e4, _, w4⟩ := DataW.trod_int Tryd.underlying22 (hf 4 _ rfl)
  have q0 : [c0] = [Value.int .i64 n0] := e0
  have q1 : [c1] = [Value.int .i64 n1] := e1
  have q2 : [c2] = [Value.int .i64 n2] := e2
  have q3 : [c3] = [Value.int .i64 n3] := e3
  have q4 : [c4] = [Value.int .u32 n4] := e4
  simp only [List.cons.injEq, and_true] at q0 q1 q2 q3 q4
  subst q0 q1 q2 q3 q4
  have := bounds_u32 w4
  exact ⟨⟨n0, n1, n2, n3, n4⟩, rfl, this.1, by show n4 < 4294967296; omega⟩
theorem open_ent1 {n : Nat} {cs : List Value} {x : DataW H × List MemPlace} (h : DataW.trod enc Tryd.prog w 0 (fun _ => true) held n 83 cs = some x) : ∃ i : Ent, cs = entL i ∧ U32 i.v := by
  obtain ⟨xs, m, rfl, _, hl, hlen, hf⟩ := DataW.trod_struct Tryd.underlying83 h
  rw [cells_ent] at hl
  obtain ⟨c0, c1, rfl⟩ := list2 hl
  obtain ⟨x0, x1, rfl⟩ := list2 hlen
  obtain ⟨n0, e0, _, _⟩ := DataW.trod_int Tryd.underlying3 (hf 0 _ rfl)
  obtain ⟨n1, e1, _, w1⟩ := DataW.trod_int Tryd.underlying22 (hf 1 _ rfl)
  have q0 : [c0] = [Value.int .i64 n0] := e0
  have q1 : [c1] = [Value.int .u32 n1] := e1
  simp only [List.cons.injEq, and_true] at q0 q1
  subst q0 q1
  have := bounds_u32 w1
  exact ⟨⟨n0, n1⟩, rfl, this.1, by show n1 < 4294967296; omega⟩
theorem open_wrd1 {n : Nat} {cs : List Value} {x : DataW H × List MemPlace} (h : DataW.trod enc Tryd.prog w 0 (fun _ => true) held n 22 cs = some x) : ∃ i : Int, cs = wordL i ∧ U32 i := by
  obtain ⟨n1, e1, _, w1⟩ := DataW.trod_int Tryd.underlying22 h
  have := bounds_u32 w1
  exact ⟨n1, e1, this.1, by omega⟩
theorem open_byt1 {n : Nat} {cs : List Value} {x : DataW H × List MemPlace} (h : DataW.trod enc Tryd.prog w 0 (fun _ => true) held n 5 cs = some x) : ∃ i : Int, cs = byteL i ∧ (0 ≤ i ∧ i < 256) := by
  obtain ⟨n1, e1, _, w1⟩ := DataW.trod_int Tryd.underlying5 h
  have := bounds_u8 w1
  exact ⟨n1, e1, this.1, by omega⟩
theorem open_thr {n : Nat} {cs : List Value} {x : DataW H × List MemPlace} (h : DataW.trod enc Tryd.prog w 0 (fun _ => true) held n 25 cs = some x) : ∃ t : Th, cs = thL t ∧ ThOk t := by
  obtain ⟨xs, m, rfl, _, hl, hlen, hf⟩ := DataW.trod_struct Tryd.underlying25 h
  rw [cells_thr] at hl
  obtain ⟨c0, d0, d1, d2, d3, d4, d5, d6, d7, c9, rfl⟩ := list10 hl
  obtain ⟨x0, x1, x2, rfl⟩ := list3 hlen
  obtain ⟨n0, e0, _, _⟩ := DataW.trod_int Tryd.underlying3 (hf 0 _ rfl)
  obtain ⟨n9, e9, _, _⟩ := DataW.trod_int Tryd.underlying3 (hf 2 _ rfl)
  have q0 : [c0] = [Value.int .i64 n0] := e0
  have q9 : [c9] = [Value.int .i64 n9] := e9
  simp only [List.cons.injEq, and_true] at q0 q9
  subst q0 q9
  have h1 : DataW.trod enc Tryd.prog w 0 (fun _ => true) held m 23 [d0, d1, d2, d3, d4, d5, d6, d7] = some x1 := hf 1 _ rfl
  obtain ⟨ys, m2, rfl, _, _, hyn, hel⟩ := DataW.trod_array Tryd.underlying23 h1
  have each : ∀ (i : Nat) (v : Value), i < 8 → [d0, d1, d2, d3, d4, d5, d6, d7][i]? = some v → ∃ k : Int, v = .int .u32 k ∧ U32 k := by
    intro i v hi hv
    have he := hel i hi
    rw [List.getElem?_eq_getElem (by omega), cells_wrd, Nat.mul_one] at he
    obtain ⟨k, ek, hk⟩ := open_wrd1 he
    have := congrArg (fun l => l[0]?) ek
    simp only [List.getElem?_take, List.getElem?_drop, Nat.add_zero, Nat.zero_lt_one, if_true] at this
    rw [hv] at this
    exact ⟨k, by simpa [wordL] using this, hk⟩
  obtain ⟨k0, rfl, u0⟩ := each 0 d0 (by omega) rfl
  obtain ⟨k1, rfl, u1⟩ := each 1 d1 (by omega) rfl
  obtain ⟨k2, rfl, u2⟩ := each 2 d2 (by omega) rfl
  obtain ⟨k3, rfl, u3⟩ := each 3 d3 (by omega) rfl
  obtain ⟨k4, rfl, u4⟩ := each 4 d4 (by omega) rfl
  obtain ⟨k5, rfl, u5⟩ := each 5 d5 (by omega) rfl
  obtain ⟨k6, rfl, u6⟩ := each 6 d6 (by omega) rfl
  obtain ⟨k7, rfl, u7⟩ := each 7 d7 (by omega) rfl
  refine ⟨⟨n0, [k0, k1, k2, k3, k4, k5, k6, k7], n9⟩, rfl, rfl, ?_⟩
  intro x hx
  simp only [List.mem_cons, List.not_mem_nil, or_false] at hx
  rcases hx with rfl | rfl | rfl | rfl | rfl | rfl | rfl | rfl <;> assumption

theorem open_inss {n : Nat} {v : Value} {x : DataW H × List MemPlace} (h : DataW.trod enc Tryd.prog w 0 (fun _ => true) held n 26 [v] = some x) :
    ∃ a cap l, v = .slice a (l : List Ins).length cap ∧ RowAt w a (flatOf insL l) ∧ (∀ i ∈ l, InsOk i) ∧ (a = none → cap = 0 ∧ l = []) ∧ l.length ≤ maxLen :=
  open_recs insL 5 insL_len (by omega) ins0 InsOk Tryd.underlying26 cells_ins open_ins1 h
theorem open_entsR {n : Nat} {v : Value} {x : DataW H × List MemPlace} (h : DataW.trod enc Tryd.prog w 0 (fun _ => true) held n 27 [v] = some x) :
    ∃ a cap l, v = .slice a (l : List Ent).length cap ∧ RowAt w a (flatOf entL l) ∧ (∀ i ∈ l, U32 i.v) ∧ (a = none → cap = 0 ∧ l = []) ∧ l.length ≤ maxLen :=
  open_recs entL 2 entL_len (by omega) ent0 (fun i => U32 i.v) Tryd.underlying27 cells_ent open_ent1 h
theorem open_wordsR {n : Nat} {v : Value} {x : DataW H × List MemPlace} (h : DataW.trod enc Tryd.prog w 0 (fun _ => true) held n 28 [v] = some x) :
    ∃ a cap l, v = .slice a (l : List Int).length cap ∧ RowAt w a (flatOf wordL l) ∧ (∀ i ∈ l, U32 i) ∧ (a = none → cap = 0 ∧ l = []) ∧ l.length ≤ maxLen :=
  open_recs wordL 1 wordL_len (by omega) 0 U32 Tryd.underlying28 cells_wrd open_wrd1 h
theorem open_bytesR {n : Nat} {v : Value} {x : DataW H × List MemPlace} (h : DataW.trod enc Tryd.prog w 0 (fun _ => true) held n 29 [v] = some x) :
    ∃ a cap l, v = .slice a (l : List Int).length cap ∧ RowAt w a (flatOf byteL l) ∧ (∀ i ∈ l, 0 ≤ i ∧ i < 256) ∧ (a = none → cap = 0 ∧ l = []) ∧ l.length ≤ maxLen :=
  open_recs byteL 1 byteL_len (by omega) 0 (fun i => 0 ≤ i ∧ i < 256) Tryd.underlying29 cells_byt open_byt1 h

theorem open_inp {r : Reach} {b0 : Nat} {v : Value} {d : DataW H} {p : List MemPlace} (hv : Value.okWide Tryd.prog w r b0 31 v) (h : DataW.Trod enc Tryd.prog w 0 (fun _ => true) held 31 v d p) :
    ∃ q : InD, v = .agg (inC q) ∧ InAt q w := by
  obtain ⟨cs, rfl, hsz⟩ := okWide_struct Tryd.underlying31 hv
  obtain ⟨n, h⟩ := h
  obtain ⟨l⟩ := cs
  simp only [Value.cells] at h
  obtain ⟨xs, m, rfl, _, hl, hlen, hf⟩ := DataW.trod_struct Tryd.underlying31 h
  rw [cells_inp] at hl
  obtain ⟨c0, d0, d1, d2, d3, d4, d5, d6, d7, c9, v1, v2, v3, v4, v5, rfl⟩ := list15 hl
  obtain ⟨x0, x1, x2, x3, x4, x5, rfl⟩ := list6 hlen
  have h0 : DataW.trod enc Tryd.prog w 0 (fun _ => true) held m 25 [c0, d0, d1, d2, d3, d4, d5, d6, d7, c9] = some x0 := hf 0 _ rfl
  have h1 : DataW.trod enc Tryd.prog w 0 (fun _ => true) held m 26 [v1] = some x1 := hf 1 _ rfl
  have h2 : DataW.trod enc Tryd.prog w 0 (fun _ => true) held m 27 [v2] = some x2 := hf 2 _ rfl
  have h3 : DataW.trod enc Tryd.prog w 0 (fun _ => true) held m 28 [v3] = some x3 := hf 3 _ rfl
  have h5 : DataW.trod enc Tryd.prog w 0 (fun _ => true) held m 29 [v5] = some x5 := hf 5 _ rfl
  obtain ⟨t, e0, ht⟩ := open_thr h0
  obtain ⟨a1, n1, l1, rfl, r1, o1, -, -⟩ := open_inss h1
  obtain ⟨a2, n2, l2, rfl, r2, o2, -, -⟩ := open_entsR h2
  obtain ⟨a3, n3, l3, rfl, r3, o3, z3, -⟩ := open_wordsR h3
  obtain ⟨k4, e4, w4⟩ := open_byt1 (hf 4 _ rfl)
  obtain ⟨a5, n5, l5, rfl, r5, o5, -, -⟩ := open_bytesR h5
  have q4 : [v4] = [Value.int .u8 k4] := e4
  simp only [List.cons.injEq, and_true] at q4
  subst q4
  refine ⟨⟨t, l1, l2, l3, k4.toNat, l5, a1, n1, a2, n2, a3, n3, a5, n5⟩, ?_, ht, o1, o3, o2, o5, r1, r2, r3, r5, by show k4.toNat < 256; omega, z3⟩
  have e5 : ((k4.toNat : Nat) : Int) = k4 := by omega
  show Value.agg _ = Value.agg (thL t ++ [Value.slice a1 l1.length n1, Value.slice a2 l2.length n2, Value.slice a3 l3.length n3, Value.int .u8 ((k4.toNat : Nat) : Int), Value.slice a5 l5.length n5]).toArray
  rw [e5, ← e0]
  rfl
end
end Go.Proofs.YtbmlliohepidaaaDoor

namespace Go.Proofs.YtbmlliohepidaaaDoor
open Go.ChangeShapes Go.WideShapes Go.ChangeAt Go.RowKit Go.Deep
set_option linter.unusedVariables false
set_option maxRecDepth 20000

section
variable {H : Type} {enc : TypeId × Value → H} {w : World} {held : Bool}
theorem open_inp2 {r : Reach} {b0 : Nat} {v : Value} {d : DataW H} {p : List MemPlace} (hv : Value.okWide Tryd.prog w r b0 31 v) (h : DataW.Trod enc Tryd.prog w 0 (fun _ => true) held 31 v d p) :
    ∃ q : InD, v = .agg (inC q) ∧ InAt q w ∧ (q.ca = none → q.cc = 0 ∧ q.code = []) := by
  obtain ⟨cs, rfl, hsz⟩ := okWide_struct Tryd.underlying31 hv
  obtain ⟨n, h⟩ := h
  obtain ⟨l⟩ := cs
  simp only [Value.cells] at h
  obtain ⟨xs, m, rfl, _, hl, hlen, hf⟩ := DataW.trod_struct Tryd.underlying31 h
  rw [cells_inp] at hl
  obtain ⟨c0, d0, d1, d2, d3, d4, d5, d6, d7, c9, v1, v2, v3, v4, v5, rfl⟩ := list15 hl
  obtain ⟨x0, x1, x2, x3, x4, x5, rfl⟩ := list6 hlen
  have h0 : DataW.trod enc Tryd.prog w 0 (fun _ => true) held m 25 [c0, d0, d1, d2, d3, d4, d5, d6, d7, c9] = some x0 := hf 0 _ rfl
  have h1 : DataW.trod enc Tryd.prog w 0 (fun _ => true) held m 26 [v1] = some x1 := hf 1 _ rfl
  have h2 : DataW.trod enc Tryd.prog w 0 (fun _ => true) held m 27 [v2] = some x2 := hf 2 _ rfl
  have h3 : DataW.trod enc Tryd.prog w 0 (fun _ => true) held m 28 [v3] = some x3 := hf 3 _ rfl
  have h5 : DataW.trod enc Tryd.prog w 0 (fun _ => true) held m 29 [v5] = some x5 := hf 5 _ rfl
  obtain ⟨t, e0, ht⟩ := open_thr h0
  obtain ⟨a1, n1, l1, rfl, r1, o1, z1, -⟩ := open_inss h1
  obtain ⟨a2, n2, l2, rfl, r2, o2, -, -⟩ := open_entsR h2
  obtain ⟨a3, n3, l3, rfl, r3, o3, z3, -⟩ := open_wordsR h3
  obtain ⟨k4, e4, w4⟩ := open_byt1 (hf 4 _ rfl)
  obtain ⟨a5, n5, l5, rfl, r5, o5, -, -⟩ := open_bytesR h5
  have q4 : [v4] = [Value.int .u8 k4] := e4
  simp only [List.cons.injEq, and_true] at q4
  subst q4
  refine ⟨⟨t, l1, l2, l3, k4.toNat, l5, a1, n1, a2, n2, a3, n3, a5, n5⟩, ?_, ⟨ht, o1, o3, o2, o5, r1, r2, r3, r5, by show k4.toNat < 256; omega, z3⟩, z1⟩
  have e5 : ((k4.toNat : Nat) : Int) = k4 := by omega
  show Value.agg _ = Value.agg (thL t ++ [Value.slice a1 l1.length n1, Value.slice a2 l2.length n2, Value.slice a3 l3.length n3, Value.int .u8 ((k4.toNat : Nat) : Int), Value.slice a5 l5.length n5]).toArray
  rw [e5, ← e0]
  rfl
end
end Go.Proofs.YtbmlliohepidaaaDoor
