/-
  What an input of CoreSame holds, said of plain lists. No condition.
-/
import Derived.Test.YtbmlliohepidaaaDoorOpn
namespace Go.Proofs.YtbmlliohepidaaaDoor
open Go.ChangeShapes Go.WideShapes Go.ChangeAt Go.RowKit Go.Deep
set_option linter.unusedVariables false
set_option maxRecDepth 20000

section
variable {H : Type} {enc : TypeId × Value → H} {w : World} {held : Bool}
theorem open_inp2 {r : Reach} {b0 : Nat} {v : Value} {d : DataW H} {p : List MemPlace} (hv : Value.okWide Tryd.prog w r b0 31 v) (h : DataW.Trod enc Tryd.prog w 0 (fun _ => true) held 31 v d p) :
    ∃ q : InD, v = .agg (inC q) ∧ InAt q w ∧ (q.ca = none → q.cc = 0 ∧ q.code = []) := by
  obtain ⟨cs, rfl, hsz⟩ := okWide_struct Tryd.underlying31 hv
  obtain ⟨n, h⟩ := h
  obtain ⟨l⟩ := cs
  simp only [Value.cells] at h
  obtain ⟨xs, m, rfl, _, hl, hlen, hf⟩ := DataW.trod_struct Tryd.underlying31 h
  rw [cells_inp] at hl
  obtain ⟨c0, d0, d1, d2, d3, d4, d5, d6, d7, c9, v1, v2, v3, v4, v5, rfl⟩ := list15 hl
  obtain ⟨x0, x1, x2, x3, x4, x5, rfl⟩ := list6 hlen
  have h0 : DataW.trod enc Tryd.prog w 0 (fun _ => true) held m 25 [c0, d0, d1, d2, d3, d4, d5, d6, d7, c9] = some x0 := hf 0 _ rfl
  have h1 : DataW.trod enc Tryd.prog w 0 (fun _ => true) held m 26 [v1] = some x1 := hf 1 _ rfl
  have h2 : DataW.trod enc Tryd.prog w 0 (fun _ => true) held m 27 [v2] = some x2 := hf 2 _ rfl
  have h3 : DataW.trod enc Tryd.prog w 0 (fun _ => true) held m 28 [v3] = some x3 := hf 3 _ rfl
  have h5 : DataW.trod enc Tryd.prog w 0 (fun _ => true) held m 29 [v5] = some x5 := hf 5 _ rfl
  obtain ⟨t, e0, ht⟩ := open_thr h0
  obtain ⟨a1, n1, l1, rfl, r1, o1, z1, -⟩ := open_inss h1
  obtain ⟨a2, n2, l2, rfl, r2, o2, -, -⟩ := open_entsR h2
  obtain ⟨a3, n3, l3, rfl, r3, o3, z3, -⟩ := open_wordsR h3
  obtain ⟨k4, e4, w4⟩ := open_byt1 (hf 4 _ rfl)
  obtain ⟨a5, n5, l5, rfl, r5, o5, -, -⟩ := open_bytesR h5
  have q4 : [v4] = [Value.int .u8 k4] := e4
  simp only [List.cons.injEq, and_true] at q4
  subst q4
  refine ⟨⟨t, l1, l2, l3, k4.toNat, l5, a1, n1, a2, n2, a3, n3, a5, n5⟩, ?_, ⟨ht, o1, o3, o2, o5, r1, r2, r3, r5, by show k4.toNat < 256; omega, z3⟩, z1⟩
  have e5 : ((k4.toNat : Nat) : Int) = k4 := by omega
  show Value.agg _ = Value.agg (thL t ++ [Value.slice a1 l1.length n1, Value.slice a2 l2.length n2, Value.slice a3 l3.length n3, Value.int .u8 ((k4.toNat : Nat) : Int), Value.slice a5 l5.length n5]).toArray
  rw [e5, ← e0]
  rfl
end
end Go.Proofs.YtbmlliohepidaaaDoor
