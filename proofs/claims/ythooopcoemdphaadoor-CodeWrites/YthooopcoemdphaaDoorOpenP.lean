/-
  What a program that came in holds, said of cells and plain numbers. No condition.
-/
import Derived.Test.YthooopcoemdphaaDoorPgAt
namespace Go.Proofs.YthooopcoemdphaaDoor
open Go.ChangeShapes Go.WideShapes Go.ChangeAt Go.RowKit Go.Deep
set_option linter.unusedVariables false

section
variable {H : Type} {enc : TypeId × Value → H} {w : World} {held : Bool}
theorem open_mem {n : Nat} {v : Value} {x : DataW H × List MemPlace} (h : DataW.trod enc Tryd.prog w 0 (fun _ => true) held n 25 [v] = some x) : ∃ a m cap, v = .slice a (List.length m) cap ∧ MemAt w a m := by
  rcases open_ints Tryd.underlying25 Tryd.underlying45 (by kernel_rfl) h with ⟨hcs, _⟩ | ⟨x, l, c, zs, hcs, _, hl, hm, hz, _, hcell, hwz⟩
  · simp at hcs
    exact ⟨none, [], 0, hcs, Nat.zero_le _, .inl rfl, by intro x hx; simp at hx⟩
  · simp at hcs
    have hzl : zs.length = c := by simpa using hz
    have e : (zs.take l).length = l := by rw [List.length_take]; omega
    refine ⟨some x, zs.take l, c, by rw [e]; exact hcs, by rw [e]; omega, ?_, fun y hy => by have := bounds_u32 (hwz y (List.mem_of_mem_take hy)); omega⟩
    by_cases h0 : l = 0
    · exact .inl (by simp [h0])
    · obtain ⟨b, off, spot⟩ := x
      have hc := hcell 0 (by omega)
      have hspot : spot = none := by simpa [Addr.add] using World.cell?_spot hc
      subst hspot
      refine .inr ⟨b, off, rfl, fun j y hy => ?_⟩
      have hj : j < l := by
        rcases Nat.lt_or_ge j l with h' | h'
        · exact h'
        · rw [List.getElem?_eq_none (by omega)] at hy; cases hy
      rw [List.getElem?_take, if_pos hj] at hy
      have hcj := hcell j (by omega)
      rw [Addr.add_mid] at hcj
      rw [hcj, List.getD_eq_getElem?_getD, hy]
      rfl
theorem code_list {a : Option Addr} {len : Nat} {A : Nat → Option Addr} {L C : Nat → Nat} {F : Nat → Nat → Ins} (h : CodeRow w a len A L C F) (m : List Int) (room : Int) :
    ∃ cs : List (List Ins), cs.length = len ∧ CodeRow w a cs.length A (Pg.L ⟨cs, m, room⟩) C (Pg.F ⟨cs, m, room⟩) := by
  refine ⟨(List.range len).map fun r => (List.range (L r)).map (F r), by simp, ?_⟩
  have e0 : ((List.range len).map fun r => (List.range (L r)).map (F r)).length = len := by simp
  have eG : ∀ r, r < len → ((List.range len).map fun r => (List.range (L r)).map (F r)).getD r [] = (List.range (L r)).map (F r) := by
    intro r hr
    rw [List.getD_eq_getElem?_getD, List.getElem?_map, List.getElem?_range hr]
    rfl
  rw [e0]
  refine ⟨h.1, ?_⟩
  rcases h.2 with h0 | ⟨b, off, ha, hr⟩
  · exact .inl h0
  · refine .inr ⟨b, off, ha, fun r hlt => ?_⟩
    have eL : Pg.L ⟨(List.range len).map fun r => (List.range (L r)).map (F r), m, room⟩ r = L r := by
      unfold Pg.L
      simp only
      rw [eG r hlt]
      simp
    have eF : ∀ i, i < L r → Pg.F ⟨(List.range len).map fun r => (List.range (L r)).map (F r), m, room⟩ r i = F r i := by
      intro i hi
      unfold Pg.F
      simp only
      rw [eG r hlt, List.getD_eq_getElem?_getD, List.getElem?_map, List.getElem?_range hi]
      rfl
    rw [eL]
    refine ⟨(hr r hlt).1, (hr r hlt).2.1, ?_⟩
    rcases (hr r hlt).2.2 with h0 | ⟨b2, off2, ha2, hl⟩
    · exact .inl h0
    · exact .inr ⟨b2, off2, ha2, fun i hi => by rw [eF i hi]; exact hl i hi⟩
theorem open_pg {r : Reach} {b0 : Nat} {v : Value} {d : DataW H} {p : List MemPlace} (hv : Value.okWide Tryd.prog w r b0 27 v) (h : DataW.Trod enc Tryd.prog w 0 (fun _ => true) held 27 v d p) : ∃ q : Pg, ProgAt w v q := by
  obtain ⟨cs, rfl, hsz⟩ := okWide_struct Tryd.underlying27 hv
  obtain ⟨n, h⟩ := h
  obtain ⟨l⟩ := cs
  simp only [Value.cells] at h
  obtain ⟨xs, m, rfl, _, hl, hlen, hf⟩ := DataW.trod_struct Tryd.underlying27 h
  rw [cells27] at hl
  obtain ⟨c0, c1, c2, rfl⟩ := list3 hl
  obtain ⟨x0, x1, x2, rfl⟩ := list3 hlen
  have f0 := hf 0 _ rfl
  have f1 := hf 1 _ rfl
  obtain ⟨n2, e2, _, _⟩ := DataW.trod_int Tryd.underlying3 (hf 2 _ rfl)
  have q2 : [c2] = [Value.int .i64 n2] := e2
  simp only [List.cons.injEq, and_true] at q2
  subst q2
  have f0' : DataW.trod enc Tryd.prog w 0 (fun _ => true) held m 24 [c0] = some x0 := f0
  have f1' : DataW.trod enc Tryd.prog w 0 (fun _ => true) held m 25 [c1] = some x1 := f1
  obtain ⟨a, len, cap, A, L, C, F, rfl, hr⟩ := open_coderow f0'
  obtain ⟨ma, mm, mc, rfl, hm⟩ := open_mem f1'
  obtain ⟨cs, rfl, hC⟩ := code_list hr mm n2
  exact ⟨⟨cs, mm, n2⟩, a, cap, A, C, ma, mc, rfl, hC, hm⟩
end
end Go.Proofs.YthooopcoemdphaaDoor
