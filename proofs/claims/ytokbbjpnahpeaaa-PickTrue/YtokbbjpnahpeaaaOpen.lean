/-
  What a slice of bytes, a pick and a slice of picks that came in hold, said of cells and plain lists. No condition.
-/
import Derived.Test.YtokbbjpnahpeaaaRd
import Derived.ChangeSlices
import Derived.Deep.Slices
namespace Go.Proofs.Ytokbbjpnahpeaaa
open Go.ChangeShapes Go.WideShapes Go.ChangeAt Go.RowKit Go.Deep
set_option linter.unusedVariables false

theorem cellsP : Try.prog.cellsOf 23 = 2 := by kernel_rfl
theorem cellsB : Try.prog.cellsOf 5 = 1 := by kernel_rfl

section
variable {H : Type} {enc : TypeId × Value → H} {w : World} {sp : Nat → Bool} {held : Bool}

theorem list2 {α : Type} {l : List α} (h : l.length = 2) : ∃ a b, l = [a, b] := by
  match l, h with
  | [a, b], _ => exact ⟨a, b, rfl⟩

theorem open_pick {n : Nat} {cs : List Value} {x : DataW H × List MemPlace} (h : DataW.trod enc Try.prog w 0 sp held n 23 cs = some x) : ∃ i : Pk, cs = pkC i := by
  obtain ⟨xs, m, rfl, _, hl, hlen, hf⟩ := DataW.trod_struct Try.underlying23 h
  rw [cellsP] at hl
  obtain ⟨c0, c1, rfl⟩ := list2 hl
  obtain ⟨x0, x1, rfl⟩ := list2 hlen
  obtain ⟨n0, e0, _, _⟩ := DataW.trod_int Try.underlying3 (hf 0 _ rfl)
  obtain ⟨n1, e1, _, _⟩ := DataW.trod_int Try.underlying3 (hf 1 _ rfl)
  have q0 : [c0] = [Value.int .i64 n0] := e0
  have q1 : [c1] = [Value.int .i64 n1] := e1
  simp only [List.cons.injEq, and_true] at q0 q1
  subst q0 q1
  exact ⟨(n0, n1), rfl⟩

theorem open_pkval {r : Reach} {b0 : Nat} {v : Value} {d : DataW H} {p : List MemPlace} (hv : Value.okWide Try.prog w r b0 23 v) (h : DataW.Trod enc Try.prog w 0 sp held 23 v d p) :
    ∃ i : Pk, v = pkV i := by
  obtain ⟨cs, rfl, hsz⟩ := okWide_struct Try.underlying23 hv
  obtain ⟨n, h⟩ := h
  obtain ⟨l⟩ := cs
  simp only [Value.cells] at h
  obtain ⟨i, e⟩ := open_pick h
  exact ⟨i, by rw [e]; rfl⟩

theorem addr_add (b o : Nat) (n : Nat) : (⟨b, o, none⟩ : Addr).add n = ⟨b, o + n, none⟩ := Addr.add_mid b o n

theorem open_picks {n : Nat} {v : Value} {x : DataW H × List MemPlace} (h : DataW.trod enc Try.prog w 0 (fun _ => true) held n 30 [v] = some x) :
    ∃ a cap l, v = .slice a (l : List Pk).length cap ∧ PicksAt w a l ∧ l.length ≤ maxLen := by
  rcases open_slice Try.underlying30 h with ⟨h0, _⟩ | ⟨a, len, cap, m, n', D, Pl, hcs, _, hl, hm, hmm, _, hx⟩
  · simp at h0
    exact ⟨none, 0, [], h0, .inl rfl, Nat.zero_le _⟩
  · simp at hcs hmm
    subst hmm
    rw [cellsP] at hx
    have each : ∀ i, i < len → ∃ f : Pk, w.cells? 0 (a.add (i * 2)) 2 = some (pkC f) := by
      intro i hi
      obtain ⟨cs', h1, h2⟩ := hx i (by omega)
      obtain ⟨f, rfl⟩ := open_pick h2
      exact ⟨f, h1⟩
    have inh : Inhabited Pk := ⟨p0⟩
    obtain ⟨f, hf⟩ := choose_lt each
    refine ⟨some a, _, (List.range len).map f, by simpa using hcs, ?_, by simpa using Nat.le_trans hl hm⟩
    by_cases h0 : len = 0
    · subst h0; exact .inl rfl
    right
    obtain ⟨b, off, spot⟩ := a
    have hs : spot = none := by
      obtain ⟨_, _, hc⟩ := World.cells?_some (hf 0 (by omega))
      have := hc 0 (by omega)
      have := World.cell?_spot (this.trans rfl)
      simpa [Addr.add] using this
    subst hs
    refine ⟨b, off, rfl, fun i hi => ?_⟩
    have hi' : i < len := by simpa using hi
    obtain ⟨_, _, hc⟩ := World.cells?_some (hf i hi')
    simp only [addr_add] at hc
    have e : ((List.range len).map f).getD i p0 = f i := by simp [List.getD_eq_getElem?_getD, hi']
    rw [e]
    exact ⟨(hc 0 (by omega)).trans rfl, (hc 1 (by omega)).trans rfl⟩

theorem open_bytes {n : Nat} {v : Value} {x : DataW H × List MemPlace} (h : DataW.trod enc Try.prog w 0 (fun _ => true) held n 29 [v] = some x) :
    ∃ a cap l, v = .slice a (l : List Nat).length cap ∧ BytesAt w a l ∧ l.length ≤ maxLen := by
  rcases open_ints Try.underlying29 Try.underlying5 cellsB h with ⟨hcs, _⟩ | ⟨a, len, cap, zs, hcs, _, hl, hm, hz, _, hcell, hwz⟩
  · simp at hcs
    exact ⟨none, 0, [], hcs, .inl rfl, Nat.zero_le _⟩
  · simp at hcs hz
    refine ⟨some a, cap, (zs.take len).map Int.toNat, by rw [hcs, List.length_map, List.length_take, Nat.min_eq_left (by omega)], ?_, by rw [List.length_map, List.length_take]; omega⟩
    by_cases h0 : len = 0
    · subst h0; exact .inl rfl
    right
    obtain ⟨b, off, spot⟩ := a
    have hspot : spot = none := by
      have := World.cell?_spot (hcell 0 (by omega))
      simpa [Addr.add] using this
    subst hspot
    refine ⟨b, off, rfl, fun i hi => ?_⟩
    rw [List.length_map, List.length_take] at hi
    have hci := hcell i (by omega)
    rw [addr_add] at hci
    have hzi : zs[i]? = some (zs.getD i 0) := by rw [List.getD_eq_getElem?_getD, List.getElem?_eq_getElem (by omega)]; rfl
    have hb := bounds_u8 (hwz (zs.getD i 0) (List.mem_of_getElem? hzi))
    have e : ((zs.take len).map Int.toNat).getD i 0 = (zs.getD i 0).toNat := by
      rw [List.getD_eq_getElem?_getD, List.getElem?_map, List.getElem?_take, if_pos (by omega), hzi]
      rfl
    rw [e]
    refine ⟨by omega, ?_⟩
    rw [hci]
    congr 2
    omega
end
end Go.Proofs.Ytokbbjpnahpeaaa
