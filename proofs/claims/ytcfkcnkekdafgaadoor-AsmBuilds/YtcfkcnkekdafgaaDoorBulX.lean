/-
  For any code in memory and any strings, in any world in which the program's tables lie: deadlatchlaw04.AsmBuilds returns true. Conditions: K is from 0 to 2^32 - 1 in each instruction. What a slice of strings that came in holds.
-/
import Derived.Test.YtcfkcnkekdafgaaDoorBulW
import Derived.Test.YtcfkcnkekdafgaaDoorOpin
import Derived.ChangeMaps
namespace Go.Proofs.YtcfkcnkekdafgaaDoor
open Go.ChangeShapes Go.WideShapes Go.ChangeAt Go.RowKit Go.Deep
set_option linter.unusedVariables false

set_option maxRecDepth 100000 in
set_option maxHeartbeats 2000000 in
theorem builds_big (aa ab : Option Addr) (n k ca cb : Nat) (hbig : 200 < n ∨ 200 < k) (hn : n ≤ 9223372036854775807) (hk : k ≤ 9223372036854775807) (w : World) (L : Laid w) :
    Calls Tryd.prog 4 #[.slice aa n ca, .slice ab k cb] w fun e w' => e = .returned (.bool true) ∧ Gr w w' := by
  have AW := hide (awake_calls w L)
  have HL := hide L
  by_cases h1 : 200 < n
  · have h1' : (200 : Int) < n := by omega
    clear L hbig
    go_enter Tryd.func4, Tryd.ntmps4
    go_wp2_with (fail)
    refine AW.out.mono ?_
    rintro e w1 ⟨rfl, g1⟩
    have A1 := hide (awake_calls w1 (HL.out.later g1))
    go_wp2_with (fail)
    refine A1.out.mono ?_
    rintro e w2 ⟨rfl, g2⟩
    go_wp2_with (fail)
    go_ret
    exact ⟨rfl, g1.trans g2⟩
  · have h2 : 200 < k := by omega
    have h1' : ¬ (200 : Int) < n := by omega
    have h2' : (200 : Int) < k := by omega
    clear L hbig
    go_enter Tryd.func4, Tryd.ntmps4
    go_wp2_with (fail)
    refine AW.out.mono ?_
    rintro e w1 ⟨rfl, g1⟩
    have A1 := hide (awake_calls w1 (HL.out.later g1))
    go_wp2_with (fail)
    refine A1.out.mono ?_
    rintro e w2 ⟨rfl, g2⟩
    go_wp2_with (fail)
    go_ret
    exact ⟨rfl, g1.trans g2⟩

theorem builds_walk (v vs : Value) (l : List Ins) (nm : List Bs) (w : World) (hC : CodeAt w v l) (hS : StrA w vs nm) (hok : ∀ i ∈ l, i.ok) (hs : ∀ s ∈ nm, s.length ≤ 9223372036854775807) (hl : l.length ≤ 9223372036854775807) (hn : nm.length ≤ 9223372036854775807) (L : Laid w) :
    Calls Tryd.prog 4 #[v, vs] w fun e w' => e = .returned (.bool true) ∧ Gr w w' := by
  by_cases h : 200 < l.length ∨ 200 < nm.length
  · obtain ⟨aa, ca, rfl, -⟩ := hC
    obtain ⟨ab, cb, rfl, -⟩ := hS
    exact builds_big aa ab l.length nm.length ca cb h hl hn w L
  · exact builds_few v vs l nm w hC hS hok hs (by omega) (by omega) L

theorem open_strs {H : Type} {enc : TypeId × Value → H} {w : World} {held : Bool} {n : Nat} {v : Value} {x : DataW H × List MemPlace} (h : DataW.trod enc Tryd.prog w 0 (fun _ => true) held n 37 [v] = some x) :
    ∃ nm : List Bs, StrA w v nm ∧ (∀ s ∈ nm, s.length ≤ 9223372036854775807) ∧ nm.length ≤ maxLen := by
  have cellsS : Tryd.prog.cellsOf 9 = 1 := by kernel_rfl
  rcases open_slice Tryd.underlying37 h with ⟨h0, _⟩ | ⟨a, len, cap, m, n', D, Pl, hcs, _, hl, hm, hmm, _, hx⟩
  · simp at h0
    exact ⟨[], ⟨none, 0, h0, .inl rfl⟩, fun i hi => (by cases hi), Nat.zero_le _⟩
  · simp at hcs hmm
    subst hmm
    rw [cellsS] at hx
    have each : ∀ i, i < len → ∃ f : Bs, w.cells? 0 (a.add (i * 1)) 1 = some [.string ⟨f.toArray⟩] ∧ f.length ≤ 9223372036854775807 := by
      intro i hi
      obtain ⟨cs', h1, h2⟩ := hx i (by omega)
      obtain ⟨s, e1, e2, e3⟩ := DataW.trod_string Tryd.underlying9 h2
      refine ⟨s.data.toList, ?_, ?_⟩
      · rw [h1, e1]
      · have := size_list s
        unfold maxLen at e3
        omega
    have inh : Inhabited Bs := ⟨[]⟩
    obtain ⟨f, hf⟩ := choose_lt each
    refine ⟨(List.range len).map f, ⟨some a, _, by simpa using hcs, ?_⟩, ?_, by simpa using Nat.le_trans hl hm⟩
    · by_cases h0 : len = 0
      · subst h0; exact .inl rfl
      right
      obtain ⟨b, off, spot⟩ := a
      have hs : spot = none := by
        obtain ⟨_, _, hc⟩ := World.cells?_some (hf 0 (by omega)).1
        have := hc 0 (by omega)
        have := World.cell?_spot (this.trans rfl)
        simpa [Addr.add] using this
      subst hs
      refine ⟨b, off, rfl, fun j s hj => ?_⟩
      have hjl : j < len := by
        have := (List.getElem?_eq_some_iff.1 hj).1
        simpa using this
      have e : f j = s := by simpa [hjl] using hj
      subst e
      obtain ⟨_, _, hc⟩ := World.cells?_some (hf j hjl).1
      simp only [addr_add, Nat.mul_one] at hc
      exact (hc 0 (by omega)).trans rfl
    · intro s hs
      obtain ⟨j, hj, rfl⟩ := List.mem_map.1 hs
      exact (hf j (by simpa using hj)).2
end Go.Proofs.YtcfkcnkekdafgaaDoor
