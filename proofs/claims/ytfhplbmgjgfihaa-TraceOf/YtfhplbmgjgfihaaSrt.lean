/-
  Calls are sorted by where they begin: what is behind the library's sort. No condition but that the row lies so.
-/
import Derived.Test.YtfhplbmgjgfihaaLib
import Derived.Test.YtfhplbmgjgfihaaCl
namespace Go.Proofs.Ytfhplbmgjgfihaa
open Go.ChangeShapes Go.WideShapes Go.ChangeAt Go.RowKit Go.Shelf Go.Lib Go.Sort
set_option linter.unusedVariables false
set_option maxRecDepth 20000

theorem own_ltc {w : World} {base sz n m c b o : Nat} {s : Option _} {t : TypeId} {xs : List Value} (h : w.ownsRow base t sz (.slice (some ⟨b, o, s⟩) n c) m xs) : b < w.heap.size := by
  rcases h.2 with ⟨h2, _⟩ | ⟨g, cap, cur, hv, hb, hg, rest⟩
  · cases h2
  · cases hv
    exact Has.lt hg
/-- by where they begin -/
def cfB (x y : Cl) : Int := Lib.compareInt x.q.began y.q.began
theorem ltB (x y : Cl) : ltOf cfB x y = decide (x.q.began < y.q.began) := by
  unfold ltOf cfB Lib.compareInt
  by_cases h1 : x.q.began < y.q.began
  · simp [h1]
  · by_cases h2 : y.q.began < x.q.began <;> simp [h1, h2]
theorem swoB : SWO (ltOf cfB) := {
  irrefl := fun x => by rw [ltB]; simp
  trans := fun x y z h1 h2 => by rw [ltB] at *; simp at *; omega
  ntrans := fun x y z h1 h2 => by rw [ltB] at *; simp at *; omega }

set_option maxHeartbeats 1000000 in
theorem cmp_calls (x y : Cl) (W : World) : Calls Try.prog 22 #[.agg (clA x), .agg (clA y)] W fun e w' => e = .returned (.int .i64 (cfB x y)) ∧ ∃ q os', w' = grow (W.drewN q) os' := by
  have hcon := fun W' => AnyG.cmp_Compare_int Try.cmpC x.q.began y.q.began W'
  change ∀ W', Calls Try.prog 23 _ _ _ at hcon
  have e : cfB x y = Lib.compareInt x.q.began y.q.began := rfl
  rw [e]
  clear e
  generalize Lib.compareInt x.q.began y.q.began = r at hcon ⊢
  go_enter Try.func22, Try.ntmps22
  go_wp2_with (go_at_call 23; refine (hcon _).mono ?_; rintro e w' ⟨rfl, rfl⟩)
  go_ret
  exact ⟨rfl, 0, _, by rw [alloc_eq_grow, alloc_eq_grow, grow_grow]; rfl⟩

theorem isAggCl : ∀ w, (isAgg 43).run Try.prog w = .ok true w := Try.isAgg43
theorem sizeCl : ∀ w, (Go.sizeOf 43).run Try.prog w = .ok 6 w := Try.sizeOf43

section
variable [Inhabited Cl]
theorem cmp_lays (blk off size : Nat) (w : World) : CmpLays Try.prog 22 #[] clL 6 cfB blk off size w := fun _ _ _ _ x y => cmp_calls x y _
theorem flat_at (d : Array Cl) (j : Nat) (h : j < d.size * 6) : (flatOf clL d.toList)[j]? = some ((flatK clL 6 d)[j]!) := by
  have h1 : j / 6 < d.size := by omega
  have h2 : j % 6 < 6 := Nat.mod_lt _ (by omega)
  have e := flatOf_get clL_len d.toList (j / 6) (j % 6) cl0 (by simpa using h1) h2
  rw [show j / 6 * 6 + j % 6 = j by omega] at e
  rw [e, get_flatK _ _ _ _ h]
  have e2 : d.toList.getD (j / 6) cl0 = d[j / 6]! := by
    rw [List.getD_eq_getElem?_getD, Array.getElem?_toList, Array.getElem?_eq_getElem h1, getElem!_pos d _ h1]
    rfl
  rw [e2, List.getElem?_eq_getElem (by rw [clL_len]; exact h2), getElem!_pos (clL d[j / 6]!) _ (by rw [clL_len]; exact h2)]
theorem holds_of {w : World} {base n c b : Nat} {l : List Cl} (h : w.ownsRow base 43 6 (.slice (some ⟨b, 0, none⟩) n c) n (flatOf clL l)) : HoldsK clL 6 w b 0 l.toArray := by
  intro j hj
  rw [size_flatK] at hj
  obtain ⟨C, hC⟩ := own_has h (k := b) (by simp [ob, Value.ownBlock])
  obtain ⟨a', c', hv, hr, -⟩ := own_at h
  obtain ⟨rfl, -, -⟩ := Value.slice.inj hv
  have hl := flatOf_length clL_len l
  have hj' : j < l.length * 6 := by simpa using hj
  obtain ⟨b', off, ha, hc⟩ := hr.get (by omega)
  cases ha
  have := hc j (by omega)
  have e := flat_at l.toArray j hj
  refine ⟨?_, hC.free _⟩
  rw [this]
  exact e
theorem row_of {w : World} {b : Nat} {d : Array Cl} (h : HoldsK clL 6 w b 0 d) : RowAt w (some ⟨b, 0, none⟩) (flatOf clL d.toList) := by
  refine .inr ⟨b, 0, rfl, fun j hj => ?_⟩
  rw [flatOf_length clL_len] at hj
  have hj' : j < d.size * 6 := by simpa using hj
  rw [flat_at d j hj', (h j (by rw [size_flatK]; exact hj')).1]
  rfl
theorem kp_sort (w : World) (b n : Nat) (d : Array Cl) (os : Array Obj) : Kp [b] w (sortWorldK clL 6 w b 0 n d os) := by
  refine ⟨rfl, rfl, rfl, size_sortWorldK_c clL 6 w b 0 n d os, fun k hk hb => ?_⟩
  have hb' : k ≠ b := by simpa using hb
  unfold sortWorldK
  rw [heap_grow_old _ _ (by rw [size_putRowK]; exact hk)]
  unfold putRowK putRow mapBlock
  simp only [Array.getElem?_modify]
  rw [if_neg (fun q => hb' q.symm)]
  rfl

set_option maxHeartbeats 1000000 in
theorem sort_calls {w : World} {base c : Nat} {a : Option Addr} {l : List Cl} (h : ClsO w base (.slice a l.length c) l) (hn : l.length ≤ 100000) :
    Calls Try.prog 21 #[.slice a l.length c, .func (.func 22) #[] #[]] w fun e w' => e = .returned (.tuple #[]) ∧ (∃ k, RowAt w' a (flatOf clL k) ∧ k.Perm l ∧ k.Pairwise fun x y => ¬ y.q.began < x.q.began) ∧ Kp (ob (.slice a l.length c)) w w' := by
  rcases Nat.eq_zero_or_pos l.length with h0 | h0
  · have hS := AnyF.slices_SortFunc_none (P := Try.prog) (ρ := Try.sortC_ren) { Try.sortC with } a c (.func (.func 22) #[] #[]) w
    change Calls Try.prog 21 _ _ _ at hS
    obtain rfl := List.length_eq_zero_iff.1 h0
    refine hS.mono ?_
    rintro e w' ⟨rfl, rfl⟩
    exact ⟨rfl, ⟨[], .inl rfl, List.Perm.refl _, List.Pairwise.nil⟩, Kp.refl _ _⟩
  · obtain ⟨b, rfl⟩ : ∃ b, a = some ⟨b, 0, none⟩ := by
      rcases h.2 with ⟨z, _⟩ | ⟨g, cap, cur, z, -⟩
      · obtain ⟨-, z, -⟩ := Value.slice.inj z
        omega
      · exact ⟨g, by cases z; rfl⟩
    have hb : b < w.heap.size := own_ltc h
    have eg : ∀ args w, (callFunc 22 args).run Try.prog w = .ok (.enter 22 args) w := enters_of Try.func22 (by kernel_rfl) rfl
    have hS := AnyQ.slices_SortFunc Try.sortC 6 isAggCl sizeCl clL clL_len clL_one cfB swoB 22 #[] b 0 c l.toArray w eg (cmp_lays b 0 l.toArray.size w) (holds_of h) hb (by simp; omega)
    change Calls Try.prog 21 _ _ _ at hS
    refine hS.mono ?_
    rintro e w' ⟨rfl, d', n, os, hp, hs, rfl⟩
    obtain ⟨hsz, -, hperm⟩ := hp
    have hsz' : d'.size = l.length := by simpa using hsz
    have hH := holdsK_sortWorldK_c clL 6 w b 0 l.toArray d' n os (holds_of h) hb hsz
    refine ⟨rfl, ⟨d'.toList, row_of hH, ?_, ?_⟩, ?_⟩
    · have e1 : d'.extract 0 l.toArray.size = d' := by rw [← hsz]; simp
      have e2 : l.toArray.extract 0 l.toArray.size = l.toArray := by simp
      rw [e1, e2] at hperm
      simpa using hperm
    · rw [List.pairwise_iff_getElem]
      intro i j hi hj hij
      have hi' : i < d'.size := by simpa using hi
      have hj' : j < d'.size := by simpa using hj
      have q := hs i j (Nat.zero_le _) hij (by rw [← hsz]; exact hj')
      rw [ltB, getElem!_pos d' i hi', getElem!_pos d' j hj'] at q
      simpa using q
    · exact kp_sort w b n d' os
end
end Go.Proofs.Ytfhplbmgjgfihaa
