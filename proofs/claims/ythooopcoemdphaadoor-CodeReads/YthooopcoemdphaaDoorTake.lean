/-
  For any reader that the call's caller made, over any bytes: what its method take answers and leaves. No condition but that from one to four bytes are taken.
-/
import Derived.Test.YthooopcoemdphaaDoorBytes
namespace Go.Proofs.YthooopcoemdphaaDoor
open Go.ChangeShapes Go.WideShapes Go.ChangeAt Go.RowKit
set_option linter.unusedVariables false

/-- a reader lies in a block of its own: what is left, and whether more was asked for -/
def Rd (w : World) (r : Nat) (L : List Int) (s : Bool) : Prop :=
  ∃ a cap, w.cell? ⟨r, 0, none⟩ = some (.slice a L.length cap) ∧ w.cell? ⟨r, 1, none⟩ = some (.bool s) ∧ w.frozen? ⟨r, 0, none⟩ = false ∧ w.frozen? ⟨r, 1, none⟩ = false ∧ L.length ≤ cap ∧ cap ≤ maxLen ∧
    (L = [] ∨ ∃ b off, a = some ⟨b, off, none⟩ ∧ b < r ∧ ∀ j x, L[j]? = some x → w.cell? ⟨b, off + j, none⟩ = some (.int .u8 x))
/-- new blocks, and writes to the reader's block alone -/
def Wr (r : Nat) (w w' : World) : Prop := w.grownBy w' (some r)
theorem Wr.refl (r : Nat) (w : World) : Wr r w w := World.grownBy.refl w _
theorem Wr.trans {r : Nat} {a b c : World} (h : Wr r a b) (k : Wr r b c) : Wr r a c :=
  ⟨k.os.trans h.os, k.tape.trans h.tape, k.output.trans h.output, Nat.le_trans h.size k.size, fun i hi hne => (k.block i (Nat.lt_of_lt_of_le hi h.size) hne).trans (h.block i hi hne)⟩
theorem Wr.of_gr {r : Nat} {w w' : World} (h : Gr w w') : Wr r w w' := ⟨h.os, h.tape, h.output, h.size, fun k hk _ => h.block k hk⟩
theorem Wr.setCell {r : Nat} {a w : World} (h : Wr r a w) (o : Nat) (u : Value) : Wr r a (w.setCell ⟨r, o, none⟩ u) :=
  h.trans ⟨rfl, rfl, rfl, by simp [World.setCell], fun k hk hne => Below.heap_setCell _ _ _ _ (fun e => hne (by rw [e]))⟩
theorem Wr.cell {r : Nat} {w w' : World} (h : Wr r w w') {a : Addr} {v : Value} (hne : a.block ≠ r) (hc : w.cell? a = some v) : w'.cell? a = some v := World.grownBy.cell h hc (by simpa using hne)
theorem Rd.later {w w' : World} {r : Nat} {L : List Int} {s : Bool} (h : Rd w r L s) (g : Gr w w') : Rd w' r L s := by
  obtain ⟨a, cap, h0, h1, h2, h3, h4, h5, h6⟩ := h
  have hlt := World.block_lt_of_cell? w _ h0
  refine ⟨a, cap, cell_later g h0, cell_later g h1, (Below.frozen g (p := ⟨r, 0, none⟩) hlt).trans h2, (Below.frozen g (p := ⟨r, 1, none⟩) hlt).trans h3, h4, h5, ?_⟩
  rcases h6 with h6 | ⟨b, off, ha, hb, h6⟩
  · exact .inl h6
  · exact .inr ⟨b, off, ha, hb, fun j x hx => cell_later g (h6 j x hx)⟩

theorem set_same {w : World} {a : Addr} {v u : Value} (h : w.cell? a = some u) : (w.setCell a v).cell? a = some v := World.cell?_setCell_same w a v h
theorem set_other {w : World} {a b : Addr} {v : Value} (h : a ≠ b) : (w.setCell a v).cell? b = w.cell? b := World.cell?_setCell_other w a b v h
theorem Rd.set0 {w : World} {r : Nat} {s : Bool} {v0 : Value} (h0 : w.cell? ⟨r, 0, none⟩ = some v0) (h1 : w.cell? ⟨r, 1, none⟩ = some (.bool s)) (h2 : w.frozen? ⟨r, 0, none⟩ = false) (h3 : w.frozen? ⟨r, 1, none⟩ = false) (a : Option Addr) (M : List Int) (cap : Nat) (hl : M.length ≤ cap) (hm : cap ≤ maxLen)
    (hM : M = [] ∨ ∃ b off, a = some ⟨b, off, none⟩ ∧ b < r ∧ ∀ j x, M[j]? = some x → w.cell? ⟨b, off + j, none⟩ = some (.int .u8 x)) : Rd (w.setCell ⟨r, 0, none⟩ (.slice a M.length cap)) r M s := by
  refine ⟨a, cap, set_same h0, (set_other (by simp)).trans h1, by simpa using h2, by simpa using h3, hl, hm, ?_⟩
  rcases hM with hM | ⟨b, off, ha, hb, h⟩
  · exact .inl hM
  · exact .inr ⟨b, off, ha, hb, fun j x hx => (set_other (by simp <;> omega)).trans (h j x hx)⟩
theorem Rd.set1 {w : World} {r : Nat} {L : List Int} {s : Bool} (h : Rd w r L s) (t : Bool) : Rd (w.setCell ⟨r, 1, none⟩ (.bool t)) r L t := by
  obtain ⟨a, cap, h0, h1, h2, h3, h4, h5, h6⟩ := h
  refine ⟨a, cap, (set_other (by simp)).trans h0, set_same h1, by simpa using h2, by simpa using h3, h4, h5, ?_⟩
  rcases h6 with h6 | ⟨b, off, ha, hb, h⟩
  · exact .inl h6
  · exact .inr ⟨b, off, ha, hb, fun j x hx => (set_other (by simp <;> omega)).trans (h j x hx)⟩

theorem Rd.above {w : World} {r : Nat} {L : List Int} {s : Bool} (h : Rd w r L s) {g o : Nat} (hg : r < g) (v : Value) : Rd (w.setCell ⟨g, o, none⟩ v) r L s := by
  obtain ⟨a, cap, h0, h1, h2, h3, h4, h5, h6⟩ := h
  refine ⟨a, cap, (set_other (by simp <;> omega)).trans h0, (set_other (by simp <;> omega)).trans h1, by simpa using h2, by simpa using h3, h4, h5, ?_⟩
  rcases h6 with h6 | ⟨b, off, ha, hb, h⟩
  · exact .inl h6
  · exact .inr ⟨b, off, ha, hb, fun j x hx => (set_other (by simp <;> omega)).trans (h j x hx)⟩
theorem Wr.above {r : Nat} {a w : World} (h : Wr r a w) {g : Nat} (hg : a.heap.size ≤ g) (o : Nat) (u : Value) : Wr r a (w.setCell ⟨g, o, none⟩ u) :=
  ⟨h.os, h.tape, h.output, by simpa [World.setCell] using h.size, fun k hk hne => (Below.heap_setCell _ _ _ _ (by show k ≠ g; omega)).trans (h.block k hk hne)⟩

set_option maxHeartbeats 1000000 in
theorem take_short (r : Nat) (n : Nat) (L : List Int) (s : Bool) (w : World) (hr : Rd w r L s) (hn : n ≤ 4) (h : s = true ∨ L.length < n) :
    Calls Tryd.prog 16 #[.pointer (some ⟨r, 0, none⟩), .int .i64 n] w fun e w' => e = .returned (.slice none 0 0) ∧ Rd w' r L true ∧ Wr r w w' := by
  have HR := hide hr
  obtain ⟨a, cap, h0, h1, h2, h3, h4, h5, h6⟩ := hr
  have H6 := hide h6
  clear h6
  unfold maxLen at h5
  by_cases hl : L.length < n
  · go_enter Tryd.func16, Tryd.ntmps16
    go_wp2
    go_ret
    exact ⟨rfl, HR.out.set1 true, (Wr.refl r w).setCell 1 _⟩
  · obtain rfl : s = true := by simpa [hl] using h
    go_enter Tryd.func16, Tryd.ntmps16
    go_wp2
    go_ret
    exact ⟨rfl, HR.out, Wr.refl r w⟩

/-- what take leaves where there is enough -/
def TakeP (r n : Nat) (L : List Int) (w : World) (e : Ending) (w' : World) : Prop := ∃ a c, e = .returned (.slice a n c) ∧ BytesAt w' a (L.take n) ∧ Rd w' r (L.drop n) false ∧ Wr r w w'

set_option maxHeartbeats 1000000 in
theorem take_ok (r : Nat) (n : Nat) (L : List Int) (w : World) (hr : Rd w r L false) (hn0 : 1 ≤ n) (hn : n ≤ 4) (h : n ≤ L.length) :
    Calls Tryd.prog 16 #[.pointer (some ⟨r, 0, none⟩), .int .i64 n] w (TakeP r n L w) := by
  obtain ⟨a, cap, h0, h1, h2, h3, h4, h5, h6⟩ := hr
  obtain ⟨b, off, rfl, hb, hc⟩ : ∃ b off, a = some ⟨b, off, none⟩ ∧ b < r ∧ ∀ j x, L[j]? = some x → w.cell? ⟨b, off + j, none⟩ = some (.int .u8 x) := by
    rcases h6 with h6 | h6
    · subst h6; simp at h; omega
    · exact h6
  have HC := hide hc
  clear h6 hc
  unfold maxLen at h5
  go_enter Tryd.func16, Tryd.ntmps16
  go_wp2
  all_goals
    go_ret
    refine ⟨_, _, rfl, .inr ⟨b, off, rfl, fun j x hx => ?_⟩, ?_, (Wr.refl r w).setCell 0 _⟩
    · refine (set_other (by simp <;> omega)).trans (HC.out j x ?_)
      rw [List.getElem?_take] at hx
      split at hx
      · exact hx
      · cases hx
  · have e : L.drop n = [] := List.eq_nil_of_length_eq_zero (by simp; omega)
    have hl : L.length - n = (L.drop n).length := by simp
    rw [hl]
    exact Rd.set0 h0 h1 h2 h3 _ _ _ (by simp; omega) (by unfold maxLen; omega) (.inl e)
  · have hl : L.length - n = (L.drop n).length := by simp
    rw [hl]
    refine Rd.set0 h0 h1 h2 h3 _ _ _ (by simp; omega) (by unfold maxLen; omega) (.inr ⟨b, off + n, rfl, hb, fun j x hx => ?_⟩)
    rw [List.getElem?_drop] at hx
    have := HC.out _ _ hx
    rw [← Nat.add_assoc] at this
    exact this
end Go.Proofs.YthooopcoemdphaaDoor
