/-
  What Read answers of any bytes. No condition but that the slice's cells hold them.
-/
import Derived.Test.YtokbbjpnahpeaaaSml
namespace Go.Proofs.Ytokbbjpnahpeaaa
open Go.ChangeShapes Go.WideShapes Go.ChangeAt Go.RowKit
set_option linter.unusedVariables false

/-- the script of n picks of which i are there -/
def outR (f : Nat → Pk) (i n : Nat) : List Pk := (List.range n).map fun j => if j < i then f j else p0
theorem outR_len (f : Nat → Pk) (i n : Nat) : (outR f i n).length = n := by simp [outR]
theorem outR_zero (f : Nat → Pk) (n : Nat) : outR f 0 n = List.replicate n p0 := by
  apply List.ext_getElem <;> simp [outR]
theorem outR_end (f : Nat → Pk) (n : Nat) : outR f n n = (List.range n).map f := by
  apply List.ext_getElem
  · simp [outR]
  · intro j h1 h2
    simp [outR] at h1
    simp [outR, h1]
theorem outR_set (f : Nat → Pk) (i n : Nat) : (outR f i n).set i (f i) = outR f (i + 1) n := by
  apply List.ext_getElem
  · simp [outR]
  · intro j h1 h2
    rw [List.getElem_set]
    simp only [outR, List.getElem_map, List.getElem_range]
    by_cases e : i = j
    · subst e; simp
    · rw [if_neg e]
      by_cases q : j < i
      · rw [if_pos q, if_pos (by omega)]
      · rw [if_neg q, if_neg (by omega)]

/-- a slice of bytes: none, or their cells from an address on -/
def BytesAt (w : World) (a : Option Addr) (l : List Nat) : Prop :=
  l = [] ∨ ∃ b off, a = some ⟨b, off, none⟩ ∧ ∀ i, i < l.length → l.getD i 0 < 256 ∧ w.cell? ⟨b, off + i, none⟩ = some (.int .u8 (l.getD i 0 : Nat))
theorem BytesAt.later {w w' : World} {a : Option Addr} {l : List Nat} (h : BytesAt w a l) (g : Gr w w') : BytesAt w' a l := by
  rcases h with h | ⟨b, off, ha, h⟩
  · exact .inl h
  · exact .inr ⟨b, off, ha, fun i hi => ⟨(h i hi).1, (cell_same _ (g.block b (block_lt_of_cell (a := ⟨b, off + i, none⟩) (h i hi).2))).trans (h i hi).2⟩⟩
theorem BytesAt.get {w : World} {a : Option Addr} {l : List Nat} (h : BytesAt w a l) {i : Nat} (hi : i < l.length) : ∃ b off, a = some ⟨b, off, none⟩ ∧ l.getD i 0 < 256 ∧ w.cell? ⟨b, off + i, none⟩ = some (.int .u8 (l.getD i 0 : Nat)) := by
  rcases h with h | ⟨b, off, ha, h⟩
  · subst h; simp at hi
  · exact ⟨b, off, ha, h i hi⟩
/-- the picks of bytes -/
def readL (l : List Nat) : List Pk := (List.range l.length).map fun j => ofP (l.getD j 0)
theorem readL_len (l : List Nat) : (readL l).length = l.length := by simp [readL]
theorem readL_get (l : List Nat) (i : Nat) (h : i < l.length) : (readL l).getD i p0 = ofP (l.getD i 0) := by
  unfold readL
  rw [List.getD_eq_getElem?_getD, List.getElem?_map, List.getElem?_range h]
  rfl

set_option maxHeartbeats 1000000 in
theorem read_calls (a : Option Addr) (ca : Nat) (l : List Nat) (hl : l.length ≤ 10000) (w : World) (ha : BytesAt w a l) :
    Calls Try.prog 12 #[.slice a l.length ca] w fun e w' => ∃ G, (e = .returned (.slice (some ⟨G, 0, none⟩) l.length l.length) ∧ Gr w w') ∧ Has w' G (flatP (readL l)).toArray 23 := by
  have HA := hide ha
  have mk := make_picks l.length (by omega)
  have hli : (l.length : Int) ≤ 10000 := by omega
  have g1 := (Gr.refl w).alloc (flatP (List.replicate l.length p0)).toArray 23
  have h1 := Has.new w (flatP (List.replicate l.length p0)).toArray 23
  rw [← outR_zero (fun j => ofP (l.getD j 0))] at h1 g1
  simp only [← outR_zero (fun j => ofP (l.getD j 0))] at mk
  clear ha
  go_enter Try.func12, Try.ntmps12
  go_wp2_with (fail)
  go_loopw [11] (fun s11 wr => ∃ k : Nat, k ≤ l.length ∧ s11 = .int .i64 k ∧ Gr w wr ∧ Hid (Has wr w.heap.size (flatP (outR (fun j => ofP (l.getD j 0)) k l.length)).toArray 23)) (fun s11 _ => l.length - (intOf s11).toNat)
  case atStart => exact ⟨0, by omega, rfl, g1, h1⟩
  case round =>
    clear g1 h1 mk
    obtain ⟨k, hk, rfl, gr, hh⟩ := hrel
    by_cases hlt : k < l.length
    · have hlt' : (k : Int) < l.length := by omega
      obtain ⟨b, o, rfl, hb, c1⟩ := (HA.out.later gr).get hlt
      have HK : Hid ((outR (fun j => ofP (l.getD j 0)) k l.length).set k (ofP (l.getD k 0)) = outR (fun j => ofP (l.getD j 0)) (k + 1) l.length) := outR_set (fun j => ofP (l.getD j 0)) k l.length
      have HL := hide (outR_len (fun j => ofP (l.getD j 0)) k l.length)
      generalize outR (fun j => ofP (l.getD j 0)) k l.length = R at hh HK HL
      generalize l.getD k 0 = x at hb c1 HK
      go_wp2_with (fail)
      refine (of_calls x hb _).mono ?_
      rintro e w1 ⟨rfl, g1⟩
      have h1 := hh.out.later g1
      have k1 := h1.cell (flatPC_a _ k (by rw [HL.out]; exact hlt))
      have k2 := h1.cell (flatPC_v _ k (by rw [HL.out]; exact hlt))
      have z1 := h1.free (k * 2)
      have z2 := h1.free (k * 2 + 1)
      have H2 := hide (h1.setPk k (ofP x))
      generalize R.getD k p0 = old at k1 k2
      have gg := gr.trans g1
      clear h1 hh c1
      go_wp2_with (fail)
      refine ⟨⟨k + 1, by omega, by go_num, (gg.setCell (by simp) _).setCell (by simp) _, ?_⟩, by simp [intOf]; omega⟩
      rw [← HK.out]
      exact H2.out
    · obtain rfl : k = l.length := by omega
      have H := hh.out
      rw [outR_end] at H
      have HH := hide H
      clear H hh
      go_wp2_with (fail)
      go_ret
      exact ⟨w.heap.size, ⟨rfl, gr⟩, HH.out⟩
end Go.Proofs.Ytokbbjpnahpeaaa
