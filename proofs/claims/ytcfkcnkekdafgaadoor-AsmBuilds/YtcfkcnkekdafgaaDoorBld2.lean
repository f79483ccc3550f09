/-
  For any arguments: what a builder's Set, Alu, Ask, Cas, Go and At make of it. Conditions: at most 2^31 instructions, jumps and names, names of at most 2^31 bytes.
-/
import Derived.Test.YtcfkcnkekdafgaaDoorBld
import Derived.Test.YtcfkcnkekdafgaaDoorPsett
namespace Go.Proofs.YtcfkcnkekdafgaaDoor
open Go.ChangeShapes Go.WideShapes Go.ChangeAt Go.RowKit
set_option linter.unusedVariables false

theorem BRow.setW {w : World} {own : Nat → Prop} {g : Nat} {vc vm vj : Value} {st : St} {wr : Bool} (h : BRow w own g vc vm vj st wr) (b : Bool) : BRow (w.setCell ⟨g, 3, none⟩ (.bool b)) own g vc vm vj st b := by
  have k2 : Kept 41 0 w (w.setCell ⟨g, 3, none⟩ (.bool b)) := Kept.setCell 0 h.row (Nat.zero_le _) _
  refine ⟨row_set h.row 3 _, k2.own (by decide) h.oc, k2.own (by decide) h.oj, ?_, h.og, h.wc, h.wj, fun i hi => by have := h.lt i hi; simpa [World.setCell] using this⟩
  rcases h.mp with h1 | ⟨m, h1, h2, h3⟩
  · exact .inl h1
  · exact .inr ⟨m, h1, k2.map h2, h3⟩

/-- what a part of Go leaves: the frame's slots that count, and the world -/
def CutG (p o a s : Value) (R : World → Prop) : Exit → Act → World → Prop
  | .normal, ac, w' => R w' ∧ ∃ u8 u9 u10 u11 u12 u13 u14 u15 u16 u17 u18 u19 u20 u21 u22 u23 u24 u25 u26 u27 u28 u29 u30 u31 u32 u33 u34 : Value, ac = ⟨#[p, o, a, s, undef, undef, undef, undef, u8, u9, u10, u11, u12, u13, u14, u15, u16, u17, u18, u19, u20, u21, u22, u23, u24, u25, u26, u27, u28, u29, u30, u31, u32, u33, u34], []⟩
  | _, _, _ => False
theorem CutG.elim {p o a s : Value} {R : World → Prop} {Q : Exit → Act → World → Prop} {e : Exit} {ac : Act} {w' : World} (h : CutG p o a s R e ac w') (k : ∀ u8 u9 u10 u11 u12 u13 u14 u15 u16 u17 u18 u19 u20 u21 u22 u23 u24 u25 u26 u27 u28 u29 u30 u31 u32 u33 u34 : Value, R w' → Q .normal ⟨#[p, o, a, s, undef, undef, undef, undef, u8, u9, u10, u11, u12, u13, u14, u15, u16, u17, u18, u19, u20, u21, u22, u23, u24, u25, u26, u27, u28, u29, u30, u31, u32, u33, u34], []⟩ w') : Q e ac w' := by
  cases e with
  | normal =>
    obtain ⟨hR, u8, u9, u10, u11, u12, u13, u14, u15, u16, u17, u18, u19, u20, u21, u22, u23, u24, u25, u26, u27, u28, u29, u30, u31, u32, u33, u34, rfl⟩ := h
    exact k u8 u9 u10 u11 u12 u13 u14 u15 u16 u17 u18 u19 u20 u21 u22 u23 u24 u25 u26 u27 u28 u29 u30 u31 u32 u33 u34 hR
  | _ => exact False.elim h

set_option maxRecDepth 20000 in
set_option maxHeartbeats 800000 in
theorem go_calls (op a : Int) (s : Bs) (own : Nat → Prop) (g : Nat) (st : St) (wr : Bool) (w : World) (hP : BAt w own g st wr) (L : Laid w) (h4 : st.code.length ≤ 2147483648) (hj : st.jumps.length ≤ 2147483648) :
    Calls Tryd.prog 15 #[.pointer (some ⟨g, 0, none⟩), .int .i64 op, .int .i64 a, .string ⟨s.toArray⟩] w (BldP own g ⟨st.code ++ [⟨op, a, 0, 0, 0⟩], st.lines, st.names, st.jumps ++ [(st.code.length, s)]⟩ (wr || !jumpB op) w) := by
  have HJ := hide (jumps_calls op w L)
  clear L
  cases hjb : jumpB op with
  | true =>
    have WE : (wr || !true) = wr := by simp
    go_enter Tryd.func15, Tryd.ntmps15
    go_wp2_with (fail)
    refine HJ.out.mono ?_
    rw [hjb]
    rintro e w2 ⟨rfl, rfl⟩
    have hP5 := hP
    have KW := Ko.refl own w2
    have hP' := hP5
    obtain ⟨vc, vm, vj, hP5⟩ := hP5
    have P1 := hide hP5
    clear hP5 hP'
    obtain ⟨i2, hi2, hz20, hz21, hz22⟩ := info_parts infoJ
    obtain ⟨a0, c0, rfl⟩ := own_shape P1.out.oc
    obtain ⟨a3, c3, rfl⟩ := own_shape P1.out.oj
    have p0 := row_cell P1.out.row 0
    have p2 := row_cell P1.out.row 2
    simp only [List.getElem?_toArray, List.getElem?_cons_zero, List.getElem?_cons_succ] at p0 p2
    have G2 := (Gr.refl w2).alloc #[.int .i64 st.code.length, strV s] 64
    have O6 : Hid ((w2.alloc (.cells #[.int .i64 st.code.length, strV s] 64)).drew.ownsRow 0 64 2 (.slice a3 st.jumps.length c3) st.jumps.length (jumpsV st.jumps)) := own_gr P1.out.oj G2.drew
    have N6 : Hid (∀ (j : Nat) (u : Value), ([.int .i64 st.code.length, strV s] : List Value)[j]? = some u → (w2.alloc (.cells #[.int .i64 st.code.length, strV s] 64)).drew.cell? ((⟨w2.heap.size, 0, none⟩ : Addr).add j) = some u) := lit_cells w2 [.int .i64 st.code.length, strV s] 64
    have U6 : Hid (∀ u ∈ ([.int .i64 st.code.length, strV s] : List Value), u.oneCell' = true) := by intro u hu; simp at hu; rcases hu with rfl | rfl <;> rfl
    have p0' := cell_later G2 p0
    have p2' := cell_later G2 p2
    have HG2 := hide G2
    clear G2
    go_wp2_with (fail)
    refine Code.wp_mono (Q := CutG (.pointer (some ⟨g, 0, none⟩)) (.int .i64 op) (.int .i64 a) (strV s) (fun w' => ∃ own', BAt w' own' g ⟨st.code, st.lines, st.names, st.jumps ++ [(st.code.length, s)]⟩ wr ∧ (∀ k, own' k → own k ∨ w2.heap.size ≤ k) ∧ Ko own w2 w')) (fun e ac w8 h => CutG.elim h ?_) ?_
    rotate_left
    · go_region_law (
         refine step_append_at (by rfl) (.tmp 18) (.tmp 26) 39 (by rfl) 0 64 i2 zeroJ 2 24 Tryd.underlying39 hi2 hz20 hz21 hz22 rfl (by decide) (.slice a3 st.jumps.length c3) st.jumps.length _ (by rfl) O6.out ⟨w2.heap.size, 0, none⟩ 1 1 [.int .i64 st.code.length, strV s] (by rfl) rfl N6.out U6.out (by unfold maxLen; omega) (by omega) (Nat.zero_le _) ?_
         intro v' w7 hown7 hgrow7 hat7
         have K7 : Hid (Kept 64 0 w2 w7) := (Kept.of_gr HG2.out.drew).trans (Kept.grown O6.out hgrow7)
         have KO : Hid (Ko own w2 w7) := Ko.trans (own' := own) (Ko.of_gr HG2.out.drew) (Ko.grown hgrow7 P1.out.wj) (fun i h => .inl h)
         have r7 := K7.out.row (show 41 ≠ 64 by decide) P1.out.row
         have q7 := row_cell r7 2
         have z7 := row_frozen r7 2
         simp only [List.getElem?_toArray, List.getElem?_cons_zero, List.getElem?_cons_succ] at q7
         obtain ⟨a7, c7, rfl⟩ := own_shape hown7
         have own7 : Hid (w7.ownsRow 0 64 2 (.slice a7 (st.jumps.length + 1) c7) (st.jumps ++ [(st.code.length, s)]).length (jumpsV (st.jumps ++ [(st.code.length, s)]))) := by
           show w7.ownsRow _ _ _ _ _ _
           rw [jumpsV_snoc, List.length_append]
           exact hown7
         have HAT := hide hat7
         clear hown7 hgrow7 r7 hat7)
      all_goals
        have MN := more_new (own := own) (v := .slice a3 st.jumps.length c3) P1.out.wj HAT.out (show w2.heap.size ≤ (w2.alloc (.cells #[.int .i64 st.code.length, strV s] 64)).drew.heap.size by have := KW.size; have := HG2.out.size; simp <;> omega)
        refine ⟨⟨_, ⟨_, _, _, P1.out.addJ K7.out own7.out⟩, MN, Ko.trans (own' := own) (Ko.trans (own' := own) KW KO.out (fun i h => .inl h)) (Ko.setCell P1.out.og _) (fun i h => .inl h)⟩, ?_⟩
        exact ⟨_, _, _, _, _, _, _, _, _, _, _, _, _, _, _, _, _, _, _, _, _, _, _, _, _, _, _, rfl⟩
    intro u8 u9 u10 u11 u12 u13 u14 u15 u16 u17 u18 u19 u20 u21 u22 u23 u24 u25 u26 u27 u28 u29 u30 u31 u32 u33 u34 ⟨own', hB8, hO8, hK8⟩
    have H8 := hide (do_calls ⟨op, a, 0, 0, 0⟩ own' g _ wr w8 hB8 h4)
    clear P1 O6 N6 U6 p0 p2 p0' p2' HG2 hB8
    go_wp2_with (go_at_call 16; refine H8.out.mono ?_; rintro e w9 ⟨rfl, own9, hB9, hO9, hK9⟩)
    go_end0
    refine ⟨rfl, own9, (by rw [WE]; exact hB9), fun k hk => ?_, Ko.trans hK8 hK9 hO8⟩
    rcases hO9 k hk with h | h
    · exact hO8 k h
    · exact .inr (by have := hK8.size; omega)
  | false =>
    have WE : (wr || !false) = true := by simp
    obtain ⟨vc, vm, vj, hP1⟩ := hP
    have q3 := row_cell hP1.row 3
    have z3 := row_frozen hP1.row 3
    simp only [List.getElem?_toArray, List.getElem?_cons_zero, List.getElem?_cons_succ] at q3
    have HP1 := hide hP1
    clear hP1
    go_enter Tryd.func15, Tryd.ntmps15
    go_wp2_with (fail)
    refine HJ.out.mono ?_
    rw [hjb]
    rintro e w2 ⟨rfl, rfl⟩
    have hP5 : BAt (w2.setCell ⟨g, 3, none⟩ (.bool true)) own g st true := ⟨_, _, _, HP1.out.setW true⟩
    have KW : Ko own w2 (w2.setCell ⟨g, 3, none⟩ (.bool true)) := Ko.setCell HP1.out.og _
    go_wp2_with (fail)
    generalize w2.setCell ⟨g, 3, none⟩ (.bool true) = w3 at hP5 KW ⊢
    clear q3 z3 HP1
    have hP' := hP5
    obtain ⟨vc, vm, vj, hP5⟩ := hP5
    have P1 := hide hP5
    clear hP5 hP'
    obtain ⟨i2, hi2, hz20, hz21, hz22⟩ := info_parts infoJ
    obtain ⟨a0, c0, rfl⟩ := own_shape P1.out.oc
    obtain ⟨a3, c3, rfl⟩ := own_shape P1.out.oj
    have p0 := row_cell P1.out.row 0
    have p2 := row_cell P1.out.row 2
    simp only [List.getElem?_toArray, List.getElem?_cons_zero, List.getElem?_cons_succ] at p0 p2
    have G2 := (Gr.refl w3).alloc #[.int .i64 st.code.length, strV s] 64
    have O6 : Hid ((w3.alloc (.cells #[.int .i64 st.code.length, strV s] 64)).drew.ownsRow 0 64 2 (.slice a3 st.jumps.length c3) st.jumps.length (jumpsV st.jumps)) := own_gr P1.out.oj G2.drew
    have N6 : Hid (∀ (j : Nat) (u : Value), ([.int .i64 st.code.length, strV s] : List Value)[j]? = some u → (w3.alloc (.cells #[.int .i64 st.code.length, strV s] 64)).drew.cell? ((⟨w3.heap.size, 0, none⟩ : Addr).add j) = some u) := lit_cells w3 [.int .i64 st.code.length, strV s] 64
    have U6 : Hid (∀ u ∈ ([.int .i64 st.code.length, strV s] : List Value), u.oneCell' = true) := by intro u hu; simp at hu; rcases hu with rfl | rfl <;> rfl
    have p0' := cell_later G2 p0
    have p2' := cell_later G2 p2
    have HG2 := hide G2
    clear G2
    go_wp2_with (fail)
    refine Code.wp_mono (Q := CutG (.pointer (some ⟨g, 0, none⟩)) (.int .i64 op) (.int .i64 a) (strV s) (fun w' => ∃ own', BAt w' own' g ⟨st.code, st.lines, st.names, st.jumps ++ [(st.code.length, s)]⟩ true ∧ (∀ k, own' k → own k ∨ w2.heap.size ≤ k) ∧ Ko own w2 w')) (fun e ac w8 h => CutG.elim h ?_) ?_
    rotate_left
    · go_region_law (
         refine step_append_at (by rfl) (.tmp 18) (.tmp 26) 39 (by rfl) 0 64 i2 zeroJ 2 24 Tryd.underlying39 hi2 hz20 hz21 hz22 rfl (by decide) (.slice a3 st.jumps.length c3) st.jumps.length _ (by rfl) O6.out ⟨w3.heap.size, 0, none⟩ 1 1 [.int .i64 st.code.length, strV s] (by rfl) rfl N6.out U6.out (by unfold maxLen; omega) (by omega) (Nat.zero_le _) ?_
         intro v' w7 hown7 hgrow7 hat7
         have K7 : Hid (Kept 64 0 w3 w7) := (Kept.of_gr HG2.out.drew).trans (Kept.grown O6.out hgrow7)
         have KO : Hid (Ko own w3 w7) := Ko.trans (own' := own) (Ko.of_gr HG2.out.drew) (Ko.grown hgrow7 P1.out.wj) (fun i h => .inl h)
         have r7 := K7.out.row (show 41 ≠ 64 by decide) P1.out.row
         have q7 := row_cell r7 2
         have z7 := row_frozen r7 2
         simp only [List.getElem?_toArray, List.getElem?_cons_zero, List.getElem?_cons_succ] at q7
         obtain ⟨a7, c7, rfl⟩ := own_shape hown7
         have own7 : Hid (w7.ownsRow 0 64 2 (.slice a7 (st.jumps.length + 1) c7) (st.jumps ++ [(st.code.length, s)]).length (jumpsV (st.jumps ++ [(st.code.length, s)]))) := by
           show w7.ownsRow _ _ _ _ _ _
           rw [jumpsV_snoc, List.length_append]
           exact hown7
         have HAT := hide hat7
         clear hown7 hgrow7 r7 hat7)
      all_goals
        have MN := more_new (own := own) (v := .slice a3 st.jumps.length c3) P1.out.wj HAT.out (show w2.heap.size ≤ (w3.alloc (.cells #[.int .i64 st.code.length, strV s] 64)).drew.heap.size by have := KW.size; have := HG2.out.size; simp <;> omega)
        refine ⟨⟨_, ⟨_, _, _, P1.out.addJ K7.out own7.out⟩, MN, Ko.trans (own' := own) (Ko.trans (own' := own) KW KO.out (fun i h => .inl h)) (Ko.setCell P1.out.og _) (fun i h => .inl h)⟩, ?_⟩
        exact ⟨_, _, _, _, _, _, _, _, _, _, _, _, _, _, _, _, _, _, _, _, _, _, _, _, _, _, _, rfl⟩
    intro u8 u9 u10 u11 u12 u13 u14 u15 u16 u17 u18 u19 u20 u21 u22 u23 u24 u25 u26 u27 u28 u29 u30 u31 u32 u33 u34 ⟨own', hB8, hO8, hK8⟩
    have H8 := hide (do_calls ⟨op, a, 0, 0, 0⟩ own' g _ true w8 hB8 h4)
    clear P1 O6 N6 U6 p0 p2 p0' p2' HG2 hB8
    go_wp2_with (go_at_call 16; refine H8.out.mono ?_; rintro e w9 ⟨rfl, own9, hB9, hO9, hK9⟩)
    go_end0
    refine ⟨rfl, own9, (by rw [WE]; exact hB9), fun k hk => ?_, Ko.trans hK8 hK9 hO8⟩
    rcases hO9 k hk with h | h
    · exact hO8 k h
    · exact .inr (by have := hK8.size; omega)
end Go.Proofs.YtcfkcnkekdafgaaDoor
