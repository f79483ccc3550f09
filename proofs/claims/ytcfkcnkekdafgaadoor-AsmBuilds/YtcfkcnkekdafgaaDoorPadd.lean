/-
  For any line that is an instruction: what the parser's 'add' makes of it. Conditions: a parser of at most 4000 instructions.
-/
import Derived.Test.YtcfkcnkekdafgaaDoorPname
namespace Go.Proofs.YtcfkcnkekdafgaaDoor
open Go.ChangeShapes Go.WideShapes Go.ChangeAt Go.RowKit
set_option linter.unusedVariables false

abbrev zeroI : Value := .agg #[.int .i64 0, .int .i64 0, .int .i64 0, .int .i64 0, .int .u32 0]
abbrev zeroJ : Value := .agg #[.int .i64 0, .string ⟨#[]⟩]
theorem infoI : (Tryd.prog.info? 28).map (fun i => (i.zero, i.size, i.bytes)) = some (some zeroI, 5, 40) := by kernel_rfl
theorem infoJ : (Tryd.prog.info? 64).map (fun i => (i.zero, i.size, i.bytes)) = some (some zeroJ, 2, 24) := by kernel_rfl
theorem infoN : (Tryd.prog.info? 3).map (fun i => (i.zero, i.size, i.bytes)) = some (some (.int .i64 0), 1, 8) := by kernel_rfl
theorem lit_cells (w : World) (l : List Value) (e : TypeId) : ∀ (j : Nat) (u : Value), l[j]? = some u → (w.alloc (.cells l.toArray e)).cell? ((⟨w.heap.size, 0, none⟩ : Addr).add j) = some u := by
  intro j u hj
  have hn : (w.alloc (.cells l.toArray e)).heap[w.heap.size]? = some (.cells l.toArray e) := heap_alloc_new w _
  rw [Addr.add_mid]
  exact (row_cell hn (0 + j)).trans (by simpa using hj)

section
variable {w1 w2 : World} {B g m : Nat} {vc vl vj v' : Value} {st : St}
theorem PRow.addJ (h : PRow w1 B g m vc vl vj st) (k : Kept 64 B w1 w2) {js : List (Nat × Bs)} (o : w2.ownsRow B 64 2 v' js.length (jumpsV js)) :
    PRow (w2.setCell ⟨g, 3, none⟩ v') B g m vc vl v' ⟨st.code, st.lines, st.names, js⟩ ∧ Kp B w1 (w2.setCell ⟨g, 3, none⟩ v') := by
  have r2 := k.row (show 56 ≠ 64 by decide) h.row
  have k2 : Kept 56 B w2 (w2.setCell ⟨g, 3, none⟩ v') := Kept.setCell B r2 h.hg v'
  exact ⟨⟨row_set r2 3 v', k2.own (by decide) (k.own (by decide) h.oc), k2.own (by decide) (k.own (by decide) h.ol), k2.own (by decide) o, k2.map (k.map h.mp), h.hg, h.hm⟩, (Kp.of_kept k (by decide)).trans (Kp.of_kept k2 (by decide))⟩
theorem PRow.addC (h : PRow w1 B g m vc vl vj st) (k : Kept 28 B w1 w2) {cs : List Ins} (o : w2.ownsRow B 28 5 v' cs.length (codeV cs)) :
    PRow (w2.setCell ⟨g, 0, none⟩ v') B g m v' vl vj ⟨cs, st.lines, st.names, st.jumps⟩ ∧ Kp B w1 (w2.setCell ⟨g, 0, none⟩ v') := by
  have r2 := k.row (show 56 ≠ 28 by decide) h.row
  have k2 : Kept 56 B w2 (w2.setCell ⟨g, 0, none⟩ v') := Kept.setCell B r2 h.hg v'
  exact ⟨⟨row_set r2 0 v', k2.own (by decide) o, k2.own (by decide) (k.own (by decide) h.ol), k2.own (by decide) (k.own (by decide) h.oj), k2.map (k.map h.mp), h.hg, h.hm⟩, (Kp.of_kept k (by decide)).trans (Kp.of_kept k2 (by decide))⟩
theorem PRow.addL (h : PRow w1 B g m vc vl vj st) (k : Kept 3 B w1 w2) {ls : List Nat} (o : w2.ownsRow B 3 1 v' ls.length (linesV ls)) :
    PRow (w2.setCell ⟨g, 1, none⟩ v') B g m vc v' vj ⟨st.code, ls, st.names, st.jumps⟩ ∧ Kp B w1 (w2.setCell ⟨g, 1, none⟩ v') := by
  have r2 := k.row (show 56 ≠ 3 by decide) h.row
  have k2 : Kept 56 B w2 (w2.setCell ⟨g, 1, none⟩ v') := Kept.setCell B r2 h.hg v'
  exact ⟨⟨row_set r2 1 v', k2.own (by decide) (k.own (by decide) h.oc), k2.own (by decide) o, k2.own (by decide) (k.own (by decide) h.oj), k2.map (k.map h.mp), h.hg, h.hm⟩, (Kp.of_kept k (by decide)).trans (Kp.of_kept k2 (by decide))⟩
end
theorem codeV_snoc (l : List Ins) (i : Ins) : codeV (l ++ [i]) = codeV l ++ i.vals := by simp [codeV]
theorem jumpsV_snoc (l : List (Nat × Bs)) (n : Nat) (t : Bs) : jumpsV (l ++ [(n, t)]) = jumpsV l ++ [.int .i64 n, strV t] := by simp [jumpsV]
theorem linesV_snoc (l : List Nat) (n : Nat) : linesV (l ++ [n]) = linesV l ++ [.int .i64 n] := by simp [linesV]
def addStep (st : St) (i : Ins) (t : Bs) (no : Nat) : Nat × St :=
  if st.code.length < 4000 then (0, ⟨st.code ++ [i], st.lines ++ [no], st.names, if jumpB i.op = true then st.jumps ++ [(st.code.length, t)] else st.jumps⟩) else (4, st)
/-- what a part of 'add' leaves: the frame's slots that count, and the world -/
def CutA (p l no b : Value) (R : World → Prop) : Exit → Act → World → Prop
  | .normal, a, w' => R w' ∧ ∃ u5 u6 u7 u8 u9 u10 u11 u12 u13 u14 u15 u16 u17 u18 u19 u20 u21 u22 u23 u24 u25 u26 u27 u28 u29 u30 u31 u32 u33 u34 u35 u36 u37 u38 u39 u40 u41 u42 u43 u44 u45 u46 u47 u48 u49 u50 u51 u52 u53 u54 : Value, a = ⟨#[p, l, no, undef, b, u5, u6, u7, u8, u9, u10, u11, u12, u13, u14, u15, u16, u17, u18, u19, u20, u21, u22, u23, u24, u25, u26, u27, u28, u29, u30, u31, u32, u33, u34, u35, u36, u37, u38, u39, u40, u41, u42, u43, u44, u45, u46, u47, u48, u49, u50, u51, u52, u53, u54], []⟩
  | _, _, _ => False
theorem CutA.elim {p l no b : Value} {R : World → Prop} {Q : Exit → Act → World → Prop} {e : Exit} {a : Act} {w' : World} (h : CutA p l no b R e a w') (k : ∀ u5 u6 u7 u8 u9 u10 u11 u12 u13 u14 u15 u16 u17 u18 u19 u20 u21 u22 u23 u24 u25 u26 u27 u28 u29 u30 u31 u32 u33 u34 u35 u36 u37 u38 u39 u40 u41 u42 u43 u44 u45 u46 u47 u48 u49 u50 u51 u52 u53 u54 : Value, R w' → Q .normal ⟨#[p, l, no, undef, b, u5, u6, u7, u8, u9, u10, u11, u12, u13, u14, u15, u16, u17, u18, u19, u20, u21, u22, u23, u24, u25, u26, u27, u28, u29, u30, u31, u32, u33, u34, u35, u36, u37, u38, u39, u40, u41, u42, u43, u44, u45, u46, u47, u48, u49, u50, u51, u52, u53, u54], []⟩ w') : Q e a w' := by
  cases e with
  | normal =>
    obtain ⟨hR, u5, u6, u7, u8, u9, u10, u11, u12, u13, u14, u15, u16, u17, u18, u19, u20, u21, u22, u23, u24, u25, u26, u27, u28, u29, u30, u31, u32, u33, u34, u35, u36, u37, u38, u39, u40, u41, u42, u43, u44, u45, u46, u47, u48, u49, u50, u51, u52, u53, u54, rfl⟩ := h
    exact k u5 u6 u7 u8 u9 u10 u11 u12 u13 u14 u15 u16 u17 u18 u19 u20 u21 u22 u23 u24 u25 u26 u27 u28 u29 u30 u31 u32 u33 u34 u35 u36 u37 u38 u39 u40 u41 u42 u43 u44 u45 u46 u47 u48 u49 u50 u51 u52 u53 u54 hR
  | _ => exact False.elim h
/-- what is left to do when the jump has been added -/
def RA (B g m b0 : Nat) (st : St) (i : Ins) (t : Bs) (w w' : World) : Prop := (∃ vc vl vj, PRow w' B g m vc vl vj st) ∧ LBox b0 i t w' ∧ Kp B w w'

set_option maxRecDepth 100000 in
set_option maxHeartbeats 1600000 in
theorem padd_calls (i : Ins) (t : Bs) (no B g : Nat) (st : St) (w : World) (hP : PAt w B g st) (L : Laid w) (h4 : st.code.length ≤ 4000) (hl : st.lines.length = st.code.length) (hj : st.jumps.length ≤ st.code.length) (hBw : B ≤ w.heap.size) :
    Calls Tryd.prog 31 #[.pointer (some ⟨g, 0, none⟩), .agg (lineV i t), .int .i64 no] w (StepP B g (addStep st i t no) w) := by
  have hl2 : st.lines.length ≤ 4000 := by omega
  clear hl
  have hg1 := (Gr.refl w).alloc (lineV i t) 72
  have BX : Hid (LBox w.heap.size i t (w.alloc (.cells (lineV i t) 72))) := heap_alloc_new w _
  have L1 := hide (L.later hg1)
  obtain ⟨m, vc, vl, vj, hP⟩ := hP
  have P1 := hide (hP.gr hg1)
  have hB1 : B ≤ (w.alloc (.cells (lineV i t) 72)).heap.size := by have := hg1.size; omega
  clear hP L
  obtain ⟨a0, c0, rfl⟩ := own_shape P1.out.oc
  obtain ⟨i3, hi3, hz30, hz31, hz32⟩ := info_parts infoI
  obtain ⟨i2, hi2, hz20, hz21, hz22⟩ := info_parts infoJ
  obtain ⟨i1, hi1, hz10, hz11, hz12⟩ := info_parts infoN
  have q0 := row_cell P1.out.row 0
  simp only [List.getElem?_toArray, List.getElem?_cons_zero] at q0
  by_cases hlt : st.code.length < 4000
  · have hlt' : (st.code.length : Int) < 4000 := by omega
    go_enter Tryd.func31, Tryd.ntmps31
    go_wp2_with (fail)
    refine (insist_ok _ _).mono ?_
    rintro e w2 ⟨rfl, rfl⟩
    clear q0
    generalize w.alloc (.cells (lineV i t) 72) = w1 at hg1 BX L1 P1 hB1 ⊢
    generalize w.heap.size = b0 at BX hBw ⊢
    have x0 := BX.out.cells.1
    go_wp2_with (fail)
    refine (jumps_calls i.op w1 L1.out).mono ?_
    rintro e w2 ⟨rfl, rfl⟩
    clear x0
    cases hjb : jumpB i.op with
    | false =>
      have HS : Hid (addStep st i t no = (0, ⟨st.code ++ [i], st.lines ++ [no], st.names, st.jumps⟩)) := by show _ = _; simp [addStep, hlt, hjb]
      have KX := Kp.refl B w2
      have P1 : ∃ vc vl vj, PRow w2 B g m vc vl vj st := ⟨_, _, _, P1.out⟩
      have BX := BX.out
      obtain ⟨vc, vl, vj, P1⟩ := P1
      have P1 := hide P1
      have BX := hide BX
      obtain ⟨a0, c0, rfl⟩ := own_shape P1.out.oc
      have G2 := (Gr.refl w2).alloc #[.int .i64 i.op, .int .i64 i.a, .int .i64 i.b, .int .i64 i.c, .int .u32 i.k] 28
      have O6 : Hid ((w2.alloc (.cells #[.int .i64 i.op, .int .i64 i.a, .int .i64 i.b, .int .i64 i.c, .int .u32 i.k] 28)).drew.ownsRow B 28 5 (.slice a0 st.code.length c0) st.code.length (codeV st.code)) := own_gr P1.out.oc G2.drew
      have N6 : Hid (∀ (j : Nat) (u : Value), ([.int .i64 i.op, .int .i64 i.a, .int .i64 i.b, .int .i64 i.c, .int .u32 i.k] : List Value)[j]? = some u → (w2.alloc (.cells #[.int .i64 i.op, .int .i64 i.a, .int .i64 i.b, .int .i64 i.c, .int .u32 i.k] 28)).drew.cell? ((⟨w2.heap.size, 0, none⟩ : Addr).add j) = some u) := lit_cells w2 [.int .i64 i.op, .int .i64 i.a, .int .i64 i.b, .int .i64 i.c, .int .u32 i.k] 28
      have U6 : Hid (∀ u ∈ ([.int .i64 i.op, .int .i64 i.a, .int .i64 i.b, .int .i64 i.c, .int .u32 i.k] : List Value), u.oneCell' = true) := by intro u hu; simp at hu; rcases hu with rfl | rfl | rfl | rfl | rfl <;> rfl
      have S6 : B ≤ (w2.alloc (.cells #[.int .i64 i.op, .int .i64 i.a, .int .i64 i.b, .int .i64 i.c, .int .u32 i.k] 28)).drew.heap.size := by have := G2.size; simp; omega
      have p0 := row_cell P1.out.row 0
      have p3 := row_cell P1.out.row 3
      simp only [List.getElem?_toArray, List.getElem?_cons_zero, List.getElem?_cons_succ] at p0 p3
      have p0' := cell_later G2 p0
      have p3' := cell_later G2 p3
      obtain ⟨x0, x1, x2, x3, x4, x5⟩ := BX.out.cells
      obtain ⟨y0, y1, y2, y3, y4, y5⟩ := (BX.out.later G2).cells
      have HG2 := hide G2
      clear G2
      go_wp2_with (fail)
      refine Code.wp_mono (Q := CutA (.pointer (some ⟨g, 0, none⟩)) (.agg (lineV i t)) (.int .i64 no) (.pointer (some ⟨b0, 0, none⟩)) (RA B g m b0 ⟨st.code ++ [i], st.lines, st.names, st.jumps⟩ i t w2)) (fun e a w8 h => CutA.elim h ?_) ?_
      rotate_left
      · go_region_law (
             refine step_append_own (by rfl) (.tmp 38) (.tmp 41) 22 (by rfl) B 28 i3 zeroI 5 40 Tryd.underlying22 hi3 hz30 hz31 hz32 rfl (by decide) (.slice a0 st.code.length c0) st.code.length _ (by rfl) O6.out ⟨w2.heap.size, 0, none⟩ 1 1 [.int .i64 i.op, .int .i64 i.a, .int .i64 i.b, .int .i64 i.c, .int .u32 i.k] (by rfl) rfl N6.out U6.out (by unfold maxLen; omega) (by omega) S6 ?_
             intro v' w7 hown7 hgrow7
             have K7 : Hid (Kept 28 B w2 w7) := (Kept.of_gr HG2.out.drew).trans (Kept.grown O6.out hgrow7)
             have r7 := K7.out.row (show 56 ≠ 28 by decide) P1.out.row
             have q7 := row_cell r7 0
             have z7 := row_frozen r7 0
             simp only [List.getElem?_toArray, List.getElem?_cons_zero] at q7
             obtain ⟨a7, c7, rfl⟩ := own_shape hown7
             have own7 : Hid (w7.ownsRow B 28 5 (.slice a7 (st.code.length + 1) c7) (st.code ++ [i]).length (codeV (st.code ++ [i]))) := by
               show w7.ownsRow _ _ _ _ _ _
               rw [codeV_snoc, List.length_append]
               exact hown7
             clear hown7 hgrow7 r7)
        all_goals
          have PA := P1.out.addC K7.out own7.out
          have B7 := (Kept.setCell (o := 0) B (K7.out.row (show 56 ≠ 28 by decide) P1.out.row) P1.out.hg (.slice a7 (st.code.length + 1) c7)).row (show 72 ≠ 56 by decide) (K7.out.row (show 72 ≠ 28 by decide) BX.out)
          refine ⟨⟨⟨_, _, _, PA.1⟩, B7, PA.2⟩, ?_⟩
          exact ⟨_, _, _, _, _, _, _, _, _, _, _, _, _, _, _, _, _, _, _, _, _, _, _, _, _, _, _, _, _, _, _, _, _, _, _, _, _, _, _, _, _, _, _, _, _, _, _, _, _, _, rfl⟩
      intro u5 u6 u7 u8 u9 u10 u11 u12 u13 u14 u15 u16 u17 u18 u19 u20 u21 u22 u23 u24 u25 u26 u27 u28 u29 u30 u31 u32 u33 u34 u35 u36 u37 u38 u39 u40 u41 u42 u43 u44 u45 u46 u47 u48 u49 u50 u51 u52 u53 u54 ⟨⟨vc8, vl8, vj8, P8⟩, B8, K8⟩
      have P8 := hide P8
      obtain ⟨a1, c1, rfl⟩ := own_shape P8.out.ol
      have p1 := row_cell P8.out.row 1
      simp only [List.getElem?_toArray, List.getElem?_cons_zero, List.getElem?_cons_succ] at p1
      have G8 := (Gr.refl w8).alloc #[.int .i64 no] 3
      have O8 : Hid ((w8.alloc (.cells #[.int .i64 no] 3)).ownsRow B 3 1 (.slice a1 st.lines.length c1) st.lines.length (linesV st.lines)) := own_gr P8.out.ol G8
      have S8 : B ≤ (w8.alloc (.cells #[.int .i64 no] 3)).heap.size := by have := G8.size; have := K8.size; omega
      have HG8 := hide G8
      have N8 := hide (lit_cells w8 [.int .i64 no] 3)
      have U8 : Hid (∀ u ∈ [Value.int .i64 no], u.oneCell' = true) := by intro u hu; simp at hu; subst hu; rfl
      have HK8 := hide K8
      clear G8 K8 P1 BX O6 N6 U6 p0 p3 p0' p3' x0 x1 x2 x3 x4 x5 y0 y1 y2 y3 y4 y5 HG2
      go_wp2_with (at_builtin; refine wpList_append_own _ rfl (.tmp 49) (.tmp 51) 54 rfl B 3 i1 (.int .i64 0) 1 8 Tryd.underlying54 hi1 hz10 hz11 hz12 rfl (by decide) _ st.lines.length _ rfl O8.out ⟨w8.heap.size, 0, none⟩ 1 1 [.int .i64 no] rfl rfl (N8.out) (U8.out) (by unfold maxLen; omega) (by omega) S8 ?_)
      intro v' w9 hown9 hgrow9 _
      have K9 : Hid (Kept 3 B w8 w9) := (Kept.of_gr HG8.out).trans (Kept.grown O8.out hgrow9)
      have r9 := K9.out.row (show 56 ≠ 3 by decide) P8.out.row
      have q9 := row_cell r9 1
      have z9 := row_frozen r9 1
      simp only [List.getElem?_toArray, List.getElem?_cons_zero, List.getElem?_cons_succ] at q9
      obtain ⟨a9, c9, rfl⟩ := own_shape hown9
      have own9 : w9.ownsRow B 3 1 (.slice a9 (st.lines.length + 1) c9) (st.lines ++ [no]).length (linesV (st.lines ++ [no])) := by
        rw [linesV_snoc, List.length_append]
        exact hown9
      have PA := hide (P8.out.addL K9.out own9)
      clear hown9 hgrow9 r9 own9
      go_wp2
      go_end0
      unfold StepP
      rw [HS.out]
      exact ⟨rfl, ⟨_, _, _, _, PA.out.1⟩, (Kp.of_gr hg1).trans (KX.trans (HK8.out.trans PA.out.2))⟩
    | true =>
      have HS : Hid (addStep st i t no = (0, ⟨st.code ++ [i], st.lines ++ [no], st.names, st.jumps ++ [(st.code.length, t)]⟩)) := by show _ = _; simp [addStep, hlt, hjb]
      obtain ⟨a3, c3, rfl⟩ := own_shape P1.out.oj
      have G2 := (Gr.refl w2).alloc #[.int .i64 st.code.length, strV t] 64
      have O6 : Hid ((w2.alloc (.cells #[.int .i64 st.code.length, strV t] 64)).drew.ownsRow B 64 2 (.slice a3 st.jumps.length c3) st.jumps.length (jumpsV st.jumps)) := own_gr P1.out.oj G2.drew
      have N6 : Hid (∀ (j : Nat) (u : Value), ([.int .i64 st.code.length, strV t] : List Value)[j]? = some u → (w2.alloc (.cells #[.int .i64 st.code.length, strV t] 64)).drew.cell? ((⟨w2.heap.size, 0, none⟩ : Addr).add j) = some u) := lit_cells w2 [.int .i64 st.code.length, strV t] 64
      have U6 : Hid (∀ u ∈ ([.int .i64 st.code.length, strV t] : List Value), u.oneCell' = true) := by intro u hu; simp at hu; rcases hu with rfl | rfl <;> rfl
      have S6 : B ≤ (w2.alloc (.cells #[.int .i64 st.code.length, strV t] 64)).drew.heap.size := by have := G2.size; simp; omega
      have p0 := row_cell P1.out.row 0
      have p3 := row_cell P1.out.row 3
      simp only [List.getElem?_toArray, List.getElem?_cons_zero, List.getElem?_cons_succ] at p0 p3
      have p0' := cell_later G2 p0
      have p3' := cell_later G2 p3
      obtain ⟨x0, x1, x2, x3, x4, x5⟩ := BX.out.cells
      obtain ⟨y0, y1, y2, y3, y4, y5⟩ := (BX.out.later G2).cells
      have HG2 := hide G2
      clear G2
      go_wp2_with (fail)
      refine Code.wp_mono (Q := CutA (.pointer (some ⟨g, 0, none⟩)) (.agg (lineV i t)) (.int .i64 no) (.pointer (some ⟨b0, 0, none⟩)) (RA B g m b0 ⟨st.code, st.lines, st.names, st.jumps ++ [(st.code.length, t)]⟩ i t w2)) (fun e a w4 h => CutA.elim h ?_) ?_
      rotate_left
      · go_region_law (
             refine step_append_own (by rfl) (.tmp 21) (.tmp 30) 39 (by rfl) B 64 i2 zeroJ 2 24 Tryd.underlying39 hi2 hz20 hz21 hz22 rfl (by decide) (.slice a3 st.jumps.length c3) st.jumps.length _ (by rfl) O6.out ⟨w2.heap.size, 0, none⟩ 1 1 [.int .i64 st.code.length, strV t] (by rfl) rfl N6.out U6.out (by unfold maxLen; omega) (by omega) S6 ?_
             intro v' w7 hown7 hgrow7
             have K7 : Hid (Kept 64 B w2 w7) := (Kept.of_gr HG2.out.drew).trans (Kept.grown O6.out hgrow7)
             have r7 := K7.out.row (show 56 ≠ 64 by decide) P1.out.row
             have q7 := row_cell r7 3
             have z7 := row_frozen r7 3
             simp only [List.getElem?_toArray, List.getElem?_cons_zero, List.getElem?_cons_succ] at q7
             obtain ⟨a7, c7, rfl⟩ := own_shape hown7
             have own7 : Hid (w7.ownsRow B 64 2 (.slice a7 (st.jumps.length + 1) c7) (st.jumps ++ [(st.code.length, t)]).length (jumpsV (st.jumps ++ [(st.code.length, t)]))) := by
               show w7.ownsRow _ _ _ _ _ _
               rw [jumpsV_snoc, List.length_append]
               exact hown7
             clear hown7 hgrow7 r7)
        all_goals
          have PA := P1.out.addJ K7.out own7.out
          have B7 := (Kept.setCell (o := 3) B (K7.out.row (show 56 ≠ 64 by decide) P1.out.row) P1.out.hg (.slice a7 (st.jumps.length + 1) c7)).row (show 72 ≠ 56 by decide) (K7.out.row (show 72 ≠ 64 by decide) BX.out)
          refine ⟨⟨⟨_, _, _, PA.1⟩, B7, PA.2⟩, ?_⟩
          exact ⟨_, _, _, _, _, _, _, _, _, _, _, _, _, _, _, _, _, _, _, _, _, _, _, _, _, _, _, _, _, _, _, _, _, _, _, _, _, _, _, _, _, _, _, _, _, _, _, _, _, _, rfl⟩
      intro u5 u6 u7 u8 u9 u10 u11 u12 u13 u14 u15 u16 u17 u18 u19 u20 u21 u22 u23 u24 u25 u26 u27 u28 u29 u30 u31 u32 u33 u34 u35 u36 u37 u38 u39 u40 u41 u42 u43 u44 u45 u46 u47 u48 u49 u50 u51 u52 u53 u54 ⟨P4, B4, KX⟩
      have hB4 : B ≤ w4.heap.size := by have := KX.size; omega
      clear P1 BX O6 N6 U6 S6 p0 p3 p0' p3' x0 x1 x2 x3 x4 x5 y0 y1 y2 y3 y4 y5 HG2 L1 hB1
      obtain ⟨vc, vl, vj, P1⟩ := P4
      have P1 := hide P1
      have BX := hide B4
      obtain ⟨a0, c0, rfl⟩ := own_shape P1.out.oc
      have G2 := (Gr.refl w4).alloc #[.int .i64 i.op, .int .i64 i.a, .int .i64 i.b, .int .i64 i.c, .int .u32 i.k] 28
      have O6 : Hid ((w4.alloc (.cells #[.int .i64 i.op, .int .i64 i.a, .int .i64 i.b, .int .i64 i.c, .int .u32 i.k] 28)).drew.ownsRow B 28 5 (.slice a0 st.code.length c0) st.code.length (codeV st.code)) := own_gr P1.out.oc G2.drew
      have N6 : Hid (∀ (j : Nat) (u : Value), ([.int .i64 i.op, .int .i64 i.a, .int .i64 i.b, .int .i64 i.c, .int .u32 i.k] : List Value)[j]? = some u → (w4.alloc (.cells #[.int .i64 i.op, .int .i64 i.a, .int .i64 i.b, .int .i64 i.c, .int .u32 i.k] 28)).drew.cell? ((⟨w4.heap.size, 0, none⟩ : Addr).add j) = some u) := lit_cells w4 [.int .i64 i.op, .int .i64 i.a, .int .i64 i.b, .int .i64 i.c, .int .u32 i.k] 28
      have U6 : Hid (∀ u ∈ ([.int .i64 i.op, .int .i64 i.a, .int .i64 i.b, .int .i64 i.c, .int .u32 i.k] : List Value), u.oneCell' = true) := by intro u hu; simp at hu; rcases hu with rfl | rfl | rfl | rfl | rfl <;> rfl
      have S6 : B ≤ (w4.alloc (.cells #[.int .i64 i.op, .int .i64 i.a, .int .i64 i.b, .int .i64 i.c, .int .u32 i.k] 28)).drew.heap.size := by have := G2.size; simp; omega
      have p0 := row_cell P1.out.row 0
      have p3 := row_cell P1.out.row 3
      simp only [List.getElem?_toArray, List.getElem?_cons_zero, List.getElem?_cons_succ] at p0 p3
      have p0' := cell_later G2 p0
      have p3' := cell_later G2 p3
      obtain ⟨x0, x1, x2, x3, x4, x5⟩ := BX.out.cells
      obtain ⟨y0, y1, y2, y3, y4, y5⟩ := (BX.out.later G2).cells
      have HG2 := hide G2
      clear G2
      go_wp2_with (fail)
      refine Code.wp_mono (Q := CutA (.pointer (some ⟨g, 0, none⟩)) (.agg (lineV i t)) (.int .i64 no) (.pointer (some ⟨b0, 0, none⟩)) (RA B g m b0 ⟨st.code ++ [i], st.lines, st.names, st.jumps ++ [(st.code.length, t)]⟩ i t w4)) (fun e a w8 h => CutA.elim h ?_) ?_
      rotate_left
      · go_region_law (
             refine step_append_own (by rfl) (.tmp 38) (.tmp 41) 22 (by rfl) B 28 i3 zeroI 5 40 Tryd.underlying22 hi3 hz30 hz31 hz32 rfl (by decide) (.slice a0 st.code.length c0) st.code.length _ (by rfl) O6.out ⟨w4.heap.size, 0, none⟩ 1 1 [.int .i64 i.op, .int .i64 i.a, .int .i64 i.b, .int .i64 i.c, .int .u32 i.k] (by rfl) rfl N6.out U6.out (by unfold maxLen; omega) (by omega) S6 ?_
             intro v' w7 hown7 hgrow7
             have K7 : Hid (Kept 28 B w4 w7) := (Kept.of_gr HG2.out.drew).trans (Kept.grown O6.out hgrow7)
             have r7 := K7.out.row (show 56 ≠ 28 by decide) P1.out.row
             have q7 := row_cell r7 0
             have z7 := row_frozen r7 0
             simp only [List.getElem?_toArray, List.getElem?_cons_zero] at q7
             obtain ⟨a7, c7, rfl⟩ := own_shape hown7
             have own7 : Hid (w7.ownsRow B 28 5 (.slice a7 (st.code.length + 1) c7) (st.code ++ [i]).length (codeV (st.code ++ [i]))) := by
               show w7.ownsRow _ _ _ _ _ _
               rw [codeV_snoc, List.length_append]
               exact hown7
             clear hown7 hgrow7 r7)
        all_goals
          have PA := P1.out.addC K7.out own7.out
          have B7 := (Kept.setCell (o := 0) B (K7.out.row (show 56 ≠ 28 by decide) P1.out.row) P1.out.hg (.slice a7 (st.code.length + 1) c7)).row (show 72 ≠ 56 by decide) (K7.out.row (show 72 ≠ 28 by decide) BX.out)
          refine ⟨⟨⟨_, _, _, PA.1⟩, B7, PA.2⟩, ?_⟩
          exact ⟨_, _, _, _, _, _, _, _, _, _, _, _, _, _, _, _, _, _, _, _, _, _, _, _, _, _, _, _, _, _, _, _, _, _, _, _, _, _, _, _, _, _, _, _, _, _, _, _, _, _, rfl⟩
      intro u5 u6 u7 u8 u9 u10 u11 u12 u13 u14 u15 u16 u17 u18 u19 u20 u21 u22 u23 u24 u25 u26 u27 u28 u29 u30 u31 u32 u33 u34 u35 u36 u37 u38 u39 u40 u41 u42 u43 u44 u45 u46 u47 u48 u49 u50 u51 u52 u53 u54 ⟨⟨vc8, vl8, vj8, P8⟩, B8, K8⟩
      have P8 := hide P8
      obtain ⟨a1, c1, rfl⟩ := own_shape P8.out.ol
      have p1 := row_cell P8.out.row 1
      simp only [List.getElem?_toArray, List.getElem?_cons_zero, List.getElem?_cons_succ] at p1
      have G8 := (Gr.refl w8).alloc #[.int .i64 no] 3
      have O8 : Hid ((w8.alloc (.cells #[.int .i64 no] 3)).ownsRow B 3 1 (.slice a1 st.lines.length c1) st.lines.length (linesV st.lines)) := own_gr P8.out.ol G8
      have S8 : B ≤ (w8.alloc (.cells #[.int .i64 no] 3)).heap.size := by have := G8.size; have := K8.size; omega
      have HG8 := hide G8
      have N8 := hide (lit_cells w8 [.int .i64 no] 3)
      have U8 : Hid (∀ u ∈ [Value.int .i64 no], u.oneCell' = true) := by intro u hu; simp at hu; subst hu; rfl
      have HK8 := hide K8
      clear G8 K8 P1 BX O6 N6 U6 p0 p3 p0' p3' x0 x1 x2 x3 x4 x5 y0 y1 y2 y3 y4 y5 HG2
      go_wp2_with (at_builtin; refine wpList_append_own _ rfl (.tmp 49) (.tmp 51) 54 rfl B 3 i1 (.int .i64 0) 1 8 Tryd.underlying54 hi1 hz10 hz11 hz12 rfl (by decide) _ st.lines.length _ rfl O8.out ⟨w8.heap.size, 0, none⟩ 1 1 [.int .i64 no] rfl rfl (N8.out) (U8.out) (by unfold maxLen; omega) (by omega) S8 ?_)
      intro v' w9 hown9 hgrow9 _
      have K9 : Hid (Kept 3 B w8 w9) := (Kept.of_gr HG8.out).trans (Kept.grown O8.out hgrow9)
      have r9 := K9.out.row (show 56 ≠ 3 by decide) P8.out.row
      have q9 := row_cell r9 1
      have z9 := row_frozen r9 1
      simp only [List.getElem?_toArray, List.getElem?_cons_zero, List.getElem?_cons_succ] at q9
      obtain ⟨a9, c9, rfl⟩ := own_shape hown9
      have own9 : w9.ownsRow B 3 1 (.slice a9 (st.lines.length + 1) c9) (st.lines ++ [no]).length (linesV (st.lines ++ [no])) := by
        rw [linesV_snoc, List.length_append]
        exact hown9
      have PA := hide (P8.out.addL K9.out own9)
      clear hown9 hgrow9 r9 own9
      go_wp2
      go_end0
      unfold StepP
      rw [HS.out]
      exact ⟨rfl, ⟨_, _, _, _, PA.out.1⟩, (Kp.of_gr hg1).trans (KX.trans (HK8.out.trans PA.out.2))⟩
  · have hlt' : ¬ (st.code.length : Int) < 4000 := by omega
    have HS : Hid (addStep st i t no = (4, st)) := by show _ = _; simp [addStep, hlt]
    go_enter Tryd.func31, Tryd.ntmps31
    go_wp2_with (fail)
    refine (insist_no _ _).mono ?_
    rintro e w2 ⟨rfl, rfl⟩
    refine ⟨rfl, ?_⟩
    unfold StepP
    rw [HS.out]
    exact ⟨rfl, ⟨_, _, _, _, P1.out⟩, Kp.of_gr hg1⟩
end Go.Proofs.YtcfkcnkekdafgaaDoor
