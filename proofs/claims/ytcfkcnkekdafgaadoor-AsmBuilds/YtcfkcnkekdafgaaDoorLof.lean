/-
  For any line, in any world in which the program's tables lie: asm.lineOf answers its instruction and the name that it jumps to, or gives up. Conditions: lines of at most 2^31 bytes.
-/
import Derived.Test.YtcfkcnkekdafgaaDoorWord
import Derived.Test.YtcfkcnkekdafgaaDoorKeep
import Derived.Deep.RegionLaw
namespace Go.Proofs.YtcfkcnkekdafgaaDoor
open Go.ChangeShapes Go.WideShapes Go.ChangeAt Go.RowKit
set_option linter.unusedVariables false

abbrev strV (l : Bs) : Value := .string ⟨l.toArray⟩
/-- strings lie in a row -/
def StrRow (w : World) (b : Nat) (ss : List Bs) : Prop := w.heap[b]? = some (.cells (ss.map strV).toArray 9)
theorem StrRow.cell {w : World} {b : Nat} {ss : List Bs} (h : StrRow w b ss) {j : Nat} {s : Bs} (hj : ss[j]? = some s) : w.cell? ⟨b, j, none⟩ = some (strV s) := by
  rw [row_cell h j]
  simp [hj]
theorem split_calls (c : UInt8) (s : Bs) (w : World) (L : Laid w) (hs : s.length ≤ 2147483648) :
    Calls Tryd.prog 22 #[.string ⟨s.toArray⟩, .string ⟨#[c]⟩] w fun e w' => e = .returned (.slice (some ⟨w.heap.size, 0, none⟩) (parts c s).length (parts c s).length) ∧ w' = w.alloc (.cells ((parts c s).map strV).toArray 9) := by
  obtain ⟨m, hm⟩ := L.ml
  refine (Tryd.strings_Split ⟨s.toArray⟩ ⟨#[c]⟩ m w (by rw [size_mk]; omega) hm (by show 1 ≤ 1; omega)).mono ?_
  rintro e w' ⟨rfl, rfl⟩
  have h1 := countB_parts c ⟨s.toArray⟩
  have h2 := splitB_parts c ⟨s.toArray⟩
  constructor
  · rw [h1]
  · rw [h2, List.map_map]
    rfl

/-- what each taker makes of a word -/
theorem take_calls (x : Nat) (hx : x < 6) (s : Bs) (i : Ins) (t : Bs) (g : Nat) (w : World) (B : LBox g i t w) (L : Laid w) (hs : s.length ≤ 2147483648) (h6 : 6 < g) :
    Calls Tryd.prog (takeF x) #[.pointer (some ⟨g, 0, none⟩), .string ⟨s.toArray⟩] w (TakeP x s i t g w) := by
  match x, hx with
  | 0, _ => exact takeA_calls s i t g w B
  | 1, _ => exact takeB_calls s i t g w B
  | 2, _ => exact takeC_calls s i t g w B
  | 3, _ => exact takeK_calls s i t g w B L hs
  | 4, _ => exact takePlace_calls s i t g w B L hs
  | 5, _ => exact takeAddr_calls s i t g w B L hs h6
theorem take_run (x : Nat) (hx : x < 6) (args : Array Value) (w : World) : (callFunc (takeF x) args).run Tryd.prog w = .ok (.enter (takeF x) args) w := by
  match x, hx with
  | 0, _ => simp [takeF, go_sem]
  | 1, _ => simp [takeF, go_sem]
  | 2, _ => simp [takeF, go_sem]
  | 3, _ => simp [takeF, go_sem]
  | 4, _ => simp [takeF, go_sem]
  | 5, _ => simp [takeF, go_sem]
theorem wk_lt : ∀ n : Fin 28, ∀ x ∈ wk n, x < 6 := by decide +kernel
theorem wk_len : ∀ n : Fin 28, (wk n).length ≤ 3 := by decide +kernel
theorem numB_nat {s : ByteArray} (h : knownB s = true) : ∃ n : Nat, numB s = n ∧ n < 28 := by
  unfold knownB at h
  have h' : numF s 28 0 < 28 := by simpa using h
  exact ⟨numF s 28 0, by unfold numB; rw [if_pos h'], h'⟩
theorem words_cells {w : World} {b : Nat} {ks : List Nat} (h : w.heap[b]? = some (.cells (wordsV ks).toArray 88)) {j x : Nat} (hj : ks[j]? = some x) : w.cell? ⟨b, j * 2, none⟩ = some (fnV (takeF x)) ∧ w.cell? ⟨b, j * 2 + 1, none⟩ = some (fnV (tellF x)) := by
  have key : ∀ (ks : List Nat) (j : Nat), ks[j]? = some x → (wordsV ks)[j * 2]? = some (fnV (takeF x)) ∧ (wordsV ks)[j * 2 + 1]? = some (fnV (tellF x)) := by
    intro ks
    induction ks with
    | nil => intro j h; simp at h
    | cons y ys ih =>
      intro j h
      cases j with
      | zero => simp at h; subst h; exact ⟨rfl, rfl⟩
      | succ j =>
        rw [List.getElem?_cons_succ] at h
        have e := ih j h
        have e1 : wordsV (y :: ys) = fnV (takeF y) :: fnV (tellF y) :: wordsV ys := rfl
        rw [e1, show (j + 1) * 2 = j * 2 + 1 + 1 by omega]
        simpa using e
  rw [row_cell h, row_cell h]
  simpa using key ks j hj
def LineP (s : Bs) (w : World) (e : Ending) (w' : World) : Prop := (match readL s with | some p => e = .returned (.agg (lineV p.1 p.2)) | none => e = gone 3) ∧ Gr w w'
abbrev line0V : Array Value := #[.int .i64 0, .int .i64 0, .int .i64 0, .int .i64 0, .int .u32 0, .string ⟨#[]⟩]

theorem readL_of {s p0 : Bs} {ps : List Bs} (hp : parts 32 s = p0 :: ps) : readL s = if knownB ⟨p0.toArray⟩ = true ∧ ps.length = (wk (numB ⟨p0.toArray⟩).toNat).length then takeAll (wk (numB ⟨p0.toArray⟩).toNat) ps (⟨numB ⟨p0.toArray⟩, 0, 0, 0, 0⟩, []) else none := by
  unfold readL
  rw [hp]
  rfl
theorem LBox.setO {g : Nat} {i : Ins} {t : Bs} {w : World} (h : LBox g i t w) (n : Int) : LBox g ⟨n, i.a, i.b, i.c, i.k⟩ t (w.setCell ⟨g, 0, none⟩ (.int .i64 n)) := row_set h 0 _
theorem LineP.gone {s : Bs} {w w' : World} (h : readL s = none) (g : Gr w w') : LineP s w (gone 3) w' := by
  unfold LineP
  rw [h]
  exact ⟨rfl, g⟩
theorem LineP.told {s : Bs} {w w' : World} {i : Ins} {t : Bs} (h : readL s = some (i, t)) (g : Gr w w') : LineP s w (.returned (.agg (lineV i t))) w' := by
  unfold LineP
  rw [h]
  exact ⟨rfl, g⟩

set_option maxRecDepth 20000 in
set_option maxHeartbeats 800000 in
theorem lineOf_calls (s : Bs) (w : World) (L : Laid w) (hs : s.length ≤ 2147483648) :
    Calls Tryd.prog 32 #[.string ⟨s.toArray⟩] w (LineP s w) := by
  have hg2 := ((Gr.refl w).alloc line0V 72).alloc line0V 72
  have HS := hide (split_calls 32 s _ (L.later hg2) hs)
  obtain ⟨p0, ps, hp⟩ : ∃ p0 ps, parts 32 s = p0 :: ps := by
    cases h : parts 32 s with
    | nil => exact absurd h (parts_ne 32 s)
    | cons a b => exact ⟨a, b, rfl⟩
  have hps : ∀ p ∈ ps, p.length ≤ 2147483648 := fun p hm => Nat.le_trans (parts_short 32 s p (by rw [hp]; exact List.mem_cons_of_mem _ hm)) hs
  have HR := hide (readL_of hp)
  have h6 : 6 < w.heap.size := L.lt
  rw [hp] at HS
  have G3 := hide (hg2.alloc ((p0 :: ps).map strV).toArray 9)
  have L3 := hide (L.later G3.out)
  have B3 : Hid (LBox (w.heap.size + 1) ⟨0, 0, 0, 0, 0⟩ [] (((w.alloc (.cells line0V 72)).alloc (.cells line0V 72)).alloc (.cells ((p0 :: ps).map strV).toArray 9))) := by
    refine (heap_alloc_old _ _ (by simp)).trans ?_
    exact new_at _ _ _ (by simp)
  have R3 : Hid ((((w.alloc (.cells line0V 72)).alloc (.cells line0V 72)).alloc (.cells ((p0 :: ps).map strV).toArray 9)).heap[w.heap.size]? = some (.cells line0V 72)) := by
    refine (heap_alloc_old _ _ (by simp; omega)).trans ((heap_alloc_old _ _ (by simp)).trans ?_)
    exact heap_alloc_new w _
  have S3 : Hid (StrRow (((w.alloc (.cells line0V 72)).alloc (.cells line0V 72)).alloc (.cells ((p0 :: ps).map strV).toArray 9)) (w.heap.size + 1 + 1) (p0 :: ps)) := new_at _ _ _ (by simp)
  clear hp hg2 L
  go_enter Tryd.func32, Tryd.ntmps32
  go_wp2_with (go_at_call 22; refine HS.out.mono ?_; rintro e w3 ⟨rfl, hw3⟩; rw [← hw3] at G3 L3 B3 R3 S3; clear hw3 HS; have q0 := S3.out.cell (j := 0) rfl)
  refine (number_calls ⟨p0.toArray⟩ w3 L3.out).mono ?_
  rintro e w4 ⟨rfl, rfl⟩
  clear q0
  cases hk : knownB ⟨p0.toArray⟩
  · have HN : readL s = none := by rw [HR.out, hk]; simp
    go_wp2_with (go_at_call 39; refine (insist_no _ _).mono ?_; rintro e w1 ⟨rfl, rfl⟩)
    exact ⟨rfl, LineP.gone HN G3.out⟩
  obtain ⟨n, hn, hn28⟩ := numB_nat hk
  rw [hk, hn] at HR
  rw [hn]
  clear hn hk
  have q0 := B3.out.cells.1
  have z0 := B3.out.free 0
  go_wp2_with (go_at_call 39; refine (insist_ok _ _).mono ?_; rintro e w1 ⟨rfl, rfl⟩)
  have W4 : Wr (w.heap.size + 1) w1 (w1.setCell ⟨w.heap.size + 1, 0, none⟩ (.int .i64 n)) := (Wr.refl _ _).setCell 0 _
  have G4 := hide (Wr.gr G3.out (Nat.le_succ _) W4)
  have B4 := hide (B3.out.setO n)
  have R4 := hide ((W4.block _ (heap_lt R3.out) (by simp)).trans R3.out)
  have S4 := hide ((W4.block _ (heap_lt S3.out) (by simp)).trans S3.out)
  have L4 := hide (L3.out.wr W4 (by omega))
  clear G3 B3 R3 S3 L3 q0 z0 W4
  generalize w1.setCell ⟨w.heap.size + 1, 0, none⟩ (.int .i64 n) = w4 at G4 B4 R4 S4 L4 ⊢
  refine (words_calls n hn28 w4).mono ?_
  rintro e w5 ⟨v, rfl, hv, hg5⟩
  have G5 := hide (G4.out.trans hg5)
  have B5 := hide (B4.out.later hg5)
  have R5 := hide ((hg5.block _ (heap_lt R4.out)).trans R4.out)
  have S5 := hide ((hg5.block _ (heap_lt S4.out)).trans S4.out)
  have L5 := hide (L4.out.later hg5)
  have hk3 := wk_len ⟨n, hn28⟩
  have hk6 := wk_lt ⟨n, hn28⟩
  simp only at hk3 hk6
  rw [show ((n : Int)).toNat = n from rfl] at HR
  clear G4 B4 R4 S4 L4 hg5
  generalize wk n = ks at HR hv hk3 hk6
  rcases hv with ⟨rfl, rfl⟩ | ⟨b, rfl, HW⟩
  · by_cases hl : ps.length = 0
    · have HN : Hid (readL s = some (⟨n, 0, 0, 0, 0⟩, [])) := by
        show _ = _
        rw [HR.out, if_pos ⟨trivial, hl⟩]
        rfl
      obtain ⟨q0, q1, q2, q3, q4, q5⟩ := B5.out.cells
      have z0 := row_frozen R5.out 0
      have z1 := row_frozen R5.out 1
      have z2 := row_frozen R5.out 2
      have z3 := row_frozen R5.out 3
      have z4 := row_frozen R5.out 4
      have z5 := row_frozen R5.out 5
      have y0 := row_cell R5.out 0
      have y1 := row_cell R5.out 1
      have y2 := row_cell R5.out 2
      have y3 := row_cell R5.out 3
      have y4 := row_cell R5.out 4
      have y5 := row_cell R5.out 5
      go_wp2_with (go_at_call 39; refine (insist_ok _ _).mono ?_; rintro e w6 ⟨rfl, rfl⟩)
      refine wp_loop_rounds 1 ?_
      rw [rounds_succ]
      go_wp2
      refine bodyPost_ret (v := .agg (lineV ⟨n, 0, 0, 0, 0⟩ [])) (by simp [results, Tryd.results32, go_sem, y0, y1, y2, y3, y4, y5]) rfl ?_
      exact LineP.told HN.out ((((((G5.out.setCell (Nat.le_refl _) _).setCell (Nat.le_refl _) _).setCell (Nat.le_refl _) _).setCell (Nat.le_refl _) _).setCell (Nat.le_refl _) _).setCell (Nat.le_refl _) _)
    · have HN : readL s = none := by rw [HR.out, if_neg (fun h => hl h.2)]
      have h1 : ((ps.length : Int) + 1 == 1) = false := by simp; omega
      go_wp2_with (go_at_call 39; refine (insist_no _ _).mono ?_; rintro e w1 ⟨rfl, rfl⟩)
      exact ⟨rfl, LineP.gone HN G5.out⟩
  · by_cases hl : ps.length = ks.length
    · have hne : b ≠ w.heap.size + 1 := by
        rintro rfl
        have := HW.symm.trans B5.out
        simp at this
      have HR' : Hid (readL s = takeAll ks ps (⟨n, 0, 0, 0, 0⟩, [])) := by
        show _ = _
        rw [HR.out, if_pos ⟨trivial, hl⟩]
      have HHW := hide HW
      clear HR HW
      rw [hl]
      have HL := hide hl
      clear hl
      have h1 : ((ks.length : Int) + 1 == 1 + (ks.length : Int)) = true := by simp; omega
      go_wp2_with (go_at_call 39; refine (insist_ok _ _).mono ?_; rintro e w6 ⟨rfl, rfl⟩)
      go_loopw [36] (fun i wr => ∃ j : Nat, j ≤ ks.length ∧ i = .int .i64 j ∧ ∃ ii tt, Hid (LBox (w.heap.size + 1) ii tt wr) ∧ Hid (Wr (w.heap.size + 1) w6 wr) ∧ Hid (takeAll ks ps (⟨n, 0, 0, 0, 0⟩, []) = takeAll (ks.drop j) (ps.drop j) (ii, tt))) (fun i _ => ks.length - (intOf i).toNat)
      case atStart => exact ⟨0, by omega, rfl, _, _, B5, Wr.refl _ _, rfl⟩
      case round =>
        obtain ⟨j, hj, rfl, ii, tt, hB, hW, hT⟩ := hrel
        by_cases hlt : j < ks.length
        · obtain ⟨x, hx⟩ : ∃ x, ks[j]? = some x := ⟨_, List.getElem?_eq_getElem hlt⟩
          obtain ⟨sj, hsj⟩ : ∃ sj, ps[j]? = some sj := ⟨_, List.getElem?_eq_getElem (by have := HL.out; omega)⟩
          have hWb := (hW.out.block b (heap_lt HHW.out) (by simp; omega)).trans HHW.out
          obtain ⟨c0, c1⟩ := words_cells hWb hx
          have hSb := (hW.out.block _ (heap_lt S5.out) (by simp)).trans S5.out
          have c2 : wr.cell? ⟨w.heap.size + 1 + 1, j + 1, none⟩ = some (strV sj) := StrRow.cell hSb (by simpa using hsj)
          have HX := hide hx
          have HSJ := hide hsj
          clear hWb hSb hx hsj
          generalize hF : takeF x = F at c0
          generalize hF' : tellF x = F' at c1
          have HFF := hide hF
          clear hF hF'
          have hgA : Gr wr (wr.alloc (.cells #[fnV F, fnV F'] 88)).drew := ((Gr.refl wr).alloc _ _).drew
          have hLr := (L5.out.wr hW.out (by omega)).later hgA
          have hBr := hB.out.later hgA
          have TC := take_calls x (hk6 x (List.mem_of_getElem? HX.out)) sj ii tt (w.heap.size + 1) _ hBr hLr (hps sj (List.mem_of_getElem? HSJ.out)) (by omega)
          rw [HFF.out] at TC
          have hcf := fun args w => take_run x (hk6 x (List.mem_of_getElem? HX.out)) args w
          rw [HFF.out] at hcf
          have ewr : IntKind.i64.wrap (1 + (j : Int)) = 1 + (j : Int) := by rw [IntKind.wrap_i64]; omega
          have c2' : wr.cell? ⟨w.heap.size + 1 + 1, (1 + (j : Int)).toNat, none⟩ = some (strV sj) := by rw [show (1 + (j : Int)).toNat = j + 1 by omega]; exact c2
          have c3 := cell_later ((Gr.refl wr).alloc #[fnV F, fnV F'] 88) c2'
          have i1 : (0 : Int) ≤ 1 + (j : Int) := by omega
          have i2 : 1 + (j : Int) < (ks.length : Int) + 1 := by omega
          have hTT : takeAll (ks.drop j) (ps.drop j) (ii, tt) = (takeW x sj (ii, tt)).bind (takeAll (ks.drop (j + 1)) (ps.drop (j + 1))) := by
            obtain ⟨h1, e1⟩ := List.getElem?_eq_some_iff.1 HX.out
            obtain ⟨h2, e2⟩ := List.getElem?_eq_some_iff.1 HSJ.out
            rw [List.drop_eq_getElem_cons h1, List.drop_eq_getElem_cons h2, e1, e2]
            rfl
          cases hw : takeW x sj (ii, tt) with
          | none =>
            have HN : Hid (readL s = none) := by
              show _ = _
              rw [HR'.out, hT.out, hTT, hw]
              rfl
            have TC' : Hid (Calls Tryd.prog F #[.pointer (some ⟨w.heap.size + 1, 0, none⟩), strV sj] (wr.alloc (.cells #[fnV F, fnV F'] 88)).drew fun e w' => e = gone 3 ∧ Wr (w.heap.size + 1) (wr.alloc (.cells #[fnV F, fnV F'] 88)).drew w') := TC.mono fun e w' h => by
              unfold TakeP at h
              rw [hw] at h
              exact h
            have HG := hide hgA
            clear TC hTT hBr hLr hgA hw
            go_wp2_with (fail)
            go_region_law (refine step_gone rfl F #[.pointer (some ⟨w.heap.size + 1, 0, none⟩), strV sj] (by go_simp) _ _ TC'.out (fun w7 hc7 => ⟨rfl, LineP.gone HN.out (Wr.gr (Wr.gr G5.out (Nat.le_succ _) (hW.out.trans (Wr.of_gr HG.out))) (Nat.le_succ _) hc7)⟩) ?_; intro hF)
            all_goals exact hF.elim
          | some p =>
            obtain ⟨ii', tt'⟩ := p
            have TC' : Hid (Calls Tryd.prog F #[.pointer (some ⟨w.heap.size + 1, 0, none⟩), strV sj] (wr.alloc (.cells #[fnV F, fnV F'] 88)).drew fun e w' => ∃ v, e = .returned v ∧ (v = .tuple #[] ∧ LBox (w.heap.size + 1) ii' tt' w' ∧ Wr (w.heap.size + 1) (wr.alloc (.cells #[fnV F, fnV F'] 88)).drew w')) := TC.mono fun e w' h => by
              unfold TakeP at h
              rw [hw] at h
              exact ⟨_, h.1.1, rfl, h.1.2, h.2⟩
            have HT : Hid (takeAll ks ps (⟨n, 0, 0, 0, 0⟩, []) = takeAll (ks.drop (j + 1)) (ps.drop (j + 1)) (ii', tt')) := by
              show _ = _
              rw [hT.out, hTT, hw]
              rfl
            have HG := hide hgA
            clear TC hTT hBr hLr hgA hw
            go_wp2_with (fail)
            go_region_law (refine step_call rfl F #[.pointer (some ⟨w.heap.size + 1, 0, none⟩), strV sj] (by go_simp) _ TC'.out ?_; intro v w7 hc7; obtain ⟨rfl, hB7, hW7⟩ := hc7)
            all_goals
              have HB7 := hide hB7
              have HW7 := hide (hW.out.trans ((Wr.of_gr HG.out).trans hW7))
              clear hB7 hW7
              go_wp2
              go_roundw
              case rel => exact ⟨j + 1, by omega, by go_num, _, _, HB7, HW7, HT⟩
              case measure => simp [intOf]; omega
        · obtain rfl : j = ks.length := by omega
          have HN : Hid (readL s = some (ii, tt)) := by
            show _ = _
            rw [HR'.out, hT.out, List.drop_length]
            rfl
          have hRr := (hW.out.block _ (heap_lt R5.out) (by simp)).trans R5.out
          have hG := hide (Wr.gr G5.out (Nat.le_succ _) hW.out)
          obtain ⟨q0, q1, q2, q3, q4, q5⟩ := hB.out.cells
          have z0 := row_frozen hRr 0
          have z1 := row_frozen hRr 1
          have z2 := row_frozen hRr 2
          have z3 := row_frozen hRr 3
          have z4 := row_frozen hRr 4
          have z5 := row_frozen hRr 5
          have y0 := row_cell hRr 0
          have y1 := row_cell hRr 1
          have y2 := row_cell hRr 2
          have y3 := row_cell hRr 3
          have y4 := row_cell hRr 4
          have y5 := row_cell hRr 5
          clear hRr
          go_wp2
          refine bodyPost_ret (v := .agg (lineV ii tt)) (by simp [results, Tryd.results32, go_sem, y0, y1, y2, y3, y4, y5]) rfl ?_
          exact LineP.told HN.out ((((((hG.out.setCell (Nat.le_refl _) _).setCell (Nat.le_refl _) _).setCell (Nat.le_refl _) _).setCell (Nat.le_refl _) _).setCell (Nat.le_refl _) _).setCell (Nat.le_refl _) _)
    · have HN : readL s = none := by rw [HR.out, if_neg (fun h => hl h.2)]
      have h1 : ((ps.length : Int) + 1 == 1 + (ks.length : Int)) = false := by simp; omega
      go_wp2_with (go_at_call 39; refine (insist_no _ _).mono ?_; rintro e w1 ⟨rfl, rfl⟩)
      exact ⟨rfl, LineP.gone HN G5.out⟩
end Go.Proofs.YtcfkcnkekdafgaaDoor
