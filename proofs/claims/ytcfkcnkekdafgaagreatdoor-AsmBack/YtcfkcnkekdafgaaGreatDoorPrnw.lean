/-
  For any code in memory, in any world in which the tables are laid: what asm.Print answers. Memory grows alone.
-/
import Derived.Test.YtcfkcnkekdafgaaGreatDoorPrnt
namespace Go.Proofs.YtcfkcnkekdafgaaGreatDoor
open Go.ChangeShapes Go.WideShapes Go.ChangeAt Go.RowKit
set_option linter.unusedVariables false

set_option maxRecDepth 100000 in
set_option maxHeartbeats 4000000 in
theorem print_calls (v : Value) (l : List Ins) (w : World) (hC : CodeAt w v l) (hok : ∀ i ∈ l, i.ok) (hl : l.length ≤ 2147483648) (L : Laid w) (hp : Pow w) :
    Calls Tryz.prog 14 #[v] w fun e w' => e = .returned (.tuple #[.string ⟨(printR l).1.toArray⟩, .int .i64 (printR l).2]) ∧ Gr w w' := by
  obtain ⟨a0, cap, rfl, hC⟩ := hC
  by_cases h4 : 4000 < l.length
  · have e1 : printR l = ([], 4) := by simp [printR, h4]
    rw [e1]
    have h4' : (4000 : Int) < l.length := by omega
    clear L hp hC e1
    go_enter Tryz.func14, Tryz.ntmps14
    go_wp2_with (fail)
    go_ret2
    exact ⟨rfl, Gr.refl _⟩
  · have HPR : Hid (printR l = if l.all (rightsI l.length) then (textL l, 0) else ([], 3)) := by show _ = _; simp [printR, h4]
    have h4' : ¬ ((4000 : Int) < l.length) := by omega
    have HC := hide hC
    have HL := hide L
    have HP := hide hp
    have N0 := hide (builder_new w)
    have G0 := hide ((Gr.refl w).alloc #[.pointer none, .slice none 0 0] 68)
    clear L hp hC
    go_enter Tryz.func14, Tryz.ntmps14
    go_wp2_with (fail)
    go_loopw [13] (fun i wr => ∃ j : Nat, j ≤ l.length ∧ i = .int .i64 j ∧ Hid (∀ n i, n < j → l[n]? = some i → rightsI l.length i = true) ∧ Hid ((textL (l.take j)).length ≤ 125 * j) ∧ Hid (Lib.IsBuilder 68 5 w.heap.size w.heap.size (Lib.byteCells (textL (l.take j))) wr) ∧ Hid (Gr w wr)) (fun i _ => l.length - (intOf i).toNat)
    case atStart => exact ⟨0, by omega, rfl, fun n i h => by omega, by show _ ≤ _; simp [textL], N0, G0⟩
    case round =>
      clear N0 G0
      obtain ⟨j, hj, rfl, HR, HT, HB, HG⟩ := hrel
      by_cases hlt : j < l.length
      · obtain ⟨i, hi⟩ : ∃ i, l[j]? = some i := ⟨_, List.getElem?_eq_getElem hlt⟩
        rcases HC.out with h | ⟨b1, o1, ha1, h1⟩
        · rw [h] at hlt; simp at hlt
        obtain ⟨x0, x1, x2, x3, x4⟩ := h1 j i hi
        have x0 := cell_later HG.out x0
        have x1 := cell_later HG.out x1
        have x2 := cell_later HG.out x2
        have x3 := cell_later HG.out x3
        have x4 := cell_later HG.out x4
        have b0 : (j : Int) < l.length := by omega
        obtain ⟨k0, k1⟩ := hok i (List.mem_of_getElem? hi)
        have HI := hide hi
        clear hi h1
        subst ha1
        have GA := (Gr.refl wr).alloc i.vals.toArray 36
        have RC := hide (right_calls i.op i.a i.b i.c i.k l.length k0 k1 _ (HL.out.later (HG.out.trans GA)))
        have HGA := hide GA
        clear GA
        go_wp2_with (fail)
        refine RC.out.mono ?_
        rintro e w6 ⟨rfl, g6⟩
        have G6 := hide (HGA.out.trans g6)
        have i6 := hide ((g6.block _ (by simp)).trans (heap_alloc_new wr (.cells i.vals.toArray 36)))
        clear RC HGA g6
        cases hr : rightB i.op i.a i.b i.c i.k l.length
        · have e1 : printR l = ([], 3) := by
            rw [HPR.out, if_neg]
            intro hall
            have := List.all_eq_true.1 hall i (List.mem_of_getElem? HI.out)
            rw [rightsI, hr] at this
            cases this
          have E1 := hide e1
          clear e1
          go_wp2_with (fail)
          go_ret2
          exact ⟨by rw [E1.out]; rfl, HG.out.trans G6.out⟩
        · obtain ⟨o, p, q, r, m, eo, ea, eb, ec, ek, ho, _, _, _, hm, hTk⟩ := right_tells hr k0 k1
          have GL := (Gr.refl w6).alloc #[.int .i64 i.op, .int .i64 i.a, .int .i64 i.b, .int .i64 i.c, .int .u32 i.k, .string ⟨#[]⟩] 70
          have LA : LinAt (w6.alloc (.cells #[.int .i64 i.op, .int .i64 i.a, .int .i64 i.b, .int .i64 i.c, .int .u32 i.k, .string ⟨#[]⟩] 70)) w6.heap.size o p q r m ⟨#[]⟩ := by
            unfold LinAt
            rw [← eo, ← ea, ← eb, ← ec, ← ek]
            exact heap_alloc_new _ _
          have hg := HG.out.trans (G6.out.trans GL)
          have tc := tline_calls w6.heap.size o p q r m ⟨#[]⟩ _ LA ho hTk (HL.out.later hg) (HP.out.later hg)
          have hli : lineI i = Lib.join (toldL o p q r m (wk o)) [32] := by
            unfold lineI
            rw [eo, ea, eb, ec, ek]
            exact line_eq o p q r m ho
          have hll : (lineI i).length ≤ 124 := by rw [hli]; exact line_len ho
          rw [← hli] at tc
          have TC := hide tc
          have HTT : Hid (textL (l.take (j + 1)) = textL (l.take j) ++ lineI i ++ [10]) := by
            show _ = _
            rw [List.take_add_one, HI.out]
            exact text_snoc _ _
          have HR2 : Hid (∀ n i, n < j + 1 → l[n]? = some i → rightsI l.length i = true) := by
            intro n i' hn hi'
            rcases Nat.lt_or_ge n j with h | h
            · exact HR.out n i' h hi'
            · obtain rfl : n = j := by omega
              rw [HI.out] at hi'
              cases hi'
              exact hr
          have HGL := hide GL
          obtain ⟨y0, y1, y2, y3, y4⟩ := five i6.out
          clear tc hli hTk LA hg GL eo ea eb ec ek hm ho hr i6 HR HI x0 x1 x2 x3 x4
          generalize lineI i = li at *
          go_wp2_with (fail)
          refine TC.out.mono ?_
          rintro e w7 ⟨rfl, g7⟩
          have B7 := hide (builder_later HB.out (G6.out.trans (HGL.out.trans g7)))
          have G7 := hide (HG.out.trans (G6.out.trans (HGL.out.trans g7)))
          have zl := size_mk li
          have ht := HT.out
          clear HB HG G6 HGL g7 TC y0 y1 y2 y3 y4
          go_wp2_with (fail)
          refine (Tryz.Builder_WriteString w.heap.size w.heap.size _ ⟨li.toArray⟩ w7 B7.out (by rw [byte_len, zl]; omega) G7.out.size).mono ?_
          rintro e w8 ⟨rfl, hb8, g8⟩
          rw [byte_str] at hb8
          have B8 := hide (show Lib.IsBuilder 68 5 w.heap.size w.heap.size _ w8 from .inr hb8)
          have G8 : Hid (Gr w w8) := Below.trans G7.out g8
          clear B7 G7 hb8 g8
          go_wp2_with (fail)
          refine (Tryz.Builder_WriteString w.heap.size w.heap.size _ ⟨#[10]⟩ w8 B8.out (by rw [byte_len, List.length_append]; show _ + 1 ≤ _; omega) G8.out.size).mono ?_
          rintro e w9 ⟨rfl, hb9, g9⟩
          rw [show (⟨#[10]⟩ : ByteArray) = ⟨([10] : Bs).toArray⟩ from rfl, byte_str, ← HTT.out] at hb9
          have B9 := hide (show Lib.IsBuilder 68 5 w.heap.size w.heap.size _ w9 from .inr hb9)
          have G9 : Hid (Gr w w9) := Below.trans G8.out g9
          have HT9 : Hid ((textL (l.take (j + 1))).length ≤ 125 * (j + 1)) := by
            show _ ≤ _
            rw [HTT.out, List.length_append, List.length_append]
            simp only [List.length_cons, List.length_nil]
            omega
          clear B8 G8 hb9 g9 ht zl hll HTT
          go_wp2_with (fail)
          exact ⟨⟨j + 1, by omega, by go_num, HR2, HT9, B9, G9⟩, by simp [intOf]; omega⟩
      · obtain rfl : j = l.length := by omega
        have E1 : Hid (printR l = (textL l, 0)) := by
          show _ = _
          rw [HPR.out, if_pos]
          rw [List.all_eq_true]
          intro i hi
          obtain ⟨n, hn, e⟩ := List.getElem_of_mem hi
          exact HR.out n i hn (by rw [List.getElem?_eq_getElem hn, e])
        have hb := HB.out
        rw [List.take_length] at hb
        have SC := hide (Tryz.Builder_String_any w.heap.size w.heap.size (textL l) wr hb HG.out.size)
        clear hb HB HR HT
        go_wp2_with (fail)
        refine SC.out.mono ?_
        rintro e w7 ⟨rfl, g7⟩
        go_wp2_with (fail)
        go_ret2
        exact ⟨by rw [E1.out]; rfl, Below.trans HG.out g7⟩
end Go.Proofs.YtcfkcnkekdafgaaGreatDoor
