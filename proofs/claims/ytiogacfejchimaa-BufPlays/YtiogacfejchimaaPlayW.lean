/-
  BufPlays' walk: of any room that may be, any at most 300 acts and any address it answers true. No condition but that the slice's cells hold the acts.
-/
import Derived.Test.YtiogacfejchimaaAwake
import Derived.Test.YtiogacfejchimaaEntrC
import Derived.Test.YtiogacfejchimaaSame
import Derived.Test.YtiogacfejchimaaAppd
import Derived.Test.YtiogacfejchimaaOpen
import Derived.Deep.QuietTactic
import Derived.BigQuiet
import Derived.Deep.Cut
import Derived.Deep.CutRange
import Derived.Deep.LoopGhost
namespace Go.Proofs.Ytiogacfejchimaa
open Go.ChangeShapes Go.WideShapes Go.ChangeAt Go.RowKit
set_option linter.unusedVariables false

/-- the buffer in block n and the slice v hold the same entries -/
def Both (R n : Nat) (v : Value) (w0 w : World) : Prop :=
  ∃ C L a c, Has w n C 29 ∧ IsB C R L ∧ v = .slice a L.length c ∧ EntsAt w a L ∧ (a = none → c = 0) ∧ L.length ≤ c ∧ (∀ y, a = some y → y.block ≠ n) ∧ Gr w0 w

theorem IsB.le {C : Array Value} {room : Nat} {l : List Ent} (h : IsB C room l) : l.length ≤ 16 := by
  obtain ⟨r, f, h⟩ := h
  have := h.len
  have := h.most
  omega

set_option maxRecDepth 20000 in
set_option maxHeartbeats 2000000 in
theorem plays_few (R : Nat) (hR1 : 1 ≤ R) (hR2 : R ≤ 16) (ad : Option Addr) (cap : Nat) (l : List Act5) (hl : l.length ≤ 300) (addr : Int) (w : World) (he : ActsAt w ad l) :
    Calls Try.prog 3 #[.int .i64 R, .slice ad l.length cap, .int .i64 addr] w fun e w' => e = .returned (.bool true) ∧ Gr w w' := by
  have HE := hide he
  clear he
  go_enter Try.func3, Try.ntmps3
  go_wp2_with (first
    | (go_at_call 7; refine (awake_calls _).mono ?_; rintro e w1 ⟨rfl, g1⟩)
    | (go_at_call 8; refine (new_yes R (by omega) (by omega) _).mono ?_; rintro e w2 ⟨rfl, g2⟩)
    | (refine store_new rfl rfl _ _ rfl _ rfl rfl (newC R) rfl zeroC (newC_size _) zeroC_size (newC_one _) ?_))
  have g3 := (g1.trans g2).alloc (newC R) 29
  have h3 := Has.new w2 (newC R) 29
  have hn : w.heap.size ≤ w2.heap.size := (g1.trans g2).size
  generalize w2.alloc (.cells (newC R) 29) = w3 at g3 h3 ⊢
  generalize w2.heap.size = n at h3 hn ⊢
  clear g1 g2
  go_loopg [9, 10] l.length (fun g v i wr => ∃ k : Nat, k ≤ l.length ∧ g = l.length - k ∧ i = .int .i64 k ∧ Both R n v w wr)
  case atStart => exact ⟨0, by omega, rfl, rfl, newC R, [], none, 0, h3, is_newC R hR2, rfl, .inl rfl, fun _ => rfl, Nat.le_refl _, fun y h => (by cases h), g3⟩
  case round =>
    clear g3 h3
    obtain ⟨k, hk, rfl, rfl, hB⟩ := hrel
    by_cases hlt : k < l.length
    · have hlt' : (k : Int) < l.length := by omega
      obtain ⟨b, off, had, hcells⟩ : ∃ b off, ad = some ⟨b, off, none⟩ ∧ ∀ i, i < l.length → w.cell? ⟨b, off + i * 3, none⟩ = some (.bool (l.getD i act0).pop) ∧ w.cell? ⟨b, off + i * 3 + 1, none⟩ = some (.int .i64 (l.getD i act0).x.a) ∧ w.cell? ⟨b, off + i * 3 + 2, none⟩ = some (.int .u32 (l.getD i act0).x.v) := by
        rcases HE.out with h | ⟨b, off, h1, h2⟩
        · subst h; simp at hlt
        · exact ⟨b, off, h1, h2⟩
      subst had
      obtain ⟨c1, c2, c3⟩ := hcells k hlt
      have C1 := hide c1
      have C2 := hide c2
      have C3 := hide c3
      clear c1 c2 c3 hcells
      generalize (l.getD k act0).pop = pop at C1
      generalize (l.getD k act0).x = x at C2 C3
      have q1 : wr.cell? ⟨b, off + k * 3, none⟩ = some (.bool pop) := by
        obtain ⟨C, L, a, c, _, _, _, _, _, _, _, gr⟩ := hB
        exact cell_later gr C1.out
      go_upto_if 62 with (fail)
      go_cut [9] from 52 to 168 (fun v wx => Both R n v w wx)
      case first =>
        obtain ⟨C, L, a, c, hC, iC, rfl, eL, hac, hLc, hap, gr⟩ := hB
        have hL16 := iC.le
        have HAP := hide hap
        clear hap
        have EL := hide eL
        have FA := hide hac
        clear eL hac
        cases pop with
        | true =>
          cases L with
          | nil =>
            go_wp2_with (first
              | (refine load_buf rfl _ rfl n rfl C hC iC.size ?_))
            refine (pop_none iC _).mono ?_
            rintro e w4 ⟨rfl, g4⟩
            have hx := (Has.new w4 #[.int .i64 0, .int .u32 0] 26).alloc C 29
            have hD := Has.new (w4.alloc (.cells #[.int .i64 0, .int .u32 0] 26)) C 29
            rw [show (w4.alloc (.cells #[.int .i64 0, .int .u32 0] 26)).heap.size = w4.heap.size + 1 by simp] at hD
            replace hC := ((hC.later g4).alloc #[.int .i64 0, .int .u32 0] 26).alloc C 29
            replace gr := ((gr.trans g4).alloc #[.int .i64 0, .int .u32 0] 26).alloc C 29
            unfold entV ent0
            go_wp2_with (first
              | (refine store_new rfl rfl _ _ rfl (w4.heap.size + 1) (by simp) rfl C rfl zeroC iC.size zeroC_size iC.one ?_))
            generalize (w4.alloc (.cells #[.int .i64 0, .int .u32 0] 26)).alloc (.cells C 29) = w5 at hx hD hC gr ⊢
            have xa := hx.cell (o := 0) (v := .int .i64 0) rfl
            have xv := hx.cell (o := 1) (v := .int .u32 0) rfl
            clear hx
            go_quiet (fail)
            replace hC := hC.drewN nq
            replace hD := hD.drewN nq
            replace gr := gr.drewN nq
            go_wp2_with (first
              | (refine load_buf rfl _ rfl (w4.heap.size + 1) rfl C hD iC.size ?_)
              | (refine store_buf rfl _ _ rfl n rfl C rfl C hC iC.size iC.size iC.one ?_))
            go_meet
            exact ⟨C, [], a, c, hC.row C, iC, rfl, .inl rfl, FA.out, hLc, HAP.out, gr.setRow hn C⟩
          | cons y L =>
            go_wp2_with (first
              | (refine load_buf rfl _ rfl n rfl C hC iC.size ?_))
            refine (pop_yes iC _).mono ?_
            rintro e w4 ⟨D, ⟨rfl, g4⟩, iD⟩
            have eL := EL.out.later g4
            obtain ⟨b2, o2, ha, d1, d2⟩ := eL.get (i := 0) (by simp)
            have hy0 : (y :: L).getD 0 ent0 = y := rfl
            rw [hy0] at d1 d2
            subst ha
            have hbn : Hid (b2 ≠ n) := HAP.out ⟨b2, o2, none⟩ rfl
            have hb2 : b2 < w4.heap.size := block_lt_of_cell d1
            have gz : Gr w4 ((w4.alloc (.cells #[.int .i64 y.a, .int .u32 y.v] 26)).alloc (.cells D 29)) := ((Gr.refl w4).alloc _ _).alloc _ _
            replace d1 := (Below.cell gz (p := ⟨b2, _, none⟩) hb2).trans d1
            replace d2 := (Below.cell gz (p := ⟨b2, _, none⟩) hb2).trans d2
            replace eL := eL.later gz
            rw [Nat.zero_mul, Nat.add_zero] at d1 d2
            have hx := (Has.new w4 #[.int .i64 y.a, .int .u32 y.v] 26).alloc D 29
            have hD := Has.new (w4.alloc (.cells #[.int .i64 y.a, .int .u32 y.v] 26)) D 29
            rw [show (w4.alloc (.cells #[.int .i64 y.a, .int .u32 y.v] 26)).heap.size = w4.heap.size + 1 by simp] at hD
            replace hC := (hC.later g4).later gz
            replace gr := (gr.trans g4).trans gz
            have HEL := hide eL
            clear EL gz hb2 eL
            simp only [List.length_cons] at hLc hL16
            go_wp2_with (first
              | (refine store_new rfl rfl _ _ rfl (w4.heap.size + 1) (by simp) rfl D rfl zeroC iD.size zeroC_size iD.one ?_))
            generalize (w4.alloc (.cells #[.int .i64 y.a, .int .u32 y.v] 26)).alloc (.cells D 29) = w5 at hx hD hC gr d1 d2 HEL ⊢
            have xa := hx.cell (o := 0) (v := .int .i64 y.a) rfl
            have xv := hx.cell (o := 1) (v := .int .u32 y.v) rfl
            clear hx
            go_quiet (fail)
            replace hC := hC.drewN nq
            replace hD := hD.drewN nq
            replace gr := gr.drewN nq
            clear xa xv d1 d2
            go_wp2_with (first
              | (refine load_buf rfl _ rfl (w4.heap.size + 1) rfl D hD iD.size ?_)
              | (refine store_buf rfl _ _ rfl n rfl D rfl C hC iD.size iC.size iD.one ?_))
            case inr =>
              go_meet
              exact ⟨D, L, some ⟨b2, o2 + 2, none⟩, c - 1, hC.row D, iD, rfl, (HEL.out.tail.later ((Gr.refl w5).drewN nq)).aside (fun y h => by cases h; exact hbn.out) D, fun h => (by cases h), by omega, fun y h => (by cases h; exact hbn.out), gr.setRow hn D⟩
            case inl h =>
              have hLn : L = [] := List.length_eq_zero_iff.1 (by omega)
              subst hLn
              go_meet
              exact ⟨D, [], some ⟨b2, o2, none⟩, 0, hC.row D, iD, rfl, .inl rfl, fun h => (by cases h), Nat.le_refl _, fun y h => (by cases h; exact hbn.out), gr.setRow hn D⟩
        | false =>
          have q2 := hide (cell_later gr C2.out)
          have q3 := hide (cell_later gr C3.out)
          clear C1 C2 C3
          go_wp2_with (fail)
          go_cut [14, 15] from 52 to 168 (fun s14 s15 wx => ∃ g D, s14 = .pointer (some ⟨g, 0, none⟩) ∧ s15 = .bool (decide (L.length < R)) ∧ Has wx g D 29 ∧ IsB D R (putL R L x) ∧ Gr wr wx)
          case first =>
            refine begin_late 13 [11, 12] (fun w' => Gr wr.drew w') (by kernel_rfl) rfl ?_
            have hH := Gr.refl wr.drew
            refine AnyL.take 0 (some 98) (.agg C) rfl rfl (by kernel_rfl) (by kernel_rfl) (by kernel_rfl) (by kernel_rfl) (fun _ _ _ h => h) (take_buf (by kernel_rfl) _ rfl n rfl C (fun w' h => hC.drew.later h) iC.size) hH ?_
            simp only [Act.put, List.setIfInBounds_toArray, List.set_cons_zero, List.set_cons_succ]
            refine AnyL.takeP 1 (some 99) (.slice (some ⟨b, off, none⟩) l.length cap) rfl rfl (by kernel_rfl) (by kernel_rfl) (by kernel_rfl) (by kernel_rfl) (fun _ _ _ h => h) (by kernel_rfl) (fun w' => by go_simp) (fun _ => hH) ?_
            simp only [Act.put, List.setIfInBounds_toArray, List.set_cons_zero, List.set_cons_succ]
            refine AnyL.takeP 2 (some 100) (.int .i64 k) rfl rfl (by kernel_rfl) (by kernel_rfl) (by kernel_rfl) (by kernel_rfl) (fun _ _ _ h => h) (by kernel_rfl) (fun w' => by go_simp) (fun _ => hH) ?_
            simp only [Act.put, List.setIfInBounds_toArray, List.set_cons_zero, List.set_cons_succ]
            refine AnyL.takeP 3 (some 101) (.pointer (some ⟨b, off + k * 3, none⟩)) rfl rfl (by kernel_rfl) (by kernel_rfl) (by kernel_rfl) (by kernel_rfl) (fun _ _ _ h => h) (by kernel_rfl) (fun w' => by go_simp) (fun _ => hH) ?_
            simp only [Act.put, List.setIfInBounds_toArray, List.set_cons_zero, List.set_cons_succ]
            refine AnyL.takeP 4 (some 102) (.pointer (some ⟨b, off + k * 3 + 1, none⟩)) rfl rfl (by kernel_rfl) (by kernel_rfl) (by kernel_rfl) (by kernel_rfl) (fun _ _ _ h => h) (by kernel_rfl) (fun w' => by go_simp) (fun _ => hH) ?_
            simp only [Act.put, List.setIfInBounds_toArray, List.set_cons_zero, List.set_cons_succ]
            refine AnyL.take 5 (some 103) (.agg #[.int .i64 x.a, .int .u32 x.v]) rfl rfl (by kernel_rfl) (by kernel_rfl) (by kernel_rfl) (by kernel_rfl) (fun _ _ _ h => h) (yields_held _ (by kernel_rfl) (fun w' hw' => by have h1 := cell_later (w := wr.drew) hw' q2.out; have h2 := cell_later (w := wr.drew) hw' q3.out; go_simp)) hH ?_
            simp only [Act.put, List.setIfInBounds_toArray, List.set_cons_zero, List.set_cons_succ]
            refine AnyL.two 6 10 (by kernel_rfl) rfl rfl (by kernel_rfl) ?_ ?_
            · refine wp_call (some 104) rfl 12 #[.agg C, .agg #[.int .i64 x.a, .int .u32 x.v]] (by kernel_rfl) (put_any iC x _) ?_
              rintro e w4 ⟨D, ⟨rfl, g4⟩, iD⟩
              generalize hok : decide (L.length < R) = ok
              have HOK := hide hok
              have hgw : wr.drew.heap.size ≤ w4.heap.size := g4.size
              clear hok
              refine ⟨_, rfl, fun _ => g4, ?_⟩
              simp only [Act.put, List.setIfInBounds_toArray, List.set_cons_zero, List.set_cons_succ]
              refine AnyL.takeP 7 (some 97) (.tuple #[.agg D, .bool ok]) rfl rfl (by kernel_rfl) (by kernel_rfl) (by kernel_rfl) (by kernel_rfl) (fun _ _ _ h => h) (by kernel_rfl) (fun w' => by go_simp) (fun _ => g4) ?_
              simp only [Act.put, List.setIfInBounds_toArray, List.set_cons_zero, List.set_cons_succ]
              refine AnyL.takeP 8 (some 105) (.agg D) rfl rfl (by kernel_rfl) (by kernel_rfl) (by kernel_rfl) (by kernel_rfl) (fun _ _ _ h => h) (by kernel_rfl) (fun w' => by go_simp) (fun _ => g4) ?_
              simp only [Act.put, List.setIfInBounds_toArray, List.set_cons_zero, List.set_cons_succ]
              refine AnyL.takeP 9 (some 106) (.bool ok) rfl rfl (by kernel_rfl) (by kernel_rfl) (by kernel_rfl) (by kernel_rfl) (fun _ _ _ h => h) (by kernel_rfl) (fun w' => by go_simp) (fun _ => g4) ?_
              simp only [Act.put, List.setIfInBounds_toArray, List.set_cons_zero, List.set_cons_succ]
              refine AnyL.one 10 (by kernel_rfl) rfl (by kernel_rfl) ?_
              refine wp_made (some 14) rfl _ _ (alloc_buf rfl) ?_
              have hg := Has.new w4 zeroC 29
              replace g4 := g4.alloc zeroC 29
              refine ⟨fun _ => g4, ?_⟩
              change AnyL _ _ _ _ _ _ _ _ _ (w4.alloc (.cells zeroC 29))
              generalize w4.heap.size = g at hg hgw ⊢
              generalize w4.alloc (.cells zeroC 29) = w5 at hg g4 ⊢
              simp only [Act.put, List.setIfInBounds_toArray, List.set_cons_zero, List.set_cons_succ]
              refine AnyL.one 11 (by kernel_rfl) rfl (by kernel_rfl) ?_
              refine wp_store_buf rfl _ _ rfl g rfl D rfl zeroC hg iD.size zeroC_size iD.one ?_
              refine ⟨late (by kernel_rfl), ?_⟩
              refine AnyL.one 12 (by kernel_rfl) rfl (by kernel_rfl) ?_
              refine wp_value (some 15) rfl (.bool ok) (by go_simp) ?_
              refine ⟨late (by kernel_rfl), ?_⟩
              refine AnyL.done (by kernel_rfl) ?_
              simp only [Act.put, List.setIfInBounds_toArray, List.set_cons_zero, List.set_cons_succ]
              go_wp2_with (fail)
              go_meet
              exact ⟨g, D, rfl, by rw [HOK.out], hg.row D, iD, (g4.setRow hgw D).undrew⟩
            · refine wp_made (some 14) rfl _ _ (alloc_buf rfl) ?_
              have hg := Has.new wr.drew zeroC 29
              have g5 := (Gr.refl wr.drew).alloc zeroC 29
              refine ⟨fun _ => g5, ?_⟩
              change AnyL _ _ _ _ _ _ _ _ _ (wr.drew.alloc (.cells zeroC 29))
              have hgw : wr.drew.heap.size ≤ wr.drew.heap.size := Nat.le_refl _
              have hC5 := hC.drew.later g5
              generalize hgg : wr.drew.heap.size = g at hg ⊢
              have HGG := hide hgg
              clear hgg
              generalize wr.drew.alloc (.cells zeroC 29) = w5 at hg g5 hC5 ⊢
              simp only [Act.put, List.setIfInBounds_toArray, List.set_cons_zero, List.set_cons_succ]
              refine AnyL.one 6 (by kernel_rfl) rfl (by kernel_rfl) ?_
              refine wp_call (some 104) rfl 12 #[.agg C, .agg #[.int .i64 x.a, .int .u32 x.v]] (by kernel_rfl) (put_any iC x _) ?_
              rintro e w4 ⟨D, ⟨rfl, g4⟩, iD⟩
              generalize hok : decide (L.length < R) = ok
              have HOK := hide hok
              clear hok
              replace hg := hg.later g4
              replace g4 := g5.trans g4
              refine ⟨_, rfl, fun _ => g4, ?_⟩
              simp only [Act.put, List.setIfInBounds_toArray, List.set_cons_zero, List.set_cons_succ]
              refine AnyL.takeP 7 (some 97) (.tuple #[.agg D, .bool ok]) rfl rfl (by kernel_rfl) (by kernel_rfl) (by kernel_rfl) (by kernel_rfl) (fun _ _ _ h => h) (by kernel_rfl) (fun w' => by go_simp) (fun _ => g4) ?_
              simp only [Act.put, List.setIfInBounds_toArray, List.set_cons_zero, List.set_cons_succ]
              refine AnyL.takeP 8 (some 105) (.agg D) rfl rfl (by kernel_rfl) (by kernel_rfl) (by kernel_rfl) (by kernel_rfl) (fun _ _ _ h => h) (by kernel_rfl) (fun w' => by go_simp) (fun _ => g4) ?_
              simp only [Act.put, List.setIfInBounds_toArray, List.set_cons_zero, List.set_cons_succ]
              refine AnyL.takeP 9 (some 106) (.bool ok) rfl rfl (by kernel_rfl) (by kernel_rfl) (by kernel_rfl) (by kernel_rfl) (fun _ _ _ h => h) (by kernel_rfl) (fun w' => by go_simp) (fun _ => g4) ?_
              simp only [Act.put, List.setIfInBounds_toArray, List.set_cons_zero, List.set_cons_succ]
              refine AnyL.one 11 (by kernel_rfl) rfl (by kernel_rfl) ?_
              refine wp_store_buf rfl _ _ rfl g rfl D rfl zeroC hg iD.size zeroC_size iD.one ?_
              refine ⟨late (by kernel_rfl), ?_⟩
              refine AnyL.one 12 (by kernel_rfl) rfl (by kernel_rfl) ?_
              refine wp_value (some 15) rfl (.bool ok) (by go_simp) ?_
              refine ⟨late (by kernel_rfl), ?_⟩
              refine AnyL.done (by kernel_rfl) ?_
              simp only [Act.put, List.setIfInBounds_toArray, List.set_cons_zero, List.set_cons_succ]
              go_wp2_with (fail)
              go_meet
              exact ⟨g, D, rfl, by rw [HOK.out], hg.row D, iD, (g4.setRow (by rw [HGG.out]; exact Nat.le_refl _) D).undrew⟩
          case rest =>
            obtain ⟨g, D, rfl, rfl, hD, iD, g4⟩ := hcut
            replace hC := hC.later g4
            replace gr := gr.trans g4
            have eL := EL.out.later g4
            replace q2 := hide (cell_later g4 q2.out)
            replace q3 := hide (cell_later g4 q3.out)
            have hnn : n < wc.heap.size := hC.lt
            have hgn : g < wc.heap.size := hD.lt
            clear EL q1
            by_cases hlr : L.length < R
            · have hP : putL R L x = L ++ [x] := by unfold putL; rw [if_pos hlr]
              rw [hP] at iD
              rw [decide_eq_true hlr]
              have hlr' : (L.length : Int) < R := by omega
              clear hP
              go_wp2_with (fail)
              go_cut [9] from 52 to 168 (fun v wx => ∃ a' c', v = .slice a' (L ++ [x]).length c' ∧ EntsAt wx a' (L ++ [x]) ∧ (a' = none → c' = 0) ∧ (L ++ [x]).length ≤ c' ∧ (∀ y, a' = some y → wc.heap.size ≤ y.block) ∧ Gr wc wx)
              case first =>
                clear iD hD hC gr HAP g4
                refine begin_late 11 [] (fun w' => Gr wc.drew w') (by kernel_rfl) rfl ?_
                have hH := Gr.refl wc.drew
                refine AnyL.takeP 1 (some 115) (.slice a L.length c) rfl rfl (by kernel_rfl) (by kernel_rfl) (by kernel_rfl) (by kernel_rfl) (fun _ _ _ h => h) (by kernel_rfl) (fun w' => by go_simp) (fun _ => hH) ?_
                simp only [Act.put, List.setIfInBounds_toArray, List.set_cons_zero, List.set_cons_succ]
                refine AnyL.takeP 3 (some 117) (.slice (some ⟨b, off, none⟩) l.length cap) rfl rfl (by kernel_rfl) (by kernel_rfl) (by kernel_rfl) (by kernel_rfl) (fun _ _ _ h => h) (by kernel_rfl) (fun w' => by go_simp) (fun _ => hH) ?_
                simp only [Act.put, List.setIfInBounds_toArray, List.set_cons_zero, List.set_cons_succ]
                refine AnyL.takeP 4 (some 118) (.int .i64 k) rfl rfl (by kernel_rfl) (by kernel_rfl) (by kernel_rfl) (by kernel_rfl) (fun _ _ _ h => h) (by kernel_rfl) (fun w' => by go_simp) (fun _ => hH) ?_
                simp only [Act.put, List.setIfInBounds_toArray, List.set_cons_zero, List.set_cons_succ]
                refine AnyL.takeP 5 (some 119) (.pointer (some ⟨b, off + k * 3, none⟩)) rfl rfl (by kernel_rfl) (by kernel_rfl) (by kernel_rfl) (by kernel_rfl) (fun _ _ _ h => h) (by kernel_rfl) (fun w' => by go_simp) (fun _ => hH) ?_
                simp only [Act.put, List.setIfInBounds_toArray, List.set_cons_zero, List.set_cons_succ]
                refine AnyL.takeP 6 (some 120) (.pointer (some ⟨b, off + k * 3 + 1, none⟩)) rfl rfl (by kernel_rfl) (by kernel_rfl) (by kernel_rfl) (by kernel_rfl) (fun _ _ _ h => h) (by kernel_rfl) (fun w' => by go_simp) (fun _ => hH) ?_
                simp only [Act.put, List.setIfInBounds_toArray, List.set_cons_zero, List.set_cons_succ]
                refine AnyL.take 7 (some 121) (.agg #[.int .i64 x.a, .int .u32 x.v]) rfl rfl (by kernel_rfl) (by kernel_rfl) (by kernel_rfl) (by kernel_rfl) (fun _ _ _ h => h) (yields_held _ (by kernel_rfl) (fun w' hw' => by have h1 := cell_later (w := wc.drew) hw' q2.out; have h2 := cell_later (w := wc.drew) hw' q3.out; go_simp)) hH ?_
                simp only [Act.put, List.setIfInBounds_toArray, List.set_cons_zero, List.set_cons_succ]
                refine AnyL.two 0 8 (by kernel_rfl) rfl rfl (by kernel_rfl) ?_ ?_
                · refine wp_made (some 114) rfl _ _ (build0 rfl) ?_
                  have h0 := Has.new wc.drew #[] 26
                  have gs := (Gr.refl wc.drew).alloc #[] 26
                  refine ⟨fun _ => gs, ?_⟩
                  have hg0 : wc.drew.heap.size ≤ wc.drew.heap.size := Nat.le_refl _
                  generalize hgg : wc.drew.heap.size = g0 at h0 hg0 ⊢
                  have HGG := hide hgg
                  clear hgg
                  generalize wc.drew.alloc (.cells #[] 26) = u1 at h0 gs ⊢
                  simp only [Act.put, List.setIfInBounds_toArray, List.set_cons_zero, List.set_cons_succ]
                  refine AnyL.two 2 8 (by kernel_rfl) rfl rfl (by kernel_rfl) ?_ ?_
                  · obtain ⟨v1, u2, r2, ho, hk, gt⟩ := app_all u1 34 g0 h0 a c L (by omega) ((eL.later (Gr.refl wc).drew).later gs) FA.out wc.drew gs (by rw [HGG.out]; exact Nat.le_refl _)
                    refine wp_app (some 116) rfl _ _ 34 rfl _ _ rfl rfl _ _ r2 ?_
                    refine ⟨fun _ => gt, ?_⟩
                    simp only [Act.put, List.setIfInBounds_toArray, List.set_cons_zero, List.set_cons_succ]
                    refine AnyL.one 8 (by kernel_rfl) rfl (by kernel_rfl) ?_
                    refine wp_made (some 122) rfl _ _ (build1 _ rfl x rfl) ?_
                    have hX := Has.new u2 (flat [x]).toArray 26
                    replace ho := ho.alloc (.cells (flat [x]).toArray 26)
                    replace gs := gt.alloc (flat [x]).toArray 26
                    refine ⟨fun _ => gs, ?_⟩
                    generalize u2.heap.size = gx at hX ⊢
                    generalize u2.alloc (.cells (flat [x]).toArray 26) = u3 at hX ho gs ⊢
                    simp only [Act.put, List.setIfInBounds_toArray, List.set_cons_zero, List.set_cons_succ]
                    refine AnyL.one 9 (by kernel_rfl) rfl (by kernel_rfl) ?_
                    obtain ⟨a', c', u4, r4, e4, f4, l4, b4, g5⟩ := app_one _ _ 34 v1 L x (by omega) ho gx hX wc.drew gs rfl
                    refine wp_app (some 123) rfl _ _ 34 rfl _ _ rfl rfl _ _ r4 ?_
                    refine ⟨fun _ => g5, ?_⟩
                    simp only [Act.put, List.setIfInBounds_toArray, List.set_cons_zero, List.set_cons_succ]
                    refine AnyL.one 10 (by kernel_rfl) rfl (by kernel_rfl) ?_
                    refine wp_value (some 9) rfl (.slice a' (L ++ [x]).length c') (by kernel_rfl) ?_
                    refine ⟨fun _ => g5, ?_⟩
                    refine AnyL.done (by kernel_rfl) ?_
                    simp only [Act.put, List.setIfInBounds_toArray, List.set_cons_zero, List.set_cons_succ]
                    go_wp2_with (fail)
                    go_meet
                    exact ⟨a', c', rfl, e4, f4, l4, b4, g5.undrew⟩
                  · refine wp_made (some 122) rfl _ _ (build1 _ rfl x rfl) ?_
                    have hX := Has.new u1 (flat [x]).toArray 26
                    have hgx : u1.heap.size ≠ g0 := by have := h0.lt; omega
                    replace h0 := h0.alloc (flat [x]).toArray 26
                    replace gs := gs.alloc (flat [x]).toArray 26
                    refine ⟨fun _ => gs, ?_⟩
                    generalize u1.heap.size = gx at hX hgx ⊢
                    generalize u1.alloc (.cells (flat [x]).toArray 26) = u2 at hX h0 gs ⊢
                    simp only [Act.put, List.setIfInBounds_toArray, List.set_cons_zero, List.set_cons_succ]
                    refine AnyL.one 2 (by kernel_rfl) rfl (by kernel_rfl) ?_
                    obtain ⟨v1, u3, r2, ho, hk, gt⟩ := app_all u2 34 g0 h0 a c L (by omega) ((eL.later (Gr.refl wc).drew).later gs) FA.out wc.drew gs (by rw [HGG.out]; exact Nat.le_refl _)
                    refine wp_app (some 116) rfl _ _ 34 rfl _ _ rfl rfl _ _ r2 ?_
                    refine ⟨fun _ => gt, ?_⟩
                    replace hX := hk _ _ _ hgx hX
                    replace gs := gt
                    simp only [Act.put, List.setIfInBounds_toArray, List.set_cons_zero, List.set_cons_succ]
                    refine AnyL.one 9 (by kernel_rfl) rfl (by kernel_rfl) ?_
                    obtain ⟨a', c', u4, r4, e4, f4, l4, b4, g5⟩ := app_one _ _ 34 v1 L x (by omega) ho gx hX wc.drew gs rfl
                    refine wp_app (some 123) rfl _ _ 34 rfl _ _ rfl rfl _ _ r4 ?_
                    refine ⟨fun _ => g5, ?_⟩
                    simp only [Act.put, List.setIfInBounds_toArray, List.set_cons_zero, List.set_cons_succ]
                    refine AnyL.one 10 (by kernel_rfl) rfl (by kernel_rfl) ?_
                    refine wp_value (some 9) rfl (.slice a' (L ++ [x]).length c') (by kernel_rfl) ?_
                    refine ⟨fun _ => g5, ?_⟩
                    refine AnyL.done (by kernel_rfl) ?_
                    simp only [Act.put, List.setIfInBounds_toArray, List.set_cons_zero, List.set_cons_succ]
                    go_wp2_with (fail)
                    go_meet
                    exact ⟨a', c', rfl, e4, f4, l4, b4, g5.undrew⟩
                · refine wp_made (some 122) rfl _ _ (build1 _ rfl x rfl) ?_
                  have hX := Has.new wc.drew (flat [x]).toArray 26
                  have gs := (Gr.refl wc.drew).alloc (flat [x]).toArray 26
                  have hsz : wc.drew.heap.size ≤ (wc.drew.alloc (.cells (flat [x]).toArray 26)).heap.size := by simp
                  refine ⟨fun _ => gs, ?_⟩
                  generalize hgg : wc.drew.heap.size = gx at hX ⊢
                  have HGG := hide hgg
                  clear hgg
                  generalize wc.drew.alloc (.cells (flat [x]).toArray 26) = u1 at hX gs hsz ⊢
                  simp only [Act.put, List.setIfInBounds_toArray, List.set_cons_zero, List.set_cons_succ]
                  refine AnyL.one 0 (by kernel_rfl) rfl (by kernel_rfl) ?_
                  refine wp_made (some 114) rfl _ _ (build0 rfl) ?_
                  have h0 := Has.new u1 #[] 26
                  have hgx : gx ≠ u1.heap.size := by have := hX.lt; omega
                  replace hX := hX.alloc #[] 26
                  replace gs := gs.alloc #[] 26
                  refine ⟨fun _ => gs, ?_⟩
                  generalize u1.heap.size = g0 at h0 hgx hsz ⊢
                  generalize u1.alloc (.cells #[] 26) = u2 at hX h0 gs ⊢
                  simp only [Act.put, List.setIfInBounds_toArray, List.set_cons_zero, List.set_cons_succ]
                  refine AnyL.one 2 (by kernel_rfl) rfl (by kernel_rfl) ?_
                  obtain ⟨v1, u3, r2, ho, hk, gt⟩ := app_all u2 34 g0 h0 a c L (by omega) ((eL.later (Gr.refl wc).drew).later gs) FA.out wc.drew gs hsz
                  refine wp_app (some 116) rfl _ _ 34 rfl _ _ rfl rfl _ _ r2 ?_
                  refine ⟨fun _ => gt, ?_⟩
                  replace hX := hk _ _ _ hgx hX
                  replace gs := gt
                  simp only [Act.put, List.setIfInBounds_toArray, List.set_cons_zero, List.set_cons_succ]
                  refine AnyL.one 9 (by kernel_rfl) rfl (by kernel_rfl) ?_
                  obtain ⟨a', c', u4, r4, e4, f4, l4, b4, g5⟩ := app_one _ _ 34 v1 L x (by omega) ho gx hX wc.drew gs rfl
                  refine wp_app (some 123) rfl _ _ 34 rfl _ _ rfl rfl _ _ r4 ?_
                  refine ⟨fun _ => g5, ?_⟩
                  simp only [Act.put, List.setIfInBounds_toArray, List.set_cons_zero, List.set_cons_succ]
                  refine AnyL.one 10 (by kernel_rfl) rfl (by kernel_rfl) ?_
                  refine wp_value (some 9) rfl (.slice a' (L ++ [x]).length c') (by kernel_rfl) ?_
                  refine ⟨fun _ => g5, ?_⟩
                  refine AnyL.done (by kernel_rfl) ?_
                  simp only [Act.put, List.setIfInBounds_toArray, List.set_cons_zero, List.set_cons_succ]
                  go_wp2_with (fail)
                  go_meet
                  exact ⟨a', c', rfl, e4, f4, l4, b4, g5.undrew⟩
              case rest =>
                obtain ⟨a', c', rfl, e4, f4, l4, b4, g5⟩ := hcut
                replace hC := hC.later g5
                replace hD := hD.later g5
                replace gr := gr.trans g5
                have HAP' : Hid (∀ y, a' = some y → y.block ≠ n) := fun y h => by have := b4 y h; omega
                have E4 := hide e4
                have F4 := hide f4
                clear q2 q3 e4 f4 b4 HAP FA
                go_wp2_with (first
                  | (refine load_buf rfl _ rfl g rfl D hD iD.size ?_)
                  | (refine store_buf rfl _ _ rfl n rfl D rfl C hC iD.size iC.size iD.one ?_))
                go_meet
                exact ⟨D, L ++ [x], a', c', hC.row D, iD, rfl, E4.out.aside HAP'.out D, F4.out, l4, HAP'.out, gr.setRow hn D⟩
            · have hP : putL R L x = L := by unfold putL; rw [if_neg hlr]
              rw [hP] at iD
              rw [decide_eq_false hlr]
              have hlr' : ¬ (L.length : Int) < R := by omega
              clear hP
              go_wp2_with (first
                | (refine load_buf rfl _ rfl g rfl D hD iD.size ?_)
                | (refine store_buf rfl _ _ rfl n rfl D rfl C hC iD.size iC.size iD.one ?_))
              go_meet
              exact ⟨D, L, a, c, hC.row D, iD, rfl, eL.aside HAP.out D, FA.out, hLc, HAP.out, gr.setRow hn D⟩
      case rest =>
        clear hB q1 C1 C2 C3
        obtain ⟨C, L, a, c, hC, iC, rfl, eL, hac, hLc, hap, gr⟩ := hcut
        have HAP := hide hap
        clear hap
        have hL16 := iC.le
        have EL := hide eL
        have IC := hide iC
        have FA := hide hac
        clear eL hac
        go_wp2_with (first
          | (refine load_buf rfl _ rfl n rfl C hC IC.out.size ?_))
        refine (find_calls iC addr _).mono ?_
        rintro e w4 ⟨rfl, g4⟩
        replace hC := hC.later g4
        replace gr := gr.trans g4
        have eL := EL.out.later g4
        clear g4 EL
        have RF := hide (rfind_calls a c L (by omega) addr w4 eL)
        have EL := hide eL
        clear eL
        generalize findR addr L = fd at RF
        rcases fd with _ | v
        all_goals
          simp only [foundV, refV] at RF ⊢
          go_wp2_with (fail)
          refine RF.out.mono ?_
          rintro e w5 ⟨rfl, rfl⟩
          clear RF
          go_wp2_with (first
            | (refine load_buf rfl _ rfl n rfl C hC IC.out.size ?_))
          refine (len_calls iC _).mono ?_
          rintro e w6 ⟨rfl, g6⟩
          replace hC := hC.later g6
          replace gr := gr.trans g6
          replace EL := hide (EL.out.later g6)
          clear g6
          go_wp2_with (first
            | (refine load_bufG (by kernel_rfl) _ rfl n rfl C hC IC.out.size ?_))
          refine (full_calls iC _).mono ?_
          rintro e w7 ⟨rfl, g7⟩
          replace hC := hC.later g7
          replace gr := gr.trans g7
          replace EL := hide (EL.out.later g7)
          clear g7
          rw [show fullB L R = ((L.length : Int) == (R : Int)) from rfl]
          go_wp2_with (first
            | (refine load_bufG (by kernel_rfl) _ rfl n rfl C hC IC.out.size ?_))
          refine (entries_calls iC _).mono ?_
          rintro e w8 ⟨rfl, g8, hG⟩
          replace hC := hC.later g8
          replace gr := gr.trans g8
          have eL := EL.out.later g8
          have eG := hG.ents
          clear g8 EL
          go_wp2_with (fail)
          refine (same_calls _ _ _ _ L (by omega) _ eG eL).mono ?_
          rintro e w9 ⟨rfl, g9⟩
          replace hC := hC.later g9
          replace gr := gr.trans g9
          replace eL := eL.later g9
          clear g9 eG hG
          go_wp2_with (fail)
          go_roundg (l.length - (k + 1))
          case measure => omega
          case rel => exact ⟨k + 1, by omega, rfl, by go_num, C, L, a, c, hC, IC.out, rfl, eL, FA.out, hLc, HAP.out, gr⟩
    · obtain rfl : k = l.length := by omega
      obtain ⟨C, L, a, c, _, _, _, _, _, _, _, gr⟩ := hB
      go_wp2_with (fail)
      go_ret
      exact ⟨rfl, gr⟩
end Go.Proofs.Ytiogacfejchimaa
