/-
  BufOrder's walk: of any number of entries put and taken ahead, and any entries, it answers true. No condition but that the slice's cells hold the entries.
-/
import Derived.Test.YtiogacfejchimaaAwake
import Derived.Test.YtiogacfejchimaaEntrC
import Derived.Deep.QuietTactic
import Derived.BigQuiet
namespace Go.Proofs.Ytiogacfejchimaa
open Go.ChangeShapes Go.WideShapes Go.ChangeAt Go.RowKit
set_option linter.unusedVariables false

theorem take_getD (l : List Ent) (k : Nat) (h : k < l.length) : l.take k ++ [l.getD k ent0] = l.take (k + 1) := by
  rw [List.take_succ_eq_append_getElem h, List.getD_eq_getElem?_getD, List.getElem?_eq_getElem h]; rfl
theorem drop_getD (l : List Ent) (k : Nat) (h : k < l.length) : l.drop k = l.getD k ent0 :: l.drop (k + 1) := by
  rw [List.drop_eq_getElem_cons h, List.getD_eq_getElem?_getD, List.getElem?_eq_getElem h]; rfl

set_option maxHeartbeats 1000000 in
theorem order_few (ahead : Nat) (ha : ahead < 256) (ad : Option Addr) (cap : Nat) (l : List Ent) (hl : l.length ≤ 16) (w : World) (he : EntsAt w ad l) :
    Calls Try.prog 5 #[.int .u8 ahead, .slice ad l.length cap] w fun e w' => e = .returned (.bool true) ∧ Gr w w' := by
  have HE := hide he
  clear he
  go_enter Try.func5, Try.ntmps5
  go_wp2_with (first
    | (go_at_call 7; refine (awake_calls _).mono ?_; rintro e w1 ⟨rfl, g1⟩)
    | (go_at_call 8; refine (new_yes 16 (by omega) (by omega) _).mono ?_; rintro e w2 ⟨rfl, g2⟩)
    | (refine store_new rfl rfl _ _ rfl _ rfl rfl (newC 16) rfl zeroC (newC_size _) zeroC_size (newC_one _) ?_))
  have g3 := (g1.trans g2).alloc (newC 16) 29
  have h3 := Has.new w2 (newC 16) 29
  have hn : w.heap.size ≤ w2.heap.size := (g1.trans g2).size
  generalize w2.alloc (.cells (newC 16) 29) = w3 at g3 h3 ⊢
  generalize w2.heap.size = n at h3 hn ⊢
  clear g1 g2
  go_loopw [7] (fun i wr => ∃ k : Nat, k ≤ ahead ∧ i = .int .i64 k ∧ (∃ C, Has wr n C 29 ∧ IsB C 16 []) ∧ Gr w wr) (fun i _ => ahead - (intOf i).toNat)
  case atStart => exact ⟨0, by omega, rfl, ⟨_, h3, is_newC 16 (by omega)⟩, g3⟩
  case round =>
    clear g3 h3
    obtain ⟨k, hk, rfl, ⟨C, hC, iC⟩, gr⟩ := hrel
    by_cases hlt : k < ahead
    · go_wp2_with (first
        | (refine load_buf rfl _ rfl n rfl C hC iC.size ?_))
      refine (put_yes iC (by simp) ⟨k, 0⟩ _).mono ?_
      rintro e w4 ⟨D, ⟨rfl, g4⟩, iD⟩
      replace gr := gr.trans g4
      replace hC := hC.later g4
      have hD := hC.row D
      clear g4
      go_wp2_with (first
        | (refine store_buf rfl _ _ rfl n rfl D rfl C hC iD.size iC.size iD.one ?_)
        | (refine load_buf rfl _ rfl n rfl D hD iD.size ?_))
      refine (pop_yes iD _).mono ?_
      rintro e w5 ⟨E, ⟨rfl, g5⟩, iE⟩
      replace gr := (gr.setRow hn D).trans g5
      replace hD := hD.later g5
      clear g5
      go_wp2_with (first
        | (refine store_buf rfl _ _ rfl n rfl E rfl D hD iE.size iD.size iE.one ?_))
      exact ⟨⟨k + 1, by omega, by go_num, ⟨E, hD.row E, iE⟩, gr.setRow hn E⟩, by simp [intOf]; omega⟩
    · obtain rfl : k = ahead := by omega
      go_wp2_with (fail)
      clear hk hlt
      go_loopw [8] (fun i wr => ∃ k : Nat, k ≤ l.length ∧ i = .int .i64 k ∧ (∃ C, Has wr n C 29 ∧ IsB C 16 (l.take k)) ∧ Gr w wr) (fun i _ => l.length - (intOf i).toNat)
      case atStart => exact ⟨0, by omega, rfl, ⟨_, hC, iC⟩, gr⟩
      case round =>
        clear gr hC iC
        obtain ⟨k, hk, rfl, ⟨C, hC, iC⟩, gr⟩ := hrel
        by_cases hlt : k < l.length
        · have hlt' : (k : Int) < l.length := by omega
          obtain ⟨b, off, had, _⟩ := HE.out.get hlt
          have hkl : (l.take k).length < 16 := by rw [List.length_take]; omega
          have HT := hide (take_getD l k hlt)
          have ST : ∀ w', EntsAt w' ad l → w'.cell? ⟨b, off + k * 2, none⟩ = some (.int .i64 (l.getD k ent0).a) ∧ w'.cell? ⟨b, off + k * 2 + 1, none⟩ = some (.int .u32 (l.getD k ent0).v) := by
            intro w' h
            obtain ⟨b', off', h1, h2, h3⟩ := h.get hlt
            rw [had] at h1
            cases h1
            exact ⟨h2, h3⟩
          have hE := HE.out.later gr
          subst had
          generalize l.getD k ent0 = x at HT ST
          go_wp2_with (fail)
          refine begin_late 12 [10, 11] (fun w' => Has w' n C 29 ∧ EntsAt w' (some ⟨b, off, none⟩) l ∧ Gr w w') (by kernel_rfl) rfl ?_
          have hH : Has wr.drew n C 29 ∧ EntsAt wr.drew (some ⟨b, off, none⟩) l ∧ Gr w wr.drew := ⟨hC.drew, hE.later (Gr.refl wr).drew, gr.drew⟩
          refine AnyL.take 0 (some 53) (.agg C) rfl rfl (by kernel_rfl) (by kernel_rfl) (by kernel_rfl) (by kernel_rfl) (fun _ _ _ h => h) (take_buf (by kernel_rfl) _ rfl n rfl C (fun w h => h.1) iC.size) hH ?_
          simp only [Act.put, List.setIfInBounds_toArray, List.set_cons_zero, List.set_cons_succ]
          refine AnyL.takeP 1 (some 54) (.slice (some ⟨b, off, none⟩) l.length cap) rfl rfl (by kernel_rfl) (by kernel_rfl) (by kernel_rfl) (by kernel_rfl) (fun _ _ _ h => h) (by kernel_rfl) (fun w' => by go_simp) (fun _ => hH) ?_
          simp only [Act.put, List.setIfInBounds_toArray, List.set_cons_zero, List.set_cons_succ]
          refine AnyL.takeP 2 (some 55) (.int .i64 k) rfl rfl (by kernel_rfl) (by kernel_rfl) (by kernel_rfl) (by kernel_rfl) (fun _ _ _ h => h) (by kernel_rfl) (fun w' => by go_simp) (fun _ => hH) ?_
          simp only [Act.put, List.setIfInBounds_toArray, List.set_cons_zero, List.set_cons_succ]
          refine AnyL.takeP 3 (some 56) (.pointer (some ⟨b, off + k * 2, none⟩)) rfl rfl (by kernel_rfl) (by kernel_rfl) (by kernel_rfl) (by kernel_rfl) (fun _ _ _ h => h) (by kernel_rfl) (fun w' => by go_simp) (fun _ => hH) ?_
          simp only [Act.put, List.setIfInBounds_toArray, List.set_cons_zero, List.set_cons_succ]
          refine AnyL.take 4 (some 57) (.agg #[.int .i64 x.a, .int .u32 x.v]) rfl rfl (by kernel_rfl) (by kernel_rfl) (by kernel_rfl) (by kernel_rfl) (fun _ _ _ h => h) (yields_held _ (by kernel_rfl) (fun w' hw' => by obtain ⟨h1, h2⟩ := ST w' hw'.2.1; clear ST; go_simp)) hH ?_
          simp only [Act.put, List.setIfInBounds_toArray, List.set_cons_zero, List.set_cons_succ]
          refine AnyL.two 5 9 (by kernel_rfl) rfl rfl (by kernel_rfl) ?_ ?_
          · refine wp_call (some 58) rfl 12 #[.agg C, .agg #[.int .i64 x.a, .int .u32 x.v]] (by kernel_rfl) (put_yes iC hkl x _) ?_
            rintro e w4 ⟨D, ⟨rfl, g4⟩, iD⟩
            refine ⟨_, rfl, ?_⟩
            rw [HT.out] at iD
            replace hH := And.intro (hH.1.later g4) (And.intro (hH.2.1.later g4) (hH.2.2.trans g4))
            refine ⟨fun _ => hH, ?_⟩
            simp only [Act.put, List.setIfInBounds_toArray, List.set_cons_zero, List.set_cons_succ]
            refine AnyL.takeP 6 (some 52) (.tuple #[.agg D, .bool true]) rfl rfl (by kernel_rfl) (by kernel_rfl) (by kernel_rfl) (by kernel_rfl) (fun _ _ _ h => h) (by kernel_rfl) (fun w' => by go_simp) (fun _ => hH) ?_
            simp only [Act.put, List.setIfInBounds_toArray, List.set_cons_zero, List.set_cons_succ]
            refine AnyL.takeP 7 (some 59) (.agg D) rfl rfl (by kernel_rfl) (by kernel_rfl) (by kernel_rfl) (by kernel_rfl) (fun _ _ _ h => h) (by kernel_rfl) (fun w' => by go_simp) (fun _ => hH) ?_
            simp only [Act.put, List.setIfInBounds_toArray, List.set_cons_zero, List.set_cons_succ]
            refine AnyL.takeP 8 (some 60) (.bool true) rfl rfl (by kernel_rfl) (by kernel_rfl) (by kernel_rfl) (by kernel_rfl) (fun _ _ _ h => h) (by kernel_rfl) (fun w' => by go_simp) (fun _ => hH) ?_
            simp only [Act.put, List.setIfInBounds_toArray, List.set_cons_zero, List.set_cons_succ]
            refine AnyL.one 9 (by kernel_rfl) rfl (by kernel_rfl) ?_
            refine wp_made (some 9) rfl _ _ (alloc_buf rfl) ?_
            have hg := Has.new w4 zeroC 29
            replace hH := And.intro (hH.1.alloc zeroC 29) (And.intro (hH.2.1.later ((Gr.refl w4).alloc zeroC 29)) (hH.2.2.alloc zeroC 29))
            have hne : n ≠ w4.heap.size := by have := (hC.drew.later g4).lt; omega
            have hnw : w.heap.size ≤ w4.heap.size := (gr.drew.trans g4).size
            refine ⟨fun _ => hH, ?_⟩
            generalize w4.heap.size = g at hg hne hnw ⊢
            change AnyL _ _ _ _ _ _ _ _ _ (w4.alloc (.cells zeroC 29))
            generalize w4.alloc (.cells zeroC 29) = w5 at hg hH ⊢
            simp only [Act.put, List.setIfInBounds_toArray, List.set_cons_zero, List.set_cons_succ]
            refine AnyL.one 10 (by kernel_rfl) rfl (by kernel_rfl) ?_
            refine wp_store_buf rfl _ _ rfl g rfl D rfl zeroC hg iD.size zeroC_size iD.one ?_
            refine ⟨late (by kernel_rfl), ?_⟩
            refine AnyL.one 11 (by kernel_rfl) rfl (by kernel_rfl) ?_
            refine wp_value (some 10) rfl (.bool true) (by go_simp) ?_
            refine ⟨late (by kernel_rfl), ?_⟩
            refine AnyL.done (by kernel_rfl) ?_
            simp only [Act.put, List.setIfInBounds_toArray, List.set_cons_zero, List.set_cons_succ]
            replace hg := hg.row D
            replace hC := hH.1.rowAside hne D
            replace gr := hH.2.2.setRow hnw D
            generalize w5.setRow g D = w6 at hg hC gr ⊢
            clear hH ST hE g4 HT
            go_wp2_with (first
              | (refine load_buf rfl _ rfl g rfl D hg iD.size ?_)
              | (refine store_buf rfl _ _ rfl n rfl D rfl C hC iD.size iC.size iD.one ?_))
            exact ⟨⟨k + 1, by omega, by go_num, ⟨D, hC.row D, iD⟩, gr.setRow hn D⟩, by simp [intOf]; omega⟩
          · refine wp_made (some 9) rfl _ _ (alloc_buf rfl) ?_
            have hg := Has.new wr.drew zeroC 29
            replace hH := And.intro (hH.1.alloc zeroC 29) (And.intro (hH.2.1.later ((Gr.refl wr.drew).alloc zeroC 29)) (hH.2.2.alloc zeroC 29))
            have hne : n ≠ wr.drew.heap.size := by have := hC.drew.lt; omega
            have hnw : w.heap.size ≤ wr.drew.heap.size := gr.drew.size
            refine ⟨fun _ => hH, ?_⟩
            generalize wr.drew.heap.size = g at hg hne hnw ⊢
            change AnyL _ _ _ _ _ _ _ _ _ (wr.drew.alloc (.cells zeroC 29))
            generalize wr.drew.alloc (.cells zeroC 29) = w5 at hg hH ⊢
            simp only [Act.put, List.setIfInBounds_toArray, List.set_cons_zero, List.set_cons_succ]
            refine AnyL.one 5 (by kernel_rfl) rfl (by kernel_rfl) ?_
            refine wp_call (some 58) rfl 12 #[.agg C, .agg #[.int .i64 x.a, .int .u32 x.v]] (by kernel_rfl) (put_yes iC hkl x _) ?_
            rintro e w4 ⟨D, ⟨rfl, g4⟩, iD⟩
            refine ⟨_, rfl, ?_⟩
            rw [HT.out] at iD
            replace hH := And.intro (hH.1.later g4) (And.intro (hH.2.1.later g4) (hH.2.2.trans g4))
            replace hg := hg.later g4
            refine ⟨fun _ => hH, ?_⟩
            simp only [Act.put, List.setIfInBounds_toArray, List.set_cons_zero, List.set_cons_succ]
            refine AnyL.takeP 6 (some 52) (.tuple #[.agg D, .bool true]) rfl rfl (by kernel_rfl) (by kernel_rfl) (by kernel_rfl) (by kernel_rfl) (fun _ _ _ h => h) (by kernel_rfl) (fun w' => by go_simp) (fun _ => hH) ?_
            simp only [Act.put, List.setIfInBounds_toArray, List.set_cons_zero, List.set_cons_succ]
            refine AnyL.takeP 7 (some 59) (.agg D) rfl rfl (by kernel_rfl) (by kernel_rfl) (by kernel_rfl) (by kernel_rfl) (fun _ _ _ h => h) (by kernel_rfl) (fun w' => by go_simp) (fun _ => hH) ?_
            simp only [Act.put, List.setIfInBounds_toArray, List.set_cons_zero, List.set_cons_succ]
            refine AnyL.takeP 8 (some 60) (.bool true) rfl rfl (by kernel_rfl) (by kernel_rfl) (by kernel_rfl) (by kernel_rfl) (fun _ _ _ h => h) (by kernel_rfl) (fun w' => by go_simp) (fun _ => hH) ?_
            simp only [Act.put, List.setIfInBounds_toArray, List.set_cons_zero, List.set_cons_succ]
            refine AnyL.one 10 (by kernel_rfl) rfl (by kernel_rfl) ?_
            refine wp_store_buf rfl _ _ rfl g rfl D rfl zeroC hg iD.size zeroC_size iD.one ?_
            refine ⟨late (by kernel_rfl), ?_⟩
            refine AnyL.one 11 (by kernel_rfl) rfl (by kernel_rfl) ?_
            refine wp_value (some 10) rfl (.bool true) (by go_simp) ?_
            refine ⟨late (by kernel_rfl), ?_⟩
            refine AnyL.done (by kernel_rfl) ?_
            simp only [Act.put, List.setIfInBounds_toArray, List.set_cons_zero, List.set_cons_succ]
            replace hg := hg.row D
            replace hC := hH.1.rowAside hne D
            replace gr := hH.2.2.setRow hnw D
            generalize w4.setRow g D = w6 at hg hC gr ⊢
            clear hH ST hE g4 HT
            go_wp2_with (first
              | (refine load_buf rfl _ rfl g rfl D hg iD.size ?_)
              | (refine store_buf rfl _ _ rfl n rfl D rfl C hC iD.size iC.size iD.one ?_))
            exact ⟨⟨k + 1, by omega, by go_num, ⟨D, hC.row D, iD⟩, gr.setRow hn D⟩, by simp [intOf]; omega⟩
        · obtain rfl : k = l.length := by omega
          clear hk hlt
          rw [List.take_length] at iC
          go_wp2_with (fail)
          go_loopw [11] (fun i wr => ∃ k : Nat, k ≤ l.length ∧ i = .int .i64 k ∧ (∃ C, Has wr n C 29 ∧ IsB C 16 (l.drop k)) ∧ Gr w wr) (fun i _ => l.length - (intOf i).toNat)
          case atStart => exact ⟨0, by omega, rfl, ⟨_, hC, iC⟩, gr⟩
          case round =>
            clear gr hC iC
            obtain ⟨k, hk, rfl, ⟨C, hC, iC⟩, gr⟩ := hrel
            by_cases hlt : k < l.length
            · have hlt' : (k : Int) < l.length := by omega
              rw [drop_getD l k hlt] at iC
              obtain ⟨b, off, had, ca, cv⟩ := (HE.out.later gr).get hlt
              subst had
              generalize l.getD k ent0 = x at iC ca cv
              have CA := hide ca
              have CV := hide cv
              clear ca cv
              go_wp2_with (first
                | (refine load_buf rfl _ rfl n rfl C hC iC.size ?_))
              refine (pop_yes iC _).mono ?_
              rintro e w4 ⟨D, ⟨rfl, g4⟩, iD⟩
              have ca : w4.cell? ⟨b, off + k * 2, none⟩ = some (.int .i64 x.a) := (Below.cell g4 (p := ⟨b, off + k * 2, none⟩) (block_lt_of_cell CA.out)).trans CA.out
              have cv : w4.cell? ⟨b, off + k * 2 + 1, none⟩ = some (.int .u32 x.v) := (Below.cell g4 (p := ⟨b, off + k * 2 + 1, none⟩) (block_lt_of_cell CV.out)).trans CV.out
              replace hC := ((hC.later g4).alloc #[.int .i64 x.a, .int .u32 x.v] 26).alloc D 29
              replace gr := ((gr.trans g4).alloc #[.int .i64 x.a, .int .u32 x.v] 26).alloc D 29
              have hb : b < w4.heap.size := block_lt_of_cell ca
              clear g4 CA CV
              go_wp2_with (first
                | (refine store_new rfl rfl _ _ rfl (w4.heap.size + 1) (by simp) rfl D rfl zeroC iD.size zeroC_size iD.one ?_))
              have gz : Gr w4 ((w4.alloc (.cells #[.int .i64 x.a, .int .u32 x.v] 26)).alloc (.cells D 29)) := ((Gr.refl w4).alloc _ _).alloc _ _
              replace ca := (Below.cell gz (p := ⟨b, off + k * 2, none⟩) hb).trans ca
              replace cv := (Below.cell gz (p := ⟨b, off + k * 2 + 1, none⟩) hb).trans cv
              have hx := (Has.new w4 #[.int .i64 x.a, .int .u32 x.v] 26).alloc D 29
              have hD := Has.new (w4.alloc (.cells #[.int .i64 x.a, .int .u32 x.v] 26)) D 29
              rw [show (w4.alloc (.cells #[.int .i64 x.a, .int .u32 x.v] 26)).heap.size = w4.heap.size + 1 by simp] at hD
              have xa := hx.cell (o := 0) rfl
              have xv := hx.cell (o := 1) rfl
              clear gz hb hx
              generalize (w4.alloc (.cells #[.int .i64 x.a, .int .u32 x.v] 26)).alloc (.cells D 29) = w5 at ca cv xa xv hC gr hD ⊢
              go_quiet (fail)
              replace hC := hC.drewN nq
              replace hD := hD.drewN nq
              replace gr := gr.drewN nq
              go_wp2_with (first
                | (refine load_buf rfl _ rfl (w4.heap.size + 1) rfl D hD iD.size ?_)
                | (refine store_buf rfl _ _ rfl n rfl D rfl C hC iD.size iC.size iD.one ?_))
              exact ⟨⟨k + 1, by omega, by go_num, ⟨D, hC.row D, iD⟩, gr.setRow hn D⟩, by simp [intOf]; omega⟩
            · obtain rfl : k = l.length := by omega
              rw [List.drop_length] at iC
              go_wp2_with (first
                | (refine load_buf rfl _ rfl n rfl C hC iC.size ?_))
              refine (len_calls iC _).mono ?_
              rintro e w4 ⟨rfl, g4⟩
              go_wp2_with (fail)
              go_ret
              exact ⟨rfl, gr.trans g4⟩
end Go.Proofs.Ytiogacfejchimaa
