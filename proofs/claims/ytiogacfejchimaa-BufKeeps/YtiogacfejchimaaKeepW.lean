/-
  BufKeeps' walk: of any room, any at most 300 entries and any entry it answers true. No condition but that the slice's cells hold the entries.
-/
import Derived.Test.YtiogacfejchimaaAwake
import Derived.Test.YtiogacfejchimaaEntrC
import Derived.Test.YtiogacfejchimaaSame
import Derived.Test.YtiogacfejchimaaDrain
namespace Go.Proofs.Ytiogacfejchimaa
open Go.ChangeShapes Go.WideShapes Go.ChangeAt Go.RowKit
set_option linter.unusedVariables false

/-- the first k of them were put into a room -/
def putsL (room : Nat) (l : List Ent) (k : Nat) : List Ent := (l.take k).take room
theorem putsL_zero (room : Nat) (l : List Ent) : putsL room l 0 = [] := by simp [putsL]
theorem putsL_succ (room : Nat) (l : List Ent) (k : Nat) (h : k < l.length) : putL room (putsL room l k) (l.getD k ent0) = putsL room l (k + 1) := by
  unfold putL putsL
  have hk : (l.take k).length = k := by simp; omega
  have hg : l.getD k ent0 = l[k] := by rw [List.getD_eq_getElem?_getD, List.getElem?_eq_getElem h]; rfl
  have hlen : ((l.take k).take room).length = min room k := by rw [List.length_take, hk]
  rw [hlen]
  by_cases hr : k < room
  · have e1 : (l.take k).take room = l.take k := List.take_of_length_le (by omega)
    have e2 : (l.take (k + 1)).take room = l.take (k + 1) := List.take_of_length_le (by simp; omega)
    rw [if_pos (by omega), e1, e2, List.take_succ_eq_append_getElem h, hg]
  · rw [if_neg (by omega)]
    rw [List.take_take, List.take_take]
    congr 1
    omega
theorem putsL_length (room : Nat) (l : List Ent) : (putsL room l l.length).length = min l.length room := by
  unfold putsL
  rw [List.take_length, List.length_take, Nat.min_comm]

set_option maxHeartbeats 1000000 in
theorem keeps_few (rm : Nat) (hr : rm < 256) (ad : Option Addr) (cap : Nat) (l : List Ent) (hl : l.length ≤ 300) (x : Ent) (w : World) (he : EntsAt w ad l) :
    Calls Try.prog 6 #[.int .u8 rm, .slice ad l.length cap, .agg #[.int .i64 x.a, .int .u32 x.v]] w fun e w' => e = .returned (.bool true) ∧ Gr w w' := by
  have HE := hide he
  have hx0 := Has.new w #[.int .i64 x.a, .int .u32 x.v] 26
  have gx0 := (Gr.refl w).alloc #[.int .i64 x.a, .int .u32 x.v] 26
  clear he
  go_enter Try.func6, Try.ntmps6
  go_wp2_with (fail)
  refine (awake_calls _).mono ?_
  rintro e w1 ⟨rfl, g1⟩
  replace hx0 := hx0.later g1
  replace gx0 := gx0.trans g1
  clear g1
  go_wp2_with (fail)
  refine (new_yes _ (by omega) (by omega) _).mono ?_
  rintro e w2 ⟨rfl, g2⟩
  obtain ⟨R, hR⟩ : ∃ R : Nat, R = 1 + rm % 16 := ⟨_, rfl⟩
  have i0 : IsB (newC (1 + (rm : Int) % 16)) R [] := by
    have := is_newC R (by omega)
    rw [show (R : Int) = 1 + (rm : Int) % 16 by omega] at this
    exact this
  generalize newC (1 + (rm : Int) % 16) = C0 at i0
  have hC0 := Has.new w2 C0 29
  have hn : w.heap.size ≤ w2.heap.size := (gx0.trans g2).size
  replace hx0 := (hx0.later g2).alloc C0 29
  replace gx0 := (gx0.trans g2).alloc C0 29
  have hxn : w.heap.size ≠ w2.heap.size := hx0.apart hC0 (by decide)
  clear g2
  go_wp2_with (first
    | (refine store_new rfl rfl _ _ rfl _ rfl rfl C0 rfl zeroC i0.size zeroC_size i0.one ?_))
  generalize w2.alloc (.cells C0 29) = w3 at hx0 gx0 hC0 ⊢
  generalize w2.heap.size = n at hC0 hxn hn ⊢
  go_loopw [9] (fun i wr => ∃ k : Nat, k ≤ l.length ∧ i = .int .i64 k ∧ (∃ C, Has wr n C 29 ∧ IsB C R (putsL R l k)) ∧ Gr w wr ∧ Has wr w.heap.size #[.int .i64 x.a, .int .u32 x.v] 26) (fun i _ => l.length - (intOf i).toNat)
  case atStart => exact ⟨0, by omega, rfl, ⟨C0, hC0, by rw [putsL_zero]; exact i0⟩, gx0, hx0⟩
  case round =>
    clear gx0 hx0 hC0 i0
    obtain ⟨k, hk, rfl, ⟨C, hC, iC⟩, gr, hx⟩ := hrel
    by_cases hlt : k < l.length
    · have hlt' : (k : Int) < l.length := by omega
      obtain ⟨b, off, had, _⟩ := HE.out.get hlt
      have HT := hide (putsL_succ R l k hlt)
      have ST : ∀ w', EntsAt w' ad l → w'.cell? ⟨b, off + k * 2, none⟩ = some (.int .i64 (l.getD k ent0).a) ∧ w'.cell? ⟨b, off + k * 2 + 1, none⟩ = some (.int .u32 (l.getD k ent0).v) := by
        intro w' h
        obtain ⟨b', off', h1, h2, h3⟩ := h.get hlt
        rw [had] at h1
        cases h1
        exact ⟨h2, h3⟩
      have hE := HE.out.later gr
      subst had
      generalize l.getD k ent0 = y at HT ST
      go_wp2_with (fail)
      refine begin_late 10 [9] (fun w' => Has w' n C 29 ∧ EntsAt w' (some ⟨b, off, none⟩) l ∧ Gr w w' ∧ Has w' w.heap.size #[.int .i64 x.a, .int .u32 x.v] 26) (by kernel_rfl) rfl ?_
      have hH : Has wr.drew n C 29 ∧ EntsAt wr.drew (some ⟨b, off, none⟩) l ∧ Gr w wr.drew ∧ Has wr.drew w.heap.size #[.int .i64 x.a, .int .u32 x.v] 26 := ⟨hC.drew, hE.later (Gr.refl wr).drew, gr.drew, hx.drew⟩
      refine AnyL.take 0 (some 36) (.agg C) rfl rfl (by kernel_rfl) (by kernel_rfl) (by kernel_rfl) (by kernel_rfl) (fun _ _ _ h => h) (take_buf (by kernel_rfl) _ rfl n rfl C (fun w h => h.1) iC.size) hH ?_
      simp only [Act.put, List.setIfInBounds_toArray, List.set_cons_zero, List.set_cons_succ]
      refine AnyL.takeP 1 (some 37) (.slice (some ⟨b, off, none⟩) l.length cap) rfl rfl (by kernel_rfl) (by kernel_rfl) (by kernel_rfl) (by kernel_rfl) (fun _ _ _ h => h) (by kernel_rfl) (fun w' => by go_simp) (fun _ => hH) ?_
      simp only [Act.put, List.setIfInBounds_toArray, List.set_cons_zero, List.set_cons_succ]
      refine AnyL.takeP 2 (some 38) (.int .i64 k) rfl rfl (by kernel_rfl) (by kernel_rfl) (by kernel_rfl) (by kernel_rfl) (fun _ _ _ h => h) (by kernel_rfl) (fun w' => by go_simp) (fun _ => hH) ?_
      simp only [Act.put, List.setIfInBounds_toArray, List.set_cons_zero, List.set_cons_succ]
      refine AnyL.takeP 3 (some 39) (.pointer (some ⟨b, off + k * 2, none⟩)) rfl rfl (by kernel_rfl) (by kernel_rfl) (by kernel_rfl) (by kernel_rfl) (fun _ _ _ h => h) (by kernel_rfl) (fun w' => by go_simp) (fun _ => hH) ?_
      simp only [Act.put, List.setIfInBounds_toArray, List.set_cons_zero, List.set_cons_succ]
      refine AnyL.take 4 (some 40) (.agg #[.int .i64 y.a, .int .u32 y.v]) rfl rfl (by kernel_rfl) (by kernel_rfl) (by kernel_rfl) (by kernel_rfl) (fun _ _ _ h => h) (yields_held _ (by kernel_rfl) (fun w' hw' => by obtain ⟨h1, h2⟩ := ST w' hw'.2.1; clear ST; go_simp)) hH ?_
      simp only [Act.put, List.setIfInBounds_toArray, List.set_cons_zero, List.set_cons_succ]
      refine AnyL.one 5 (by kernel_rfl) rfl (by kernel_rfl) ?_
      refine wp_call (some 41) rfl 12 #[.agg C, .agg #[.int .i64 y.a, .int .u32 y.v]] (by kernel_rfl) (put_any iC y _) ?_
      rintro e w4 ⟨D, ⟨rfl, g4⟩, iD⟩
      refine ⟨_, rfl, ?_⟩
      rw [HT.out] at iD
      replace hH := And.intro (hH.1.later g4) (And.intro (hH.2.1.later g4) (And.intro (hH.2.2.1.trans g4) (hH.2.2.2.later g4)))
      refine ⟨fun _ => hH, ?_⟩
      simp only [Act.put, List.setIfInBounds_toArray, List.set_cons_zero, List.set_cons_succ]
      generalize decide ((putsL R l k).length < R) = ok
      refine AnyL.takeP 6 (some 35) (.tuple #[.agg D, .bool ok]) rfl rfl (by kernel_rfl) (by kernel_rfl) (by kernel_rfl) (by kernel_rfl) (fun _ _ _ h => h) (by kernel_rfl) (fun w' => by go_simp) (fun _ => hH) ?_
      simp only [Act.put, List.setIfInBounds_toArray, List.set_cons_zero, List.set_cons_succ]
      refine AnyL.takeP 7 (some 42) (.agg D) rfl rfl (by kernel_rfl) (by kernel_rfl) (by kernel_rfl) (by kernel_rfl) (fun _ _ _ h => h) (by kernel_rfl) (fun w' => by go_simp) (fun _ => hH) ?_
      simp only [Act.put, List.setIfInBounds_toArray, List.set_cons_zero, List.set_cons_succ]
      refine AnyL.takeP 8 (some 43) (.bool ok) rfl rfl (by kernel_rfl) (by kernel_rfl) (by kernel_rfl) (by kernel_rfl) (fun _ _ _ h => h) (by kernel_rfl) (fun w' => by go_simp) (fun _ => hH) ?_
      simp only [Act.put, List.setIfInBounds_toArray, List.set_cons_zero, List.set_cons_succ]
      refine AnyL.one 9 (by kernel_rfl) rfl (by kernel_rfl) ?_
      refine wp_store_buf rfl _ _ rfl n rfl D rfl C hH.1 iD.size iC.size iD.one ?_
      refine ⟨late (by kernel_rfl), ?_⟩
      refine AnyL.done (by kernel_rfl) ?_
      replace hC := hH.1.row D
      replace gr := hH.2.2.1.setRow hn D
      replace hx := hH.2.2.2.rowAside hxn D
      generalize w4.setRow n D = w6 at hC gr hx ⊢
      clear hH ST hE g4 HT
      go_wp2_with (fail)
      exact ⟨⟨k + 1, by omega, by go_num, ⟨D, hC, iD⟩, gr, hx⟩, by simp [intOf]; omega⟩
    · obtain rfl : k = l.length := by omega
      clear hk hlt
      have hLn := putsL_length R l
      generalize putsL R l l.length = L at iC hLn
      have HL := hide hLn
      have h16 : L.length ≤ 16 := by omega
      clear hLn
      go_wp2_with (first
        | (refine load_buf rfl _ rfl n rfl C hC iC.size ?_))
      refine (entries_calls iC _).mono ?_
      rintro e w5 ⟨rfl, g5, hA⟩
      replace hC := hC.later g5
      replace hx := hx.later g5
      have hnA : n ≠ wr.heap.size + 1 := hC.apart hA (by decide)
      have hAw : w.heap.size ≤ wr.heap.size + 1 := by have := gr.size; omega
      replace gr := gr.trans g5
      generalize wr.heap.size + 1 = A at hA hnA ⊢
      clear g5
      have xa := hx.cell (o := 0) (v := .int .i64 x.a) rfl
      have xv := hx.cell (o := 1) (v := .int .u32 x.v) rfl
      go_wp2_with (first
        | (refine load_buf rfl _ rfl n rfl C hC iC.size ?_))
      refine (put_any iC x _).mono ?_
      rintro e w6 ⟨D, ⟨rfl, g6⟩, _⟩
      replace hC := hC.later g6
      replace hA := hA.later g6
      replace gr := gr.trans g6
      clear g6 xa xv hx
      go_wp2_with (first
        | (refine load_buf rfl _ rfl n rfl C hC iC.size ?_))
      refine (pop_any iC _).mono ?_
      rintro e w7 ⟨E, ⟨rfl, g7⟩, _⟩
      replace hC := hC.later g7
      replace hA := hA.later g7
      replace gr := gr.trans g7
      clear g7
      go_wp2_with (fail)
      refine begin_late 3 [2] (fun w' => Has w' n C 29 ∧ Has w' A (flat L).toArray 26 ∧ Gr w w') (by kernel_rfl) rfl ?_
      refine AnyL.take 0 (some 51) (.agg C) rfl rfl (by kernel_rfl) (by kernel_rfl) (by kernel_rfl) (by kernel_rfl) (fun _ _ _ h => h) (take_buf (by kernel_rfl) _ rfl n rfl C (fun w h => h.1) iC.size) ⟨hC.drew, hA.drew, gr.drew⟩ ?_
      simp only [Act.put, List.setIfInBounds_toArray, List.set_cons_zero, List.set_cons_succ]
      refine AnyL.one 1 (by kernel_rfl) rfl (by kernel_rfl) ?_
      refine wp_made (some 52) rfl _ _ (make_op 20 (by omega) _ _ rfl rfl rfl) ?_
      refine ⟨fun _ => ⟨hC.drew.alloc _ _, hA.drew.alloc _ _, gr.drew.alloc _ _⟩, ?_⟩
      simp only [Act.put, List.setIfInBounds_toArray, List.set_cons_zero, List.set_cons_succ]
      have hW := (Has.new w7.drew (wordsC (List.replicate 20 0)) 24).words
      replace hC := hC.drew.alloc (wordsC (List.replicate 20 0)) 24
      replace hA := hA.drew.alloc (wordsC (List.replicate 20 0)) 24
      replace gr := gr.drew.alloc (wordsC (List.replicate 20 0)) 24
      refine AnyL.one 2 (by kernel_rfl) rfl (by kernel_rfl) ?_
      refine wp_call (some 53) rfl 17 #[.agg C, .slice (some ⟨w7.drew.heap.size, 0, none⟩) 20 20] (by kernel_rfl) (drain_calls iC (some ⟨w7.drew.heap.size, 0, none⟩) 20 (List.replicate 20 0) (by simp) _ hW) ?_
      rintro e w8 ⟨rfl, g8, _⟩
      refine ⟨_, rfl, ?_⟩
      replace hC := hC.later g8
      replace hA := hA.later g8
      replace gr := gr.trans g8
      clear g8 hW
      refine ⟨late (by kernel_rfl), ?_⟩
      refine AnyL.done (by kernel_rfl) ?_
      simp only [Act.put, List.setIfInBounds_toArray, List.set_cons_zero, List.set_cons_succ]
      go_wp2_with (first
        | (refine load_buf rfl _ rfl n rfl C hC iC.size ?_))
      refine (entries_calls iC _).mono ?_
      rintro e w9 ⟨rfl, g9, hG⟩
      have hAG : A ≠ w8.heap.size + 1 := by have := hA.lt; omega
      have hnG : n ≠ w8.heap.size + 1 := (hC.later g9).apart hG (by decide)
      have hGw : w.heap.size ≤ w8.heap.size + 1 := by have := gr.size; omega
      replace hC := hC.later g9
      replace hA := hA.later g9
      replace gr := gr.trans g9
      have hGs := flatC_size L
      generalize (flat L).toArray = F at hGs hG
      generalize w8.heap.size + 1 = G at hG hAG hnG hGw ⊢
      clear g9
      go_wp2_with (fail)
      go_loopw [12] (fun i wr => ∃ k : Nat, k ≤ L.length ∧ i = .int .i64 k ∧ Has wr n C 29 ∧ Has wr A (flat L).toArray 26 ∧ Gr w wr ∧ (∃ F, Has wr G F 26 ∧ F.size = L.length * 2)) (fun i _ => L.length - (intOf i).toNat)
      case atStart => exact ⟨0, by omega, rfl, hC, hA, gr, F, hG, hGs⟩
      case round =>
        clear hC hA gr hG hGs
        obtain ⟨k, hk, rfl, hC, hA, gr, F, hG, hGs⟩ := hrel
        by_cases hlt : k < L.length
        · have hlt' : (k : Int) < L.length := by omega
          have HGS : Hid (k * 2 + 2 ≤ F.size) := by show k * 2 + 2 ≤ F.size; omega
          have HSZ := hide hGs
          clear hGs
          go_wp2_with (first | (refine store_ent rfl rfl _ _ rfl G (k * 2) rfl ⟨-1, 0⟩ rfl F 26 hG HGS.out ?_))
          exact ⟨⟨k + 1, by omega, by go_num, hC.setCells hnG _ _ _, hA.setCells hAG _ _ _, gr.setCells hGw _ _ _, _, (hG.set (k * 2) (.int .i64 (-1))).set (k * 2 + 1) (.int .u32 0), by simpa using HSZ.out⟩, by simp [intOf]; omega⟩
        · obtain rfl : k = L.length := by omega
          go_wp2_with (first
            | (refine load_buf rfl _ rfl n rfl C hC iC.size ?_))
          refine (entries_calls iC _).mono ?_
          rintro e w10 ⟨rfl, g10, hB⟩
          have eA := (hA.later g10).ents
          have eB := hB.ents
          go_wp2_with (fail)
          refine (same_calls _ _ _ _ L (by omega) _ eB eA).mono ?_
          rintro e w11 ⟨rfl, g11⟩
          go_wp2_with (fail)
          all_goals
            go_ret
            exact ⟨ret_true (by have := HL.out; simp; omega), (gr.trans g10).trans g11⟩
end Go.Proofs.Ytiogacfejchimaa
