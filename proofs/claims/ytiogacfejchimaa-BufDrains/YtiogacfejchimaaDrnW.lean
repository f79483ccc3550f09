/-
  BufDrains' walk: of any at most 16 entries and any at most 300 words it answers true. No condition but that the slices' cells hold them.
-/
import Derived.Test.YtiogacfejchimaaAwake
import Derived.Test.YtiogacfejchimaaRDrain
import Derived.Deep.QuietTactic
import Derived.BigQuiet
namespace Go.Proofs.Ytiogacfejchimaa
open Go.ChangeShapes Go.WideShapes Go.ChangeAt Go.RowKit
set_option linter.unusedVariables false

set_option maxHeartbeats 1000000 in
theorem drains_few (ad : Option Addr) (cap : Nat) (l : List Ent) (hl : l.length ≤ 16) (am : Option Addr) (cm : Nat) (m : List Int) (hm : m.length ≤ 300) (w : World) (he : EntsAt w ad l) (hw : WordsAt w am m) (hcm : am = none → cm = 0) :
    Calls Try.prog 4 #[.slice ad l.length cap, .slice am m.length cm] w fun e w' => e = .returned (.bool true) ∧ Gr w w' := by
  have HE := hide he
  have HW := hide hw
  have HN := hide hcm
  clear he hw hcm
  go_enter Try.func4, Try.ntmps4
  go_wp2_with (first
    | (go_at_call 7; refine (awake_calls _).mono ?_; rintro e w1 ⟨rfl, g1⟩)
    | (go_at_call 8; refine (new_yes 16 (by omega) (by omega) _).mono ?_; rintro e w2 ⟨rfl, g2⟩)
    | (refine store_new rfl rfl _ _ rfl _ rfl rfl (newC 16) rfl zeroC (newC_size _) zeroC_size (newC_one _) ?_))
  have g3 := (g1.trans g2).alloc (newC 16) 29
  have h3 := Has.new w2 (newC 16) 29
  have hn : w.heap.size ≤ w2.heap.size := (g1.trans g2).size
  generalize w2.alloc (.cells (newC 16) 29) = w3 at g3 h3 ⊢
  generalize w2.heap.size = n at h3 hn ⊢
  clear g1 g2
  go_loopw [7] (fun i wr => ∃ k : Nat, k ≤ l.length ∧ i = .int .i64 k ∧ (∃ C, Has wr n C 29 ∧ IsB C 16 (l.take k)) ∧ Gr w wr) (fun i _ => l.length - (intOf i).toNat)
  case atStart => exact ⟨0, by omega, rfl, ⟨_, h3, is_newC 16 (by omega)⟩, g3⟩
  case round =>
    clear g3 h3
    obtain ⟨k, hk, rfl, ⟨C, hC, iC⟩, gr⟩ := hrel
    by_cases hlt : k < l.length
    · have hlt' : (k : Int) < l.length := by omega
      obtain ⟨b, off, had, _⟩ := HE.out.get hlt
      have hkl : (l.take k).length < 16 := by rw [List.length_take]; omega
      have HT := hide (taken l k hlt)
      have ST : ∀ w', EntsAt w' ad l → w'.cell? ⟨b, off + k * 2, none⟩ = some (.int .i64 (l.getD k ent0).a) ∧ w'.cell? ⟨b, off + k * 2 + 1, none⟩ = some (.int .u32 (l.getD k ent0).v) := by
        intro w' h
        obtain ⟨b', off', h1, h2, h3⟩ := h.get hlt
        rw [had] at h1
        cases h1
        exact ⟨h2, h3⟩
      have hE := HE.out.later gr
      subst had
      generalize l.getD k ent0 = y at HT ST
      go_wp2_with (fail)
      refine begin_late 10 [9] (fun w' => Has w' n C 29 ∧ EntsAt w' (some ⟨b, off, none⟩) l ∧ Gr w w') (by kernel_rfl) rfl ?_
      have hH : Has wr.drew n C 29 ∧ EntsAt wr.drew (some ⟨b, off, none⟩) l ∧ Gr w wr.drew := ⟨hC.drew, hE.later (Gr.refl wr).drew, gr.drew⟩
      refine AnyL.take 0 (some 37) (.agg C) rfl rfl (by kernel_rfl) (by kernel_rfl) (by kernel_rfl) (by kernel_rfl) (fun _ _ _ h => h) (take_buf (by kernel_rfl) _ rfl n rfl C (fun w h => h.1) iC.size) hH ?_
      simp only [Act.put, List.setIfInBounds_toArray, List.set_cons_zero, List.set_cons_succ]
      refine AnyL.takeP 1 (some 38) (.slice (some ⟨b, off, none⟩) l.length cap) rfl rfl (by kernel_rfl) (by kernel_rfl) (by kernel_rfl) (by kernel_rfl) (fun _ _ _ h => h) (by kernel_rfl) (fun w' => by go_simp) (fun _ => hH) ?_
      simp only [Act.put, List.setIfInBounds_toArray, List.set_cons_zero, List.set_cons_succ]
      refine AnyL.takeP 2 (some 39) (.int .i64 k) rfl rfl (by kernel_rfl) (by kernel_rfl) (by kernel_rfl) (by kernel_rfl) (fun _ _ _ h => h) (by kernel_rfl) (fun w' => by go_simp) (fun _ => hH) ?_
      simp only [Act.put, List.setIfInBounds_toArray, List.set_cons_zero, List.set_cons_succ]
      refine AnyL.takeP 3 (some 40) (.pointer (some ⟨b, off + k * 2, none⟩)) rfl rfl (by kernel_rfl) (by kernel_rfl) (by kernel_rfl) (by kernel_rfl) (fun _ _ _ h => h) (by kernel_rfl) (fun w' => by go_simp) (fun _ => hH) ?_
      simp only [Act.put, List.setIfInBounds_toArray, List.set_cons_zero, List.set_cons_succ]
      refine AnyL.take 4 (some 41) (.agg #[.int .i64 y.a, .int .u32 y.v]) rfl rfl (by kernel_rfl) (by kernel_rfl) (by kernel_rfl) (by kernel_rfl) (fun _ _ _ h => h) (yields_held _ (by kernel_rfl) (fun w' hw' => by obtain ⟨h1, h2⟩ := ST w' hw'.2.1; clear ST; go_simp)) hH ?_
      simp only [Act.put, List.setIfInBounds_toArray, List.set_cons_zero, List.set_cons_succ]
      refine AnyL.one 5 (by kernel_rfl) rfl (by kernel_rfl) ?_
      refine wp_call (some 42) rfl 12 #[.agg C, .agg #[.int .i64 y.a, .int .u32 y.v]] (by kernel_rfl) (put_yes iC hkl y _) ?_
      rintro e w4 ⟨D, ⟨rfl, g4⟩, iD⟩
      refine ⟨_, rfl, ?_⟩
      rw [← HT.out] at iD
      replace hH := And.intro (hH.1.later g4) (And.intro (hH.2.1.later g4) (hH.2.2.trans g4))
      refine ⟨fun _ => hH, ?_⟩
      simp only [Act.put, List.setIfInBounds_toArray, List.set_cons_zero, List.set_cons_succ]
      refine AnyL.takeP 6 (some 36) (.tuple #[.agg D, .bool true]) rfl rfl (by kernel_rfl) (by kernel_rfl) (by kernel_rfl) (by kernel_rfl) (fun _ _ _ h => h) (by kernel_rfl) (fun w' => by go_simp) (fun _ => hH) ?_
      simp only [Act.put, List.setIfInBounds_toArray, List.set_cons_zero, List.set_cons_succ]
      refine AnyL.takeP 7 (some 43) (.agg D) rfl rfl (by kernel_rfl) (by kernel_rfl) (by kernel_rfl) (by kernel_rfl) (fun _ _ _ h => h) (by kernel_rfl) (fun w' => by go_simp) (fun _ => hH) ?_
      simp only [Act.put, List.setIfInBounds_toArray, List.set_cons_zero, List.set_cons_succ]
      refine AnyL.takeP 8 (some 44) (.bool true) rfl rfl (by kernel_rfl) (by kernel_rfl) (by kernel_rfl) (by kernel_rfl) (fun _ _ _ h => h) (by kernel_rfl) (fun w' => by go_simp) (fun _ => hH) ?_
      simp only [Act.put, List.setIfInBounds_toArray, List.set_cons_zero, List.set_cons_succ]
      refine AnyL.one 9 (by kernel_rfl) rfl (by kernel_rfl) ?_
      refine wp_store_buf rfl _ _ rfl n rfl D rfl C hH.1 iD.size iC.size iD.one ?_
      refine ⟨late (by kernel_rfl), ?_⟩
      refine AnyL.done (by kernel_rfl) ?_
      replace hC := hH.1.row D
      replace gr := hH.2.2.setRow hn D
      generalize w4.setRow n D = w6 at hC gr ⊢
      clear hH ST hE g4 HT
      go_wp2_with (fail)
      exact ⟨⟨k + 1, by omega, by go_num, ⟨D, hC, iD⟩, gr⟩, by simp [intOf]; omega⟩
    · obtain rfl : k = l.length := by omega
      clear hk hlt
      rw [List.take_length] at iC
      obtain ⟨ao, co, w5, hr, g5, ho, hco⟩ := clone_words wr 48 am cm m (HW.out.later gr) HN.out (by omega)
      have HR := hide hr
      replace hC := hC.later g5
      replace gr := gr.trans g5
      have hO := ho.words
      clear hr g5 ho
      go_wp2_with (first
        | (refine step_app rfl (some 47) rfl _ _ 48 rfl _ _ rfl rfl _ _ HR.out ?_)
        | (refine load_buf rfl _ rfl n rfl C hC iC.size ?_))
      refine (drain_calls iC ao co m (by omega) _ hO).mono ?_
      rintro e w6 ⟨rfl, g6, hU⟩
      have hnn : n ≠ w6.heap.size := by have := (hC.later g6).lt; omega
      replace hC := (hC.later g6).alloc (newC 16) 29
      replace gr := (gr.trans g6).alloc (newC 16) 29
      have g7 := (Gr.refl w6).alloc (newC 16) 29
      replace hO := (hO.later g6).later g7
      replace hU := (hU.words).later g7
      have hD := Has.new w6 (newC 16) 29
      have iD : IsB (newC 16) 16 [] := is_newC 16 (by omega)
      clear g6 g7 HR
      go_wp2_with (first
        | (refine store_new rfl rfl _ _ rfl _ rfl rfl (newC 16) rfl zeroC (newC_size _) zeroC_size (newC_one _) ?_))
      generalize newC 16 = D at hC gr hO hU hD iD ⊢
      generalize w6.alloc (.cells D 29) = w7 at hC gr hO hU hD ⊢
      generalize w6.heap.size = d at hnn hD ⊢
      generalize w5.heap.size + 1 + 1 = u at hU ⊢
      refine (rdrain_calls ad cap l (by omega) am cm m (by omega) _ (HE.out.later gr) (HW.out.later gr) HN.out).mono ?_
      rintro e w8 ⟨ar, cr, ⟨rfl, g8⟩, hV⟩
      replace hC := hC.later g8
      replace hD := hD.later g8
      replace gr := gr.trans g8
      replace hO := hO.later g8
      replace hU := hU.later g8
      clear g8
      go_wp2_with (first
        | (refine load_bufG (by kernel_rfl) _ rfl d rfl D hD iD.size ?_))
      refine (len_calls iD _).mono ?_
      rintro e w9 ⟨rfl, g9⟩
      replace hC := hC.later g9
      replace gr := gr.trans g9
      replace hO := hO.later g9
      replace hU := hU.later g9
      replace hV := hV.later g9
      clear g9 hD
      go_wp2_with (first
        | (refine load_bufG (by kernel_rfl) _ rfl n rfl C hC iC.size ?_))
      refine (len_calls iC _).mono ?_
      rintro e w10 ⟨rfl, g10⟩
      replace gr := gr.trans g10
      replace hO := hO.later g10
      replace hU := hU.later g10
      replace hV := hV.later g10
      clear g10 hC
      have HO := hide hO
      have HU := hide hU
      have HV := hide hV
      have HDL := hide (drainL_length l m)
      clear hO hU hV
      go_wp2_with (fail)
      go_loopw [12] (fun i wr => ∃ k : Nat, k ≤ m.length ∧ i = .int .i64 k ∧ Gr w wr ∧ Gr w10 wr) (fun i _ => m.length - (intOf i).toNat)
      case atStart => exact ⟨0, by omega, rfl, gr, Gr.refl _⟩
      case round =>
        clear gr
        obtain ⟨k, hk, rfl, gr, gs⟩ := hrel
        by_cases hlt : k < m.length
        · have hlt' : (k : Int) < m.length := by omega
          obtain ⟨b1, o1, e1, c1⟩ := (HU.out.later gs).get (i := k) (by rw [HDL.out]; exact hlt)
          obtain ⟨b2, o2, e2, c2⟩ := (HV.out.later gs).get (i := k) (by rw [HDL.out]; exact hlt)
          obtain ⟨b3, o3, e3, c3⟩ := (HO.out.later gs).get hlt
          obtain ⟨b4, o4, e4, c4⟩ := (HW.out.later gr).get hlt
          cases e1
          subst e2 e3 e4
          rw [Nat.zero_add] at c1
          generalize (drainL l m).getD k 0 = y at c1 c2
          generalize m.getD k 0 = z at c3 c4
          go_wp2_with (fail)
          go_quiet (fail)
          go_wp2_with (fail)
          exact ⟨⟨k + 1, by omega, by go_num, gr.drewN nq, gs.drewN nq⟩, by simp [intOf]; omega⟩
        · obtain rfl : k = m.length := by omega
          go_wp2_with (fail)
          go_ret
          exact ⟨rfl, gr⟩
end Go.Proofs.Ytiogacfejchimaa
