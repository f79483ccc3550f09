/-
  TraceOf's walk: of any events, thread and number it answers true. No condition but that the slice's cells hold the events.
-/
import Derived.Test.YtfhplbmgjgfihaaLOfC
namespace Go.Proofs.Ytfhplbmgjgfihaa
open Go.ChangeShapes Go.WideShapes Go.ChangeAt Go.RowKit
set_option linter.unusedVariables false
set_option maxRecDepth 20000

theorem plc_at (t : Int) : ∀ (i : Nat) (l : List Ev) (hl : ∀ x ∈ l, EvOk x), ∀ p ∈ plc t i l hl, i ≤ p.pos ∧ p.pos < i + l.length ∧ l.getD (p.pos - i) ev0 = p.ev
  | i, [], hl, p, hp => by simp [plc] at hp
  | i, x :: l, hl, p, hp => by
    have ih := plc_at t (i + 1) l (fun y hy => hl y (List.mem_cons_of_mem _ hy)) p
    unfold plc at hp
    have next : p ∈ plc t (i + 1) l (fun y hy => hl y (List.mem_cons_of_mem _ hy)) → i ≤ p.pos ∧ p.pos < i + (x :: l).length ∧ (x :: l).getD (p.pos - i) ev0 = p.ev := fun hp => by
      obtain ⟨h1, h2, h3⟩ := ih hp
      refine ⟨by omega, by rw [List.length_cons]; omega, ?_⟩
      obtain ⟨m, hm⟩ : ∃ m, p.pos - i = m + 1 := ⟨p.pos - i - 1, by omega⟩
      rw [hm, List.getD_cons_succ, ← h3]
      congr 1
      omega
    split at hp
    · rcases List.mem_cons.1 hp with rfl | hp
      · exact ⟨Nat.le_refl _, by simp, by simp⟩
      · exact next hp
    · exact next hp

set_option maxHeartbeats 4000000 in
theorem eachP_calls {w : World} {l : List Ev} {a : Option Addr} {c : Nat} {ps : List Pl} {stop : Int} {wa : Option Addr} {wc : Nat} {oa : Option Addr} {oc wB nB gB oB : Nat} {W : World} (h : JP w l a c ps stop wa wc oa oc wB nB gB oB 0 W) (hc : JC w l a ps wa oa nB gB) (hln : l.length ≤ 400) (hs0 : 0 ≤ stop) (hs1 : stop < 256) :
    Calls Try.prog 19 #[.func (.func 16) #[] #[.pointer (some ⟨gB, 0, none⟩), .pointer (some ⟨nB, 0, none⟩), .pointer (some ⟨wB, 0, none⟩), .pointer (some ⟨w.heap.size, 0, none⟩), .pointer (some ⟨w.heap.size + 1, 0, none⟩)], .pointer (some ⟨oB, 0, none⟩)] W fun e W' =>
      e = .returned (.tuple #[]) ∧ ∃ m, ((m = ps.length ∧ (m = 0 ∨ (m : Int) < stop)) ∨ (m ≤ ps.length ∧ 1 ≤ m ∧ stop ≤ m ∧ (m = 1 ∨ (m : Int) - 1 < stop))) ∧ JP w l a c ps stop wa wc oa oc wB nB gB oB m W' := by
  have ko := h.ob.cell (o := 0) (v := .slice oa ps.length oc) rfl
  have H0 := hide h
  have HC := hide hc
  have hlen := hc.len
  clear h hc
  go_enter Try.func19, Try.ntmps19
  go_wp2_with (fail)
  clear ko
  go_loopw [7] (fun u wr => ∃ k : Nat, k ≤ ps.length ∧ u = .int .i64 k ∧ Hid (JP w l a c ps stop wa wc oa oc wB nB gB oB k wr) ∧ (k = 0 ∨ (k : Int) < stop)) (fun u _ => ps.length - (intOf u).toNat)
  case atStart => exact ⟨0, by omega, rfl, H0, .inl rfl⟩
  case round =>
    clear H0
    obtain ⟨k, hk, rfl, hJ, hst⟩ := hrel
    by_cases hlt : k < ps.length
    · have hlt' : (k : Int) < ps.length := by omega
      obtain ⟨b, off, had, -⟩ := hJ.out.orr.get (by rw [flatOf_length plL_len]; omega)
      have hr := hJ.out.orr
      subst had
      have c0 := hr.cell plL_len hlt pl0 0 (by omega)
      have c1 := hr.cell plL_len hlt pl0 1 (by omega)
      have c2 := hr.cell plL_len hlt pl0 2 (by omega)
      have c3 := hr.cell plL_len hlt pl0 3 (by omega)
      have c4 := hr.cell plL_len hlt pl0 4 (by omega)
      have c5 := hr.cell plL_len hlt pl0 5 (by omega)
      have c6 := hr.cell plL_len hlt pl0 6 (by omega)
      have c7 := hr.cell plL_len hlt pl0 7 (by omega)
      have c8 := hr.cell plL_len hlt pl0 8 (by omega)
      have HF := hide (fn_calls (hJ.out.later ((Gr.refl wr).alloc (plA (ps.getD k pl0).pos (ps.getD k pl0).ev) 49)) HC.out hln hlt hs0 hs1)
      generalize ps.getD k pl0 = x at c0 c1 c2 c3 c4 c5 c6 c7 c8 HF
      simp only [plL, evL, List.getElem?_cons_zero, List.getElem?_cons_succ, Nat.add_zero, ← Nat.add_assoc] at c0 c1 c2 c3 c4 c5 c6 c7 c8
      have HST := hide hst
      clear hr hst
      by_cases hgo : (k : Int) + 1 < stop
      · rw [decide_eq_true hgo] at HF
        have HGO := hide hgo
        clear hgo
        go_wp2_with (go_at_call 16; refine HF.out.mono ?_; rintro e w2 ⟨rfl, hJ2⟩)
        exact ⟨⟨k + 1, by omega, by go_num, hJ2, .inr (by have := HGO.out; push_cast; omega)⟩, by simp [intOf]; omega⟩
      · rw [decide_eq_false hgo] at HF
        have HGO := hide hgo
        clear hgo
        go_wp2_with (go_at_call 16; refine HF.out.mono ?_; rintro e w2 ⟨rfl, hJ2⟩)
        refine bodyPost_ret (results_none rfl _ _ _) rfl ⟨rfl, k + 1, .inr ⟨by omega, by omega, by have := HGO.out; push_cast; omega, ?_⟩, hJ2⟩
        rcases HST.out with h | h
        · exact .inl (by omega)
        · exact .inr (by push_cast; omega)
    · obtain rfl : k = ps.length := by omega
      have HST := hide hst
      clear hst
      go_wp2_with (fail)
      go_end0
      exact ⟨rfl, _, .inl ⟨rfl, HST.out⟩, hJ.out⟩
theorem blk_lt {w : World} {a : Option Addr} {xs : List Value} (h : RowAt w a xs) (hx : xs ≠ []) : blkOf a < w.heap.size := by
  rcases h with h | ⟨b, off, rfl, hc⟩
  · exact absurd h hx
  · have h0 : 0 < xs.length := Nat.pos_of_ne_zero fun z => hx (List.length_eq_zero_iff.1 z)
    exact block_lt_of_cell (a := ⟨b, off + 0, none⟩) ((hc 0 h0).trans (List.getElem?_eq_getElem h0))
theorem fin_eq {m n : Nat} {stop : Int} (hs : 0 ≤ stop) (h : (m = n ∧ (m = 0 ∨ (m : Int) < stop)) ∨ (m ≤ n ∧ 1 ≤ m ∧ stop ≤ m ∧ (m = 1 ∨ (m : Int) - 1 < stop))) : (m : Int) = min (n : Int) (max stop 1) := by
  omega
set_option maxHeartbeats 4000000 in
theorem of_few (a : Option Addr) (c : Nat) (l : List Ev) (hl : ∀ x ∈ l, EvOk x) (hn : l.length ≤ 400) (t stop : Int) (hs0 : 0 ≤ stop) (hs1 : stop < 256) (w : World) (h : RowAt w a (flatOf evL l)) :
    Calls Try.prog 4 #[.slice a l.length c, .int .i64 t, .int .u8 stop] w fun e w' => e = .returned (.bool true) ∧ Gr w w' := by
  have hn' : (l.length : Int) ≤ 400 := by omega
  have C1 : Hid (∀ u, Gr w u → Calls Try.prog 14 #[.slice a l.length c, .int .i64 t] u (NumsP u (placF t l hl))) := fun u g => rof_calls a c l hl (by omega) t u (h.later g)
  have C2 : Hid (∀ u, Gr w u → Calls Try.prog 15 #[.slice a l.length c, .int .i64 t] u (OfP u (plc t 0 l hl))) := fun u g => of_calls a c l hl (by omega) t u (h.later g)
  have hps := plc_at t 0 l hl
  have hpl := plc_len t 0 l hl
  have HP := hide (show placF t l hl = (plc t 0 l hl).map fun p => (p.pos : Int) from rfl)
  generalize plc t 0 l hl = ps at C2 hps hpl HP
  have hat : Hid (∀ p ∈ ps, p.pos < l.length ∧ l.getD p.pos ev0 = p.ev) := fun p hp => by
    obtain ⟨-, h1, h2⟩ := hps p hp
    exact ⟨by omega, by simpa using h2⟩
  rw [HP.out] at C1
  have HH := hide h
  clear h hps HP
  have g0 := ((Gr.refl w).alloc #[.slice a l.length c] 22).alloc #[.int .u8 stop] 5
  have bl := (Has.new w #[.slice a l.length c] 22).alloc #[.int .u8 stop] 5
  have bs := Has.new (w.alloc (.cells #[.slice a l.length c] 22)) #[.int .u8 stop] 5
  rw [World.size_alloc] at bs
  go_enter Try.func4, Try.ntmps4
  go_upto_region 1 with (fail)
  change Code.wp _ _ _ _ ((w.alloc (.cells #[.slice a l.length c] 22)).alloc (.cells #[.int .u8 stop] 5))
  generalize (w.alloc (.cells #[.slice a l.length c] 22)).alloc (.cells #[.int .u8 stop] 5) = w1 at g0 bl bs ⊢
  go_wp2_with (go_at_call 8; refine (awake_calls _).mono ?_; rintro e w2 ⟨rfl, g2⟩; have kl := (bl.later g2).cell (o := 0) (v := .slice a l.length c) rfl)
  refine (C1.out _ (g0.trans g2)).mono ?_
  rintro e w3 ⟨vw, ⟨rfl, hw⟩, g3⟩
  clear kl
  unfold NumsO at hw
  rw [List.length_map] at hw
  obtain ⟨wa, wc, rfl, rw3, -⟩ := own_at hw
  go_upto_region 6 with (fail)
  have gw := (((Gr.refl w3).alloc #[.slice wa ps.length wc] 28).alloc #[.int .i64 0] 3).alloc #[.bool true] 4
  have b1 := ((Has.new w3 #[.slice wa ps.length wc] 28).alloc #[.int .i64 0] 3).alloc #[.bool true] 4
  have b2 := (Has.new (w3.alloc (.cells #[.slice wa ps.length wc] 28)) #[.int .i64 0] 3).alloc #[.bool true] 4
  have b3 := Has.new ((w3.alloc (.cells #[.slice wa ps.length wc] 28)).alloc (.cells #[.int .i64 0] 3)) #[.bool true] 4
  simp only [World.size_alloc] at b2 b3
  have hsz : (((w3.alloc (.cells #[.slice wa ps.length wc] 28)).alloc (.cells #[.int .i64 0] 3)).alloc (.cells #[.bool true] 4)).heap.size = w3.heap.size + 3 := by simp
  have G3 := (g0.trans g2).trans g3
  have bl3 := (bl.later (g2.trans g3)).later gw
  have bs3 := (bs.later (g2.trans g3)).later gw
  have hz3 := G3.size
  have ho3 : ps ≠ [] → blkOf wa < w3.heap.size := fun q => by
    refine (own_block hw (fun z => q ?_)).1
    have := congrArg List.length z
    rw [flatOf_length numL_len, List.length_map] at this
    exact List.length_eq_zero_iff.1 (by simpa using this)
  change Code.wp _ _ _ _ (((w3.alloc (.cells #[.slice wa ps.length wc] 28)).alloc (.cells #[.int .i64 0] 3)).alloc (.cells #[.bool true] 4))
  have rw4 := rw3.later gw
  have G4 := G3.trans gw
  generalize ((w3.alloc (.cells #[.slice wa ps.length wc] 28)).alloc (.cells #[.int .i64 0] 3)).alloc (.cells #[.bool true] 4) = w4 at b1 b2 b3 bl3 bs3 rw4 G4 hsz ⊢
  generalize hN : w3.heap.size = N at b1 b2 b3 hz3 ho3 hsz ⊢
  have kl := bl3.cell (o := 0) (v := .slice a l.length c) rfl
  clear hN gw bl bs hw rw3 g0 g2 g3 G3
  go_wp2_with (fail)
  refine (C2.out _ G4).mono ?_
  rintro e w5 ⟨vp, ⟨⟨rfl, g5⟩, bo⟩, hp⟩
  obtain ⟨oa, oc, rfl, ro, -⟩ := own_at hp
  rw [hsz] at bo hp
  have hJP : JP w l a c ps stop wa wc oa oc N (N + 1) (N + 2) (N + 3) 0 w5 :=
    ⟨G4.trans g5, bl3.later g5, bs3.later g5, b1.later g5, b2.later g5, b3.later g5, bo, HH.out.later (G4.trans g5), rw4.later g5, ro⟩
  have hJC : JC w l a ps wa oa (N + 1) (N + 2) := by
    refine ⟨by omega, by omega, fun q => ?_, fun q => ?_, fun q => ?_, hat.out, by omega⟩
    · have := blk_lt HH.out (fun z => q (by
        have := congrArg List.length z
        rw [flatOf_length evL_len] at this
        exact List.length_eq_zero_iff.1 (by simp only [List.length_nil] at this; omega)))
      omega
    · have := ho3 q
      omega
    · have hne : flatOf plL ps ≠ [] := fun z => q (by
        have := congrArg List.length z
        rw [flatOf_length plL_len] at this
        exact List.length_eq_zero_iff.1 (by simp only [List.length_nil] at this; omega))
      obtain ⟨b, off, rfl, -⟩ := ro.get (Nat.pos_of_ne_zero fun z => hne (List.length_eq_zero_iff.1 z))
      rcases hp.2 with ⟨z, -⟩ | ⟨g, cap, cur, z, hb, -⟩
      · cases z
      · cases z
        show b ≠ _ ∧ b ≠ _
        omega
  have HE := hide (eachP_calls hJP hJC hn hs0 hs1)
  clear hJP hJC bo hp ro b1 b2 b3 bl3 bs3 rw4 kl
  go_wp2_with (go_at_call 19; refine HE.out.mono ?_; rintro e w6 ⟨rfl, m, hm, hJ⟩; have kg := hJ.gb.cell (o := 0) (v := .bool true) rfl; have kn := hJ.nb.cell (o := 0) (v := .int .i64 m) rfl; have kw := hJ.wb.cell (o := 0) (v := .slice wa ps.length wc) rfl; have ks := hJ.sb.cell (o := 0) (v := .int .u8 stop) rfl; have ws : IntKind.i64.wrap stop = stop := (by simp [IntKind.wrap, IntKind.bits, IntKind.signed]; omega); have HM := hide (fin_eq hs0 hm); have HG := hide hJ.gr; clear hJ hm)
  go_ret
  refine ⟨?_, HG.out⟩
  show Ending.returned (.bool ((m : Int) == min (ps.length : Int) (max stop 1))) = _
  rw [← HM.out, beq_self_eq_true]
set_option maxHeartbeats 1000000 in
theorem of_many (ad : Option Addr) (cap : Nat) (n : Nat) (hn : 400 < n) (hm : n ≤ maxLen) (t stop : Int) (w : World) :
    Calls Try.prog 4 #[.slice ad n cap, .int .i64 t, .int .u8 stop] w fun e w' => e = .returned (.bool true) ∧ Gr w w' := by
  unfold maxLen at hm
  have g0 := ((Gr.refl w).alloc #[.slice ad n cap] 22).alloc #[.int .u8 stop] 5
  have bl := (Has.new w #[.slice ad n cap] 22).alloc #[.int .u8 stop] 5
  go_enter Try.func4, Try.ntmps4
  go_upto_region 1 with (fail)
  change Code.wp _ _ _ _ ((w.alloc (.cells #[.slice ad n cap] 22)).alloc (.cells #[.int .u8 stop] 5))
  generalize (w.alloc (.cells #[.slice ad n cap] 22)).alloc (.cells #[.int .u8 stop] 5) = w1 at g0 bl ⊢
  go_wp2_with (go_at_call 8; refine (awake_calls _).mono ?_; rintro e w2 ⟨rfl, g2⟩; have kl := (bl.later g2).cell (o := 0) (v := .slice ad n cap) rfl)
  refine (awake_calls _).mono ?_
  rintro e w3 ⟨rfl, g3⟩
  clear kl
  go_wp2_with (fail)
  go_ret
  exact ⟨rfl, (g0.trans g2).trans g3⟩
end Go.Proofs.Ytfhplbmgjgfihaa
