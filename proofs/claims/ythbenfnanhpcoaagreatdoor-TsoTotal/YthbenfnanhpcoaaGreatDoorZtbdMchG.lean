/-
  What flush of a side does. No condition but what each law names.
-/
import Derived.Test.YthbenfnanhpcoaaGreatDoorZtbb
import Derived.Test.YthbenfnanhpcoaaGreatDoorZtbcBfPop
namespace Go.Proofs.YthbenfnanhpcoaaGreatDoor.Mc
open Go.ChangeShapes Go.WideShapes Go.ChangeAt Go.RowKit
set_option linter.unusedVariables false
set_option maxRecDepth 20000

set_option maxHeartbeats 1000000 in
theorem flush_does (k : Mk) (i : Nat) (x : Sk) (hx : k.ss[i]? = some x) (s : Ms) (hq : s.evs.length ≤ 95000) (w : World) :
    Does (MI k) s w 40 #[.pointer (some ⟨x.g, 0, none⟩)] (.tuple #[]) (s.flush i) := by
  rintro F ⟨e, h, rfl⟩
  obtain ⟨B, sr, iB⟩ := h.sr hx
  have rB := sr.rB
  have ib := infoBl sr.sz
  have HH := hide h
  have HB := hide iB
  clear h iB sr
  cases hl : (s.side i).buf with
  | nil =>
    have HF : Hid (s.flush i = s) := by show s.flush i = s; unfold Ms.flush; rw [hl]
    have iB2 := HB.out
    rw [hl] at iB2
    rw [HF.out]
    clear hl HF
    go_enter Tryz.func40, Tryz.ntmps40
    go_wp2_with (first
      | (refine wpList_load_mid rfl 96 _ rfl x.g 13 rfl B.toList _ rB Tryz.underlying96 rfl ib ?_))
    refine (Bf.pop_any iB2 w).mono ?_
    rintro r w1 ⟨D, ⟨rfl, g1⟩, iD⟩
    have HP := hide (mi_same HH.out ((g1.alloc #[.int .i64 ent0.a, .int .u32 ent0.v] 93).alloc D 96))
    have sD := bf_size iD
    have oD := bf_one iD
    go_wp2_with (first
      | (refine Bf.store_new rfl rfl _ _ rfl (w1.heap.size + 1) (by simp) rfl D rfl Bf.zeroC sD Bf.zeroC_size oD ?_))
    exact bodyPost_ret (results_none rfl _ _ _) rfl ⟨rfl, HP.out⟩
  | cons y l =>
    have iB2 := HB.out
    rw [hl] at iB2
    have hb := (HH.out.side i x hx).ent
    rw [hl] at hb
    obtain ⟨⟨a0, a1⟩, uy⟩ := hb y (List.mem_cons_self ..)
    obtain ⟨ya, yv⟩ := y
    obtain ⟨n, hn⟩ : ∃ n : Nat, ya = n := ⟨ya.toNat, by simp only at a0; omega⟩
    subst hn
    simp only at a0 a1 uy
    have HF : Hid (s.flush i = ((s.setB i l).setM n yv).note i ⟨3, 0, 0, n, yv, 0, 0, false⟩) := by show s.flush i = _; unfold Ms.flush; rw [hl]
    rw [HF.out]
    have he := hide hb
    clear hb HF
    go_enter Tryz.func40, Tryz.ntmps40
    go_wp2_with (first
      | (refine wpList_load_mid rfl 96 _ rfl x.g 13 rfl B.toList _ rB Tryz.underlying96 rfl ib ?_))
    refine (Bf.pop_yes iB2 w).mono ?_
    rintro r w1 ⟨D, ⟨rfl, g1⟩, iD⟩
    have sD := bf_size iD
    have oD := bf_one iD
    go_upto_region 2 with (first
      | (refine Bf.store_new rfl rfl _ _ rfl (w1.heap.size + 1) (by simp) rfl D rfl Bf.zeroC sD Bf.zeroC_size oD ?_))
    have hE := ((Has.new w1 #[.int .i64 (n : Int), .int .u32 yv] 93).alloc D 96)
    have hD := Has.new (w1.alloc (.cells #[.int .i64 (n : Int), .int .u32 yv] 93)) D 96
    rw [show (w1.alloc (.cells #[.int .i64 (n : Int), .int .u32 yv] 93)).heap.size = w1.heap.size + 1 by simp] at hD
    have g2 := (g1.alloc #[.int .i64 (n : Int), .int .u32 yv] 93).alloc D 96
    have hsz := g1.size
    change Code.wp _ _ _ _ ((w1.alloc (.cells #[.int .i64 (n : Int), .int .u32 yv] 93)).alloc (.cells D 96))
    generalize (w1.alloc (.cells #[.int .i64 (n : Int), .int .u32 yv] 93)).alloc (.cells D 96) = u at hE hD g2 ⊢
    have h1 := HH.out.later g2
    obtain ⟨B1, sr1, -⟩ := h1.sr hx
    obtain ⟨h2, k2⟩ := h1.setB hx iD (fun c hc => he.out c (List.mem_cons_of_mem _ hc))
    have thr := sr1.thr sD
    have i1 := infoBs sD
    have nx : w1.heap.size ∉ [x.g] := fun z => by
      have := HH.out.sr hx
      obtain ⟨B2, sr2, -⟩ := this
      have := sr2.has.lt
      have z' : w1.heap.size = x.g := by simpa using z
      omega
    have hE2 := hE.kept k2 nx
    go_upto_region 3 with (first
      | (refine Bf.load_buf rfl _ rfl (w1.heap.size + 1) rfl D hD sD ?_)
      | (refine wpList_store_mid rfl 96 _ _ rfl x.g 13 D rfl rfl thr i1 oD ?_))
    change Code.wp _ _ _ _ (u.setCells x.g 13 D.toList)
    have q2 := (g2.kp (k.foot e)).trans (kp_side h1 hx k2) (fun _ h => h) (fun _ h => .inl h)
    clear hE hD thr i1 sr1 h1 hl rB ib HB iB2 iD k2
    generalize u.setCells x.g 13 D.toList = u2 at h2 hE2 q2 ⊢
    clear g2 sD oD
    have h3 := h2.later (Gr.refl u2).drew
    obtain ⟨B3, sr3, -⟩ := h3.sr hx
    have hnN : n < k.N := by omega
    have hn0 : ¬ (n : Int) < 0 := by omega
    have hn1 : (n : Int) < k.N := by omega
    obtain ⟨b, c, hv, hc, hf⟩ := h3.memAt hnN
    have hE3 := hE2.drew
    have c0 := sr3.c0
    have c1 := h3.mach.1
    have e0 := hE3.cell (o := 0) (v := .int .i64 n) rfl
    have e1 := hE3.cell (o := 1) (v := .int .u32 yv) rfl
    rw [hv] at c1
    refine begin_late 13 [12] (fun w' => w' = u2.drew) (by kernel_rfl) rfl ?_
    have hH : u2.drew = u2.drew := rfl
    refine AnyL.takeP 0 (some 20) (.pointer (some ⟨x.g, 0, none⟩)) rfl rfl (by kernel_rfl) (by kernel_rfl) (by kernel_rfl) (by kernel_rfl) (fun _ _ _ h => h) (by kernel_rfl) (fun w' => by go_simp) (fun _ => hH) ?_
    simp only [Act.put, List.setIfInBounds_toArray, List.set_cons_zero, List.set_cons_succ]
    refine AnyL.takeP 1 (some 21) (.pointer (some ⟨x.g, 0, none⟩)) rfl rfl (by kernel_rfl) (by kernel_rfl) (by kernel_rfl) (by kernel_rfl) (fun _ _ _ h => h) (by kernel_rfl) (fun w' => by go_simp) (fun _ => hH) ?_
    simp only [Act.put, List.setIfInBounds_toArray, List.set_cons_zero, List.set_cons_succ]
    refine AnyL.takeP 2 (some 22) (.pointer (some ⟨x.g, 0, none⟩)) rfl rfl (by kernel_rfl) (by kernel_rfl) (by kernel_rfl) (by kernel_rfl) (fun _ _ _ h => h) (by kernel_rfl) (fun w' => by go_simp) (fun _ => hH) ?_
    simp only [Act.put, List.setIfInBounds_toArray, List.set_cons_zero, List.set_cons_succ]
    refine AnyL.take 3 (some 23) (.pointer (some ⟨k.mb, 0, none⟩)) rfl rfl (by kernel_rfl) (by kernel_rfl) (by kernel_rfl) (by kernel_rfl) (fun _ _ _ h => h) (yields_held _ (by kernel_rfl) (fun w' hw' => by subst hw'; go_simp)) hH ?_
    simp only [Act.put, List.setIfInBounds_toArray, List.set_cons_zero, List.set_cons_succ]
    refine AnyL.takeP 4 (some 24) (.pointer (some ⟨k.mb, 0, none⟩)) rfl rfl (by kernel_rfl) (by kernel_rfl) (by kernel_rfl) (by kernel_rfl) (fun _ _ _ h => h) (by kernel_rfl) (fun w' => by go_simp) (fun _ => hH) ?_
    simp only [Act.put, List.setIfInBounds_toArray, List.set_cons_zero, List.set_cons_succ]
    refine AnyL.takeP 5 (some 25) (.pointer (some ⟨k.mb, 1, none⟩)) rfl rfl (by kernel_rfl) (by kernel_rfl) (by kernel_rfl) (by kernel_rfl) (fun _ _ _ h => h) (by kernel_rfl) (fun w' => by go_simp) (fun _ => hH) ?_
    simp only [Act.put, List.setIfInBounds_toArray, List.set_cons_zero, List.set_cons_succ]
    refine AnyL.take 6 (some 26) (.slice (some ⟨b, 0, none⟩) k.N c) rfl rfl (by kernel_rfl) (by kernel_rfl) (by kernel_rfl) (by kernel_rfl) (fun _ _ _ h => h) (yields_held _ (by kernel_rfl) (fun w' hw' => by subst hw'; go_simp)) hH ?_
    simp only [Act.put, List.setIfInBounds_toArray, List.set_cons_zero, List.set_cons_succ]
    refine AnyL.takeP 7 (some 27) (.pointer (some ⟨w1.heap.size, 0, none⟩)) rfl rfl (by kernel_rfl) (by kernel_rfl) (by kernel_rfl) (by kernel_rfl) (fun _ _ _ h => h) (by kernel_rfl) (fun w' => by go_simp) (fun _ => hH) ?_
    simp only [Act.put, List.setIfInBounds_toArray, List.set_cons_zero, List.set_cons_succ]
    refine AnyL.take 8 (some 28) (.int .i64 n) rfl rfl (by kernel_rfl) (by kernel_rfl) (by kernel_rfl) (by kernel_rfl) (fun _ _ _ h => h) (yields_held _ (by kernel_rfl) (fun w' hw' => by subst hw'; go_simp)) hH ?_
    simp only [Act.put, List.setIfInBounds_toArray, List.set_cons_zero, List.set_cons_succ]
    refine AnyL.takeP 9 (some 29) (.pointer (some ⟨w1.heap.size, 1, none⟩)) rfl rfl (by kernel_rfl) (by kernel_rfl) (by kernel_rfl) (by kernel_rfl) (fun _ _ _ h => h) (by kernel_rfl) (fun w' => by go_simp) (fun _ => hH) ?_
    simp only [Act.put, List.setIfInBounds_toArray, List.set_cons_zero, List.set_cons_succ]
    refine AnyL.take 10 (some 30) (.int .u32 yv) rfl rfl (by kernel_rfl) (by kernel_rfl) (by kernel_rfl) (by kernel_rfl) (fun _ _ _ h => h) (yields_held _ (by kernel_rfl) (fun w' hw' => by subst hw'; go_simp)) hH ?_
    simp only [Act.put, List.setIfInBounds_toArray, List.set_cons_zero, List.set_cons_succ]
    refine AnyL.take 11 (some 31) (.pointer (some ⟨b, n, none⟩)) rfl rfl (by kernel_rfl) (by kernel_rfl) (by kernel_rfl) (by kernel_rfl) (fun _ _ _ h => h) (yields_held _ (by kernel_rfl) (fun w' hw' => by subst hw'; go_simp)) hH ?_
    simp only [Act.put, List.setIfInBounds_toArray, List.set_cons_zero, List.set_cons_succ]
    refine AnyL.one 12 (by kernel_rfl) rfl (by kernel_rfl) ?_
    refine Mp.wp_store_word rfl _ _ rfl b n (by kernel_rfl) yv (by kernel_rfl) _ hc hf ?_
    refine ⟨late (by kernel_rfl), ?_⟩
    refine AnyL.done (by kernel_rfl) ?_
    have h4 := h3.setM hv hnN yv uy
    have hob : b ∈ ob k.bv := by rw [hv, mem_ob]; rfl
    have qb := Kp.setCell u2.drew b n (.int .u32 yv)
    have nb : w1.heap.size ∉ [b] := fun z => by
      have := own_lt HH.out.mem (show w1.heap.size ∈ ob k.bv by rw [show w1.heap.size = b by simpa using z]; exact hob)
      omega
    have hE4 := hE3.kept qb nb
    have q4 := ((q2.trans ((Gr.refl u2).drew.kp (k.foot e)) (fun _ h => h) (fun _ h => .inl h))).trans qb (fun _ h => h) (fun z hz => .inl (mem_foot.2 (.inr (.inr (.inl (by rw [show z = b by simpa using hz]; exact hob))))))
    have hp := mi_post HH.out h4 q4 foot_evs
    have hq4 : ((s.setB i l).setM n yv).evs.length ≤ 95000 := hq
    have HN := fun u => note_does k i x hx ((s.setB i l).setM n yv) ⟨3, 0, 0, n, yv, 0, 0, false⟩ hq4 u
    clear c0 c1 e0 e1 hc hf hE3 hE2 hH h2 h3 h4 q2 q4 qb nb sr3 hq4
    generalize u2.drew.setCell ⟨b, n, none⟩ (.int .u32 yv) = u4 at hE4 hp ⊢
    have e0 := hE4.cell (o := 0) (v := .int .i64 (n : Int)) rfl
    have e1 := hE4.cell (o := 1) (v := .int .u32 yv) rfl
    go_wp2_with (fail)
    refine ((HN _).go hp).mono ?_
    rintro r u5 ⟨⟨rfl, -⟩, hp5⟩
    have HP := hide hp5
    clear hp5 hp HN
    go_wp2_with (fail)
    go_end0
    exact ⟨rfl, HP.out⟩
end Go.Proofs.YthbenfnanhpcoaaGreatDoor.Mc
