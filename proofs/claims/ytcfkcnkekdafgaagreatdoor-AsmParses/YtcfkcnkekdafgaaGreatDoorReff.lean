/-
  For any line, in any world: what the reference's Read answers, where its first word is a kind's name and the number of its words is right. Conditions: lines of at most 2^31 bytes.
-/
import Derived.Test.YtcfkcnkekdafgaaGreatDoorRefe
namespace Go.Proofs.YtcfkcnkekdafgaaGreatDoor
open Go.ChangeShapes Go.WideShapes Go.ChangeAt Go.RowKit
set_option linter.unusedVariables false

theorem word_all : ∀ n : Fin 28, ∀ k : Fin (fieldAt n).size, (∀ j : Fin k, (fieldAt n).data[j.val]? ≠ some 77) → (k.val : Int) + 1 < (fieldAt n).size + 1 - memNo (fieldAt n) := by decide +kernel
theorem mt_all : ∀ n : Fin 28, 77 ∈ fieldL.getD n [] → 84 ∉ fieldL.getD n [] := by decide +kernel
theorem addr_le {s : Bs} {p : Nat × Nat} (h : addrOf s = some p) : p.2 < 4294967296 := by
  unfold addrOf at h
  split at h
  · split at h
    · split at h
      · rename_i b k hb hk
        cases h
        exact numOf_le hk
      · cases h
    · cases hn : numOf (Lib.trimSuffix (Lib.trimPrefix s [91]) [93]) with
      | none => rw [hn] at h; cases h
      | some k => rw [hn] at h; cases h; exact numOf_le hn
  · cases h
theorem str_of {U : ByteArray} {u : Bs} (h : U.data.toList = u) : Value.string U = strV u := by
  obtain ⟨⟨l⟩⟩ := U
  subst h
  rfl
theorem op_kind {s : ByteArray} {op : Int} (h : opNo s = op) (h0 : 0 ≤ op) : ∃ n : Nat, n < 28 ∧ fB op = fieldAt n := by
  unfold opNo at h
  split at h
  · rename_i hk
    have h' : numF s 28 0 < 28 := by simpa [knownB] using hk
    have en : numB s = (numF s 28 0 : Nat) := by unfold numB; rw [if_pos h']
    refine ⟨numF s 28 0, h', ?_⟩
    rw [← h, en]
    unfold fB
    rw [isB_of h']
    rfl
  · omega
theorem other_set {w : World} {g C o : Nat} {v : Value} {ob : Obj} (h : w.heap[g]? = some ob) (hne : g ≠ C) : (w.setCell ⟨C, o, none⟩ v).heap[g]? = some ob := (Below.heap_setCell _ _ _ _ hne).trans h
theorem readF_cons (f : UInt8) (fs : Bs) (s : Bs) (ss : List Bs) (i : Ins × Bs) : readF (f :: fs) (s :: ss) i = if f = 77 then takeW 5 s i else (fieldR f s i).bind (readF fs ss) := rfl
set_option maxRecDepth 20000 in
set_option maxHeartbeats 4000000 in
theorem rread_in (t : ByteArray) (w : World) (hs : t.size ≤ 2147483648) (x : Bs) (xs : List Bs) (HP : Hid (parts 32 t.data.toList = x :: xs)) (op : Int) (hop : ¬ op < 0) (HO : Hid (opNo ⟨x.toArray⟩ = op)) (m : Int) (HM : Hid (memNo (fB op) = m))
    (hl : ((x :: xs).length : Int) = (fB op).size + 1 - m) (HR : Hid (readL t.data.toList = readF (fB op).data.toList xs (⟨op, 0, 0, 0, 0⟩, []))) :
    Calls Tryz.prog 30 #[.string t] w (RReadP t.data.toList w) := by
  have HQ := hide (rsplit_calls t 32 (w.alloc (.cells ins0.vals.toArray 36)) hs)
  have HL := hide (parts_len 32 t.data.toList)
  have hsz := size_list t
  rw [HP.out] at HQ HL
  have hgA := hide ((Gr.refl w).alloc ins0.vals.toArray 36)
  have A0 : Hid ((w.alloc (.cells ins0.vals.toArray 36)).heap[w.heap.size]? = some (.cells ins0.vals.toArray 36)) := heap_alloc_new w _
  have hm := memNo_le (fB op)
  rw [HM.out] at hm
  have hfs := fB_small op
  have hfz := hide (show (fB op).size ≤ 2147483648 by omega)
  go_enter Tryz.func30, Tryz.ntmps30
  go_wp2_with (fail)
  refine HQ.out.mono ?_
  rintro e w1 ⟨v, rfl, hown, hg1⟩
  obtain ⟨b, c, rfl, hb, hrows⟩ := own_rows hown (by simp)
  have hc0 := hrows.cell (j := 0) (s := x) rfl
  have A1 : Hid (w1.heap[w.heap.size]? = some (.cells ins0.vals.toArray 36)) := (hg1.block _ (heap_lt A0.out)).trans A0.out
  have G1 := hide (hgA.out.trans hg1)
  have hlen : 0 < (x :: xs).length := by simp
  have HRW := hide hrows
  have hq : (((x :: xs).length : Int) != (fB op).size + 1 - m) = false := by simpa using hl
  have HN := hide hl
  generalize hxn : (x :: xs).length = n at HL hlen hq HN hl
  have HXN := hide hxn
  clear hxn
  clear hown hrows hg1 A0 hgA HQ
  go_wp2_with (fail)
  refine (rop_calls _ _).mono ?_
  rw [HO.out]
  rintro e w2 ⟨rfl, hg2⟩
  have G2 := hide (G1.out.trans hg2)
  have R2 := hide (HRW.out.later hg2)
  have hgs := G1.out.size
  have hgt := hg2.size
  have hbl := heap_lt HRW.out.choose_spec.1
  have A2 : Hid (w2.heap[w.heap.size]? = some (.cells ins0.vals.toArray 36)) := (hg2.block _ (heap_lt A1.out)).trans A1.out
  clear hg2 G1 A1 hc0
  go_wp2_with (fail)
  refine (refname_calls _ _).mono ?_
  rintro e w3 ⟨rfl, hg3⟩
  have R3 := hide ((R2.out.later ((Gr.refl w2).alloc #[.int .i64 op, .int .i64 0, .int .i64 0, .int .i64 0, .int .u32 0] 36)).later hg3)
  have G3 := hide ((G2.out.alloc #[.int .i64 op, .int .i64 0, .int .i64 0, .int .i64 0, .int .u32 0] 36).trans hg3)
  have A3 : Hid (w3.heap[w.heap.size]? = some (.cells ins0.vals.toArray 36)) := (((Gr.refl w2).alloc _ _).trans hg3).block _ (heap_lt A2.out) |>.trans A2.out
  have C3 : Hid (w3.heap[w2.heap.size]? = some (.cells (Ins.mk op 0 0 0 0).vals.toArray 36)) := (hg3.block _ (heap_lt (heap_alloc_new w2 _))).trans (heap_alloc_new w2 _)
  obtain ⟨p0, p1, p2, p3, p4⟩ := five C3.out
  have hlt := heap_lt A2.out
  clear A2 hg3 G2
  go_wp2_with (go_at_call 49; refine (rmem_calls _ _ hfz.out).mono ?_; rw [HM.out]; rintro e w4 ⟨rfl, rfl⟩)
  have hCA : w2.heap.size ≠ w.heap.size := by omega
  have hCb : b ≠ w2.heap.size := by omega
  have hCw : w.heap.size ≤ w2.heap.size := by omega
  generalize w2.heap.size = C at C3 hCA hCb hCw p0 p1 p2 p3 p4 ⊢
  generalize hF : fB op = F at HM HR hfs hfz HN hq ⊢
  clear p0 p1 p2 p3 p4 hq hlt hgs hgt hbl R2 HRW
  go_loopw [9, 10, 11] (fun at' to' kk wr => ∃ (k : Nat) (i : Ins) (to : Bs), k ≤ F.size ∧ at' = .int .i64 ((k : Int) + 1) ∧ to' = strV to ∧ kk = .int .i64 k ∧ Hid (∀ j, j < k → F.data[j]? ≠ some 77) ∧ Hid (readF F.data.toList xs (⟨op, 0, 0, 0, 0⟩, []) = readF (F.data.toList.drop k) (xs.drop k) (i, to)) ∧ Hid (to = [] ∨ 84 ∈ F.data.toList) ∧ Hid (wr.heap[C]? = some (.cells i.vals.toArray 36)) ∧ Hid (wr.heap[w.heap.size]? = some (.cells ins0.vals.toArray 36)) ∧ Hid (WRow wr b (x :: xs)) ∧ Hid (Gr w wr)) (fun at' to' kk wr => F.size - (intOf kk).toNat)
  case atStart => exact ⟨0, ⟨op, 0, 0, 0, 0⟩, [], by omega, rfl, rfl, rfl, fun j hj => by omega, rfl, Or.inl rfl, C3, A3, R3, G3⟩
  case round =>
    obtain ⟨k, i, to, hk, rfl, rfl, rfl, hd, HE, HTO, HC, HA, HW, HG⟩ := hrel
    obtain ⟨p0, p1, p2, p3, p4⟩ := five HC.out
    obtain ⟨q0, q1, q2, q3, q4⟩ := five HA.out
    have y1 := row_frozen HC.out 1
    have y2 := row_frozen HC.out 2
    have y3 := row_frozen HC.out 3
    have y4 := row_frozen HC.out 4
    have z0 := row_frozen HA.out 0
    have z1 := row_frozen HA.out 1
    have z2 := row_frozen HA.out 2
    have z3 := row_frozen HA.out 3
    have z4 := row_frozen HA.out 4
    by_cases hlt : k < F.size
    · obtain ⟨nk, hnk, hfk⟩ := op_kind HO.out hop
      have hb1 : (k : Int) < F.size := by omega
      have hw1 : (k : Int) + 1 < n := by
        rw [hfk] at hF
        subst hF
        have h1 := word_all ⟨nk, hnk⟩ ⟨k, hlt⟩ (fun j => hd.out j.val j.isLt)
        have h2 := HM.out
        have h3 := HN.out
        rw [h2] at h1
        simp only at h1
        omega
      have hxl : xs.length + 1 = n := HXN.out
      have hkx : k < xs.length := by omega
      have hlet := letters_all ⟨nk, hnk⟩ F[k] (by
        rw [hfk] at hF
        subst hF
        exact List.mem_of_getElem? (at_list _ k hlt))
      have hat := at_list F k hlt
      have hfd : F.data.toList.drop k = F[k] :: F.data.toList.drop (k + 1) := by
        have h1 : k < F.data.toList.length := by rw [size_list]; exact hlt
        rw [List.drop_eq_getElem_cons h1]
        congr 1
      rw [hfd, List.drop_eq_getElem_cons hkx, readF_cons] at HE
      have hc := HW.out.cell (j := k + 1) (s := xs[k]) (by simp [hkx])
      have HT : Hid ((ByteArray.mk (xs[k]).toArray).data.toList = xs[k]) := rfl
      have hss : (xs[k]).length ≤ 2147483648 := by
        have := parts_short 32 t.data.toList (xs[k]) (by rw [HP.out]; exact List.mem_cons_of_mem _ (List.getElem_mem hkx))
        omega
      generalize xs[k] = s at HE hc HT hss
      replace hc : wr.cell? ⟨b, k + 1, none⟩ = some (.string ⟨s.toArray⟩) := hc
      generalize ByteArray.mk s.toArray = T at hc HT
      have hTs : Hid (T.size ≤ 2147483648) := by
        refine hide ?_
        rw [← size_list T, HT.out]
        exact hss
      generalize hg : F[k] = f at HE hlet hat
      have hgf : ((F[k]).toNat : Int) = f.toNat := by rw [hg]
      clear hfd hg
      rcases hlet with rfl | rfl | rfl | rfl | rfl | rfl
      · have e65 : (((F[k]).toNat : Int) == 65) = true := by rw [hgf]; rfl
        cases hr : regOf s with
        | none =>
          have HZ : Hid (readL t.data.toList = none) := by
            refine hide ?_
            rw [HR.out, HE.out]
            simp [fieldR, takeW, hr]
          have HV : Hid (orNo (regOf T.data.toList) = -1) := by rw [HT.out, hr]; rfl
          clear HE hr hat hgf hd
          go_wp2_with (go_at_call 50; refine (rreg_calls _ _).mono ?_; rw [HV.out]; rintro e w5 ⟨rfl, rfl⟩)
          try simp only [Exit.inBlock, Exit.then]
          refine bodyPost_ret (results_read rfl _ _ w.heap.size i rfl (five_set i HA.out)) rfl ?_
          refine ⟨five_gr HG.out (Nat.le_refl _) _ _ _ _ _, ?_⟩
          rw [HZ.out]
          exact ⟨_, _, rfl⟩
        | some r =>
          have HZ : Hid (readF F.data.toList xs (⟨op, 0, 0, 0, 0⟩, []) = readF (F.data.toList.drop (k + 1)) (xs.drop (k + 1)) (⟨i.op, r, i.b, i.c, i.k⟩, to)) := by
            refine hide ?_
            rw [HE.out]
            simp [fieldR, takeW, hr]
          have HV : Hid (orNo (regOf T.data.toList) = r) := by rw [HT.out, hr]; rfl
          have HD : Hid (∀ j, j < k + 1 → F.data[j]? ≠ some 77) := by
            intro j hj he
            by_cases e : j = k
            · subst e
              have h1 : F.data.toList[j]? = some 77 := by simpa using he
              rw [hat] at h1
              exact absurd h1 (by decide)
            · exact hd.out j (by omega) he
          have hr0 : ¬ (r : Int) < 0 := by omega
          clear HE hr hat hgf hd
          go_wp2_with (go_at_call 50; refine (rreg_calls _ _).mono ?_; rw [HV.out]; rintro e w5 ⟨rfl, rfl⟩)
          exact ⟨⟨k + 1, ⟨i.op, r, i.b, i.c, i.k⟩, to, by omega, by go_num, rfl, by go_num, HD, HZ, HTO, row_set HC.out 1 _, other_set HA.out hCA.symm, HW.out.wr ((Wr.refl C _).setCell 1 _) hCb, HG.out.setCell hCw _⟩, by simp [intOf]; omega⟩
      · have e65 : (((F[k]).toNat : Int) == 65) = false := by rw [hgf]; rfl
        have e66 : (((F[k]).toNat : Int) == 66) = true := by rw [hgf]; rfl
        cases hr : regOf s with
        | none =>
          have HZ : Hid (readL t.data.toList = none) := by
            refine hide ?_
            rw [HR.out, HE.out]
            simp [fieldR, takeW, hr]
          have HV : Hid (orNo (regOf T.data.toList) = -1) := by rw [HT.out, hr]; rfl
          clear HE hr hat hgf hd
          go_wp2_with (go_at_call 50; refine (rreg_calls _ _).mono ?_; rw [HV.out]; rintro e w5 ⟨rfl, rfl⟩)
          try simp only [Exit.inBlock, Exit.then]
          refine bodyPost_ret (results_read rfl _ _ w.heap.size i rfl (five_set i HA.out)) rfl ?_
          refine ⟨five_gr HG.out (Nat.le_refl _) _ _ _ _ _, ?_⟩
          rw [HZ.out]
          exact ⟨_, _, rfl⟩
        | some r =>
          have HZ : Hid (readF F.data.toList xs (⟨op, 0, 0, 0, 0⟩, []) = readF (F.data.toList.drop (k + 1)) (xs.drop (k + 1)) (⟨i.op, i.a, r, i.c, i.k⟩, to)) := by
            refine hide ?_
            rw [HE.out]
            simp [fieldR, takeW, hr]
          have HV : Hid (orNo (regOf T.data.toList) = r) := by rw [HT.out, hr]; rfl
          have HD : Hid (∀ j, j < k + 1 → F.data[j]? ≠ some 77) := by
            intro j hj he
            by_cases e : j = k
            · subst e
              have h1 : F.data.toList[j]? = some 77 := by simpa using he
              rw [hat] at h1
              exact absurd h1 (by decide)
            · exact hd.out j (by omega) he
          have hr0 : ¬ (r : Int) < 0 := by omega
          clear HE hr hat hgf hd
          go_wp2_with (go_at_call 50; refine (rreg_calls _ _).mono ?_; rw [HV.out]; rintro e w5 ⟨rfl, rfl⟩)
          exact ⟨⟨k + 1, ⟨i.op, i.a, r, i.c, i.k⟩, to, by omega, by go_num, rfl, by go_num, HD, HZ, HTO, row_set HC.out 2 _, other_set HA.out hCA.symm, HW.out.wr ((Wr.refl C _).setCell 2 _) hCb, HG.out.setCell hCw _⟩, by simp [intOf]; omega⟩
      · have e65 : (((F[k]).toNat : Int) == 65) = false := by rw [hgf]; rfl
        have e66 : (((F[k]).toNat : Int) == 66) = false := by rw [hgf]; rfl
        have e67 : (((F[k]).toNat : Int) == 67) = true := by rw [hgf]; rfl
        cases hr : regOf s with
        | none =>
          have HZ : Hid (readL t.data.toList = none) := by
            refine hide ?_
            rw [HR.out, HE.out]
            simp [fieldR, takeW, hr]
          have HV : Hid (orNo (regOf T.data.toList) = -1) := by rw [HT.out, hr]; rfl
          clear HE hr hat hgf hd
          go_wp2_with (go_at_call 50; refine (rreg_calls _ _).mono ?_; rw [HV.out]; rintro e w5 ⟨rfl, rfl⟩)
          try simp only [Exit.inBlock, Exit.then]
          refine bodyPost_ret (results_read rfl _ _ w.heap.size i rfl (five_set i HA.out)) rfl ?_
          refine ⟨five_gr HG.out (Nat.le_refl _) _ _ _ _ _, ?_⟩
          rw [HZ.out]
          exact ⟨_, _, rfl⟩
        | some r =>
          have HZ : Hid (readF F.data.toList xs (⟨op, 0, 0, 0, 0⟩, []) = readF (F.data.toList.drop (k + 1)) (xs.drop (k + 1)) (⟨i.op, i.a, i.b, r, i.k⟩, to)) := by
            refine hide ?_
            rw [HE.out]
            simp [fieldR, takeW, hr]
          have HV : Hid (orNo (regOf T.data.toList) = r) := by rw [HT.out, hr]; rfl
          have HD : Hid (∀ j, j < k + 1 → F.data[j]? ≠ some 77) := by
            intro j hj he
            by_cases e : j = k
            · subst e
              have h1 : F.data.toList[j]? = some 77 := by simpa using he
              rw [hat] at h1
              exact absurd h1 (by decide)
            · exact hd.out j (by omega) he
          have hr0 : ¬ (r : Int) < 0 := by omega
          clear HE hr hat hgf hd
          go_wp2_with (go_at_call 50; refine (rreg_calls _ _).mono ?_; rw [HV.out]; rintro e w5 ⟨rfl, rfl⟩)
          exact ⟨⟨k + 1, ⟨i.op, i.a, i.b, r, i.k⟩, to, by omega, by go_num, rfl, by go_num, HD, HZ, HTO, row_set HC.out 3 _, other_set HA.out hCA.symm, HW.out.wr ((Wr.refl C _).setCell 3 _) hCb, HG.out.setCell hCw _⟩, by simp [intOf]; omega⟩
      · have e65 : (((F[k]).toNat : Int) == 65) = false := by rw [hgf]; rfl
        have e66 : (((F[k]).toNat : Int) == 66) = false := by rw [hgf]; rfl
        have e67 : (((F[k]).toNat : Int) == 67) = false := by rw [hgf]; rfl
        have e77 : (((F[k]).toNat : Int) == 77) = false := by rw [hgf]; rfl
        have e75 : (((F[k]).toNat : Int) == 75) = true := by rw [hgf]; rfl
        cases hr : numOf s with
        | none =>
          have HZ : Hid (readL t.data.toList = none) := by
            refine hide ?_
            rw [HR.out, HE.out]
            simp [fieldR, takeW, hr]
          have HV : Hid (orNo (numOf T.data.toList) = -1) := by rw [HT.out, hr]; rfl
          clear HE hr hat hgf hd
          go_wp2_with (go_at_call 52; refine (rnum_calls _ _ hTs.out).mono ?_; rw [HV.out]; rintro e w5 ⟨rfl, rfl⟩)
          try simp only [Exit.inBlock, Exit.then]
          refine bodyPost_ret (results_read rfl _ _ w.heap.size i rfl (five_set i HA.out)) rfl ?_
          refine ⟨five_gr HG.out (Nat.le_refl _) _ _ _ _ _, ?_⟩
          rw [HZ.out]
          exact ⟨_, _, rfl⟩
        | some r =>
          have HZ : Hid (readF F.data.toList xs (⟨op, 0, 0, 0, 0⟩, []) = readF (F.data.toList.drop (k + 1)) (xs.drop (k + 1)) (⟨i.op, i.a, i.b, i.c, r⟩, to)) := by
            refine hide ?_
            rw [HE.out]
            simp [fieldR, takeW, hr]
          have HV : Hid (orNo (numOf T.data.toList) = r) := by rw [HT.out, hr]; rfl
          have hru := numOf_le hr
          have HD : Hid (∀ j, j < k + 1 → F.data[j]? ≠ some 77) := by
            intro j hj he
            by_cases e : j = k
            · subst e
              have h1 : F.data.toList[j]? = some 77 := by simpa using he
              rw [hat] at h1
              exact absurd h1 (by decide)
            · exact hd.out j (by omega) he
          have hr0 : ¬ (r : Int) < 0 := by omega
          have hw : IntKind.u32.wrap (r : Int) = r := by rw [IntKind.wrap_u32]; omega
          clear HE hr hat hgf hd
          go_wp2_with (go_at_call 52; refine (rnum_calls _ _ hTs.out).mono ?_; rw [HV.out]; rintro e w5 ⟨rfl, rfl⟩)
          exact ⟨⟨k + 1, ⟨i.op, i.a, i.b, i.c, r⟩, to, by omega, by go_num, rfl, by go_num, HD, HZ, HTO, row_set HC.out 4 _, other_set HA.out hCA.symm, HW.out.wr ((Wr.refl C _).setCell 4 _) hCb, HG.out.setCell hCw _⟩, by simp [intOf]; omega⟩
      · have e65 : (((F[k]).toNat : Int) == 65) = false := by rw [hgf]; rfl
        have e66 : (((F[k]).toNat : Int) == 66) = false := by rw [hgf]; rfl
        have e67 : (((F[k]).toNat : Int) == 67) = false := by rw [hgf]; rfl
        have e77 : (((F[k]).toNat : Int) == 77) = true := by rw [hgf]; rfl
        have ht0 : to = [] := by
          rcases HTO.out with h | h
          · exact h
          · exfalso
            rw [hfk] at hF
            subst hF
            exact mt_all ⟨nk, hnk⟩ (List.mem_of_getElem? hat) h
        subst ht0
        clear p0 p1 p2 p3 p4 q0 q1 q2 q3 q4 y1 y2 y3 y4 z0 z1 z2 z3 z4
        go_wp2_with (fail)
        refine (raddr_calls _ _ hTs.out).mono ?_
        rintro e w5 ⟨b', k', rfl, hok, hg5⟩
        replace HC := hide ((hg5.block _ (heap_lt HC.out)).trans HC.out)
        replace HA := hide ((hg5.block _ (heap_lt HA.out)).trans HA.out)
        replace HG := hide (HG.out.trans hg5)
        obtain ⟨p0, p1, p2, p3, p4⟩ := five HC.out
        obtain ⟨q0, q1, q2, q3, q4⟩ := five HA.out
        have y2 := row_frozen HC.out 2
        have y4 := row_frozen HC.out 4
        have z0 := row_frozen HA.out 0
        have z1 := row_frozen HA.out 1
        have z2 := row_frozen HA.out 2
        have z3 := row_frozen HA.out 3
        have z4 := row_frozen HA.out 4
        unfold AdrOk at hok
        rw [HT.out] at hok
        cases hr : addrOf s with
        | none =>
          rw [hr] at hok
          have HZ : Hid (readL t.data.toList = none) := by
            refine hide ?_
            rw [HR.out, HE.out]
            simp [takeW, hr]
          clear HE hr hat hgf hd hg5 HW hc
          by_cases hb0 : b' < 0
          · clear hok
            go_wp2
            try simp only [Exit.inBlock, Exit.then]
            refine bodyPost_ret (results_read rfl _ _ w.heap.size i rfl (five_set i HA.out)) rfl ?_
            refine ⟨five_gr HG.out (Nat.le_refl _) _ _ _ _ _, ?_⟩
            rw [HZ.out]
            exact ⟨_, _, rfl⟩
          · have hk0 : k' < 0 := by rcases hok with h | h; exact absurd h hb0; exact h
            clear hok
            go_wp2
            try simp only [Exit.inBlock, Exit.then]
            refine bodyPost_ret (results_read rfl _ _ w.heap.size i rfl (five_set i HA.out)) rfl ?_
            refine ⟨five_gr HG.out (Nat.le_refl _) _ _ _ _ _, ?_⟩
            rw [HZ.out]
            exact ⟨_, _, rfl⟩
        | some p =>
          rw [hr] at hok
          obtain ⟨rfl, rfl⟩ := hok
          have hpk := addr_le hr
          have HZ : Hid (readL t.data.toList = some (⟨i.op, i.a, p.1, i.c, p.2⟩, [])) := by
            refine hide ?_
            rw [HR.out, HE.out]
            simp [takeW, hr]
          have h1 : ¬ (p.1 : Int) < 0 := by omega
          have h2 : ¬ (p.2 : Int) < 0 := by omega
          have hw : IntKind.u32.wrap (p.2 : Int) = p.2 := by rw [IntKind.wrap_u32]; omega
          clear HE hr hat hgf hd hg5 HW hc
          go_wp2
          try simp only [Exit.inBlock, Exit.then]
          refine bodyPost_ret (results_read rfl _ _ w.heap.size ⟨i.op, i.a, p.1, i.c, p.2⟩ rfl (five_set ⟨i.op, i.a, p.1, i.c, p.2⟩ (other_set (other_set HA.out hCA.symm) hCA.symm))) rfl ?_
          refine ⟨five_gr ((HG.out.setCell hCw _).setCell hCw _) (Nat.le_refl _) _ _ _ _ _, ?_⟩
          rw [HZ.out]
          rfl
      · have e65 : (((F[k]).toNat : Int) == 65) = false := by rw [hgf]; rfl
        have e66 : (((F[k]).toNat : Int) == 66) = false := by rw [hgf]; rfl
        have e67 : (((F[k]).toNat : Int) == 67) = false := by rw [hgf]; rfl
        have e77 : (((F[k]).toNat : Int) == 77) = false := by rw [hgf]; rfl
        have e75 : (((F[k]).toNat : Int) == 75) = false := by rw [hgf]; rfl
        have e84 : (((F[k]).toNat : Int) == 84) = true := by rw [hgf]; rfl
        have h84 : 84 ∈ F.data.toList := List.mem_of_getElem? hat
        have HD : Hid (∀ j, j < k + 1 → F.data[j]? ≠ some 77) := by
          intro j hj he
          by_cases e : j = k
          · subst e
            have h1 : F.data.toList[j]? = some 77 := by simpa using he
            rw [hat] at h1
            exact absurd h1 (by decide)
          · exact hd.out j (by omega) he
        by_cases h2 : T.size < 2
        · have hpl : placeOf s = none := by
            have hl := size_list T
            rw [HT.out] at hl
            match s, hl with
            | [], _ => exact placeOf_no (by simp)
            | [y], _ =>
              by_cases hy : y = 64
              · subst hy; exact placeOf_at
              · exact placeOf_no (by simpa using hy)
            | y :: z :: r, hl => simp only [List.length_cons] at hl; omega
          have e2 : (T.size : Int) < 2 := by omega
          have HZ : Hid (readL t.data.toList = none) := by
            refine hide ?_
            rw [HR.out, HE.out]
            simp [fieldR, takeW, hpl]
          clear HE hat hgf hd hpl h84
          go_wp2
          try simp only [Exit.inBlock, Exit.then]
          refine bodyPost_ret (results_read rfl _ _ w.heap.size i rfl (five_set i HA.out)) rfl ?_
          refine ⟨five_gr HG.out (Nat.le_refl _) _ _ _ _ _, ?_⟩
          rw [HZ.out]
          exact ⟨_, _, rfl⟩
        have e2 : ¬ (T.size : Int) < 2 := by omega
        have b0 : (0 : Int) < T.size := by omega
        have p00 : 0 < T.size := by omega
        have hh := head_of T p00
        rw [HT.out] at hh
        by_cases c0 : T[0]'p00 = 64
        · have qq : (((T[0]'p00).toNat : Int) != 64) = false := by rw [c0]; rfl
          have hsp : s = 64 :: (T.extract 1 T.size).data.toList := by
            rw [drop_of T 1 (by omega), HT.out]
            match s, hh with
            | y :: r, hh =>
              rw [c0] at hh
              cases hh
              rfl
          have hUz : (T.extract 1 T.size).size ≤ 2147483648 := by
            have := hTs.out
            rw [ByteArray.size_extract]; omega
          have HUZ := hide hUz
          have h1s : (1 : Int) ≤ T.size := by omega
          obtain ⟨u, hu⟩ : ∃ u, (T.extract 1 T.size).data.toList = u := ⟨_, rfl⟩
          rw [hu] at hsp
          have HU := hide hu
          have hpr := placeOf_ref u
          rw [← hsp] at hpr
          clear hu hUz hh c0
          cases hr : numOf u with
          | some r =>
            have hpl : placeOf s = some (r, []) := by rw [hpr, hr]
            have HZ : Hid (readF F.data.toList xs (⟨op, 0, 0, 0, 0⟩, []) = readF (F.data.toList.drop (k + 1)) (xs.drop (k + 1)) (⟨i.op, i.a, i.b, i.c, r⟩, to)) := by
              refine hide ?_
              rw [HE.out]
              simp [fieldR, takeW, hpl]
            have HV : Hid (orNo (numOf (T.extract 1 T.size).data.toList) = r) := by rw [HU.out, hr]; rfl
            have hru := numOf_le hr
            have hr0 : (0 : Int) ≤ r := by omega
            have hw : IntKind.u32.wrap (r : Int) = r := by rw [IntKind.wrap_u32]; omega
            clear HE hr hat hgf hd hpl hpr h84 hsp
            go_wp2_with (go_at_call 52; refine (rnum_calls _ _ HUZ.out).mono ?_; rw [HV.out]; rintro e w5 ⟨rfl, rfl⟩)
            exact ⟨⟨k + 1, ⟨i.op, i.a, i.b, i.c, r⟩, to, by omega, by go_num, rfl, by go_num, HD, HZ, HTO, row_set HC.out 4 _, other_set HA.out hCA.symm, HW.out.wr ((Wr.refl C _).setCell 4 _) hCb, HG.out.setCell hCw _⟩, by simp [intOf]; omega⟩
          | none =>
            have HV : Hid (orNo (numOf (T.extract 1 T.size).data.toList) = -1) := by rw [HU.out, hr]; rfl
            cases hn : isName u with
            | true =>
              have hu0 : u ≠ [] := by intro e; subst e; cases hn
              have hpl : placeOf s = some (0, u) := by rw [hpr, hr, hn]; rfl
              have HZ : Hid (readF F.data.toList xs (⟨op, 0, 0, 0, 0⟩, []) = readF (F.data.toList.drop (k + 1)) (xs.drop (k + 1)) (i, u)) := by
                refine hide ?_
                rw [HE.out]
                simp [fieldR, takeW, hpl, hu0]
              have HNM : Hid (isName (T.extract 1 T.size).data.toList = true) := by rw [HU.out]; exact hide hn
              have H84 : Hid (u = [] ∨ 84 ∈ F.data.toList) := Or.inr h84
              clear HE hr hat hgf hd hpl hpr h84 hsp hn hu0
              go_wp2_with (first | (go_at_call 52; refine (rnum_calls _ _ HUZ.out).mono ?_; rw [HV.out]; rintro e w5 ⟨rfl, rfl⟩) | (go_at_call 13; refine (rname_calls _ _ HUZ.out).mono ?_; rw [HNM.out]; rintro e w5 ⟨rfl, rfl⟩))
              exact ⟨⟨k + 1, i, u, by omega, by go_num, str_of HU.out, by go_num, HD, HZ, H84, HC, HA, HW, HG⟩, by simp [intOf]; omega⟩
            | false =>
              have hpl : placeOf s = none := by rw [hpr, hr, hn]; rfl
              have HZ : Hid (readL t.data.toList = none) := by
                refine hide ?_
                rw [HR.out, HE.out]
                simp [fieldR, takeW, hpl]
              have HNM : Hid (isName (T.extract 1 T.size).data.toList = false) := by rw [HU.out]; exact hide hn
              clear HE hr hat hgf hd hpl hpr h84 hsp hn
              go_wp2_with (first | (go_at_call 52; refine (rnum_calls _ _ HUZ.out).mono ?_; rw [HV.out]; rintro e w5 ⟨rfl, rfl⟩) | (go_at_call 13; refine (rname_calls _ _ HUZ.out).mono ?_; rw [HNM.out]; rintro e w5 ⟨rfl, rfl⟩))
              try simp only [Exit.inBlock, Exit.then]
              refine bodyPost_ret (results_read rfl _ _ w.heap.size i rfl (five_set i HA.out)) rfl ?_
              refine ⟨five_gr HG.out (Nat.le_refl _) _ _ _ _ _, ?_⟩
              rw [HZ.out]
              exact ⟨_, _, rfl⟩
        · have qq : (((T[0]'p00).toNat : Int) != 64) = true := by
            simp only [bne_iff_ne, ne_eq]
            intro h
            exact c0 (UInt8.toNat_inj.mp (by simpa using (by omega : (T[0]'p00).toNat = 64)))
          have hpl : placeOf s = none := placeOf_no (by rw [hh]; intro e; exact c0 (Option.some.inj e))
          have HZ : Hid (readL t.data.toList = none) := by
            refine hide ?_
            rw [HR.out, HE.out]
            simp [fieldR, takeW, hpl]
          clear HE hat hgf hd hpl h84 hh c0
          go_wp2
          try simp only [Exit.inBlock, Exit.then]
          refine bodyPost_ret (results_read rfl _ _ w.heap.size i rfl (five_set i HA.out)) rfl ?_
          refine ⟨five_gr HG.out (Nat.le_refl _) _ _ _ _ _, ?_⟩
          rw [HZ.out]
          exact ⟨_, _, rfl⟩
    · obtain rfl : k = F.size := by omega
      have HZ : Hid (readL t.data.toList = some (i, to)) := by
        refine hide ?_
        rw [HR.out, HE.out, List.drop_of_length_le (by rw [size_list]; exact Nat.le_refl _)]
        cases xs.drop F.size <;> rfl
      clear HE hd
      go_wp2
      try simp only [Exit.inBlock, Exit.then]
      refine bodyPost_ret (results_read rfl _ _ w.heap.size i rfl (five_set i HA.out)) rfl ?_
      refine ⟨five_gr HG.out (Nat.le_refl _) _ _ _ _ _, ?_⟩
      rw [HZ.out]
      rfl
end Go.Proofs.YtcfkcnkekdafgaaGreatDoor
