/-
  For any program in memory, in any world in which the program's table of kinds lies: code.Write answers Check's error, else the program's bytes. No condition but that.
-/
import Derived.Test.YthooopcoemdphaaDoorOkay
import Derived.Test.YthooopcoemdphaaDoorAddF
namespace Go.Proofs.YthooopcoemdphaaDoor
open Go.ChangeShapes Go.WideShapes Go.ChangeAt Go.RowKit Go.Deep
set_option linter.unusedVariables false

/-- what Write leaves -/
def WriteP (p : Pg) (w : World) (e : Ending) (w' : World) : Prop :=
  Gr w w' ∧ (p.err ≠ 0 ∧ e = .returned (.tuple #[.slice none 0 0, .int .i64 p.err]) ∨ p.err = 0 ∧ Okay p ∧ ∃ v, e = .returned (.tuple #[v, .int .i64 0]) ∧ Own w' w.heap.size v (writeB p))

theorem take_snoc {α : Type} (l : List α) (d : α) (k : Nat) (h : k < l.length) : l.take (k + 1) = l.take k ++ [l.getD k d] := by
  rw [List.take_add_one, List.getElem?_eq_getElem h, List.getD_eq_getElem?_getD, List.getElem?_eq_getElem h]
  rfl
theorem memBy_take (m : List Int) (k : Nat) (h : k < m.length) : memBy (m.take (k + 1)) = memBy (m.take k) ++ leB (m.getD k 0) 4 := by
  rw [take_snoc m 0 k h]
  unfold memBy
  rw [List.flatMap_append, List.flatMap_cons, List.flatMap_nil, List.append_nil]
theorem codeBy_take (c : List Ins) (k : Nat) (h : k < c.length) : (c.take (k + 1)).flatMap insBy = (c.take k).flatMap insBy ++ insBy (c.getD k ins0) := by
  rw [take_snoc c ins0 k h, List.flatMap_append, List.flatMap_cons, List.flatMap_nil, List.append_nil]
theorem codesBy_take (cs : List (List Ins)) (k : Nat) (h : k < cs.length) : (cs.take (k + 1)).flatMap codeBy = (cs.take k).flatMap codeBy ++ codeBy (cs.getD k []) := by
  rw [take_snoc cs [] k h, List.flatMap_append, List.flatMap_cons, List.flatMap_nil, List.append_nil]
theorem getD_mem {α : Type} {l : List α} {k : Nat} {d : α} (h : k < l.length) : l.getD k d ∈ l := by
  rw [List.getD_eq_getElem?_getD, List.getElem?_eq_getElem h]
  exact List.getElem_mem h
theorem row_cellF {w : World} {g : Nat} {cur : Array Value} {t : TypeId} {fr : Nat × Nat} (h : w.heap[g]? = some (.cells cur t fr)) (o : Nat) : w.cell? ⟨g, o, none⟩ = cur[o]? := by simp [World.cell?, h]
/-- the bytes ahead of the words -/
def frontB (p : Pg) : List Int := [100, 108, 49] ++ [(p.codes.length : Int)] ++ [p.room] ++ leB p.mem.length 2
theorem writeB_eq (p : Pg) : writeB p = frontB p ++ memBy p.mem ++ p.codes.flatMap codeBy := by simp [writeB, frontB]

set_option maxHeartbeats 1000000 in
theorem write_err (v : Value) (p : Pg) (w : World) (LD : Laid w) (h : ProgAt w v p) (he : p.err ≠ 0) :
    Calls Tryd.prog 12 #[v] w (WriteP p w) := by
  obtain ⟨a, cap, A, C, ma, mc, rfl, hC, hM⟩ := id h
  have hg0 := (Gr.refl w).alloc #[.slice a p.codes.length cap, .slice ma p.mem.length mc, .int .i64 p.room] 27
  have HC := hide (check_pg _ p _ (LD.later hg0) (h.later hg0))
  have hq : (p.err == 0) = false := by simpa using he
  clear h LD hC hM
  go_enter Tryd.func12, Tryd.ntmps12
  go_wp2_with (fail)
  refine HC.out.mono ?_
  rintro e w2 ⟨x, y, rfl, hg2⟩
  go_wp2_with (fail)
  go_ret2
  exact ⟨hg0.trans hg2, .inl ⟨he, rfl⟩⟩

set_option maxHeartbeats 2000000 in
theorem write_ok (v : Value) (p : Pg) (w : World) (LD : Laid w) (h : ProgAt w v p) (he : p.err = 0) :
    Calls Tryd.prog 12 #[v] w (WriteP p w) := by
  have OK := hide (okay_of h he)
  obtain ⟨a, cap, A, C, ma, mc, rfl, hC, hM⟩ := id h
  have hg0 := (Gr.refl w).alloc #[.slice a p.codes.length cap, .slice ma p.mem.length mc, .int .i64 p.room] 27
  have HC := hide (check_pg _ p _ (LD.later hg0) (h.later hg0))
  have HB := hide (PBox.fresh a p.codes.length cap ma p.mem.length mc p.room w)
  have HCR := hide (hC.later hg0)
  have HMR := hide (hM.later hg0)
  have l1 := OK.out.codes
  have l2 := OK.out.mem
  have l3 := OK.out.room0
  have l4 := OK.out.room
  have hq : (p.err == 0) = true := by simpa using he
  have HE := hide he
  clear h LD hC hM he
  go_enter Tryd.func12, Tryd.ntmps12
  go_wp2_with (fail)
  generalize w.alloc (.cells #[.slice a p.codes.length cap, .slice ma p.mem.length mc, .int .i64 p.room] 27) = w1 at hg0 HC HB HCR HMR ⊢
  refine HC.out.mono ?_
  rintro e w2 ⟨x, y, rfl, hg2⟩
  have hG2 := hg0.trans hg2
  have B2 := hide (HB.out.later hg2)
  have CR2 := hide (HCR.out.later hg2)
  have MR2 := hide (HMR.out.later hg2)
  clear HC HB HCR HMR hg2
  have G3 : Hid (Gr w2 (w2.alloc (.cells #[.int .u8 100, .int .u8 108, .int .u8 49] 5 (3, 4)))) := Below.alloc (Below.refl _ w2) (Nat.le_refl _) _
  have C3 : Hid (∀ j x, [(100 : Int), 108, 49][j]? = some x → (w2.alloc (.cells #[.int .u8 100, .int .u8 108, .int .u8 49] 5 (3, 4))).cell? ⟨w2.heap.size, 0 + j, none⟩ = some (.int .u8 x)) := by
    intro j x hx
    have hrow : (w2.alloc (.cells #[.int .u8 100, .int .u8 108, .int .u8 49] 5 (3, 4))).heap[w2.heap.size]? = some (.cells #[.int .u8 100, .int .u8 108, .int .u8 49] 5 (3, 4)) := heap_alloc_new w2 _
    rw [row_cellF hrow]
    match j, hx with
    | 0, hx => cases hx; rfl
    | 1, hx => cases hx; rfl
    | 2, hx => cases hx; rfl
    | j + 3, hx => simp at hx
  obtain ⟨b0, b1, b2⟩ := B2.out.later G3.out
  have sz3 := G3.out.size
  have hcid := Lib.run_convert_bytes_const (P := Tryd.prog) w2 22 5 #[.int .u8 100, .int .u8 108, .int .u8 49] 3 3 Tryd.underlying22 Tryd.underlying5
  simp only [List.size_toArray, List.length_cons, List.length_nil] at hcid
  go_wp2_with (fail)
  clear hcid
  generalize w2.alloc (.cells #[.int .u8 100, .int .u8 108, .int .u8 49] 5 (3, 4)) = w3 at C3 G3 b0 b1 b2 sz3 ⊢
  refine (addn_full w2.heap.size 0 [100, 108, 49] p.codes.length w3 (by omega) (by omega) C3.out (by simp)).mono ?_
  rintro e w4 ⟨v4, rfl, O4, K4⟩
  have G4 := hide (G3.out.trans K4)
  have sz4 := G4.out.size
  obtain ⟨b0, b1, b2⟩ := B2.out.later G4.out
  rw [Int.emod_eq_of_lt (by omega) (by omega)] at O4
  have O4' : Hid (Own w4 w2.heap.size v4 ([100, 108, 49] ++ [(p.codes.length : Int)])) := own_mono O4 sz3
  clear O4 K4
  go_wp2_with (fail)
  refine (addn_calls _ _ p.room 1 w2.heap.size w4 l3 (by omega) (by omega) (by simp) sz4 O4'.out).mono ?_
  rintro e w5 ⟨v5, rfl, O5, K5⟩
  have G5 := hide (G4.out.after (K5.below sz4))
  have sz5 := G5.out.size
  obtain ⟨b0, b1, b2⟩ := B2.out.later G5.out
  rw [leB_one _ l3 (by omega)] at O5
  have O5' := hide O5
  clear O5 K5
  go_wp2_with (fail)
  refine (addn_calls _ _ p.mem.length 2 w2.heap.size w5 (by omega) (by omega) (by omega) (by simp) sz5 O5'.out).mono ?_
  rintro e w6 ⟨v6, rfl, O6, K6⟩
  have G6 := hide (G5.out.after (K6.below sz5))
  have sz6 := G6.out.size
  obtain ⟨b0, b1, b2⟩ := B2.out.later G6.out
  have O6' : Hid (Own w6 w2.heap.size v6 (frontB p)) := O6
  have fl : (frontB p).length = 7 := by simp [frontB, leB_len]
  clear O6 K6 C3 O4' O5' G3 G4 G5 sz3 sz4 sz5
  go_wp2_with (fail)
  go_loopw [7, 45] (fun s i wr => ∃ k : Nat, k ≤ p.mem.length ∧ i = .int .i64 k ∧ Hid (Own wr w2.heap.size s (frontB p ++ memBy (p.mem.take k))) ∧ Hid (Gr w2 wr)) (fun _ i _ => p.mem.length - (intOf i).toNat)
  case atStart => exact ⟨0, by omega, rfl, (by simpa [memBy] using O6'.out : Own w6 _ _ _), G6⟩
  case round =>
    obtain ⟨k, hk, rfl, hO, hG⟩ := hrel
    have szr := hG.out.size
    by_cases hlt : k < p.mem.length
    · obtain ⟨b, off, rfl, hc⟩ : ∃ b off, ma = some ⟨b, off, none⟩ ∧ wr.cell? ⟨b, off + k, none⟩ = some (.int .u32 (p.mem.getD k 0)) := by
        rcases MR2.out.2.1 with h0 | ⟨b, off, ha, hc⟩
        · rw [h0] at hlt; simp at hlt
        · exact ⟨b, off, ha, cell_later hG.out (hc k _ (by rw [List.getD_eq_getElem?_getD, List.getElem?_eq_getElem hlt]; rfl))⟩
      have hx := OK.out.word _ (getD_mem (d := 0) hlt)
      have EX := hide (memBy_take p.mem k hlt)
      generalize p.mem.getD k 0 = xx at hx hc EX
      obtain ⟨hx0, hx1⟩ := hx
      have hlen : (frontB p ++ memBy (p.mem.take k)).length ≤ 1099511627776 := by rw [List.length_append, fl, mem_len, List.length_take]; omega
      go_wp2_with (fail)
      refine (addn_calls _ _ xx 4 w2.heap.size wr hx0 hx1 (by omega) hlen szr hO.out).mono ?_
      rintro e w7 ⟨v7, rfl, O7, K7⟩
      have O7' : Hid (Own w7 w2.heap.size v7 (frontB p ++ memBy (p.mem.take (k + 1)))) := by
        show Own _ _ _ _
        rw [EX.out, ← List.append_assoc]
        exact O7
      have G7 := hide (hG.out.after (K7.below szr))
      clear O7 K7
      go_wp2_with (fail)
      exact ⟨⟨k + 1, by omega, by go_num, O7', G7⟩, by simp [intOf]; omega⟩
    · obtain rfl : k = p.mem.length := by omega
      obtain ⟨b0, b1, b2⟩ := B2.out.later hG.out
      have O8 := hO.out
      rw [List.take_length] at O8
      have O8 := hide O8
      clear hO
      have fl2 : (frontB p ++ memBy p.mem).length ≤ 5000 := by rw [List.length_append, fl, mem_len]; omega
      generalize hF2 : frontB p ++ memBy p.mem = F2 at O8 fl2
      have HF2 : Hid (F2 ++ p.codes.flatMap codeBy = writeB p) := by
        show _ = _
        rw [← hF2, writeB_eq]
      clear hF2
      go_wp2_with (fail)
      go_loopw [7, 56] (fun s i wr => ∃ k : Nat, k ≤ p.codes.length ∧ i = .int .i64 k ∧ Hid (Own wr w2.heap.size s (F2 ++ (p.codes.take k).flatMap codeBy)) ∧ Hid (Gr w2 wr)) (fun _ i _ => p.codes.length - (intOf i).toNat)
      case atStart => exact ⟨0, by omega, rfl, (by simpa using O8.out : Own _ _ _ _), hG⟩
      case round =>
        clear hG O8 szr b0 b1 b2
        obtain ⟨k, hk, rfl, hO, hG⟩ := hrel
        have szr := hG.out.size
        by_cases hlt : k < p.codes.length
        · obtain ⟨b, off, av, cv, rfl, hc0, hrow⟩ : ∃ b off av cv, a = some ⟨b, off, none⟩ ∧ (Hid (w2.cell? ⟨b, off + k, none⟩ = some (.slice av (p.codes.getD k []).length cv)) ∧ Hid (InsRow w2 av (p.codes.getD k []).length (fun i => (p.codes.getD k []).getD i ins0))) := by
            rcases CR2.out.2 with h0 | ⟨b, off, ha, hl⟩
            · omega
            · exact ⟨b, off, A k, C k, ha, (hl k hlt).1, (hl k hlt).2⟩
          have hmem : p.codes.getD k [] ∈ p.codes := getD_mem hlt
          have hcl := OK.out.code _ hmem
          have hci := hide (OK.out.ins _ hmem)
          have EX : Hid (F2 ++ (p.codes.take (k + 1)).flatMap codeBy = F2 ++ (p.codes.take k).flatMap codeBy ++ codeBy (p.codes.getD k [])) := by
            show _ = _
            rw [codesBy_take p.codes k hlt, List.append_assoc]
          have hpre : ((p.codes.take k).flatMap codeBy).length ≤ 8 * 32002 := by
            have := flat_len codeBy 32002 (p.codes.take k) (fun c hc => by have := OK.out.code c (List.mem_of_mem_take hc); rw [codeBy_len]; omega)
            rw [List.length_take] at this
            have h8 : min k p.codes.length ≤ 8 := by omega
            exact Nat.le_trans this (Nat.mul_le_mul_right _ h8)
          generalize hcc : p.codes.getD k [] = c at hc0 hrow hcl hci EX
          clear hmem hcc
          have hlen1 : (F2 ++ (p.codes.take k).flatMap codeBy).length ≤ 1000000 := by rw [List.length_append]; omega
          generalize F2 ++ (p.codes.take k).flatMap codeBy = X at hO hlen1 EX
          have hc := cell_later hG.out hc0.out
          go_wp2_with (fail)
          refine (addn_calls _ X c.length 2 w2.heap.size wr (by omega) (by omega) (by omega) (by omega) szr hO.out).mono ?_
          rintro e w7 ⟨v7, rfl, O7, K7⟩
          have G7 := hide (hG.out.after (K7.below szr))
          have O7' := hide O7
          have hlen2 : (X ++ leB c.length 2).length ≤ 1000002 := by rw [List.length_append, leB_len]; omega
          clear O7 K7
          go_wp2_with (fail)
          go_loopw [7, 67] (fun s i wr => ∃ j : Nat, j ≤ c.length ∧ i = .int .i64 j ∧ Hid (Own wr w2.heap.size s (X ++ leB c.length 2 ++ (c.take j).flatMap insBy)) ∧ Hid (Gr w2 wr)) (fun _ i _ => c.length - (intOf i).toNat)
          case atStart => exact ⟨0, by omega, rfl, (by simpa using O7'.out : Own _ _ _ _), G7⟩
          case round =>
            clear hG hO szr G7 O7' hc
            obtain ⟨j, hj, rfl, hO, hG⟩ := hrel
            by_cases hltj : j < c.length
            · obtain ⟨b', off', rfl, hl⟩ : ∃ b' off', av = some ⟨b', off', none⟩ ∧ Lies wr b' (off' + j * 5) (c.getD j ins0) := by
                rcases hrow.out.2 with h0 | ⟨b2, off2, ha2, hl2⟩
                · omega
                · exact ⟨b2, off2, ha2, (hl2 j hltj).1.later hG.out⟩
              obtain ⟨⟨⟨o0, o1⟩, ⟨a0, a1⟩, ⟨f0, f1⟩, ⟨g0, g1⟩⟩, k0, k1⟩ := hci.out _ (getD_mem (d := ins0) hltj)
              have EY : Hid (X ++ leB c.length 2 ++ (c.take (j + 1)).flatMap insBy = X ++ leB c.length 2 ++ (c.take j).flatMap insBy ++ insBy (c.getD j ins0)) := by
                show _ = _
                rw [codeBy_take c j hltj]
                simp only [List.append_assoc]
              have hlen3 : (X ++ leB c.length 2 ++ (c.take j).flatMap insBy).length ≤ 2000000 := by
                rw [List.length_append, code_len, List.length_take]
                omega
              generalize c.getD j ins0 = ii at hl o0 o1 a0 a1 f0 f1 g0 g1 k0 k1 EY
              obtain ⟨c0, c1, c2, c3, c4⟩ := hl
              have gA := (Gr.refl wr).alloc #[.int .i64 ii.op, .int .i64 ii.a, .int .i64 ii.b, .int .i64 ii.c, .int .u32 ii.k] 47
              have OA := hide (hO.out.lift gA)
              have GA := hide (hG.out.trans gA)
              have szA := GA.out.size
              clear gA
              go_wp2_with (fail)
              refine (addi_calls _ _ ii.op ii.a ii.b ii.c ii.k w2.heap.size _ o0 o1 a0 a1 f0 f1 g0 g1 k0 k1 (by omega) szA OA.out).mono ?_
              rintro e w8 ⟨v8, rfl, O8, K8⟩
              have G8 := hide (GA.out.after (K8.below szA))
              have O8' : Hid (Own w8 w2.heap.size v8 (X ++ leB c.length 2 ++ (c.take (j + 1)).flatMap insBy)) := by
                show Own _ _ _ _
                rw [EY.out]
                exact O8
              clear O8 K8 OA GA
              go_wp2_with (fail)
              exact ⟨⟨j + 1, by omega, by go_num, O8', G8⟩, by simp [intOf]; omega⟩
            · obtain rfl : j = c.length := by omega
              have O9 := hO.out
              rw [List.take_length, List.append_assoc, show leB c.length 2 ++ c.flatMap insBy = codeBy c from rfl, ← EX.out] at O9
              have O9 := hide O9
              clear hO
              go_wp2_with (fail)
              exact ⟨⟨k + 1, by omega, by go_num, O9, hG⟩, by simp [intOf]; omega⟩
        · obtain rfl : k = p.codes.length := by omega
          have O9 := hO.out
          rw [List.take_length] at O9
          have O9 := hide O9
          clear hO
          go_wp2_with (fail)
          go_ret2
          exact ⟨hG2.trans hG.out, .inr ⟨HE.out, OK.out, _, rfl, own_mono (HF2.out ▸ O9.out) hG2.size⟩⟩
theorem write_calls (v : Value) (p : Pg) (w : World) (LD : Laid w) (h : ProgAt w v p) : Calls Tryd.prog 12 #[v] w (WriteP p w) := by
  by_cases he : p.err = 0
  · exact write_ok v p w LD h he
  · exact write_err v p w LD h he
end Go.Proofs.YthooopcoemdphaaDoor
