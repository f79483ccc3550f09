/-
  For any program in memory whose numbers fit into their bytes: the reference's Write answers the program's bytes. No condition but that.
-/
import Derived.Test.YthooopcoemdphaaDoorSame
import Derived.Test.YthooopcoemdphaaDoorWrit
import Derived.Test.YthooopcoemdphaaDoorApp
import Derived.Test.YthooopcoemdphaaDoorRPut
namespace Go.Proofs.YthooopcoemdphaaDoor
open Go.ChangeShapes Go.WideShapes Go.ChangeAt Go.RowKit Go.Deep
set_option linter.unusedVariables false

theorem leB_two (n : Nat) (h : n < 65536) : leB n 2 = [(n : Int) % 256, (n : Int) / 256] := by
  show [(n : Int) % 256, (n : Int) / 256 % 256] = _
  rw [show (n : Int) / 256 % 256 = (n : Int) / 256 by omega]
theorem in0 : inB 0 := ⟨by omega, by omega⟩
theorem own_tail {w : World} {B g : Nat} {x : Int} (h : Own w B (.slice (some ⟨g, 0, none⟩) 8 8) (insB 0 0 0 0 x)) : BytesAt w (some ⟨g, 4, none⟩) (leB x 4) := by
  obtain ⟨a, cap, hv, _, _, hB⟩ := h.bytes
  rw [insB_len] at hv
  simp only [Value.slice.injEq] at hv
  obtain ⟨rfl, _, rfl⟩ := hv
  rcases hB with h0 | ⟨b, off, ha, hc⟩
  · have := congrArg List.length h0; rw [insB_len] at this; simp at this
  · cases ha
    refine .inr ⟨g, 4, rfl, fun j y hy => ?_⟩
    have := hc (4 + j) y (by unfold insB; rw [List.getElem?_append_right (by simp)]; simpa using hy)
    rw [Nat.zero_add] at this
    exact this
theorem own_all {w : World} {B g : Nat} {op a b c k : Int} (h : Own w B (.slice (some ⟨g, 0, none⟩) 8 8) (insB op a b c k)) : BytesAt w (some ⟨g, 0, none⟩) (insB op a b c k) := by
  obtain ⟨a', cap, hv, _, _, hB⟩ := h.bytes
  rw [insB_len] at hv
  simp only [Value.slice.injEq] at hv
  obtain ⟨rfl, _, rfl⟩ := hv
  exact hB

set_option maxHeartbeats 2000000 in
theorem rwrite_calls (v : Value) (p : Pg) (w : World) (h : ProgAt w v p) (ok : Okay p) :
    Calls Tryd.prog 14 #[v] w fun e w' => ∃ v', e = .returned v' ∧ Own w' w.heap.size v' (writeB p) ∧ Gr w w' := by
  have OK := hide ok
  obtain ⟨a, cap, A, C, ma, mc, rfl, hC, hM⟩ := id h
  have hg0 := (Gr.refl w).alloc #[.slice a p.codes.length cap, .slice ma p.mem.length mc, .int .i64 p.room] 27
  have HB := hide (PBox.fresh a p.codes.length cap ma p.mem.length mc p.room w)
  have HCR := hide (hC.later hg0)
  have HMR := hide (hM.later hg0)
  have l1 := ok.codes
  have l2 := ok.mem
  have l3 := ok.room0
  have l4 := ok.room
  have hsz : (w.alloc (.cells #[.slice a p.codes.length cap, .slice ma p.mem.length mc, .int .i64 p.room] 27)).heap.size = w.heap.size + 1 := by simp
  have O2 := own_lit (w.alloc (.cells #[.slice a p.codes.length cap, .slice ma p.mem.length mc, .int .i64 p.room] 27)) (w.heap.size + 1) [100, 108, 49, (p.codes.length : Int), p.room, (p.mem.length : Int) % 256, (p.mem.length : Int) / 256] (by omega) (by simp [maxLen])
  rw [hsz, show [100, 108, 49, (p.codes.length : Int), p.room, (p.mem.length : Int) % 256, (p.mem.length : Int) / 256] = frontB p by simp [frontB, leB_two p.mem.length (by omega)]] at O2
  have fl : (frontB p).length = 7 := by simp [frontB, leB_len]
  have efr : ((frontB p).map (Value.int .u8)).toArray = #[.int .u8 100, .int .u8 108, .int .u8 49, .int .u8 p.codes.length, .int .u8 p.room, .int .u8 ((p.mem.length : Int) % 256), .int .u8 ((p.mem.length : Int) / 256)] := by simp [frontB, leB_two p.mem.length (by omega)]
  rw [fl, efr] at O2
  have HO := hide O2
  have HG2 := hide ((Gr.refl (w.alloc (.cells #[.slice a p.codes.length cap, .slice ma p.mem.length mc, .int .i64 p.room] 27))).alloc #[.int .u8 100, .int .u8 108, .int .u8 49, .int .u8 p.codes.length, .int .u8 p.room, .int .u8 ((p.mem.length : Int) % 256), .int .u8 ((p.mem.length : Int) / 256)] 5)
  clear h ok hC hM O2 efr
  go_enter Tryd.func14, Tryd.ntmps14
  go_wp2
  generalize w.alloc (.cells #[.slice a p.codes.length cap, .slice ma p.mem.length mc, .int .i64 p.room] 27) = w1 at hg0 HB HCR HMR hsz HO HG2 ⊢
  generalize w1.alloc (.cells #[.int .u8 100, .int .u8 108, .int .u8 49, .int .u8 p.codes.length, .int .u8 p.room, .int .u8 ((p.mem.length : Int) % 256), .int .u8 ((p.mem.length : Int) / 256)] 5) = w2 at HO HG2 ⊢
  have below : Hid (∀ {x y : World}, Gr w1 x → w.heap.size + 1 ≤ x.heap.size → Kept 5 (w.heap.size + 1) x y → Gr w1 y) := by
    intro x y hx hs hk
    have := hk.below hs
    rw [← hsz] at this
    exact hx.after this
  go_loopw [3, 4] (fun s i wr => ∃ k : Nat, k ≤ p.mem.length ∧ i = .int .i64 k ∧ Hid (Own wr (w.heap.size + 1) s (frontB p ++ memBy (p.mem.take k))) ∧ Hid (Gr w1 wr)) (fun _ i _ => p.mem.length - (intOf i).toNat)
  case atStart => exact ⟨0, by omega, rfl, (by simpa [memBy] using HO.out : Own _ _ _ _), HG2⟩
  case round =>
    obtain ⟨k, hk, rfl, hO, hG⟩ := hrel
    obtain ⟨b0, b1, b2⟩ := HB.out.later hG.out
    by_cases hlt : k < p.mem.length
    · obtain ⟨b, off, rfl, hc⟩ := mem_at (HMR.out.later hG.out) hlt
      have hx := OK.out.word _ (getD_mem (d := 0) hlt)
      have EX := hide (memBy_take p.mem k hlt)
      generalize p.mem.getD k 0 = xx at hx hc EX
      obtain ⟨hx0, hx1⟩ := hx
      have hlen : (frontB p ++ memBy (p.mem.take k)).length + (leB xx 4).length ≤ 1099511627776 := by rw [List.length_append, fl, mem_len, List.length_take, leB_len]; omega
      go_wp2_with (fail)
      refine (rput_calls 0 0 0 0 xx wr in0 in0 in0 in0 hx0 hx1).mono ?_
      rintro e w3 ⟨g, rfl, Og, Gg⟩
      have BG := hide (own_tail Og)
      have O3 := hide (hO.out.lift Gg)
      have G3 := hide (hG.out.trans Gg)
      have sz3 : w.heap.size + 1 ≤ w3.heap.size := by have := G3.out.size; omega
      clear Og Gg
      go_wp2_with (at_builtin; refine wpList_app rfl (.tmp 33) (.tmp 41) rfl (w.heap.size + 1) _ _ rfl O3.out (some ⟨g, 4, none⟩) (leB xx 4) 4 4 rfl (leB_len _ _) (fun h => by cases h) BG.out hlen sz3 ?_)
      intro v4 w4 O4 K4
      have O4' : Hid (Own w4 (w.heap.size + 1) v4 (frontB p ++ memBy (p.mem.take (k + 1)))) := by
        show Own _ _ _ _
        rw [EX.out, ← List.append_assoc]
        exact O4
      have G4 := hide (below.out G3.out sz3 K4)
      clear O4 K4 O3 G3 BG
      go_wp2
      go_roundw
      case rel => exact ⟨k + 1, by omega, by go_num, O4', G4⟩
      case measure => simp [intOf]; omega
    · obtain rfl : k = p.mem.length := by omega
      have O8 := hO.out
      rw [List.take_length] at O8
      have O8 := hide O8
      have fl2 : (frontB p ++ memBy p.mem).length ≤ 5000 := by rw [List.length_append, fl, mem_len]; omega
      generalize hF2 : frontB p ++ memBy p.mem = F2 at O8 fl2
      have HF2 : Hid (F2 ++ p.codes.flatMap codeBy = writeB p) := by
        show _ = _
        rw [← hF2, writeB_eq]
      clear hF2 hO
      go_wp2
      go_loopw [3, 5] (fun s i wr => ∃ k : Nat, k ≤ p.codes.length ∧ i = .int .i64 k ∧ Hid (Own wr (w.heap.size + 1) s (F2 ++ (p.codes.take k).flatMap codeBy)) ∧ Hid (Gr w1 wr)) (fun _ i _ => p.codes.length - (intOf i).toNat)
      case atStart => exact ⟨0, by omega, rfl, (by simpa using O8.out : Own _ _ _ _), hG⟩
      case round =>
        clear hG O8 b0 b1 b2
        obtain ⟨k, hk, rfl, hO, hG⟩ := hrel
        obtain ⟨b0, b1, b2⟩ := HB.out.later hG.out
        by_cases hlt : k < p.codes.length
        · obtain ⟨b, off, av, cv, rfl, hc0, hrow⟩ : ∃ b off av cv, a = some ⟨b, off, none⟩ ∧ (Hid (w1.cell? ⟨b, off + k, none⟩ = some (.slice av (p.codes.getD k []).length cv)) ∧ Hid (InsRow w1 av (p.codes.getD k []).length (fun i => (p.codes.getD k []).getD i ins0))) := by
            rcases HCR.out.2 with h0 | ⟨b, off, ha, hl⟩
            · omega
            · exact ⟨b, off, A k, C k, ha, (hl k hlt).1, (hl k hlt).2⟩
          have hmem : p.codes.getD k [] ∈ p.codes := getD_mem hlt
          have hcl := OK.out.code _ hmem
          have hci := hide (OK.out.ins _ hmem)
          have EX : Hid (F2 ++ (p.codes.take (k + 1)).flatMap codeBy = F2 ++ (p.codes.take k).flatMap codeBy ++ codeBy (p.codes.getD k [])) := by
            show _ = _
            rw [codesBy_take p.codes k hlt, List.append_assoc]
          have hpre : ((p.codes.take k).flatMap codeBy).length ≤ 8 * 32002 := by
            have := flat_len codeBy 32002 (p.codes.take k) (fun c hc => by have := OK.out.code c (List.mem_of_mem_take hc); rw [codeBy_len]; omega)
            rw [List.length_take] at this
            have h8 : min k p.codes.length ≤ 8 := by omega
            exact Nat.le_trans this (Nat.mul_le_mul_right _ h8)
          generalize hcc : p.codes.getD k [] = c at hc0 hrow hcl hci EX
          clear hmem hcc
          have hlen1 : (F2 ++ (p.codes.take k).flatMap codeBy).length ≤ 1000000 := by rw [List.length_append]; omega
          generalize F2 ++ (p.codes.take k).flatMap codeBy = X at hO hlen1 EX
          have hc := cell_later hG.out hc0.out
          have E2 := hide (leB_two c.length (by omega))
          have gA := (Gr.refl wr).alloc #[.int .u8 ((c.length : Int) % 256), .int .u8 ((c.length : Int) / 256)] 5
          have OA := hide (hO.out.lift gA)
          have GA := hide (hG.out.trans gA)
          have BA : Hid (BytesAt (wr.alloc (.cells #[.int .u8 ((c.length : Int) % 256), .int .u8 ((c.length : Int) / 256)] 5)) (some ⟨wr.heap.size, 0, none⟩) [(c.length : Int) % 256, (c.length : Int) / 256]) := bytes_lit wr [(c.length : Int) % 256, (c.length : Int) / 256]
          have szA : w.heap.size + 1 ≤ (wr.alloc (.cells #[.int .u8 ((c.length : Int) % 256), .int .u8 ((c.length : Int) / 256)] 5)).heap.size := by have := GA.out.size; omega
          have hlen2 : X.length + [(c.length : Int) % 256, (c.length : Int) / 256].length ≤ 1099511627776 := by simp; omega
          clear gA
          go_wp2_with (at_builtin; refine wpList_app rfl (.tmp 55) (.tmp 64) rfl (w.heap.size + 1) _ X rfl OA.out (some ⟨wr.heap.size, 0, none⟩) [(c.length : Int) % 256, (c.length : Int) / 256] 2 2 rfl rfl (fun h => by cases h) BA.out hlen2 szA ?_)
          intro v7 w7 O7 K7
          rw [← E2.out] at O7
          have G7 := hide (below.out GA.out szA K7)
          have O7' := hide O7
          clear O7 K7 OA GA BA
          go_wp2
          go_loopw [3, 7] (fun s i wr => ∃ j : Nat, j ≤ c.length ∧ i = .int .i64 j ∧ Hid (Own wr (w.heap.size + 1) s (X ++ leB c.length 2 ++ (c.take j).flatMap insBy)) ∧ Hid (Gr w1 wr)) (fun _ i _ => c.length - (intOf i).toNat)
          case atStart => exact ⟨0, by omega, rfl, (by simpa using O7'.out : Own _ _ _ _), G7⟩
          case round =>
            clear hG hO G7 O7' hc szA hlen2
            obtain ⟨j, hj, rfl, hO, hG⟩ := hrel
            by_cases hltj : j < c.length
            · obtain ⟨b', off', rfl, hl⟩ : ∃ b' off', av = some ⟨b', off', none⟩ ∧ Lies wr b' (off' + j * 5) (c.getD j ins0) := by
                rcases hrow.out.2 with h0 | ⟨b2, off2, ha2, hl2⟩
                · omega
                · exact ⟨b2, off2, ha2, (hl2 j hltj).1.later hG.out⟩
              obtain ⟨⟨⟨o0, o1⟩, ⟨a0, a1⟩, ⟨f0, f1⟩, ⟨g0, g1⟩⟩, k0, k1⟩ := hci.out _ (getD_mem (d := ins0) hltj)
              have EY : Hid (X ++ leB c.length 2 ++ (c.take (j + 1)).flatMap insBy = X ++ leB c.length 2 ++ (c.take j).flatMap insBy ++ insBy (c.getD j ins0)) := by
                show _ = _
                rw [codeBy_take c j hltj]
                simp only [List.append_assoc]
              have hlen3 : (X ++ leB c.length 2 ++ (c.take j).flatMap insBy).length + 8 ≤ 1099511627776 := by
                rw [List.length_append, List.length_append, code_len, List.length_take, leB_len]
                omega
              generalize c.getD j ins0 = ii at hl o0 o1 a0 a1 f0 f1 g0 g1 k0 k1 EY
              obtain ⟨c0, c1, c2, c3, c4⟩ := hl
              go_wp2_with (fail)
              refine (rput_calls ii.op ii.a ii.b ii.c ii.k wr ⟨o0, o1⟩ ⟨a0, a1⟩ ⟨f0, f1⟩ ⟨g0, g1⟩ k0 k1).mono ?_
              rintro e w8 ⟨g, rfl, Og, Gg⟩
              have BG := hide (own_all Og)
              have O8 := hide (hO.out.lift Gg)
              have G8 := hide (hG.out.trans Gg)
              have sz8 : w.heap.size + 1 ≤ w8.heap.size := by have := G8.out.size; omega
              have lI := insB_len ii.op ii.a ii.b ii.c ii.k
              clear Og Gg
              go_wp2_with (at_builtin; refine wpList_app rfl (.tmp 72) (.tmp 77) rfl (w.heap.size + 1) _ _ rfl O8.out (some ⟨g, 0, none⟩) (insB ii.op ii.a ii.b ii.c ii.k) 8 8 rfl lI (fun h => by cases h) BG.out (by rw [lI]; exact hlen3) sz8 ?_)
              intro v9 w9 O9 K9
              have O9' : Hid (Own w9 (w.heap.size + 1) v9 (X ++ leB c.length 2 ++ (c.take (j + 1)).flatMap insBy)) := by
                show Own _ _ _ _
                rw [EY.out]
                simp only [List.append_assoc]
                exact O9
              have G9 := hide (below.out G8.out sz8 K9)
              clear O9 K9 O8 G8 BG lI
              go_wp2
              go_roundw
              case rel => exact ⟨j + 1, by omega, by go_num, O9', G9⟩
              case measure => simp [intOf]; omega
            · obtain rfl : j = c.length := by omega
              have O9 := hO.out
              rw [List.take_length, List.append_assoc, show leB c.length 2 ++ c.flatMap insBy = codeBy c from rfl, ← EX.out] at O9
              have O9 := hide O9
              clear hO
              go_wp2
              exact ⟨⟨k + 1, by omega, by go_num, O9, hG⟩, by simp [intOf]; omega⟩
        · obtain rfl : k = p.codes.length := by omega
          have O9 := hO.out
          rw [List.take_length] at O9
          have O9 := hide O9
          clear hO
          go_wp2
          go_ret
          exact ⟨_, rfl, own_mono (HF2.out ▸ O9.out) (Nat.le_succ _), hg0.trans hG.out⟩
end Go.Proofs.YthooopcoemdphaaDoor
