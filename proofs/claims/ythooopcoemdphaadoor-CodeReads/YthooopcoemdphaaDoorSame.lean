/-
  Of two values that are the same program in memory the reference's Same answers true, and makes new blocks alone. No condition.
-/
import Derived.Test.YthooopcoemdphaaDoorPgAt
import Derived.Deep.RegionHeld3
namespace Go.Proofs.YthooopcoemdphaaDoor
open Go.ChangeShapes Go.WideShapes Go.ChangeAt Go.RowKit Go.Deep
set_option linter.unusedVariables false

theorem mem_at {w : World} {a : Option Addr} {m : List Int} (h : MemAt w a m) {k : Nat} (hk : k < m.length) : ∃ b off, a = some ⟨b, off, none⟩ ∧ w.cell? ⟨b, off + k, none⟩ = some (.int .u32 (m.getD k 0)) := by
  rcases h.2.1 with h0 | ⟨b, off, ha, hc⟩
  · rw [h0] at hk; simp at hk
  · exact ⟨b, off, ha, hc k _ (by rw [List.getD_eq_getElem?_getD, List.getElem?_eq_getElem hk]; rfl)⟩
theorem code_at {w : World} {a : Option Addr} {len : Nat} {A : Nat → Option Addr} {L C : Nat → Nat} {F : Nat → Nat → Ins} (h : CodeRow w a len A L C F) {k : Nat} (hk : k < len) : ∃ b off av cv, a = some ⟨b, off, none⟩ ∧ w.cell? ⟨b, off + k, none⟩ = some (.slice av (L k) cv) ∧ InsRow w av (L k) (F k) := by
  rcases h.2 with h0 | ⟨b, off, ha, hc⟩
  · omega
  · exact ⟨b, off, A k, C k, ha, (hc k hk).1, (hc k hk).2⟩
theorem ins_at {w : World} {a : Option Addr} {len : Nat} {F : Nat → Ins} (h : InsRow w a len F) {k : Nat} (hk : k < len) : ∃ b off, a = some ⟨b, off, none⟩ ∧ Lies w b (off + k * 5) (F k) := by
  rcases h.2 with h0 | ⟨b, off, ha, hc⟩
  · omega
  · exact ⟨b, off, ha, (hc k hk).1⟩

set_option maxHeartbeats 2000000 in
theorem same_calls (v v' : Value) (p : Pg) (w : World) (h : ProgAt w v p) (h' : ProgAt w v' p) :
    Calls Tryd.prog 10 #[v, v'] w fun e w' => e = .returned (.bool true) ∧ Gr w w' := by
  obtain ⟨a, cap, A, C, ma, mc, rfl, hC, hM⟩ := h
  obtain ⟨a', cap', A', C', ma', mc', rfl, hC', hM'⟩ := h'
  have hg0 := (Gr.refl w).alloc #[.slice a p.codes.length cap, .slice ma p.mem.length mc, .int .i64 p.room] 27
  have hg1 := hg0.alloc #[.slice a' p.codes.length cap', .slice ma' p.mem.length mc', .int .i64 p.room] 27
  have HB := hide ((PBox.fresh a p.codes.length cap ma p.mem.length mc p.room w).later ((Gr.refl _).alloc #[.slice a' p.codes.length cap', .slice ma' p.mem.length mc', .int .i64 p.room] 27))
  have HB' := hide (PBox.fresh a' p.codes.length cap' ma' p.mem.length mc' p.room (w.alloc (.cells #[.slice a p.codes.length cap, .slice ma p.mem.length mc, .int .i64 p.room] 27)))
  have hsz : (w.alloc (.cells #[.slice a p.codes.length cap, .slice ma p.mem.length mc, .int .i64 p.room] 27)).heap.size = w.heap.size + 1 := by simp
  rw [hsz] at HB'
  have HC := hide (hC.later hg1)
  have HM := hide (hM.later hg1)
  have HC' := hide (hC'.later hg1)
  have HM' := hide (hM'.later hg1)
  have hm1 := hC.1
  have hm2 := hM.1
  unfold maxLen at hm1 hm2
  clear hC hM hC' hM' hg0 hsz
  go_enter Tryd.func10, Tryd.ntmps10
  go_wp2
  generalize (w.alloc (.cells #[.slice a p.codes.length cap, .slice ma p.mem.length mc, .int .i64 p.room] 27)).alloc (.cells #[.slice a' p.codes.length cap', .slice ma' p.mem.length mc', .int .i64 p.room] 27) = w1 at hg1 HB HB' HC HM HC' HM' ⊢
  go_loopw [5] (fun i wr => ∃ k : Nat, k ≤ p.mem.length ∧ i = .int .i64 k ∧ Gr w1 wr) (fun i _ => p.mem.length - (intOf i).toNat)
  case atStart => exact ⟨0, by omega, rfl, Gr.refl _⟩
  case round =>
    obtain ⟨k, hk, rfl, hG⟩ := hrel
    obtain ⟨b0, b1, b2⟩ := HB.out.later hG
    obtain ⟨d0, d1, d2⟩ := HB'.out.later hG
    by_cases hlt : k < p.mem.length
    · obtain ⟨b, off, rfl, hc⟩ := mem_at (HM.out.later hG) hlt
      obtain ⟨b', off', rfl, hc'⟩ := mem_at (HM'.out.later hG) hlt
      generalize p.mem.getD k 0 = x at hc hc'
      have hlt' : (k : Int) < p.mem.length := by omega
      go_wp2_with (fail)
      go_quiet (fail)
      go_wp2
      go_roundw
      case rel => exact ⟨k + 1, by omega, by go_num, hG.drewNs nq⟩
      case measure => simp [intOf]; omega
    · obtain rfl : k = p.mem.length := by omega
      go_wp2
      go_loopw [6] (fun i wr => ∃ k : Nat, k ≤ p.codes.length ∧ i = .int .i64 k ∧ Gr w1 wr) (fun i _ => p.codes.length - (intOf i).toNat)
      case atStart => exact ⟨0, by omega, rfl, hG⟩
      case round =>
        clear hG b0 b1 b2 d0 d1 d2
        obtain ⟨t, ht, rfl, hG⟩ := hrel
        obtain ⟨b0, b1, b2⟩ := HB.out.later hG
        obtain ⟨d0, d1, d2⟩ := HB'.out.later hG
        by_cases hltt : t < p.codes.length
        · obtain ⟨b, off, av, cv, rfl, hc0, hr0⟩ := code_at HC.out hltt
          obtain ⟨b', off', av', cv', rfl, hc0', hr0'⟩ := code_at HC'.out hltt
          have hc := cell_later hG hc0
          have hc' := cell_later hG hc0'
          have H0 := hide hc0
          have H0' := hide hc0'
          have R0 := hide hr0
          have R0' := hide hr0'
          have hm3 := hr0.1
          unfold maxLen at hm3
          generalize p.L t = lt at hc hc' H0 H0' R0 R0' hm3
          generalize p.F t = ft at R0 R0'
          clear hc0 hc0' hr0 hr0'
          have hlt' : (t : Int) < p.codes.length := by omega
          go_wp2_with (fail)
          go_quiet (fail)
          have hG' := hG.drewNs nq
          obtain ⟨b0, b1, b2⟩ := HB.out.later hG'
          obtain ⟨d0, d1, d2⟩ := HB'.out.later hG'
          go_wp2
          go_loopw [7] (fun i wr => ∃ j : Nat, j ≤ lt ∧ i = .int .i64 j ∧ Gr w1 wr) (fun i _ => lt - (intOf i).toNat)
          case atStart => exact ⟨0, by omega, rfl, hG'⟩
          case round =>
            clear hG hG' hc hc' b0 b1 b2 d0 d1 d2
            obtain ⟨j, hj, rfl, hG⟩ := hrel
            obtain ⟨b0, b1, b2⟩ := HB.out.later hG
            obtain ⟨d0, d1, d2⟩ := HB'.out.later hG
            have hc := cell_later hG H0.out
            have hc' := cell_later hG H0'.out
            by_cases hltj : j < lt
            · obtain ⟨e1, f1, rfl, hl⟩ := ins_at (R0.out.later hG) hltj
              obtain ⟨e2, f2, rfl, hl'⟩ := ins_at (R0'.out.later hG) hltj
              obtain ⟨x0, x1, x2, x3, x4⟩ := hl
              obtain ⟨y0, y1, y2, y3, y4⟩ := hl'
              have hltj' : (j : Int) < lt := by omega
              go_wp2_with (fail)
              go_quiet (fail)
              go_wp2
              go_roundw
              case rel => exact ⟨j + 1, by omega, by go_num, hG.drewNs nq⟩
              case measure => simp [intOf]; omega
            · obtain rfl : j = lt := by omega
              go_wp2
              exact ⟨⟨t + 1, by omega, by go_num, hG⟩, by simp [intOf]; omega⟩
        · obtain rfl : t = p.codes.length := by omega
          go_wp2
          go_ret
          exact ⟨rfl, hg1.trans hG⟩
end Go.Proofs.YthooopcoemdphaaDoor
