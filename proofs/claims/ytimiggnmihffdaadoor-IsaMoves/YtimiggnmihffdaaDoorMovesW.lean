/-
  For any code and any move below 2^16, in any world in which the program's tables lie and the code lies: the law IsaMoves answers true, and makes new blocks alone. No condition but that.
-/
import Derived.Test.YtimiggnmihffdaaDoorMoved
import Derived.BigQuiet
import Derived.Deep.QuietTactic
namespace Go.Proofs.YtimiggnmihffdaaDoor
open Go.ChangeShapes Go.WideShapes Go.ChangeAt Go.RowKit Go.Deep
set_option linter.unusedVariables false

theorem jump_all : ∀ n : Fin 28, (kK n == 4) = hasF (fieldAt n) 84 := by decide +kernel
theorem jump_has (op : Int) : hasB op 84 = jumpsB op := by
  unfold hasB jumpsB fB
  cases h : isB op
  · rfl
  · obtain ⟨n, rfl, hn⟩ := isB_nat h
    simpa using (jump_all ⟨n, hn⟩).symm
theorem mv_right (i : Ins) (hi : i.ok) (len : Nat) (hlen : len ≤ 5000) (m : Int) (h0 : 0 ≤ m) (h1 : m < 65536) (h : rightB i.op i.a i.b i.c i.k len = true) : rightB i.op i.a i.b i.c (mvK i m) ((len : Int) + m) = true := by
  unfold rightB at h ⊢
  simp only [Bool.and_eq_true] at h ⊢
  obtain ⟨h2, h3, h4⟩ := h
  refine ⟨h2, h3, ?_⟩
  obtain ⟨hk0, hk1⟩ := hi
  unfold mvK jumpsB
  rw [h2]
  by_cases e : kK i.op.toNat = 4
  · rw [e] at h4 ⊢
    have h5 : i.k ≤ len := by simpa [holdsB] using h4
    have h6 : (i.k + m) % 4294967296 = i.k + m := by omega
    simp [holdsB, h6]
    omega
  · have e' : (kK i.op.toNat == 4) = false := by simp [e]
    rw [e']
    simp only [Bool.and_false, Bool.false_eq_true, if_false]
    unfold holdsB at h4 ⊢
    by_cases e3 : kK i.op.toNat = 3
    · rw [if_pos e3]
    · rw [if_neg e3, if_neg e] at h4 ⊢
      exact h4

set_option maxHeartbeats 2000000 in
theorem moves_long (a : Option Addr) (len cap : Nat) (m : Int) (w : World) (L : Laid w) (hm : len ≤ maxLen) (hlen : ¬ len ≤ 5000) :
    Calls Tryd.prog 6 #[.slice a len cap, .int .u16 m] w fun e w' => e = .returned (.bool true) ∧ Gr w w' := by
  have HL := hide L
  clear L
  unfold maxLen at hm
  go_enter Tryd.func6, Tryd.ntmps6
  go_wp2_with (fail)
  refine (awake_calls _ HL.out).mono ?_
  rintro e w1 ⟨rfl, hg1⟩
  go_wp2_with (fail)
  refine (awake_calls _ (HL.out.later hg1)).mono ?_
  rintro e w2 ⟨rfl, hg2⟩
  go_wp2_with (fail)
  go_ret
  exact ⟨rfl, hg1.trans hg2⟩

set_option maxHeartbeats 4000000 in
theorem moves_walk (a : Option Addr) (len cap : Nat) (f : Nat → Ins) (m : Int) (hm0 : 0 ≤ m) (hm1 : m < 65536) (w : World) (L : Laid w) (hr : InsRow w a len f) (hlen : len ≤ 5000) :
    Calls Tryd.prog 6 #[.slice a len cap, .int .u16 m] w fun e w' => e = .returned (.bool true) ∧ Gr w w' := by
  have HL := hide L
  have HR := hide hr
  clear L hr
  go_enter Tryd.func6, Tryd.ntmps6
  go_wp2_with (fail)
  refine (awake_calls _ HL.out).mono ?_
  rintro e w1 ⟨rfl, hg1⟩
  go_wp2_with (fail)
  refine (moved_calls _ _ _ f m hm0 hm1 _ (HL.out.later hg1) (HR.out.later hg1) hlen).mono ?_
  rintro e w2 ⟨rfl, hg2, ho⟩
  have HO := hide ho
  clear ho
  generalize w1.heap.size = g at HO ⊢
  go_wp2_with (fail)
  go_loopw [6] (fun i wr => ∃ k : Nat, k ≤ len ∧ i = .int .i64 k ∧ Gr w2 wr) (fun i _ => len - (intOf i).toNat)
  case atStart => exact ⟨0, by omega, rfl, Gr.refl _⟩
  case round =>
    obtain ⟨k, hk, rfl, hgr⟩ := hrel
    by_cases hlt : k < len
    · obtain ⟨b, off, rfl, hl⟩ : ∃ b off, a = some ⟨b, off, none⟩ ∧ (Lies wr b (off + k * 5) (f k) ∧ (f k).ok) := by
        rcases HR.out.2 with h0 | ⟨b, off, ha, hl⟩
        · omega
        · exact ⟨b, off, ha, (hl k hlt).1.later (hg1.trans (hg2.trans hgr)), (hl k hlt).2⟩
      obtain ⟨hl0, hok⟩ := hl
      have HLi := hide hl0
      clear hl0
      have hok' := hide hok
      have hli : Hid (Lies wr g (k * 5) (mv (f k) m)) := (HO.out.2 k hlt).later hgr
      clear hok
      obtain ⟨c0, c1, c2, c3, c4⟩ := id HLi.out
      have hg3 : Gr wr (wr.alloc (.cells #[.int .i64 (f k).op, .int .i64 (f k).a, .int .i64 (f k).b, .int .i64 (f k).c, .int .u32 (f k).k] 24)) := (Gr.refl wr).alloc _ _
      have hb1 := Box.fresh (f k).op (f k).a (f k).b (f k).c (f k).k wr
      have ej := jump_has (f k).op
      go_wp2_with (fail)
      refine (has_calls _ _ _).mono ?_
      rintro e w4 ⟨rfl, hg4⟩
      obtain ⟨hb0, d0, d1, d2, d3, d4⟩ := hb1.later hg4
      cases hj : jumpsB (f k).op
      · rw [hj] at ej
        have hmk : mvK (f k) m = (f k).k := by unfold mvK; rw [hj]; rfl
        have hmv : mv (f k) m = f k := by unfold mv; rw [hmk]
        rw [hmv] at hli
        obtain ⟨x0, x1, x2, x3, x4⟩ := hli.out.later (hg3.trans hg4)
        obtain ⟨y0, y1, y2, y3, y4⟩ := HLi.out.later (hg3.trans hg4)
        have HQ := hide (mv_right (f k) hok'.out len hlen m hm0 hm1)
        rw [hmk] at HQ
        have HX : Hid (Lies wr g (k * 5) (f k)) := hli
        have GW0 := hg3.trans hg4
        have KK := hok'
        clear hmv hmk
        have hgw := hgr.trans (hg3.trans hg4)
        go_wp2_with (fail)
        go_quiet (fail)
        have HN : Gr w2 (w4.drewN nq) := hgw.drewN _
        go_wp2_with (fail)
        cases hq : rightB (f k).op (f k).a (f k).b (f k).c (f k).k len
        · refine (right_calls _ _ _ _ _ _ hok'.out.1 hok'.out.2 _ (HL.out.later (hg1.trans (hg2.trans HN)))).mono ?_
          rintro e w6 ⟨rfl, hg6⟩
          go_wp2_with (fail)
          go_roundw
          case rel => exact ⟨k + 1, by omega, by go_num, HN.trans hg6⟩
          case measure => simp [intOf]; omega
        · have hq2 := HQ.out hq
          refine (right_calls _ _ _ _ _ _ hok'.out.1 hok'.out.2 _ (HL.out.later (hg1.trans (hg2.trans HN)))).mono ?_
          rintro e w6 ⟨rfl, hg6⟩
          obtain ⟨x0, x1, x2, x3, x4⟩ := HX.out.later ((GW0.drewN nq).trans hg6)
          go_wp2_with (fail)
          refine (right_calls _ _ _ _ _ _ KK.out.1 KK.out.2 _ (HL.out.later (hg1.trans (hg2.trans (HN.trans hg6))))).mono ?_
          rintro e w7 ⟨rfl, hg7⟩
          go_wp2_with (fail)
          go_roundw
          case rel => exact ⟨k + 1, by omega, by go_num, HN.trans (hg6.trans hg7)⟩
          case measure => simp [intOf]; omega
      · rw [hj] at ej
        have hmk : mvK (f k) m = ((f k).k + m) % 4294967296 := by unfold mvK; rw [hj]; rfl
        have hmv : mv (f k) m = ⟨(f k).op, (f k).a, (f k).b, (f k).c, ((f k).k + m) % 4294967296⟩ := by unfold mv; rw [hmk]
        have hz : w4.frozen? ⟨wr.heap.size, 4, none⟩ = false := by
          refine (Below.frozen hg4 hb1.1).trans ?_
          have e : (wr.alloc (.cells #[.int .i64 (f k).op, .int .i64 (f k).a, .int .i64 (f k).b, .int .i64 (f k).c, .int .u32 (f k).k] 24)).heap[wr.heap.size]? = some (.cells #[.int .i64 (f k).op, .int .i64 (f k).a, .int .i64 (f k).b, .int .i64 (f k).c, .int .u32 (f k).k] 24 (0, 0)) := by show (wr.heap.push _)[wr.heap.size]? = _; simp
          exact frozen_of_row _ _ _ _ _ e
        have GW0 : Gr wr (w4.setCell ⟨wr.heap.size, 4, none⟩ (.int .u32 (((f k).k + m) % 4294967296))) := (hg3.trans hg4).setCell (Nat.le_refl _) _
        have HX : Hid (Lies wr g (k * 5) ⟨(f k).op, (f k).a, (f k).b, (f k).c, ((f k).k + m) % 4294967296⟩) := by rw [← hmv]; exact hli
        have KK : Hid (0 ≤ ((f k).k + m) % 4294967296 ∧ ((f k).k + m) % 4294967296 < 4294967296) := by constructor <;> omega
        obtain ⟨x0, x1, x2, x3, x4⟩ := HX.out.later GW0
        obtain ⟨y0, y1, y2, y3, y4⟩ := HLi.out.later GW0
        have HQ := hide (mv_right (f k) hok'.out len hlen m hm0 hm1)
        rw [hmk] at HQ
        clear hmv hmk
        have hgw := hgr.trans GW0
        go_wp2_with (fail)
        go_quiet (fail)
        have HN := hgw.drewN nq
        go_wp2_with (fail)
        cases hq : rightB (f k).op (f k).a (f k).b (f k).c (f k).k len
        · refine (right_calls _ _ _ _ _ _ hok'.out.1 hok'.out.2 _ (HL.out.later (hg1.trans (hg2.trans HN)))).mono ?_
          rintro e w6 ⟨rfl, hg6⟩
          go_wp2_with (fail)
          go_roundw
          case rel => exact ⟨k + 1, by omega, by go_num, HN.trans hg6⟩
          case measure => simp [intOf]; omega
        · have hq2 := HQ.out hq
          refine (right_calls _ _ _ _ _ _ hok'.out.1 hok'.out.2 _ (HL.out.later (hg1.trans (hg2.trans HN)))).mono ?_
          rintro e w6 ⟨rfl, hg6⟩
          obtain ⟨x0, x1, x2, x3, x4⟩ := HX.out.later ((GW0.drewN nq).trans hg6)
          go_wp2_with (fail)
          refine (right_calls _ _ _ _ _ _ KK.out.1 KK.out.2 _ (HL.out.later (hg1.trans (hg2.trans (HN.trans hg6))))).mono ?_
          rintro e w7 ⟨rfl, hg7⟩
          go_wp2_with (fail)
          go_roundw
          case rel => exact ⟨k + 1, by omega, by go_num, HN.trans (hg6.trans hg7)⟩
          case measure => simp [intOf]; omega
    · obtain rfl : k = len := by omega
      go_wp2_with (fail)
      go_ret
      exact ⟨rfl, hg1.trans (hg2.trans hgr)⟩
end Go.Proofs.YtimiggnmihffdaaDoor
