/-
  For any program, in any world in which the codes lie: what the reference's Check answers: the numbers that isa.Check answers. No condition but that.
-/
import Derived.Test.YthooopcoemdphaaDoorCheck2
import Derived.Deep.RegionWith
namespace Go.Proofs.YthooopcoemdphaaDoor
open Go.ChangeShapes Go.WideShapes Go.ChangeAt Go.RowKit Go.Deep
set_option linter.unusedVariables false

/-- a program lies in a block -/
def PBox (g : Nat) (a : Option Addr) (len cap : Nat) (ma : Option Addr) (ml mc : Nat) (room : Int) (w : World) : Prop :=
  w.cell? ⟨g, 0, none⟩ = some (.slice a len cap) ∧ w.cell? ⟨g, 1, none⟩ = some (.slice ma ml mc) ∧ w.cell? ⟨g, 2, none⟩ = some (.int .i64 room)
theorem PBox.later {g : Nat} {a : Option Addr} {len cap : Nat} {ma : Option Addr} {ml mc : Nat} {room : Int} {w w' : World} (h : PBox g a len cap ma ml mc room w) (hg : Gr w w') : PBox g a len cap ma ml mc room w' :=
  ⟨cell_later hg h.1, cell_later hg h.2.1, cell_later hg h.2.2⟩
theorem PBox.fresh (a : Option Addr) (len cap : Nat) (ma : Option Addr) (ml mc : Nat) (room : Int) (w : World) : PBox w.heap.size a len cap ma ml mc room (w.alloc (.cells #[.slice a len cap, .slice ma ml mc, .int .i64 room] 27)) := by
  have e : ∀ o, (w.alloc (.cells #[.slice a len cap, .slice ma ml mc, .int .i64 room] 27)).cell? ⟨w.heap.size, o, none⟩ = _ := fun o => World.cell?_alloc_mark w #[.slice a len cap, .slice ma ml mc, .int .i64 room] 27 (0, 0) o
  exact ⟨(e 0).trans rfl, (e 1).trans rfl, (e 2).trans rfl⟩

set_option maxHeartbeats 1000000 in
theorem qcheck_arg (a : Option Addr) (len cap : Nat) (ma : Option Addr) (ml mc : Nat) (room : Int) (L : Nat → Nat) (F : Nat → Nat → Ins) (w : World) (hm : len ≤ maxLen) (h : argP len room) :
    Calls Tryd.prog 13 #[progV a len cap ma ml mc room] w fun e w' => e = .returned (.tuple #[.int .i64 (pWho len ml room L F), .int .i64 (pAt len ml room L F), .int .i64 (pErr len ml room L F)]) ∧ Gr w w' := by
  have e1 : pWho len ml room L F = -1 := by unfold pWho; rw [if_pos h]
  have e2 : pAt len ml room L F = -1 := by unfold pAt; rw [if_pos h]
  have e3 : pErr len ml room L F = 1 := by unfold pErr; rw [if_pos h]
  rw [e1, e2, e3]
  clear e1 e2 e3
  unfold argP at h
  unfold maxLen at hm
  go_enter Tryd.func13, Tryd.ntmps13
  by_cases h1 : len = 0
  · subst h1
    go_wp2
    go_ret3
    exact ⟨rfl, Gr.alloc (Gr.refl _) _ _⟩
  have h0 : ((len : Int) == 0) = false := by simp; omega
  by_cases h2 : 8 < (len : Int)
  · go_wp2
    go_ret3
    exact ⟨rfl, Gr.alloc (Gr.refl _) _ _⟩
  by_cases h3 : room < 1
  · go_wp2
    go_ret3
    exact ⟨rfl, Gr.alloc (Gr.refl _) _ _⟩
  · have h4 : 16 < room := by omega
    go_wp2
    go_ret3
    exact ⟨rfl, Gr.alloc (Gr.refl _) _ _⟩

set_option maxHeartbeats 1000000 in
theorem qcheck_mem (a : Option Addr) (len cap : Nat) (ma : Option Addr) (ml mc : Nat) (room : Int) (L : Nat → Nat) (F : Nat → Nat → Ins) (w : World) (hml : ml ≤ maxLen) (h : ¬ argP len room) (h5 : 1024 < ml) :
    Calls Tryd.prog 13 #[progV a len cap ma ml mc room] w fun e w' => e = .returned (.tuple #[.int .i64 (pWho len ml room L F), .int .i64 (pAt len ml room L F), .int .i64 (pErr len ml room L F)]) ∧ Gr w w' := by
  have h' : ¬ len < 1 ∧ ¬ 8 < len ∧ ¬ room < 1 ∧ ¬ 16 < room := by unfold argP at h; omega
  obtain ⟨h1, h2, h3, h4⟩ := h'
  have h0 : ((len : Int) == 0) = false := by simp; omega
  have e1 : pWho len ml room L F = -1 := by unfold pWho; rw [if_neg h, if_pos h5]
  have e2 : pAt len ml room L F = -1 := by unfold pAt; rw [if_neg h, if_pos h5]
  have e3 : pErr len ml room L F = 4 := by unfold pErr; rw [if_neg h, if_pos h5]
  rw [e1, e2, e3]
  clear e1 e2 e3 h
  unfold maxLen at hml
  go_enter Tryd.func13, Tryd.ntmps13
  go_wp2
  go_ret3
  exact ⟨rfl, Gr.alloc (Gr.refl _) _ _⟩

set_option maxHeartbeats 4000000 in
theorem qcheck_no (a : Option Addr) (len cap : Nat) (ma : Option Addr) (ml mc : Nat) (room : Int) (A : Nat → Option Addr) (L C : Nat → Nat) (F : Nat → Nat → Ins) (w : World) (hr : CodeRow w a len A L C F) (hml : ml ≤ maxLen) (h : ¬ argP len room) (h5 : ¬ 1024 < ml) :
    Calls Tryd.prog 13 #[progV a len cap ma ml mc room] w fun e w' => e = .returned (.tuple #[.int .i64 (pWho len ml room L F), .int .i64 (pAt len ml room L F), .int .i64 (pErr len ml room L F)]) ∧ Gr w w' := by
  have h' : ¬ len < 1 ∧ ¬ 8 < len ∧ ¬ room < 1 ∧ ¬ 16 < room := by unfold argP at h; omega
  obtain ⟨h1, h2, h3, h4⟩ := h'
  have h0 : ((len : Int) == 0) = false := by simp; omega
  have hg0 := Gr.alloc (Gr.refl w) #[.slice a len cap, .slice ma ml mc, .int .i64 room] 27
  have HB := hide (PBox.fresh a len cap ma ml mc room w)
  have HR := hide hr
  have HA := hide h
  clear hr h
  unfold maxLen at hml
  go_enter Tryd.func13, Tryd.ntmps13
  go_wp2
  generalize w.alloc (.cells #[.slice a len cap, .slice ma ml mc, .int .i64 room] 27) = w1 at hg0 HB ⊢
  go_loopw [5] (fun i wr => ∃ k : Nat, k ≤ len ∧ i = .int .i64 k ∧ Hid (badT L F len = firstT L F (len - k) k) ∧ Gr w1 wr) (fun i _ => len - (intOf i).toNat)
  case atStart => exact ⟨0, by omega, rfl, rfl, Gr.refl _⟩
  case round =>
    obtain ⟨k, hk, rfl, hd, hgr⟩ := hrel
    obtain ⟨b0, b1, b2⟩ := HB.out.later hgr
    by_cases hlt : k < len
    · obtain ⟨b, off, av, rfl, hc0, hrow⟩ : ∃ b off av, a = some ⟨b, off, none⟩ ∧ (Hid (w1.cell? ⟨b, off + k, none⟩ = some (.slice av (L k) (C k))) ∧ Hid (InsRow w1 av (L k) (F k))) := by
        rcases HR.out.2 with h0 | ⟨b, off, ha, hl⟩
        · omega
        · exact ⟨b, off, A k, ha, cell_later hg0 (hl k hlt).1, (hl k hlt).2.later hg0⟩
      have hc := cell_later hgr hc0.out
      have hm := hrow.out.1
      unfold maxLen at hm
      by_cases hlen : 4000 < L k
      · have c1 : cAt (F k) (L k) = -1 := by unfold cAt; rw [if_pos hlen]
        have c2 : cErr (F k) (L k) = 4 := by unfold cErr; rw [if_pos hlen]
        have hne : ¬ cErr (F k) (L k) = 0 := by rw [c2]; decide
        have eb : badT L F len = k := by rw [hd.out, show len - k = (len - k - 1) + 1 by omega]; exact firstT_hit L F _ k hne
        have e1 : pWho len ml room L F = k := by unfold pWho; rw [if_neg HA.out, if_neg h5, eb, if_pos hlt]
        have e2 : pAt len ml room L F = -1 := by unfold pAt; rw [if_neg HA.out, if_neg h5, eb, if_pos hlt, c1]
        have e3 : pErr len ml room L F = 4 := by unfold pErr; rw [if_neg HA.out, if_neg h5, eb, if_pos hlt, c2]
        clear eb hne c1 c2
        go_wp2_with (fail)
        go_ret3
        exact ⟨ret3i e1.symm e2.symm e3.symm, hg0.trans hgr⟩
      · go_wp2_with (fail)
        go_loopw [6] (fun i wr => ∃ j : Nat, j ≤ L k ∧ i = .int .i64 j ∧ Hid (bad (F k) (L k) = firstBad (F k) (L k) (L k - j) j) ∧ Gr w1 wr) (fun i _ => L k - (intOf i).toNat)
        case atStart => exact ⟨0, by omega, rfl, rfl, hgr⟩
        case round =>
          obtain ⟨j, hj, rfl, hdj, hgj⟩ := hrel
          obtain ⟨b0, b1, b2⟩ := HB.out.later hgj
          have hcj := cell_later hgj hc0.out
          by_cases hltj : j < L k
          · obtain ⟨b', off', rfl, hl⟩ : ∃ b' off', av = some ⟨b', off', none⟩ ∧ (Lies wr b' (off' + j * 5) (F k j) ∧ (F k j).ok) := by
              rcases hrow.out.2 with h0 | ⟨b2, off2, ha2, hl2⟩
              · omega
              · exact ⟨b2, off2, ha2, (hl2 j hltj).1.later hgj, (hl2 j hltj).2⟩
            obtain ⟨⟨c0, c1, c2, c3, c4⟩, hok⟩ := hl
            have hok' := hide hok
            clear hok
            cases hq : okB (F k j) (L k)
            · have hq' : rightB (F k j).op (F k j).a (F k j).b (F k j).c (F k j).k (L k) = false := hq
              have ebj : bad (F k) (L k) = j := by rw [hdj.out, show L k - j = (L k - j - 1) + 1 by omega]; exact firstBad_hit (F k) (L k) _ j hq
              have c1' : cAt (F k) (L k) = j := by unfold cAt; rw [if_neg hlen, ebj, if_pos hltj]
              have c2' : cErr (F k) (L k) = 3 := by unfold cErr; rw [if_neg hlen, ebj, if_pos hltj]
              have hne : ¬ cErr (F k) (L k) = 0 := by rw [c2']; decide
              have eb : badT L F len = k := by rw [hd.out, show len - k = (len - k - 1) + 1 by omega]; exact firstT_hit L F _ k hne
              have e1 : pWho len ml room L F = k := by unfold pWho; rw [if_neg HA.out, if_neg h5, eb, if_pos hlt]
              have e2 : pAt len ml room L F = j := by unfold pAt; rw [if_neg HA.out, if_neg h5, eb, if_pos hlt, c1']
              have e3 : pErr len ml room L F = 3 := by unfold pErr; rw [if_neg HA.out, if_neg h5, eb, if_pos hlt, c2']
              clear eb hne c1' c2' ebj hq
              go_wp2_with (fail)
              go_region_with (go_at_call 22; refine (refright_calls _ _ _ _ _ _ hok'.out.1 hok'.out.2 _).mono ?_; rintro e w2 ⟨rfl, hg2⟩)
              all_goals
                go_wp2
                go_ret3
                exact ⟨ret3i e1.symm e2.symm e3.symm, hg0.trans (hgj.drew.trans hg2)⟩
            · have hq' : rightB (F k j).op (F k j).a (F k j).b (F k j).c (F k j).k (L k) = true := hq
              have ebj : Hid (bad (F k) (L k) = firstBad (F k) (L k) (L k - (j + 1)) (j + 1)) := by
                show bad (F k) (L k) = _
                rw [hdj.out, show L k - j = (L k - (j + 1)) + 1 by omega]
                exact firstBad_skip (F k) (L k) _ j hq
              clear hq
              go_wp2_with (fail)
              go_region_with (go_at_call 22; refine (refright_calls _ _ _ _ _ _ hok'.out.1 hok'.out.2 _).mono ?_; rintro e w2 ⟨rfl, hg2⟩)
              all_goals
                go_wp2
                go_roundw
                case rel => exact ⟨j + 1, by omega, by go_num, ebj, hgj.drew.trans hg2⟩
                case measure => simp [intOf]; omega
          · obtain hjL : j = L k := by omega
            have ebj : bad (F k) (L k) = L k := by
              rw [hdj.out, hjL, show L k - L k = 0 by omega]
              rfl
            have c2' : cErr (F k) (L k) = 0 := by unfold cErr; rw [if_neg hlen, ebj, if_neg (by omega)]
            have eb : Hid (badT L F len = firstT L F (len - (k + 1)) (k + 1)) := by
              show badT L F len = _
              rw [hd.out, show len - k = (len - (k + 1)) + 1 by omega]
              exact firstT_skip L F _ k c2'
            clear ebj c2' hjL
            go_wp2_with (fail)
            exact ⟨⟨k + 1, by omega, by go_num, eb, hgj⟩, by simp [intOf]; omega⟩
    · obtain rfl : k = len := by omega
      have eb : badT L F k = k := by
        rw [hd.out, show k - k = 0 by omega]
        rfl
      have e1 : pWho k ml room L F = 0 := by unfold pWho; rw [if_neg HA.out, if_neg h5, eb, if_neg (by omega)]
      have e2 : pAt k ml room L F = 0 := by unfold pAt; rw [if_neg HA.out, if_neg h5, eb, if_neg (by omega)]
      have e3 : pErr k ml room L F = 0 := by unfold pErr; rw [if_neg HA.out, if_neg h5, eb, if_neg (by omega)]
      clear eb
      go_wp2_with (fail)
      go_ret3
      exact ⟨ret3i e1.symm e2.symm e3.symm, hg0.trans hgr⟩

theorem qcheck_calls (a : Option Addr) (len cap : Nat) (ma : Option Addr) (ml mc : Nat) (room : Int) (A : Nat → Option Addr) (L C : Nat → Nat) (F : Nat → Nat → Ins) (w : World) (hr : CodeRow w a len A L C F) (hml : ml ≤ maxLen) :
    Calls Tryd.prog 13 #[progV a len cap ma ml mc room] w fun e w' => e = .returned (.tuple #[.int .i64 (pWho len ml room L F), .int .i64 (pAt len ml room L F), .int .i64 (pErr len ml room L F)]) ∧ Gr w w' := by
  by_cases h : argP len room
  · exact qcheck_arg a len cap ma ml mc room L F w hr.1 h
  · by_cases h5 : 1024 < ml
    · exact qcheck_mem a len cap ma ml mc room L F w hml h h5
    · exact qcheck_no a len cap ma ml mc room A L C F w hr hml h h5
end Go.Proofs.YthooopcoemdphaaDoor
