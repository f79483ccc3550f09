/-
  For any program, in any world in which the program's tables lie and the codes lie: what isa.Check answers, said by plain numbers. No condition but that.
-/
import Derived.Test.YthooopcoemdphaaDoorCheck
namespace Go.Proofs.YthooopcoemdphaaDoor
open Go.ChangeShapes Go.WideShapes Go.ChangeAt Go.RowKit Go.Deep
set_option linter.unusedVariables false

/-- the first of m threads from k on whose code is wrong; k + m, if there is none -/
def firstT (L : Nat → Nat) (F : Nat → Nat → Ins) : Nat → Nat → Nat
  | 0, k => k
  | m + 1, k => if cErr (F k) (L k) = 0 then firstT L F m (k + 1) else k
theorem firstT_skip (L : Nat → Nat) (F : Nat → Nat → Ins) (m k : Nat) (h : cErr (F k) (L k) = 0) : firstT L F (m + 1) k = firstT L F m (k + 1) := by
  show (if cErr (F k) (L k) = 0 then _ else _) = _
  rw [if_pos h]
theorem firstT_hit (L : Nat → Nat) (F : Nat → Nat → Ins) (m k : Nat) (h : ¬ cErr (F k) (L k) = 0) : firstT L F (m + 1) k = k := by
  show (if cErr (F k) (L k) = 0 then _ else _) = _
  rw [if_neg h]
def badT (L : Nat → Nat) (F : Nat → Nat → Ins) (len : Nat) : Nat := firstT L F len 0
abbrev argP (len : Nat) (room : Int) : Prop := len < 1 ∨ 8 < len ∨ room < 1 ∨ 16 < room
def pWho (len ml : Nat) (room : Int) (L : Nat → Nat) (F : Nat → Nat → Ins) : Int :=
  if argP len room then -1 else if 1024 < ml then -1 else if badT L F len < len then (badT L F len : Int) else 0
def pAt (len ml : Nat) (room : Int) (L : Nat → Nat) (F : Nat → Nat → Ins) : Int :=
  if argP len room then -1 else if 1024 < ml then -1 else if badT L F len < len then cAt (F (badT L F len)) (L (badT L F len)) else 0
def pErr (len ml : Nat) (room : Int) (L : Nat → Nat) (F : Nat → Nat → Ins) : Int :=
  if argP len room then 1 else if 1024 < ml then 4 else if badT L F len < len then cErr (F (badT L F len)) (L (badT L F len)) else 0

theorem ret3i {x y u v s t : Int} (h : x = y) (h' : u = v) (h'' : s = t) : Ending.returned (.tuple #[.int .i64 x, .int .i64 u, .int .i64 s]) = .returned (.tuple #[.int .i64 y, .int .i64 v, .int .i64 t]) := by rw [h, h', h'']

abbrev progV (a : Option Addr) (len cap : Nat) (ma : Option Addr) (ml mc : Nat) (room : Int) : Value := .agg #[.slice a len cap, .slice ma ml mc, .int .i64 room]

set_option maxHeartbeats 1000000 in
theorem pcheck_arg (a : Option Addr) (len cap : Nat) (ma : Option Addr) (ml mc : Nat) (room : Int) (L : Nat → Nat) (F : Nat → Nat → Ins) (w : World) (hm : len ≤ maxLen) (h : argP len room) :
    Calls Tryd.prog 18 #[progV a len cap ma ml mc room] w fun e w' => e = .returned (.tuple #[.int .i64 (pWho len ml room L F), .int .i64 (pAt len ml room L F), .int .i64 (pErr len ml room L F)]) ∧ Gr w w' := by
  have e1 : pWho len ml room L F = -1 := by unfold pWho; rw [if_pos h]
  have e2 : pAt len ml room L F = -1 := by unfold pAt; rw [if_pos h]
  have e3 : pErr len ml room L F = 1 := by unfold pErr; rw [if_pos h]
  rw [e1, e2, e3]
  clear e1 e2 e3
  unfold argP at h
  unfold maxLen at hm
  go_enter Tryd.func18, Tryd.ntmps18
  by_cases h1 : (len : Int) < 1
  · go_wp2
    go_ret3
    exact ⟨rfl, Gr.alloc (Gr.refl _) _ _⟩
  by_cases h2 : 8 < (len : Int)
  · go_wp2
    go_ret3
    exact ⟨rfl, Gr.alloc (Gr.refl _) _ _⟩
  by_cases h3 : room < 1
  · go_wp2
    go_ret3
    exact ⟨rfl, Gr.alloc (Gr.refl _) _ _⟩
  · have h4 : 16 < room := by omega
    go_wp2
    go_ret3
    exact ⟨rfl, Gr.alloc (Gr.refl _) _ _⟩

set_option maxHeartbeats 1000000 in
theorem pcheck_no (a : Option Addr) (len cap : Nat) (ma : Option Addr) (ml mc : Nat) (room : Int) (A : Nat → Option Addr) (L C : Nat → Nat) (F : Nat → Nat → Ins) (w : World) (LD : Laid w) (hr : CodeRow w a len A L C F) (hml : ml ≤ maxLen) (h : ¬ argP len room) :
    Calls Tryd.prog 18 #[progV a len cap ma ml mc room] w fun e w' => e = .returned (.tuple #[.int .i64 (pWho len ml room L F), .int .i64 (pAt len ml room L F), .int .i64 (pErr len ml room L F)]) ∧ Gr w w' := by
  have h' : ¬ len < 1 ∧ ¬ 8 < len ∧ ¬ room < 1 ∧ ¬ 16 < room := by unfold argP at h; omega
  obtain ⟨h1, h2, h3, h4⟩ := h'
  have HL := hide LD
  have HR := hide hr
  have HA := hide h
  clear LD hr h
  unfold maxLen at hml
  have hg0 := Gr.alloc (Gr.refl w) #[.slice a len cap, .slice ma ml mc, .int .i64 room] 27
  by_cases h5 : 1024 < ml
  · have e1 : pWho len ml room L F = -1 := by unfold pWho; rw [if_neg HA.out, if_pos h5]
    have e2 : pAt len ml room L F = -1 := by unfold pAt; rw [if_neg HA.out, if_pos h5]
    have e3 : pErr len ml room L F = 4 := by unfold pErr; rw [if_neg HA.out, if_pos h5]
    rw [e1, e2, e3]
    clear e1 e2 e3
    go_enter Tryd.func18, Tryd.ntmps18
    go_wp2
    go_ret3
    exact ⟨rfl, Gr.alloc (Gr.refl _) _ _⟩
  · go_enter Tryd.func18, Tryd.ntmps18
    go_wp2
    go_loopw [36] (fun i wr => ∃ k : Nat, k ≤ len ∧ i = .int .i64 k ∧ Hid (badT L F len = firstT L F (len - k) k) ∧ Gr w wr) (fun i _ => len - (intOf i).toNat)
    case atStart => exact ⟨0, by omega, rfl, rfl, hg0⟩
    case round =>
      obtain ⟨k, hk, rfl, hd, hgr⟩ := hrel
      by_cases hlt : k < len
      · obtain ⟨b, off, rfl, hc, hrow⟩ : ∃ b off, a = some ⟨b, off, none⟩ ∧ (wr.cell? ⟨b, off + k, none⟩ = some (.slice (A k) (L k) (C k)) ∧ Hid (InsRow wr (A k) (L k) (F k))) := by
          rcases HR.out.2 with h0 | ⟨b, off, ha, hl⟩
          · omega
          · exact ⟨b, off, ha, cell_later hgr (hl k hlt).1, (hl k hlt).2.later hgr⟩
        cases hq : (cErr (F k) (L k) == 0)
        · have hne : ¬ cErr (F k) (L k) = 0 := by simpa using hq
          have eb : badT L F len = k := by rw [hd.out, show len - k = (len - k - 1) + 1 by omega]; exact firstT_hit L F _ k hne
          have e1 : pWho len ml room L F = k := by unfold pWho; rw [if_neg HA.out, if_neg h5, eb, if_pos hlt]
          have e2 : pAt len ml room L F = cAt (F k) (L k) := by unfold pAt; rw [if_neg HA.out, if_neg h5, eb, if_pos hlt]
          have e3 : pErr len ml room L F = cErr (F k) (L k) := by unfold pErr; rw [if_neg HA.out, if_neg h5, eb, if_pos hlt]
          clear eb hne
          go_wp2_with (go_at_call 27; refine (check_calls _ _ _ (F k) _ (HL.out.later hgr) hrow.out).mono ?_; rintro e w2 ⟨rfl, hg2⟩)
          go_ret3
          exact ⟨ret3i e1.symm e2.symm e3.symm, hgr.trans hg2⟩
        · have hne : cErr (F k) (L k) = 0 := by simpa using hq
          have eb : Hid (badT L F len = firstT L F (len - (k + 1)) (k + 1)) := by
            show badT L F len = _
            rw [hd.out, show len - k = (len - (k + 1)) + 1 by omega]
            exact firstT_skip L F _ k hne
          clear hne
          go_wp2_with (go_at_call 27; refine (check_calls _ _ _ (F k) _ (HL.out.later hgr) hrow.out).mono ?_; rintro e w2 ⟨rfl, hg2⟩)
          exact ⟨⟨k + 1, by omega, by go_num, eb, hgr.trans hg2⟩, by simp [intOf]; omega⟩
      · obtain rfl : k = len := by omega
        have eb : badT L F k = k := by
          rw [hd.out, show k - k = 0 by omega]
          rfl
        have e1 : pWho k ml room L F = 0 := by unfold pWho; rw [if_neg HA.out, if_neg h5, eb, if_neg (by omega)]
        have e2 : pAt k ml room L F = 0 := by unfold pAt; rw [if_neg HA.out, if_neg h5, eb, if_neg (by omega)]
        have e3 : pErr k ml room L F = 0 := by unfold pErr; rw [if_neg HA.out, if_neg h5, eb, if_neg (by omega)]
        clear eb
        go_wp2_with (fail)
        go_ret3
        exact ⟨ret3i e1.symm e2.symm e3.symm, hgr⟩

theorem pcheck_calls (a : Option Addr) (len cap : Nat) (ma : Option Addr) (ml mc : Nat) (room : Int) (A : Nat → Option Addr) (L C : Nat → Nat) (F : Nat → Nat → Ins) (w : World) (LD : Laid w) (hr : CodeRow w a len A L C F) (hml : ml ≤ maxLen) :
    Calls Tryd.prog 18 #[progV a len cap ma ml mc room] w fun e w' => e = .returned (.tuple #[.int .i64 (pWho len ml room L F), .int .i64 (pAt len ml room L F), .int .i64 (pErr len ml room L F)]) ∧ Gr w w' := by
  by_cases h : argP len room
  · exact pcheck_arg a len cap ma ml mc room L F w hr.1 h
  · exact pcheck_no a len cap ma ml mc room A L C F w LD hr hml h
end Go.Proofs.YthooopcoemdphaaDoor
