/-
  For any code, in any world in which the program's tables lie and the code lies: what isa.checkCode answers, said by plain numbers. No condition but that.
-/
import Derived.Test.YthooopcoemdphaaDoorRefRight
import Derived.Test.YthooopcoemdphaaDoorOpen
namespace Go.Proofs.YthooopcoemdphaaDoor
open Go.ChangeShapes Go.WideShapes Go.ChangeAt Go.RowKit Go.Deep
set_option linter.unusedVariables false

def okB (i : Ins) (size : Int) : Bool := rightB i.op i.a i.b i.c i.k size
/-- the first of m places from k on at which what stands may not stand in a code of so many; k + m, if there is none -/
def firstBad (f : Nat → Ins) (size : Int) : Nat → Nat → Nat
  | 0, k => k
  | m + 1, k => if okB (f k) size then firstBad f size m (k + 1) else k
theorem firstBad_skip (f : Nat → Ins) (size : Int) (m k : Nat) (h : okB (f k) size = true) : firstBad f size (m + 1) k = firstBad f size m (k + 1) := by
  show (if okB (f k) size then _ else _) = _
  rw [if_pos h]
theorem firstBad_hit (f : Nat → Ins) (size : Int) (m k : Nat) (h : okB (f k) size = false) : firstBad f size (m + 1) k = k := by
  show (if okB (f k) size then _ else _) = _
  rw [if_neg (by rw [h]; exact Bool.false_ne_true)]
def bad (f : Nat → Ins) (len : Nat) : Nat := firstBad f len len 0
def cAt (f : Nat → Ins) (len : Nat) : Int := if 4000 < len then -1 else if bad f len < len then (bad f len : Int) else 0
def cErr (f : Nat → Ins) (len : Nat) : Int := if 4000 < len then 4 else if bad f len < len then 3 else 0

theorem ret2i {x y u v : Int} (h : x = y) (h' : u = v) : Ending.returned (.tuple #[.int .i64 x, .int .i64 u]) = .returned (.tuple #[.int .i64 y, .int .i64 v]) := by rw [h, h']

set_option maxHeartbeats 1000000 in
theorem check_calls (a : Option Addr) (len cap : Nat) (f : Nat → Ins) (w : World) (L : Laid w) (hr : InsRow w a len f) :
    Calls Tryd.prog 27 #[.slice a len cap] w fun e w' => e = .returned (.tuple #[.int .i64 (cAt f len), .int .i64 (cErr f len)]) ∧ Gr w w' := by
  have HL := hide L
  have HR := hide hr
  have hm := hr.1
  unfold maxLen at hm
  clear L hr
  by_cases hlen : 4000 < len
  · have e1 : cAt f len = -1 := by unfold cAt; rw [if_pos hlen]
    have e2 : cErr f len = 4 := by unfold cErr; rw [if_pos hlen]
    go_enter Tryd.func27, Tryd.ntmps27
    go_wp2
    go_ret2
    exact ⟨ret2i e1.symm e2.symm, Gr.refl _⟩
  · go_enter Tryd.func27, Tryd.ntmps27
    go_wp2
    go_loopw [11] (fun i wr => ∃ k : Nat, k ≤ len ∧ i = .int .i64 k ∧ Hid (bad f len = firstBad f len (len - k) k) ∧ Gr w wr) (fun i _ => len - (intOf i).toNat)
    case atStart => exact ⟨0, by omega, rfl, rfl, Gr.refl _⟩
    case round =>
      obtain ⟨k, hk, rfl, hd, hgr⟩ := hrel
      by_cases hlt : k < len
      · obtain ⟨b, off, rfl, hl⟩ : ∃ b off, a = some ⟨b, off, none⟩ ∧ (Lies wr b (off + k * 5) (f k) ∧ (f k).ok) := by
          rcases HR.out.2 with h0 | ⟨b, off, ha, hl⟩
          · omega
          · exact ⟨b, off, ha, (hl k hlt).1.later hgr, (hl k hlt).2⟩
        obtain ⟨⟨c0, c1, c2, c3, c4⟩, hok⟩ := hl
        have hg1 : Gr w (wr.alloc (.cells #[.int .i64 (f k).op, .int .i64 (f k).a, .int .i64 (f k).b, .int .i64 (f k).c, .int .u32 (f k).k] 47)) := hgr.alloc _ _
        go_wp2_with (fail)
        cases hq : okB (f k) len
        · refine (right_calls _ _ _ _ _ _ hok.1 hok.2 _ (HL.out.later hg1)).mono ?_
          rintro e w2 ⟨rfl, hg2⟩
          have hq' : rightB (f k).op (f k).a (f k).b (f k).c (f k).k len = false := hq
          have eb : bad f len = k := by rw [hd.out, show len - k = (len - k - 1) + 1 by omega]; exact firstBad_hit f len _ k hq
          have e1 : cAt f len = k := by unfold cAt; rw [if_neg hlen, eb, if_pos hlt]
          have e2 : cErr f len = 3 := by unfold cErr; rw [if_neg hlen, eb, if_pos hlt]
          clear eb hq
          go_wp2_with (fail)
          go_ret2
          exact ⟨ret2i e1.symm e2.symm, hg1.trans hg2⟩
        · refine (right_calls _ _ _ _ _ _ hok.1 hok.2 _ (HL.out.later hg1)).mono ?_
          rintro e w2 ⟨rfl, hg2⟩
          have hq' : rightB (f k).op (f k).a (f k).b (f k).c (f k).k len = true := hq
          have eb : Hid (bad f len = firstBad f len (len - (k + 1)) (k + 1)) := by
            show bad f len = _
            rw [hd.out, show len - k = (len - (k + 1)) + 1 by omega]
            exact firstBad_skip f len _ k hq
          clear hq
          go_wp2_with (fail)
          exact ⟨⟨k + 1, by omega, by go_num, eb, hg1.trans hg2⟩, by simp [intOf]; omega⟩
      · obtain rfl : k = len := by omega
        have eb : bad f k = k := by
          rw [hd.out, show k - k = 0 by omega]
          rfl
        have e1 : cAt f k = 0 := by unfold cAt; rw [if_neg hlen, eb, if_neg (by omega)]
        have e2 : cErr f k = 0 := by unfold cErr; rw [if_neg hlen, eb, if_neg (by omega)]
        clear eb
        go_wp2_with (fail)
        go_ret2
        exact ⟨ret2i e1.symm e2.symm, hgr⟩
end Go.Proofs.YthooopcoemdphaaDoor
