/-
  The iterator that trace.Of hands out: it tells each of the events, with its place, in order, as long as it is told to go on; for whatever body of a range that leaves the events as they are. No condition but that.
-/
import Derived.Test.YtfhplbmgjgfihaaOfW
import Derived.RangeFuncNested
import Derived.RangeFuncBound
import Derived.RangeFuncCalls
import Derived.RangeFuncLeaves
import Derived.RangeFuncBox
import Derived.Shelf.Abstract
import Derived.Shelf.RegionOpen
import Derived.OwnWalkIn
import Derived.TacticsInMore
import Derived.LoopNIn
import Derived.LoopIn
namespace Go.Proofs.Ytfhplbmgjgfihaa
open Go.ChangeShapes Go.WideShapes Go.ChangeAt Go.RowKit Go.Shelf
set_option linter.unusedVariables false
set_option maxRecDepth 20000

attribute [local go_sem] Oper.semAt_some

/-- what the loop's variables are given -/
abbrev encP (p : Pl) : Array Value := #[.int .i64 p.pos, .agg (evA p.ev)]

set_option maxHeartbeats 2000000 in
theorem each_in (n : Nat) (hn : 1 ≤ n) (l Bs : Nat) (a : Option Addr) (cap : Nat) (ps : List Pl) (hps : ps.length ≤ 900) (J Jx : List Pl → World → Prop) (B : Nat) (hJ : AbidesFrom B J)
    (hY : ∀ pre x W, J pre W → pre.length < ps.length → YieldAt Fence.wide (n - 1) Try.prog l (encP x) W fun e W' =>
      (e = .returned (.bool true) ∧ J (pre ++ [x]) W' ∧ Stay (blkOf a) W W') ∨ (e = .returned (.bool false) ∧ Jx (pre ++ [x]) W'))
    (W : World) (hBs : W.cell? ⟨Bs, 0, none⟩ = some (.slice a ps.length cap)) (hc : RowAt W a (flatOf plL ps)) (h0 : J [] W) :
    CallsIn Fence.wide n Try.prog 19 #[.func (.yield l) #[] #[], .pointer (some ⟨Bs, 0, none⟩)] W fun e W' => (∃ v, e = .returned v) ∧
      ((∃ ys, ys = ps ∧ J ys W') ∨ (∃ pre, pre <+: ps ∧ Jx pre W')) := by
  have HC := hide hc
  clear hc
  refine callsIn_of_wp Try.func19 rfl trivial ?_ rfl
  simp only [Try.ntmps19, List.size_toArray, List.length_cons, List.length_nil, Nat.reduceAdd, Nat.reduceSub, Array.replicate_succ, Array.replicate_zero, List.push_toArray, List.append_toArray, List.nil_append, List.cons_append]
  gi_wp2
  gi_loopw [7] (fun i wr => ∃ k : Nat, k ≤ ps.length ∧ i = .int .i64 k ∧ J (ps.take k) wr ∧ Hid (RowAt wr a (flatOf plL ps)))
    (fun i _ => ps.length - (intOf i).toNat)
  case atStart => exact ⟨0, Nat.zero_le _, rfl, h0, HC⟩
  case round =>
    clear HC
    obtain ⟨k, hk, rfl, hJs, hr⟩ := hrel
    by_cases hlt : k < ps.length
    · have hlt' : (k : Int) < ps.length := by omega
      obtain ⟨b, off, had, -⟩ := hr.out.get (by rw [flatOf_length plL_len]; omega)
      subst had
      have c0 := hr.out.cell plL_len hlt pl0 0 (by omega)
      have c1 := hr.out.cell plL_len hlt pl0 1 (by omega)
      have c2 := hr.out.cell plL_len hlt pl0 2 (by omega)
      have c3 := hr.out.cell plL_len hlt pl0 3 (by omega)
      have c4 := hr.out.cell plL_len hlt pl0 4 (by omega)
      have c5 := hr.out.cell plL_len hlt pl0 5 (by omega)
      have c6 := hr.out.cell plL_len hlt pl0 6 (by omega)
      have c7 := hr.out.cell plL_len hlt pl0 7 (by omega)
      have c8 := hr.out.cell plL_len hlt pl0 8 (by omega)
      have hT := take_snoc' hlt pl0
      have hJ1 : ∀ p : Pl, J (ps.take k) (wr.alloc (.cells (plA p.pos p.ev) 49)) := fun p => hJ _ _ _ none hJs (World.grownBy_alloc wr _ none) (fun r e => by cases e)
      have hlk : (ps.take k).length < ps.length := by rw [List.length_take]; omega
      generalize ps.getD k pl0 = x at c0 c1 c2 c3 c4 c5 c6 c7 c8 hT
      obtain ⟨fn, tmps, assign, body, hy, hR⟩ := hY _ x _ (hJ1 x) hlk
      have HR := hide hR
      have HT := hide hT
      have hg1 : Hid (RowAt (wr.alloc (.cells (plA x.pos x.ev) 49)) (some ⟨b, off, none⟩) (flatOf plL ps)) := hr.out.later ((Gr.refl wr).alloc _ _)
      dsimp only [encP] at hy
      simp only [plL, evL, List.getElem?_cons_zero, List.getElem?_cons_succ, Nat.add_zero, ← Nat.add_assoc] at c0 c1 c2 c3 c4 c5 c6 c7 c8
      clear hR hT hJ1 hr
      gi_wp2
      refine HR.out.mono ?_
      rintro e W3 (⟨rfl, hJ3, hk3⟩ | ⟨rfl, hJx3⟩)
      · gi_wp2
        go_roundw
        case rel => exact ⟨k + 1, by omega, by simp, by rw [HT.out]; exact hJ3, hg1.out.stay hk3⟩
        case measure => simp [intOf]; omega
      · gi_wp2
        refine bodyPost_ret (results_none rfl _ _ _) rfl ?_
        exact ⟨⟨_, rfl⟩, .inr ⟨_, ⟨ps.drop (k + 1), by rw [← HT.out, List.take_append_drop]⟩, hJx3⟩⟩
    · obtain rfl : k = ps.length := by omega
      gi_wp2
      go_end0
      exact ⟨⟨_, rfl⟩, .inl ⟨_, List.take_length, hJs⟩⟩

/-- the iterator, by its contract -/
theorem each_stops (n : Nat) (hn : 1 ≤ n) (Bs : Nat) (a : Option Addr) (cap : Nat) (ps : List Pl) (hps : ps.length ≤ 900) (w : World) (hB : Has w Bs #[.slice a ps.length cap] 47) (hc : RowAt w a (flatOf plL ps)) :
    SeqStopsK Fence.wide n Try.prog 19 #[.pointer (some ⟨Bs, 0, none⟩)] encP (Stay (blkOf a)) (fun ys => ys = ps) (fun pre => pre <+: ps) ps.length w := by
  intro l J Jx W hW hJ _ hY h0
  exact each_in n hn l Bs a cap ps hps J Jx W.heap.size hJ hY W ((hB.later hW).cell rfl) (hc.later hW) h0
end Go.Proofs.Ytfhplbmgjgfihaa
