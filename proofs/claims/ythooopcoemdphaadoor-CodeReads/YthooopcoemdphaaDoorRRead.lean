/-
  For any bytes: the reference's Read answers what the bytes tell, or the place and what is wrong first: what code.Read answers. Conditions: at most 2^40 bytes.
-/
import Derived.Test.YthooopcoemdphaaDoorRInv
import Derived.Test.YthooopcoemdphaaDoorRAt
import Derived.Test.YthooopcoemdphaaDoorSame
import Derived.Deep.RegionHeld3
namespace Go.Proofs.YthooopcoemdphaaDoor
open Go.ChangeShapes Go.WideShapes Go.ChangeAt Go.RowKit Go.Deep
set_option linter.unusedVariables false

theorem readP_at {L : List Int} {w wr : World} {x y : Int} (ER : readB L = (pg0, x, y)) (hG : Gr w wr) : ReadP L w (.returned (.tuple #[.agg #[.slice none 0 0, .slice none 0 0, .int .i64 0], .int .i64 x, .int .i64 y])) wr :=
  ⟨_, by rw [ER], by rw [ER]; exact progAt_nil _, hG⟩
theorem byte_at {w : World} {a : Option Addr} {L : List Int} (h : BytesAt w a L) (h0 : 0 < L.length) : ∃ b off, a = some ⟨b, off, none⟩ ∧ ∀ {j}, j < L.length → w.cell? ⟨b, off + j, none⟩ = some (.int .u8 (L.getD j 0)) := by
  rcases h with h | ⟨b, off, ha, hc⟩
  · rw [h] at h0; simp at h0
  · exact ⟨b, off, ha, fun {j} hj => hc j _ (by rw [List.getD_eq_getElem?_getD, List.getElem?_eq_getElem hj]; rfl)⟩

abbrev w1Of (w : World) : World := (w.alloc (.cells prog0V 27)).alloc (.cells prog0V 27)
theorem empt_start (w : World) : Empt (w1Of w) w.heap.size ∧ Gr w (w1Of w) := by
  refine ⟨⟨(heap_alloc_old (w.alloc (.cells prog0V 27)) _ (by simp)).trans (heap_alloc_new w _), ?_⟩, ((Gr.refl w).alloc _ _).alloc _ _⟩
  have := heap_alloc_new (w.alloc (.cells prog0V 27)) (.cells prog0V 27)
  rw [show (w.alloc (.cells prog0V 27)).heap.size = w.heap.size + 1 by simp] at this
  exact this

set_option maxRecDepth 20000 in
set_option maxHeartbeats 1000000 in
theorem rread_small (a : Option Addr) (L : List Int) (cap : Nat) (w : World) (h : L.length < 3) :
    Calls Tryd.prog 9 #[.slice a L.length cap] w (ReadP L w) := by
  have ER := hide (readB_small h)
  have HG := hide (empt_start w).2
  go_enter Tryd.func9, Tryd.ntmps9
  go_wp2
  refine bodyPost_ret (v := .tuple #[.agg #[.slice none 0 0, .slice none 0 0, .int .i64 0], .int .i64 L.length, .int .i64 2]) (by simp [results, Tryd.results9, go_sem]) rfl ?_
  exact readP_at ER.out HG.out

set_option maxRecDepth 20000 in
set_option maxHeartbeats 1000000 in
theorem rread_head (b off : Nat) (L : List Int) (cap : Nat) (w : World) (hb : isBytes L) (hc : ∀ {j}, j < L.length → w.cell? ⟨b, off + j, none⟩ = some (.int .u8 (L.getD j 0))) (h3 : 3 ≤ L.length) (hh : ¬ isHead L) :
    Calls Tryd.prog 9 #[.slice (some ⟨b, off, none⟩) L.length cap] w (ReadP L w) := by
  have ER := hide (readB_head h3 hh)
  have HG := hide (empt_start w).2
  have c0 := cell_later HG.out (hc (j := 0) (by omega))
  have c1 := cell_later HG.out (hc (j := 1) (by omega))
  have c2 := cell_later HG.out (hc (j := 2) (by omega))
  rw [Nat.add_zero] at c0
  clear hc
  have hor : ¬ L.getD 0 0 = 100 ∨ (L.getD 0 0 = 100 ∧ ¬ L.getD 1 0 = 108) ∨ (L.getD 0 0 = 100 ∧ L.getD 1 0 = 108 ∧ ¬ L.getD 2 0 = 49) := by
    unfold isHead at hh
    omega
  clear hh
  generalize L.getD 0 0 = x0 at c0 hor
  generalize L.getD 1 0 = x1 at c1 hor
  generalize L.getD 2 0 = x2 at c2 hor
  rcases hor with h0 | ⟨rfl, h1⟩ | ⟨rfl, rfl, h2⟩
  · have e0 : (x0 == 100) = false := beq_eq_false_iff_ne.2 h0
    go_enter Tryd.func9, Tryd.ntmps9
    go_wp2
    refine bodyPost_ret (v := .tuple #[.agg #[.slice none 0 0, .slice none 0 0, .int .i64 0], .int .i64 0, .int .i64 3]) (by simp [results, Tryd.results9, go_sem]) rfl ?_
    exact readP_at ER.out HG.out
  · have e1 : (x1 == 108) = false := beq_eq_false_iff_ne.2 h1
    go_enter Tryd.func9, Tryd.ntmps9
    go_wp2
    refine bodyPost_ret (v := .tuple #[.agg #[.slice none 0 0, .slice none 0 0, .int .i64 0], .int .i64 0, .int .i64 3]) (by simp [results, Tryd.results9, go_sem]) rfl ?_
    exact readP_at ER.out HG.out
  · have e2 : (x2 == 49) = false := beq_eq_false_iff_ne.2 h2
    go_enter Tryd.func9, Tryd.ntmps9
    go_wp2
    refine bodyPost_ret (v := .tuple #[.agg #[.slice none 0 0, .slice none 0 0, .int .i64 0], .int .i64 0, .int .i64 3]) (by simp [results, Tryd.results9, go_sem]) rfl ?_
    exact readP_at ER.out HG.out

set_option maxRecDepth 20000 in
set_option maxHeartbeats 1000000 in
theorem rread_seven (b off : Nat) (L : List Int) (cap : Nat) (w : World) (hb : isBytes L) (hc : ∀ {j}, j < L.length → w.cell? ⟨b, off + j, none⟩ = some (.int .u8 (L.getD j 0))) (h3 : 3 ≤ L.length) (hh : isHead L) (h7 : L.length < 7) :
    Calls Tryd.prog 9 #[.slice (some ⟨b, off, none⟩) L.length cap] w (ReadP L w) := by
  have ER := hide (readB_short h3 hh (by unfold tell; rw [if_pos h7]))
  have HG := hide (empt_start w).2
  have c0 := cell_later HG.out (hc (j := 0) (by omega))
  have c1 := cell_later HG.out (hc (j := 1) (by omega))
  have c2 := cell_later HG.out (hc (j := 2) (by omega))
  rw [hh.1, Nat.add_zero] at c0
  rw [hh.2.1] at c1
  rw [hh.2.2] at c2
  clear hc hh
  go_enter Tryd.func9, Tryd.ntmps9
  go_wp2
  refine bodyPost_ret (v := .tuple #[.agg #[.slice none 0 0, .slice none 0 0, .int .i64 0], .int .i64 L.length, .int .i64 2]) (by simp [results, Tryd.results9, go_sem]) rfl ?_
  exact readP_at ER.out HG.out
end Go.Proofs.YthooopcoemdphaaDoor
