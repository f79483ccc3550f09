/-
  What the document's Even answers: the even script, by lists; dues as a list. No condition but that there may be such threads, such a window and so few picks, and that the wishes' cells hold them.
-/
import Derived.Test.YtokbbjpnahpeaaaRow
import Derived.Deep.Cut
namespace Go.Proofs.Ytokbbjpnahpeaaa
open Go.ChangeShapes Go.WideShapes Go.ChangeAt Go.RowKit
set_option linter.unusedVariables false

def duL (f : Nat → Int) (T : Nat) : List Int := (List.range T).map f
def itL (T : Nat) : List Pk := (List.range T).map itm
theorem duL_len (f : Nat → Int) (T : Nat) : (duL f T).length = T := by simp [duL]
theorem itL_len (T : Nat) : (itL T).length = T := by simp [itL]
theorem duL_get (f : Nat → Int) (T i : Nat) (h : i < T) : (duL f T).getD i 0 = f i := by
  unfold duL
  rw [List.getD_eq_getElem?_getD, List.getElem?_map, List.getElem?_range h]
  rfl
theorem itL_get (T i : Nat) (h : i < T) : (itL T).getD i p0 = itm i := by
  unfold itL
  rw [List.getD_eq_getElem?_getD, List.getElem?_map, List.getElem?_range h]
  rfl
theorem duL_two (f : Nat → Int) (k : Nat) : duL f k ++ [f k, f (k + 1)] = duL f (k + 1 + 1) := by simp [duL, List.range_succ]
theorem itL_two (k : Nat) : itL k ++ [itm k, itm (k + 1)] = itL (k + 1 + 1) := by simp [itL, List.range_succ]
theorem duL_set (f : Nat → Int) (T k : Nat) (v : Int) : (duL f T).set k v = duL (fun m => if m = k then v else f m) T := by
  apply List.ext_getElem
  · simp [duL]
  · intro j h1 h2
    rw [List.getElem_set]
    simp only [duL, List.getElem_map, List.getElem_range]
    by_cases e : k = j
    · subst e; simp
    · rw [if_neg e, if_neg (fun q => e q.symm)]
theorem duL_congr {f g : Nat → Int} {T : Nat} (h : ∀ m, m < T → f m = g m) : duL f T = duL g T := by
  apply List.ext_getElem
  · simp [duL]
  · intro j h1 h2
    simp [duL] at h1
    simp [duL, h j h1]
theorem mn_shift (B : Nat → Int) (c : Int) : ∀ n, mn (fun m => B m + c) n = mn B n
  | 0 => rfl
  | n + 1 => by
    simp only [mn, mn_shift B c n]
    by_cases h : B n < B (mn B n)
    · rw [if_pos h, if_pos (by omega)]
    · rw [if_neg h, if_neg (by omega)]

/-- what the document's Even has in memory -/
structure RE (w : World) (b1 : Nat) (vi vd : Value) (T : Nat) (f : Nat → Int) (out : List Pk) (vo : Value) (wr : World) : Prop where
  it : Pown wr w.heap.size vi (itL T)
  du : Nown wr w.heap.size vd (duL f T)
  ou : Pown wr b1 vo out
  gr : Gr w wr
  lo : ∀ k, vi.ownBlock = some k → k < b1
  b0 : w.heap.size ≤ b1
  bs : b1 ≤ wr.heap.size
theorem RE.later {w wr wr' : World} {b1 T : Nat} {vi vd vo : Value} {f : Nat → Int} {out : List Pk} (h : RE w b1 vi vd T f out vo wr) (g : Gr wr wr') : RE w b1 vi vd T f out vo wr' :=
  ⟨h.it.later g, h.du.later g, h.ou.later g, h.gr.trans g, h.lo, h.b0, Nat.le_trans h.bs g.size⟩
theorem RE.congr {w wr : World} {b1 T : Nat} {vi vd vo : Value} {f g : Nat → Int} {out : List Pk} (h : RE w b1 vi vd T f out vo wr) (e : ∀ m, m < T → f m = g m) : RE w b1 vi vd T g out vo wr :=
  ⟨h.it, by rw [← duL_congr e]; exact h.du, h.ou, h.gr, h.lo, h.b0, h.bs⟩
theorem RE.app {w wr w' : World} {b1 T : Nat} {vi vd vo vo' : Value} {f : Nat → Int} {out : List Pk} {x : Pk} (h : RE w b1 vi vd T f out vo wr) (ho : Pown w' b1 vo' (out ++ [x])) (hg : (wr.alloc (.cells #[.int .i64 x.1, .int .i64 x.2] 23)).grownBy w' vo.ownBlock) : RE w b1 vi vd T f (out ++ [x]) vo' w' := by
  have g1 := (Gr.refl wr).alloc #[.int .i64 x.1, .int .i64 x.2] 23
  have h1 := h.later g1
  exact ⟨h1.it.aside h.lo h1.ou hg, h1.du.picks h1.ou hg, ho, grown_gr h1.gr h1.ou hg h.b0, h.lo, h.b0, Nat.le_trans h1.bs hg.size⟩
theorem RE.set {w wr : World} {b1 T gd cd : Nat} {vi vo : Value} {f : Nat → Int} {out : List Pk} (h : RE w b1 vi (.slice (some ⟨gd, 0, none⟩) T cd) T f out vo wr) (k : Nat) (v : Int) {C : Array Value} (hC : Has wr gd C 3) (hgd : w.heap.size ≤ gd) :
    RE w b1 vi (.slice (some ⟨gd, 0, none⟩) T cd) T (fun m => if m = k then v else f m) out vo (wr.setCell ⟨gd, k, none⟩ (.int .i64 v)) := by
  have hd := h.du
  unfold Nown at hd
  rw [duL_len] at hd
  have hs := World.ownsRow.stored hd k (.int .i64 v)
  refine ⟨own_move h.it fun x D _ hx => Below.heap_setCell wr ⟨gd, k, none⟩ _ x (hx.apart hC (by decide)), ?_, own_move h.ou fun x D _ hx => Below.heap_setCell wr ⟨gd, k, none⟩ _ x (hx.apart hC (by decide)), h.gr.setCell hgd _, h.lo, h.b0, ?_⟩
  · unfold Nown
    rw [duL_len, ← duL_set]
    have e : ints ((duL f T).set k v) = (ints (duL f T)).set k (.int .i64 v) := by simp [ints, List.map_set]
    rw [e]
    exact hs.1
  · have : (wr.setCell ⟨gd, k, none⟩ (.int .i64 v)).heap.size = wr.heap.size := by simp
    rw [this]
    exact h.bs
end Go.Proofs.Ytokbbjpnahpeaaa
