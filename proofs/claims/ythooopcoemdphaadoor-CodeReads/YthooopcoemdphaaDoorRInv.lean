/-
  The state of the reference's Read between its rounds, and what a round does to it. Worlds and lists alone: no condition on inputs.
-/
import Derived.Test.YthooopcoemdphaaDoorRead
namespace Go.Proofs.YthooopcoemdphaaDoor
open Go.ChangeShapes Go.WideShapes Go.ChangeAt Go.RowKit Go.Deep
set_option linter.unusedVariables false

/-- the two empty programs that Read makes first still lie there -/
def Empt (w : World) (N : Nat) : Prop := w.heap[N]? = some (.cells prog0V 27) ∧ w.heap[N + 1]? = some (.cells prog0V 27)
theorem Empt.gr {w w' : World} {N : Nat} (h : Empt w N) (g : Gr w w') : Empt w' N := ⟨(g.block _ (heap_lt h.1)).trans h.1, (g.block _ (heap_lt h.2)).trans h.2⟩
theorem Empt.kept {w w' : World} {N B : Nat} {e : TypeId} (h : Empt w N) (k : Kept e B w w') (hne : 27 ≠ e) : Empt w' N := ⟨k.row hne h.1, k.row hne h.2⟩
theorem Empt.set {w : World} {N o : Nat} (h : Empt w N) (v : Value) : Empt (w.setCell ⟨N + 2, o, none⟩ v) N :=
  ⟨(Below.heap_setCell _ _ _ _ (by show N ≠ N + 2; omega)).trans h.1, (Below.heap_setCell _ _ _ _ (by show N + 1 ≠ N + 2; omega)).trans h.2⟩

/-- behind k words -/
def MInv (L : List Int) (w : World) (room : Int) (k : Nat) (wr : World) : Prop :=
  ∃ vM, (∃ a n c, vM = .slice a n c) ∧ wr.heap[w.heap.size + 2]? = some (.cells #[.slice none 0 0, vM, .int .i64 room] 27) ∧ wr.ownsRow w.heap.size 45 1 vM k ((memAt L 7 k).map (Value.int .u32)) ∧ Empt wr w.heap.size ∧ Gr w wr
theorem minv_step {L : List Int} {w : World} {room : Int} {k : Nat} {wr : World} {vM : Value} (h1 : wr.heap[w.heap.size + 2]? = some (.cells #[.slice none 0 0, vM, .int .i64 room] 27)) (h2 : Empt wr w.heap.size) (h3 : Gr w wr)
    {w3 : World} (k3 : Kept 45 w.heap.size wr w3) {v' : Value} (ho : w3.ownsRow w.heap.size 45 1 v' (k + 1) ((memAt L 7 (k + 1)).map (Value.int .u32))) : MInv L w room (k + 1) (w3.setCell ⟨w.heap.size + 2, 1, none⟩ v') := by
  have row3 := k3.row (show 27 ≠ 45 by decide) h1
  have k4 : Kept 27 w.heap.size w3 (w3.setCell ⟨w.heap.size + 2, 1, none⟩ v') := Kept.setCell (o := 1) w.heap.size row3 (by omega) v'
  have row4 := row_set row3 1 v' (by simp)
  have s3 := k3.size
  have s := h3.size
  exact ⟨v', own_shape ho, by simpa using row4, k4.own (by decide) ho, (h2.kept k3 (by decide)).set v', (h3.after (k3.below (by omega))).after (k4.below (by omega))⟩

/-- behind t threads -/
def CInv (L : List Int) (w : World) (room : Int) (t : Nat) (cs : List (List Ins)) (wr : World) : Prop :=
  ∃ vC vM vs, (∃ a n c, vC = .slice a n c) ∧ (∃ a n c, vM = .slice a n c) ∧ wr.heap[w.heap.size + 2]? = some (.cells #[vC, vM, .int .i64 room] 27) ∧ wr.ownsRow w.heap.size 55 1 vC t vs ∧ vs.length = t ∧ CRows wr w.heap.size vs cs ∧
    wr.ownsRow w.heap.size 45 1 vM (words L) ((memAt L 7 (words L)).map (Value.int .u32)) ∧ Empt wr w.heap.size ∧ Gr w wr
theorem cinv_start {L : List Int} {w : World} {room : Int} {wr : World} (h : MInv L w room (words L) wr) : CInv L w room 0 [] wr := by
  obtain ⟨vM, hs, h1, h2, h3, h4⟩ := h
  exact ⟨_, vM, [], ⟨_, _, _, rfl⟩, hs, h1, World.ownsRow_nil _ _ _ _, rfl, ⟨rfl, fun t v c h => by simp at h⟩, h2, h3, h4⟩
theorem cinv_step {L : List Int} {w : World} {room : Int} {t : Nat} {cs : List (List Ins)} {ws wr : World} {vC vM : Value} {vs : List Value} (hvm : ∃ a n c, vM = .slice a n c)
    (h1 : ws.heap[w.heap.size + 2]? = some (.cells #[vC, vM, .int .i64 room] 27)) (h3 : vs.length = t) (h4 : CRows ws w.heap.size vs cs)
    (h5 : ws.ownsRow w.heap.size 45 1 vM (words L) ((memAt L 7 (words L)).map (Value.int .u32))) (h6 : Empt ws w.heap.size) (h7 : Gr w ws) (hG : Gr ws wr) {l : Value} {c : List Ins} (hl : wr.ownsRow ws.heap.size 47 5 l c.length (c.flatMap Ins.vals)) (hok : ∀ i ∈ c, i.ok) (hcl : c.length ≤ 65536)
    {w3 : World} (k3 : Kept 55 w.heap.size wr w3) {v' : Value} (ho : w3.ownsRow w.heap.size 55 1 v' (t + 1) (vs ++ [l])) : CInv L w room (t + 1) (cs ++ [c]) (w3.setCell ⟨w.heap.size + 2, 0, none⟩ v') := by
  have row2 := (hG.block _ (heap_lt h1)).trans h1
  have row3 := k3.row (show 27 ≠ 55 by decide) row2
  have k4 : Kept 27 w.heap.size w3 (w3.setCell ⟨w.heap.size + 2, 0, none⟩ v') := Kept.setCell (o := 0) w.heap.size row3 (by omega) v'
  have row4 := row_set row3 0 v' (by simp)
  have s7 := h7.size
  have sG := hG.size
  have s3 := k3.size
  have hR : CRows wr w.heap.size (vs ++ [l]) (cs ++ [c]) := (h4.gr hG).snoc (own_mono hl s7) hok hcl
  exact ⟨v', vM, vs ++ [l], own_shape ho, hvm, by simpa using row4, k4.own (by decide) ho, by simp [h3], (hR.kept k3 (by decide)).kept k4 (by decide), k4.own (by decide) (k3.own (by decide) (own_gr h5 hG)), ((h6.gr hG).kept k3 (by decide)).set v',
    ((h7.trans hG).after (k3.below (by omega))).after (k4.below (by omega))⟩
/-- behind all threads it is the program that the bytes tell -/
theorem cinv_prog {L : List Int} {w : World} {t : Nat} {cs : List (List Ins)} {wr : World} (hb : isBytes L) {vC vM : Value} {vs : List Value} (ht : t ≤ 255) (h2 : wr.ownsRow w.heap.size 55 1 vC t vs) (h3 : vs.length = t) (h4 : CRows wr w.heap.size vs cs)
    (h5 : wr.ownsRow w.heap.size 45 1 vM (words L) ((memAt L 7 (words L)).map (Value.int .u32))) : ProgAt wr (.agg #[vC, vM, .int .i64 (L.getD 4 0)]) (pgOf L cs) := by
  subst h3
  exact progAt_of hb h2 h4 (by omega) h5
end Go.Proofs.YthooopcoemdphaaDoor
