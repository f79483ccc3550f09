/-
  The document's example comes out as it should: awake answers true. No condition.
-/
import Derived.Test.YtfhplbmgjgfihaaClsW
namespace Go.Proofs.Ytfhplbmgjgfihaa
open Go.ChangeShapes Go.WideShapes Go.ChangeAt Go.RowKit
set_option linter.unusedVariables false
set_option maxRecDepth 20000

def awE : List Ev := [⟨7, 3, 0, 0, 0, 0, 4, false⟩, ⟨1, 3, 0, 0, 0, 0, 0, false⟩, ⟨7, 3, 0, 0, 9, 0, 5, false⟩]
theorem awE_ok : ∀ x ∈ awE, EvOk x := by
  intro x hx
  simp [awE] at hx
  rcases hx with rfl | rfl | rfl <;> exact ⟨by decide, by decide⟩
theorem awE_ref : refF 0 awE = [⟨2, 3, 0, 2, 9, [1]⟩] := rfl

theorem one_row {w : World} {ks : List Cl} {a : Option Addr} {q : Ca} (h : RowAt w a (flatOf clL ks)) (hq : ks.map (·.q) = [q]) :
    ∃ b o ic ia, ks = [⟨q, ia, ic⟩] ∧ a = some ⟨b, o, none⟩ ∧ w.cell? ⟨b, o, none⟩ = some (.int .i64 q.site) ∧ w.cell? ⟨b, o + 1, none⟩ = some (.int .i64 q.who) ∧ w.cell? ⟨b, o + 3, none⟩ = some (.int .i64 q.ended) ∧ w.cell? ⟨b, o + 4, none⟩ = some (.int .u32 q.result) ∧ w.cell? ⟨b, o + 5, none⟩ = some (.slice ia q.inner.length ic) := by
  match ks, hq with
  | [⟨q', ia, ic⟩], hq =>
    simp only [List.map_cons, List.map_nil, List.cons.injEq, and_true] at hq
    subst hq
    obtain ⟨b, o, ha, hc⟩ := h.get (by rw [flatOf_length clL_len]; simp)
    refine ⟨b, o, ic, ia, rfl, ha, hc 0 ?_, hc 1 ?_, hc 3 ?_, hc 4 ?_, hc 5 ?_⟩ <;> (rw [flatOf_length clL_len]; simp)

set_option maxHeartbeats 2000000 in
theorem awake_calls (w : World) : Calls Try.prog 8 #[] w fun e w' => e = .returned (.bool true) ∧ Gr w w' := by
  have g0 := (Gr.refl w).alloc (flatOf evL awE).toArray 35
  have h0 := (Has.new w (flatOf evL awE).toArray 35).rowAt
  have HC := calls_calls (some ⟨w.heap.size, 0, none⟩) 3 awE awE_ok (by decide) _ h0
  rw [awE_ref] at HC
  have HC' := hide HC
  clear HC h0
  go_enter Try.func8, Try.ntmps8
  go_wp2_with (go_at_call 17; refine HC'.out.mono ?_; rintro e w1 ⟨ks, a, c, ⟨⟨rfl, hr⟩, hi, hq⟩, g1⟩; obtain ⟨b, o, ic, ia, rfl, rfl, c0, c1, c3, c4, c5⟩ := one_row hr hq; clear hr hq hi)
  go_ret
  exact ⟨rfl, g0.trans g1⟩
end Go.Proofs.Ytfhplbmgjgfihaa
