/-
  What the document's Without answers of any slice of sleepers. No condition but that its cells hold them.
-/
import Derived.Test.YtlcjobgnjmhokaaRefs
namespace Go.Proofs.Ytlcjobgnjmhokaa
open Go.ChangeShapes Go.WideShapes Go.ChangeAt Go.RowKit
set_option linter.unusedVariables false

/-- what the document's Without answers -/
def WithP (w : World) (l : List Ent) (e : Ending) (w' : World) : Prop := ∃ v, (e = .returned v ∧ Gr w w') ∧ Eown w' w.heap.size v l

set_option maxHeartbeats 1000000 in
theorem rwithout_calls (a : Option Addr) (ca : Nat) (l : List Ent) (hl : l.length ≤ 1000) (p : Nat) (hp : p < l.length) (hc : l.length ≤ ca) (w : World) (ha : EntsAt w a l) :
    Calls Try.prog 14 #[.slice a l.length ca, .int .i64 p] w (WithP w (l.take p ++ l.drop (p + 1))) := by
  obtain ⟨b, off, rfl, -, -⟩ := ha.get hp
  have HA := hide ha
  clear ha
  have hp' : (p : Int) < l.length := by omega
  have hown : Eown (w.alloc (.cells #[] 36)) w.heap.size (.slice (some ⟨w.heap.size, 0, none⟩) 0 0) [] := World.ownsRow_made w #[] 0 (Nat.le_refl _) (Nat.zero_le _) rfl
  have HO := hide hown
  have g1 := (Gr.refl w).alloc #[] 36
  clear hown
  obtain ⟨v1, w1, r1, o1, q1⟩ := app_ents 29 HO.out (some ⟨b, off, none⟩) ca (l.take p) ((HA.out.later g1).take p) (by simp) (by simp; omega) (by simp)
  have e1 : (l.take p).length = p := by rw [List.length_take]; omega
  rw [e1] at r1
  rw [List.nil_append] at o1
  have gr1 := grown_gr g1 HO.out q1 (Nat.le_refl _)
  have O1 := hide o1
  clear e1 q1 o1
  have e2 : (l.drop (p + 1)).length = l.length - (p + 1) := List.length_drop
  have E1 := hide (HA.out.later gr1)
  have hs1 := gr1.size
  clear HA HO g1
  by_cases hca : ca = p + 1
  · have hd : l.drop (p + 1) = [] := List.drop_eq_nil_of_le (by omega)
    obtain ⟨v2, w2, r2, o2, q2⟩ := app_ents 29 O1.out (some ⟨b, off, none⟩) 0 (l.drop (p + 1)) (.inl hd) (by simp) (by rw [e2, List.length_take]; omega) hs1
    rw [e2, show l.length - (p + 1) = 0 by omega] at r2
    have gr2 := grown_gr gr1 O1.out q2 (Nat.le_refl _)
    have O2 := hide o2
    subst hca
    clear e2 q2 o2 hd
    go_enter Try.func14, Try.ntmps14
    go_wp2_with (first
      | (refine step_app rfl (some 10) rfl _ _ _ rfl _ _ rfl rfl v1 w1 r1 ?_)
      | (refine step_app rfl (some 16) rfl _ _ _ rfl _ _ rfl rfl v2 w2 r2 ?_))
    go_ret
    exact ⟨_, ⟨rfl, gr2⟩, O2.out⟩
  · have hca' : p + 1 < ca := by omega
    obtain ⟨v2, w2, r2, o2, q2⟩ := app_ents 29 O1.out (some ⟨b, off + (p + 1) * 2, none⟩) (ca - (p + 1)) (l.drop (p + 1)) (E1.out.drop (p + 1)) (by simp) (by rw [e2, List.length_take]; omega) hs1
    rw [e2] at r2
    have gr2 := grown_gr gr1 O1.out q2 (Nat.le_refl _)
    have O2 := hide o2
    clear e2 q2 o2 hca
    go_enter Try.func14, Try.ntmps14
    go_wp2_with (first
      | (refine step_app rfl (some 10) rfl _ _ _ rfl _ _ rfl rfl v1 w1 r1 ?_)
      | (refine step_app rfl (some 16) rfl _ _ _ rfl _ _ rfl rfl v2 w2 r2 ?_))
    go_ret
    exact ⟨_, ⟨rfl, gr2⟩, O2.out⟩
end Go.Proofs.Ytlcjobgnjmhokaa
