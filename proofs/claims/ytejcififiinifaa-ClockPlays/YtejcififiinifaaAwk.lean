/-
  The document's example holds. No condition.
-/
import Derived.Test.YtejcififiinifaaKno
namespace Go.Proofs.Ytejcififiinifaa
open Go.ChangeShapes Go.WideShapes Go.ChangeAt Go.RowKit
set_option linter.unusedVariables false
set_option maxRecDepth 20000

/-- the example's two clocks, and what they come to -/
def exA : Nat → Int := fun i => if i = 0 then 1 else 0
def exB : Nat → Int := fun i => if i = 1 then 1 else 0
def exJ : Nat → Int := fun i => if i = 0 then 1 else if i = 1 then 1 else 0
theorem ok_zero : CkOk zeroF := fun i _ => by unfold zeroF; omega
theorem tick_a (w : World) : Calls Try.prog 14 #[.agg (ckC zeroF), .int .i64 0] w fun e u => e = .returned (.agg (ckC exA)) ∧ Gr w u := tick_calls zeroF ok_zero 0 w
theorem tick_b (w : World) : Calls Try.prog 14 #[.agg (ckC zeroF), .int .i64 1] w fun e u => e = .returned (.agg (ckC exB)) ∧ Gr w u := tick_calls zeroF ok_zero 1 w
theorem ex_apart (w : World) : Calls Try.prog 11 #[.agg (ckC exA), .agg (ckC exB)] w fun e u => e = .returned (.bool true) ∧ Gr w u := by
  have h := apart_calls exA exB w
  rw [show apB exA exB = true from by decide] at h
  exact h
theorem ex_join (w : World) : Calls Try.prog 12 #[.agg (ckC exA), .agg (ckC exB)] w fun e u => e = .returned (.agg (ckC exJ)) ∧ Gr w u := join_calls exA exB w
theorem ex_meet (w : World) : Calls Try.prog 13 #[.agg (ckC exA), .agg (ckC exB)] w fun e u => e = .returned (.agg (ckC zeroF)) ∧ Gr w u := meet_calls exA exB w

set_option maxHeartbeats 1000000 in
theorem awake_calls (w : World) : Calls Try.prog 7 #[] w fun e u => e = .returned (.bool true) ∧ Gr w u := by
  go_enter Try.func7, Try.ntmps7
  go_wp2_with (fail)
  refine (tick_a _).mono ?_
  rintro e u ⟨rfl, hg⟩
  go_wp2_with (fail)
  refine (tick_b _).mono ?_
  rintro e v ⟨rfl, hg2⟩
  have ag := hg.trans hg2
  obtain ⟨z0, z1, ag2⟩ := start2 v #[.int .u32 0, .int .u32 0, .int .u32 0, .int .u32 0, .int .u32 0, .int .u32 0, .int .u32 0, .int .u32 0] #[.int .u32 0, .int .u32 0, .int .u32 0, .int .u32 0, .int .u32 0, .int .u32 0, .int .u32 0, .int .u32 0] 25 25
  replace ag := ag.trans ag2
  clear ag2
  have a0 : Has _ _ (ckC exA) _ := (z0.row (ckC exA)).rowAside (k := v.heap.size + 1) (by omega) (ckC exB)
  have y1 : Has _ _ (ckC zeroF) _ := z1.rowAside (k := v.heap.size) (by omega) (ckC exA)
  have a1 : Has _ _ (ckC exB) _ := y1.row (ckC exB)
  have hsz := Nat.le_trans hg.size hg2.size
  have bg := (ag.setRow (g := v.heap.size) hsz (ckC exA)).setRow (g := v.heap.size + 1) (by omega) (ckC exB)
  clear hg hg2
  go_upto_region 2 with (first
    | (refine store_ck cktC rfl _ _ rfl v.heap.size rfl exA rfl zeroF _ z0 ?_)
    | (refine store_ck cktC rfl _ _ rfl (v.heap.size + 1) rfl exB rfl zeroF _ y1 ?_))
  generalize (((v.alloc (.cells #[.int .u32 0, .int .u32 0, .int .u32 0, .int .u32 0, .int .u32 0, .int .u32 0, .int .u32 0, .int .u32 0] 25)).alloc (.cells #[.int .u32 0, .int .u32 0, .int .u32 0, .int .u32 0, .int .u32 0, .int .u32 0, .int .u32 0, .int .u32 0] 25)).setRow v.heap.size (ckC exA)).setRow (v.heap.size + 1) (ckC exB) = w1 at a0 a1 bg ⊢
  clear y1 z0 z1 ag
  go_wp2_with (first
    | (refine load_ck cktC rfl _ rfl v.heap.size rfl exA _ a0 ?_)
    | (refine load_ck cktC rfl _ rfl (v.heap.size + 1) rfl exB _ a1 ?_))
  refine (ex_apart _).mono ?_
  rintro e u1 ⟨rfl, hg⟩
  replace a0 := a0.later hg
  replace a1 := a1.later hg
  replace bg := bg.trans hg
  clear hg
  go_wp2_with (first
    | (refine load_ck cktC rfl _ rfl v.heap.size rfl exA _ a0 ?_)
    | (refine load_ck cktC rfl _ rfl (v.heap.size + 1) rfl exB _ a1 ?_))
  refine (ex_join _).mono ?_
  rintro e u2 ⟨rfl, hg⟩
  replace a0 := a0.later hg
  replace a1 := a1.later hg
  replace bg := bg.trans hg
  clear hg
  go_wp2_with (first
    | (refine load_ck cktC rfl _ rfl v.heap.size rfl exA _ a0 ?_)
    | (refine load_ck cktC rfl _ rfl (v.heap.size + 1) rfl exB _ a1 ?_)
    | (refine step_eql rfl _ _ rfl exJ exJ rfl rfl true (by decide) ?_)
    | (refine step_eql rfl _ _ rfl zeroF zeroF rfl rfl true (by decide) ?_))
  refine (ex_meet _).mono ?_
  rintro e u3 ⟨rfl, hg⟩
  replace bg := bg.trans hg
  go_wp2_with (first
    | (refine step_eql rfl _ _ rfl exJ exJ rfl rfl true (by decide) ?_)
    | (refine step_eql rfl _ _ rfl zeroF zeroF rfl rfl true (by decide) ?_))
  go_ret
  exact ⟨rfl, bg⟩
end Go.Proofs.Ytejcififiinifaa
