/-
  Of any byte and any pick deadlatchlaw07.PickBytes answers true. No condition but that the byte is one.
-/
import Derived.Test.YtokbbjpnahpeaaaSml
namespace Go.Proofs.Ytokbbjpnahpeaaa
open Go.ChangeShapes Go.WideShapes Go.ChangeAt Go.RowKit
set_option linter.unusedVariables false

theorem of_byte (k who : Nat) (hk : k < 3) (hw : who < 8) : ofP (k * 8 + who) = ((k : Int), (who : Int)) := by
  unfold ofP
  rw [show (k * 8 + who) / 8 % 3 = k by omega, show (k * 8 + who) % 8 = who by omega]

set_option maxHeartbeats 1000000 in
theorem bytes_no (b : Nat) (hb : b < 256) (x : Pk) (hx : noPk x) (w : World) :
    Calls Try.prog 3 #[.int .u8 b, pkV x] w fun e w' => e = .returned (.bool true) ∧ Gr w w' := by
  have hb' : (b : Int) < 256 := by omega
  obtain ⟨k, who⟩ := x
  have HN := hide hx
  unfold noPk at hx
  simp only at hx
  have HB := hide (Has.new w #[.int .i64 k, .int .i64 who] 23)
  have gA := (Gr.refl w).alloc #[.int .i64 k, .int .i64 who] 23
  have q1 : (ofP b).1 = (b : Int) / 8 % 3 := by unfold ofP; simp only; omega
  have q2 : (ofP b).2 = (b : Int) % 8 := by unfold ofP; simp only; omega
  have Q1 := hide q1
  have Q2 := hide q2
  clear q1 q2
  have HX := hide hx
  clear hx
  go_enter Try.func3, Try.ntmps3
  go_wp2_with (fail)
  refine (awake_calls _).mono ?_
  rintro e w1 ⟨rfl, g1⟩
  go_wp2_with (fail)
  refine (of_calls b hb _).mono ?_
  rintro e w2 ⟨rfl, g2⟩
  have gr2 := (gA.trans g1).trans g2
  have b2 := (HB.out.later g1).later g2
  rw [show pkV (ofP b) = .agg #[.int .i64 ((b : Int) / 8 % 3), .int .i64 ((b : Int) % 8)] by rw [← Q1.out, ← Q2.out]]
  have gr3 := gr2.alloc #[.int .i64 ((b : Int) / 8 % 3), .int .i64 ((b : Int) % 8)] 23
  have b3 := b2.alloc #[.int .i64 ((b : Int) / 8 % 3), .int .i64 ((b : Int) % 8)] 23
  have c1 := b3.cell (o := 0) rfl
  have c2 := b3.cell (o := 1) rfl
  clear b2
  go_wp2_with (fail)
  refine (byte_no (k, who) HN.out _).mono ?_
  rintro e w3 ⟨rfl, g3⟩
  have b4 := b3.later g3
  have d1 := b4.cell (o := 0) rfl
  have d2 := b4.cell (o := 1) rfl
  have gr4 := gr3.trans g3
  clear c1 c2 b3 gA g1 g2 gr2
  by_cases h1 : k < 0
  · go_wp2_with (fail)
    go_ret
    exact ⟨rfl, gr4⟩
  by_cases h2 : 2 < k
  · go_wp2_with (fail)
    go_ret
    exact ⟨rfl, gr4⟩
  by_cases h3 : who < 0
  · go_wp2_with (fail)
    go_ret
    exact ⟨rfl, gr4⟩
  have h4 : 7 < who := by have := HX.out; omega
  go_wp2_with (fail)
  go_ret
  exact ⟨rfl, gr4⟩

set_option maxRecDepth 20000 in
set_option maxHeartbeats 1000000 in
theorem bytes_ok (b : Nat) (hb : b < 256) (k who : Nat) (hk : k < 3) (hw : who < 8) (w : World) :
    Calls Try.prog 3 #[.int .u8 b, .agg #[.int .i64 k, .int .i64 who]] w fun e w' => e = .returned (.bool true) ∧ Gr w w' := by
  have hb' : (b : Int) < 256 := by omega
  have hk' : (k : Int) < 3 := by omega
  have hk2 : ¬ 2 < (k : Int) := by omega
  have hw' : (who : Int) < 8 := by omega
  have hw2 : ¬ 7 < (who : Int) := by omega
  have HB := hide (Has.new w #[.int .i64 k, .int .i64 who] 23)
  have gA := (Gr.refl w).alloc #[.int .i64 k, .int .i64 who] 23
  have q1 : (ofP b).1 = (b : Int) / 8 % 3 := by unfold ofP; simp only; omega
  have q2 : (ofP b).2 = (b : Int) % 8 := by unfold ofP; simp only; omega
  have Q1 := hide q1
  have Q2 := hide q2
  clear q1 q2
  go_enter Try.func3, Try.ntmps3
  go_wp2_with (fail)
  refine (awake_calls _).mono ?_
  rintro e w1 ⟨rfl, g1⟩
  go_wp2_with (fail)
  refine (of_calls b hb _).mono ?_
  rintro e w2 ⟨rfl, g2⟩
  have gr2 := (gA.trans g1).trans g2
  have b2 := (HB.out.later g1).later g2
  rw [show pkV (ofP b) = .agg #[.int .i64 ((b : Int) / 8 % 3), .int .i64 ((b : Int) % 8)] by rw [← Q1.out, ← Q2.out]]
  have gr3 := gr2.alloc #[.int .i64 ((b : Int) / 8 % 3), .int .i64 ((b : Int) % 8)] 23
  have b3 := b2.alloc #[.int .i64 ((b : Int) / 8 % 3), .int .i64 ((b : Int) % 8)] 23
  have p3 := Has.new w2 #[.int .i64 ((b : Int) / 8 % 3), .int .i64 ((b : Int) % 8)] 23
  have c1 := b3.cell (o := 0) rfl
  have c2 := b3.cell (o := 1) rfl
  clear b2
  go_wp2_with (fail)
  refine (byte_calls k who hk hw _).mono ?_
  rintro e w3 ⟨rfl, g3⟩
  have h24 : ((k * 8 + who : Nat) : Int) < 24 := by omega
  have ho := of_byte k who hk hw
  have hlt : k * 8 + who < 256 := by omega
  generalize k * 8 + who = cb at h24 ho hlt ⊢
  have HO := hide ho
  have HC := hide hlt
  clear ho hlt
  have b4 := b3.later g3
  have p4 := p3.later g3
  have d1 := b4.cell (o := 0) rfl
  have d2 := b4.cell (o := 1) rfl
  have d3 := p4.cell (o := 0) rfl
  have d4 := p4.cell (o := 1) rfl
  have gr4 := gr3.trans g3
  clear c1 c2 b3 gA g1 g2 gr2 p3 gr3 g3
  go_wp2_with (fail)
  have e1 : Value.int IntKind.i64 ((b : Int) / 8 % 3) = .int .i64 ((b / 8 % 3 : Nat) : Int) := by congr 1
  have e2 : Value.int IntKind.i64 ((b : Int) % 8) = .int .i64 ((b % 8 : Nat) : Int) := by congr 1
  rw [e1, e2]
  refine (byte_calls (b / 8 % 3) (b % 8) (by omega) (by omega) _).mono ?_
  rintro e w5 ⟨rfl, g5⟩
  have b6 := b4.later g5
  have gr6 := gr4.trans g5
  clear d1 d2 d3 d4 b4 p4 e1 e2
  have hle : ((b / 8 % 3 * 8 + b % 8 : Nat) : Int) ≤ (b : Int) := by omega
  generalize ((b / 8 % 3 * 8 + b % 8 : Nat) : Int) = lb at hle ⊢
  clear Q1 Q2 HB gr4 g5
  have hcmp : ((cb : Int) < 24) := h24
  have hx6 := b6
  go_wp2_with (fail)
  refine begin_late 20 [] (fun w' => Gr w5.drew w') (by kernel_rfl) rfl ?_
  have hH := Gr.refl w5.drew
  refine AnyL.takeP 0 (some 63) (.bool true) rfl rfl (by kernel_rfl) (by kernel_rfl) (by kernel_rfl) (by kernel_rfl) (fun _ _ _ h => h) (by kernel_rfl) (fun w' => by go_simp) (fun _ => hH) ?_
  simp only [Act.put, List.setIfInBounds_toArray, List.set_cons_zero, List.set_cons_succ]
  refine AnyL.takeP 1 (some 64) (.bool true) rfl rfl (by kernel_rfl) (by kernel_rfl) (by kernel_rfl) (by kernel_rfl) (fun _ _ _ h => h) (by kernel_rfl) (fun w' => by go_simp) (fun _ => hH) ?_
  simp only [Act.put, List.setIfInBounds_toArray, List.set_cons_zero, List.set_cons_succ]
  refine AnyL.takeP 2 (some 65) (.int .u8 cb) rfl rfl (by kernel_rfl) (by kernel_rfl) (by kernel_rfl) (by kernel_rfl) (fun _ _ _ h => h) (by kernel_rfl) (fun w' => by go_simp) (fun _ => hH) ?_
  simp only [Act.put, List.setIfInBounds_toArray, List.set_cons_zero, List.set_cons_succ]
  refine AnyL.takeP 3 (some 66) (.bool true) rfl rfl (by kernel_rfl) (by kernel_rfl) (by kernel_rfl) (by kernel_rfl) (fun _ _ _ h => h) (by kernel_rfl) (fun w' => by go_simp) (fun _ => hH) ?_
  simp only [Act.put, List.setIfInBounds_toArray, List.set_cons_zero, List.set_cons_succ]
  refine AnyL.takeP 4 (some 67) (.bool true) rfl rfl (by kernel_rfl) (by kernel_rfl) (by kernel_rfl) (by kernel_rfl) (fun _ _ _ h => h) (by kernel_rfl) (fun w' => by go_simp) (fun _ => hH) ?_
  simp only [Act.put, List.setIfInBounds_toArray, List.set_cons_zero, List.set_cons_succ]
  refine AnyL.takeP 5 (some 68) (.bool true) rfl rfl (by kernel_rfl) (by kernel_rfl) (by kernel_rfl) (by kernel_rfl) (fun _ _ _ h => h) (by kernel_rfl) (fun w' => by go_simp) (fun _ => hH) ?_
  simp only [Act.put, List.setIfInBounds_toArray, List.set_cons_zero, List.set_cons_succ]
  refine AnyL.takeP 6 (some 69) (.int .u8 cb) rfl rfl (by kernel_rfl) (by kernel_rfl) (by kernel_rfl) (by kernel_rfl) (fun _ _ _ h => h) (by kernel_rfl) (fun w' => by go_simp) (fun _ => hH) ?_
  simp only [Act.put, List.setIfInBounds_toArray, List.set_cons_zero, List.set_cons_succ]
  refine AnyL.take 8 (some 71) (.agg #[.int .i64 k, .int .i64 who]) rfl rfl (by kernel_rfl) (by kernel_rfl) (by kernel_rfl) (by kernel_rfl) (fun _ _ _ h => h) (yields_held _ (by kernel_rfl) (fun w' hw' => by have h1 := (b6.drew.later hw').cell (o := 0) rfl; have h2 := (b6.drew.later hw').cell (o := 1) rfl; go_simp)) hH ?_
  simp only [Act.put, List.setIfInBounds_toArray, List.set_cons_zero, List.set_cons_succ]
  refine AnyL.one 7 (by kernel_rfl) rfl (by kernel_rfl) ?_
  refine wp_call (some 70) rfl 10 #[.int .u8 cb] (by kernel_rfl) (of_calls cb HC.out _) ?_
  rintro e u ⟨rfl, gu⟩
  rw [HO.out]
  refine ⟨_, rfl, fun _ => gu, ?_⟩
  replace hH := gu
  simp only [Act.put, List.setIfInBounds_toArray, List.set_cons_zero, List.set_cons_succ]
  refine AnyL.takeP 9 (some 72) (.bool true) rfl rfl (by kernel_rfl) (by kernel_rfl) (by kernel_rfl) (by kernel_rfl) (fun _ _ _ h => h) (by kernel_rfl) (fun w' => by go_simp) (fun _ => hH) ?_
  simp only [Act.put, List.setIfInBounds_toArray, List.set_cons_zero, List.set_cons_succ]
  refine AnyL.takeP 10 (some 73) (.bool true) rfl rfl (by kernel_rfl) (by kernel_rfl) (by kernel_rfl) (by kernel_rfl) (fun _ _ _ h => h) (by kernel_rfl) (fun w' => by go_simp) (fun _ => hH) ?_
  simp only [Act.put, List.setIfInBounds_toArray, List.set_cons_zero, List.set_cons_succ]
  refine AnyL.takeP 11 (some 74) (.bool true) rfl rfl (by kernel_rfl) (by kernel_rfl) (by kernel_rfl) (by kernel_rfl) (fun _ _ _ h => h) (by kernel_rfl) (fun w' => by go_simp) (fun _ => hH) ?_
  simp only [Act.put, List.setIfInBounds_toArray, List.set_cons_zero, List.set_cons_succ]
  refine AnyL.takeP 12 (some 75) (.bool true) rfl rfl (by kernel_rfl) (by kernel_rfl) (by kernel_rfl) (by kernel_rfl) (fun _ _ _ h => h) (by kernel_rfl) (fun w' => by go_simp) (fun _ => hH) ?_
  simp only [Act.put, List.setIfInBounds_toArray, List.set_cons_zero, List.set_cons_succ]
  refine AnyL.takeP 13 (some 76) (.bool true) rfl rfl (by kernel_rfl) (by kernel_rfl) (by kernel_rfl) (by kernel_rfl) (fun _ _ _ h => h) (by kernel_rfl) (fun w' => by go_simp) (fun _ => hH) ?_
  simp only [Act.put, List.setIfInBounds_toArray, List.set_cons_zero, List.set_cons_succ]
  refine AnyL.takeP 14 (some 77) (.bool true) rfl rfl (by kernel_rfl) (by kernel_rfl) (by kernel_rfl) (by kernel_rfl) (fun _ _ _ h => h) (by kernel_rfl) (fun w' => by go_simp) (fun _ => hH) ?_
  simp only [Act.put, List.setIfInBounds_toArray, List.set_cons_zero, List.set_cons_succ]
  refine AnyL.takeP 15 (some 78) (.int .u8 lb) rfl rfl (by kernel_rfl) (by kernel_rfl) (by kernel_rfl) (by kernel_rfl) (fun _ _ _ h => h) (by kernel_rfl) (fun w' => by go_simp) (fun _ => hH) ?_
  simp only [Act.put, List.setIfInBounds_toArray, List.set_cons_zero, List.set_cons_succ]
  refine AnyL.takeP 16 (some 79) (.int .u8 b) rfl rfl (by kernel_rfl) (by kernel_rfl) (by kernel_rfl) (by kernel_rfl) (fun _ _ _ h => h) (by kernel_rfl) (fun w' => by go_simp) (fun _ => hH) ?_
  simp only [Act.put, List.setIfInBounds_toArray, List.set_cons_zero, List.set_cons_succ]
  refine AnyL.takeP 17 (some 80) (.bool true) rfl rfl (by kernel_rfl) (by kernel_rfl) (by kernel_rfl) (by kernel_rfl) (fun _ _ _ h => h) (by kernel_rfl) (fun w' => by go_simp) (fun _ => hH) ?_
  simp only [Act.put, List.setIfInBounds_toArray, List.set_cons_zero, List.set_cons_succ]
  refine AnyL.takeP 18 (some 81) (.bool true) rfl rfl (by kernel_rfl) (by kernel_rfl) (by kernel_rfl) (by kernel_rfl) (fun _ _ _ h => h) (by kernel_rfl) (fun w' => by go_simp) (fun _ => hH) ?_
  simp only [Act.put, List.setIfInBounds_toArray, List.set_cons_zero, List.set_cons_succ]
  refine AnyL.takeP 19 (some 4) (.bool true) rfl rfl (by kernel_rfl) (by kernel_rfl) (by kernel_rfl) (by kernel_rfl) (fun _ _ _ h => h) (by kernel_rfl) (fun w' => by go_simp) (fun _ => hH) ?_
  simp only [Act.put, List.setIfInBounds_toArray, List.set_cons_zero, List.set_cons_succ]
  refine AnyL.done (by kernel_rfl) ?_
  go_wp2_with (fail)
  go_ret
  exact ⟨rfl, gr6.trans (Gr.undrew hH)⟩
end Go.Proofs.Ytokbbjpnahpeaaa
