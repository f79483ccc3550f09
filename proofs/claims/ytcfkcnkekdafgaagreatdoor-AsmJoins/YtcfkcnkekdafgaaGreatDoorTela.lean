/-
  For any line in memory, in any world in which the table of powers of ten is laid: what the line's tellers answer. Memory grows alone.
-/
import Derived.Test.YtcfkcnkekdafgaaGreatDoorTell
import Derived.Test.YtcfkcnkekdafgaaGreatDoorLate
import Derived.Test.YtcfkcnkekdafgaaGreatDoorRlin
namespace Go.Proofs.YtcfkcnkekdafgaaGreatDoor
open Go.ChangeShapes Go.WideShapes Go.ChangeAt Go.RowKit Go.Lib
set_option linter.unusedVariables false

/-- the table of powers of ten is laid -/
def Pow (w : World) : Prop := Lib.TabIs Tryz.prog w "internal/strconv.uint64pow10" .u64 Lib.pow10Tab
theorem Pow.later {w w' : World} (h : Pow w) (g : Gr w w') : Pow w' := by
  unfold Pow TabIs World.var? at *
  cases hg : Tryz.prog.globalNamed "internal/strconv.uint64pow10" with
  | none => simp [hg] at h
  | some v =>
    simp only [hg, Option.bind_some] at h ⊢
    have hlt : v < w.heap.size := by
      rcases Nat.lt_or_ge v w.heap.size with h' | h'
      · exact h'
      · rw [Array.getElem?_eq_none h'] at h; simp at h
    rw [g.block v hlt]
    exact h
/-- a line lies there -/
def LinAt (w : World) (g op a b c k : Nat) (t : ByteArray) : Prop := w.heap[g]? = some (.cells #[.int .i64 op, .int .i64 a, .int .i64 b, .int .i64 c, .int .u32 k, .string t] 70)
theorem LinAt.later {w w' : World} {g op a b c k : Nat} {t : ByteArray} (h : LinAt w g op a b c k t) (r : Gr w w') : LinAt w' g op a b c k t := (r.block _ (heap_lt h)).trans h
theorem six {w : World} {g op a b c k : Nat} {t : ByteArray} (h : LinAt w g op a b c k t) :
    w.cell? ⟨g, 0, none⟩ = some (.int .i64 op) ∧ w.cell? ⟨g, 1, none⟩ = some (.int .i64 a) ∧ w.cell? ⟨g, 2, none⟩ = some (.int .i64 b) ∧ w.cell? ⟨g, 3, none⟩ = some (.int .i64 c) ∧ w.cell? ⟨g, 4, none⟩ = some (.int .u32 k) ∧ w.cell? ⟨g, 5, none⟩ = some (.string t) := by
  unfold LinAt at h
  refine ⟨?_, ?_, ?_, ?_, ?_, ?_⟩ <;> simp [World.cell?, h]

set_option maxHeartbeats 400000 in
theorem tellA_calls (g op a b c k : Nat) (t : ByteArray) (w : World) (hB : LinAt w g op a b c k t) (h : a < 10) :
    Calls Tryz.prog 69 #[.pointer (some ⟨g, 0, none⟩)] w fun e w' => e = .returned (.string ⟨([114] ++ digF 11 a).toArray⟩) ∧ Gr w w' := by
  obtain ⟨b0, b1, b2, b3, b4, b5⟩ := six hB
  go_enter Tryz.func69, Tryz.ntmps69
  go_wp2_with (fail)
  refine (treg_calls a h _).mono ?_
  rintro e w2 ⟨rfl, g2⟩
  go_wp2_with (fail)
  go_ret
  exact ⟨rfl, g2⟩

set_option maxHeartbeats 400000 in
theorem tellB_calls (g op a b c k : Nat) (t : ByteArray) (w : World) (hB : LinAt w g op a b c k t) (h : b < 10) :
    Calls Tryz.prog 71 #[.pointer (some ⟨g, 0, none⟩)] w fun e w' => e = .returned (.string ⟨([114] ++ digF 11 b).toArray⟩) ∧ Gr w w' := by
  obtain ⟨b0, b1, b2, b3, b4, b5⟩ := six hB
  go_enter Tryz.func71, Tryz.ntmps71
  go_wp2_with (fail)
  refine (treg_calls b h _).mono ?_
  rintro e w2 ⟨rfl, g2⟩
  go_wp2_with (fail)
  go_ret
  exact ⟨rfl, g2⟩

set_option maxHeartbeats 400000 in
theorem tellC_calls (g op a b c k : Nat) (t : ByteArray) (w : World) (hB : LinAt w g op a b c k t) (h : c < 10) :
    Calls Tryz.prog 73 #[.pointer (some ⟨g, 0, none⟩)] w fun e w' => e = .returned (.string ⟨([114] ++ digF 11 c).toArray⟩) ∧ Gr w w' := by
  obtain ⟨b0, b1, b2, b3, b4, b5⟩ := six hB
  go_enter Tryz.func73, Tryz.ntmps73
  go_wp2_with (fail)
  refine (treg_calls c h _).mono ?_
  rintro e w2 ⟨rfl, g2⟩
  go_wp2_with (fail)
  go_ret
  exact ⟨rfl, g2⟩

set_option maxHeartbeats 400000 in
theorem tellK_calls (g op a b c k : Nat) (t : ByteArray) (w : World) (hB : LinAt w g op a b c k t) (hk : k < 4294967296) (hp : Pow w) :
    Calls Tryz.prog 75 #[.pointer (some ⟨g, 0, none⟩)] w fun e w' => e = .returned (.string ⟨(digF 11 k).toArray⟩) ∧ Gr w w' := by
  obtain ⟨b0, b1, b2, b3, b4, b5⟩ := six hB
  go_enter Tryz.func75, Tryz.ntmps75
  go_wp2_with (fail)
  refine (tnum_calls k hk _ hp).mono ?_
  rintro e w2 ⟨rfl, g2⟩
  go_wp2_with (fail)
  go_ret
  exact ⟨rfl, g2⟩

set_option maxHeartbeats 400000 in
theorem tellPlace_calls (g op a b c k : Nat) (t : ByteArray) (w : World) (hB : LinAt w g op a b c k t) (hk : k < 4294967296) (hp : Pow w) :
    Calls Tryz.prog 77 #[.pointer (some ⟨g, 0, none⟩)] w fun e w' => e = .returned (.string ⟨([64] ++ digF 11 k).toArray⟩) ∧ Gr w w' := by
  obtain ⟨b0, b1, b2, b3, b4, b5⟩ := six hB
  go_enter Tryz.func77, Tryz.ntmps77
  go_wp2_with (fail)
  refine (tnum_calls k hk _ hp).mono ?_
  rintro e w2 ⟨rfl, g2⟩
  have l1 := digF_len 11 k
  have z1 : (⟨(digF 11 k).toArray⟩ : ByteArray).size ≤ 11 := by rw [size_mk]; exact l1
  go_wp2_with (fail)
  go_ret
  exact ⟨ret_str (cat_mk [64] (digF 11 k)), g2⟩

set_option maxHeartbeats 400000 in
theorem tellAddr8_calls (g op a c k : Nat) (t : ByteArray) (w : World) (hB : LinAt w g op a 8 c k t) (hk : k < 4294967296) (hp : Pow w) :
    Calls Tryz.prog 79 #[.pointer (some ⟨g, 0, none⟩)] w fun e w' => e = .returned (.string ⟨([91] ++ digF 11 k ++ [93]).toArray⟩) ∧ Gr w w' := by
  obtain ⟨b0, b1, b2, b3, b4, b5⟩ := six hB
  go_enter Tryz.func79, Tryz.ntmps79
  go_wp2_with (fail)
  refine (tnum_calls k hk _ hp).mono ?_
  rintro e w2 ⟨rfl, g2⟩
  have l1 := digF_len 11 k
  have z1 : (⟨(digF 11 k).toArray⟩ : ByteArray).size ≤ 11 := by rw [size_mk]; exact l1
  go_wp2_with (fail)
  go_ret
  exact ⟨ret_str ((congrArg (· ++ (⟨[93].toArray⟩ : ByteArray)) (cat_mk [91] (digF 11 k))).trans (cat_mk _ _)), g2⟩

set_option maxRecDepth 100000 in
set_option maxHeartbeats 800000 in
theorem tellAddr_calls (g op a b c k : Nat) (t : ByteArray) (w : World) (hB : LinAt w g op a b c k t) (h : b < 8) (hk : k < 4294967296) (hp : Pow w) :
    Calls Tryz.prog 79 #[.pointer (some ⟨g, 0, none⟩)] w fun e w' => e = .returned (.string ⟨([91] ++ ([114] ++ digF 11 b) ++ [43] ++ digF 11 k ++ [93]).toArray⟩) ∧ Gr w w' := by
  obtain ⟨b0, b1, b2, b3, b4, b5⟩ := six hB
  have q8 : ((b : Int) == 8) = false := by simp; omega
  have kl := digF_len 11 k
  have bl := digF_len 11 b
  have z1 : (⟨(digF 11 k).toArray⟩ : ByteArray).size ≤ 11 := by rw [size_mk]; exact kl
  have z2 : (⟨([114] ++ digF 11 b).toArray⟩ : ByteArray).size ≤ 12 := by rw [size_mk]; simp; omega
  go_enter Tryz.func79, Tryz.ntmps79
  go_wp2_with (fail)
  refine begin_late 17 [] (fun w' => Gr w w') (by kernel_rfl) rfl ?_
  have hH : Gr w w.drew := (Gr.refl w).drew
  refine AnyL.takeP 0 (some 17) (.pointer (some ⟨g, 0, none⟩)) rfl rfl (by kernel_rfl) (by kernel_rfl) (by kernel_rfl) (by kernel_rfl) (fun _ _ _ h => h) (by kernel_rfl) (fun w' => by go_simp) (fun _ => hH) ?_
  simp only [Act.put, List.setIfInBounds_toArray, List.set_cons_zero, List.set_cons_succ]
  refine AnyL.takeP 1 (some 18) (.pointer (some ⟨g, 0, none⟩)) rfl rfl (by kernel_rfl) (by kernel_rfl) (by kernel_rfl) (by kernel_rfl) (fun _ _ _ h => h) (by kernel_rfl) (fun w' => by go_simp) (fun _ => hH) ?_
  simp only [Act.put, List.setIfInBounds_toArray, List.set_cons_zero, List.set_cons_succ]
  refine AnyL.takeP 2 (some 19) (.pointer (some ⟨g, 0, none⟩)) rfl rfl (by kernel_rfl) (by kernel_rfl) (by kernel_rfl) (by kernel_rfl) (fun _ _ _ h => h) (by kernel_rfl) (fun w' => by go_simp) (fun _ => hH) ?_
  simp only [Act.put, List.setIfInBounds_toArray, List.set_cons_zero, List.set_cons_succ]
  refine AnyL.takeP 3 (some 20) (.pointer (some ⟨g, 2, none⟩)) rfl rfl (by kernel_rfl) (by kernel_rfl) (by kernel_rfl) (by kernel_rfl) (fun _ _ _ h => h) (by kernel_rfl) (fun w' => by go_simp) (fun _ => hH) ?_
  simp only [Act.put, List.setIfInBounds_toArray, List.set_cons_zero, List.set_cons_succ]
  refine AnyL.take 4 (some 21) (.int .i64 b) rfl rfl (by kernel_rfl) (by kernel_rfl) (by kernel_rfl) (by kernel_rfl) (fun _ _ _ h => h) (yields_held _ (by kernel_rfl) (fun w' hw' => by have h1 := (six (hB.later hw')).2.2.1; go_simp)) hH ?_
  simp only [Act.put, List.setIfInBounds_toArray, List.set_cons_zero, List.set_cons_succ]
  refine AnyL.takeP 8 (some 25) (.pointer (some ⟨g, 0, none⟩)) rfl rfl (by kernel_rfl) (by kernel_rfl) (by kernel_rfl) (by kernel_rfl) (fun _ _ _ h => h) (by kernel_rfl) (fun w' => by go_simp) (fun _ => hH) ?_
  simp only [Act.put, List.setIfInBounds_toArray, List.set_cons_zero, List.set_cons_succ]
  refine AnyL.takeP 9 (some 26) (.pointer (some ⟨g, 0, none⟩)) rfl rfl (by kernel_rfl) (by kernel_rfl) (by kernel_rfl) (by kernel_rfl) (fun _ _ _ h => h) (by kernel_rfl) (fun w' => by go_simp) (fun _ => hH) ?_
  simp only [Act.put, List.setIfInBounds_toArray, List.set_cons_zero, List.set_cons_succ]
  refine AnyL.takeP 10 (some 27) (.pointer (some ⟨g, 0, none⟩)) rfl rfl (by kernel_rfl) (by kernel_rfl) (by kernel_rfl) (by kernel_rfl) (fun _ _ _ h => h) (by kernel_rfl) (fun w' => by go_simp) (fun _ => hH) ?_
  simp only [Act.put, List.setIfInBounds_toArray, List.set_cons_zero, List.set_cons_succ]
  refine AnyL.takeP 11 (some 28) (.pointer (some ⟨g, 4, none⟩)) rfl rfl (by kernel_rfl) (by kernel_rfl) (by kernel_rfl) (by kernel_rfl) (fun _ _ _ h => h) (by kernel_rfl) (fun w' => by go_simp) (fun _ => hH) ?_
  simp only [Act.put, List.setIfInBounds_toArray, List.set_cons_zero, List.set_cons_succ]
  refine AnyL.take 12 (some 29) (.int .u32 k) rfl rfl (by kernel_rfl) (by kernel_rfl) (by kernel_rfl) (by kernel_rfl) (fun _ _ _ h => h) (yields_held _ (by kernel_rfl) (fun w' hw' => by have h1 := (six (hB.later hw')).2.2.2.2.1; go_simp)) hH ?_
  simp only [Act.put, List.setIfInBounds_toArray, List.set_cons_zero, List.set_cons_succ]
  refine AnyL.one 5 (by kernel_rfl) rfl (by kernel_rfl) ?_
  refine wp_call (some 22) rfl 87 #[.int .i64 b] (by kernel_rfl) (treg_calls b (by omega) _) ?_
  rintro e w2 ⟨rfl, g2⟩
  replace hH := hH.trans g2
  refine ⟨_, rfl, fun _ => hH, ?_⟩
  simp only [Act.put, List.setIfInBounds_toArray, List.set_cons_zero, List.set_cons_succ]
  refine AnyL.takeP 6 (some 23) (.string (⟨#[91]⟩ ++ ⟨([114] ++ digF 11 b).toArray⟩)) rfl rfl (by kernel_rfl) (by kernel_rfl) (by kernel_rfl) (by kernel_rfl) (fun _ _ _ h => h) (by kernel_rfl) (fun w' => by go_simp; omega) (fun _ => hH) ?_
  simp only [Act.put, List.setIfInBounds_toArray, List.set_cons_zero, List.set_cons_succ]
  refine AnyL.takeP 7 (some 24) (.string (⟨#[91]⟩ ++ ⟨([114] ++ digF 11 b).toArray⟩ ++ ⟨#[43]⟩)) rfl rfl (by kernel_rfl) (by kernel_rfl) (by kernel_rfl) (by kernel_rfl) (fun _ _ _ h => h) (by kernel_rfl) (fun w' => by go_simp; omega) (fun _ => hH) ?_
  simp only [Act.put, List.setIfInBounds_toArray, List.set_cons_zero, List.set_cons_succ]
  refine AnyL.one 13 (by kernel_rfl) rfl (by kernel_rfl) ?_
  refine wp_call (some 30) rfl 89 #[.int .u32 k] (by kernel_rfl) (tnum_calls k hk _ (hp.later hH)) ?_
  rintro e w3 ⟨rfl, g3⟩
  replace hH := hH.trans g3
  refine ⟨_, rfl, fun _ => hH, ?_⟩
  simp only [Act.put, List.setIfInBounds_toArray, List.set_cons_zero, List.set_cons_succ]
  refine AnyL.takeP 14 (some 31) (.string (⟨#[91]⟩ ++ ⟨([114] ++ digF 11 b).toArray⟩ ++ ⟨#[43]⟩ ++ ⟨(digF 11 k).toArray⟩)) rfl rfl (by kernel_rfl) (by kernel_rfl) (by kernel_rfl) (by kernel_rfl) (fun _ _ _ h => h) (by kernel_rfl) (fun w' => by go_simp; omega) (fun _ => hH) ?_
  simp only [Act.put, List.setIfInBounds_toArray, List.set_cons_zero, List.set_cons_succ]
  refine AnyL.takeP 15 (some 32) (.string (⟨#[91]⟩ ++ ⟨([114] ++ digF 11 b).toArray⟩ ++ ⟨#[43]⟩ ++ ⟨(digF 11 k).toArray⟩ ++ ⟨#[93]⟩)) rfl rfl (by kernel_rfl) (by kernel_rfl) (by kernel_rfl) (by kernel_rfl) (fun _ _ _ h => h) (by kernel_rfl) (fun w' => by go_simp; omega) (fun _ => hH) ?_
  simp only [Act.put, List.setIfInBounds_toArray, List.set_cons_zero, List.set_cons_succ]
  refine AnyL.takeP 16 (some 2) (.string (⟨#[91]⟩ ++ ⟨([114] ++ digF 11 b).toArray⟩ ++ ⟨#[43]⟩ ++ ⟨(digF 11 k).toArray⟩ ++ ⟨#[93]⟩)) rfl rfl (by kernel_rfl) (by kernel_rfl) (by kernel_rfl) (by kernel_rfl) (fun _ _ _ h => h) (by kernel_rfl) (fun w' => by go_simp) (fun _ => hH) ?_
  simp only [Act.put, List.setIfInBounds_toArray, List.set_cons_zero, List.set_cons_succ]
  refine AnyL.done (by kernel_rfl) ?_
  go_wp2_with (fail)
  go_ret
  exact ⟨ret_str (by show (⟨[91].toArray⟩ ++ ⟨([114] ++ digF 11 b).toArray⟩ ++ ⟨[43].toArray⟩ ++ ⟨(digF 11 k).toArray⟩ ++ ⟨[93].toArray⟩ : ByteArray) = _; rw [cat_mk, cat_mk, cat_mk, cat_mk]; rfl), hH⟩
end Go.Proofs.YtcfkcnkekdafgaaGreatDoor
