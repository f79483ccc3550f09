/-
  For any instruction and any size, in any world: what the reference's Right answers; it is what isa.Right answers. Conditions: K is from 0 to 2^32 - 1.
-/
import Derived.Test.YtfhplbmgjgfihaaGreatDoorZzaz
import Derived.Test.YtfhplbmgjgfihaaGreatDoorZzab
namespace Go.Proofs.YtfhplbmgjgfihaaGreatDoor.Nm
open Go.ChangeShapes Go.WideShapes Go.ChangeAt Go.RowKit
set_option linter.unusedVariables false
set_option maxRecDepth 20000
theorem retb {x y : Bool} (h : x = y) : Ending.returned (.bool x) = .returned (.bool y) := by rw [h]
/-- an instruction lies in a block -/
def Box (g : Nat) (op a b c k : Int) (w : World) : Prop :=
  g < w.heap.size ∧ w.cell? ⟨g, 0, none⟩ = some (.int .i64 op) ∧ w.cell? ⟨g, 1, none⟩ = some (.int .i64 a) ∧ w.cell? ⟨g, 2, none⟩ = some (.int .i64 b) ∧ w.cell? ⟨g, 3, none⟩ = some (.int .i64 c) ∧ w.cell? ⟨g, 4, none⟩ = some (.int .u32 k)
theorem Box.later {g : Nat} {op a b c k : Int} {w w' : World} (h : Box g op a b c k w) (hg : Gr w w') : Box g op a b c k w' := by
  obtain ⟨h0, h1, h2, h3, h4, h5⟩ := h
  have e : ∀ o, w'.cell? ⟨g, o, none⟩ = w.cell? ⟨g, o, none⟩ := fun o => Below.cell hg h0
  exact ⟨Nat.lt_of_lt_of_le h0 hg.size, (e _).trans h1, (e _).trans h2, (e _).trans h3, (e _).trans h4, (e _).trans h5⟩
theorem Box.fresh (op a b c k : Int) (w : World) : Box w.heap.size op a b c k (w.alloc (.cells #[.int .i64 op, .int .i64 a, .int .i64 b, .int .i64 c, .int .u32 k] 53)) := by
  have e : ∀ o, (w.alloc (.cells #[.int .i64 op, .int .i64 a, .int .i64 b, .int .i64 c, .int .u32 k] 53)).cell? ⟨w.heap.size, o, none⟩ = _ := fun o => World.cell?_alloc_mark w #[.int .i64 op, .int .i64 a, .int .i64 b, .int .i64 c, .int .u32 k] 53 (0, 0) o
  exact ⟨by simp, (e 0).trans rfl, (e 1).trans rfl, (e 2).trans rfl, (e 3).trans rfl, (e 4).trans rfl⟩

def limB (l n : Int) : Bool := decide (0 ≤ n) && decide (n ≤ l)
theorem fits0 (n : Int) : fitsB 0 n = limB 0 n := by
  by_cases h : n = 0
  · subst h; rfl
  · have : ¬ (0 ≤ n ∧ n ≤ 0) := by omega
    by_cases h1 : 0 ≤ n
    · have h2 : ¬ n ≤ 0 := by omega
      simp [fitsB, limB, h, h2]
    · simp [fitsB, limB, h, h1]
theorem rfit1 (n : Int) : fitsB 1 n = limB 7 n := by
  have e : decide (n < 8) = decide (n ≤ 7) := by congr 1; apply propext; omega
  simp [fitsB, limB, regB, e]
theorem fits2 (n : Int) : fitsB 2 n = limB 8 n := by
  by_cases h : n = 8
  · subst h; rfl
  · have e : decide (n < 8) = decide (n ≤ 8) := by congr 1; apply propext; omega
    simp [fitsB, limB, regB, h, e]

set_option maxHeartbeats 1000000 in
theorem rr_none (op a b c k size : Int) (h0 : 0 ≤ k) (hk : k < 4294967296) (w : World) (hn : (nameB op).toList.isEmpty = false)
    (hA : hasB op 65 = false) (hB : hasB op 66 = false) (hM : hasB op 77 = false) (hC : hasB op 67 = false) (hT : hasB op 84 = false) (hK : hasB op 75 = false) (R : Bool) (e : R = (limB 0 a && limB 0 b && limB 0 c && (k == 0))) :
    Calls Tryz.prog 51 #[insV op a b c k, .int .i64 size] w fun e w' => e = .returned (.bool R) ∧ Gr w w' := by
  have hg := Gr.alloc (Gr.refl w) #[.int .i64 op, .int .i64 a, .int .i64 b, .int .i64 c, .int .u32 k] 53
  have hb := Box.fresh op a b c k w
  have E := hide e
  clear e
  go_enter Tryz.func51, Tryz.ntmps51
  go_wp2_with (first
    | (go_at_call 77; refine (refname_calls _ _).mono ?_; rintro e w1 ⟨rfl, hg1⟩; have hb := hb.later hg1; have hg := hg.trans hg1; obtain ⟨_, c0, c1, c2, c3, c4⟩ := id hb)
    | (go_at_call 52; refine (has_calls _ _ _).mono ?_; rintro e w1 ⟨rfl, hg1⟩; have hb := hb.later hg1; have hg := hg.trans hg1; obtain ⟨_, c0, c1, c2, c3, c4⟩ := id hb))
  all_goals
    go_ret
    refine ⟨retb ?_, hg⟩
    rw [E.out]
    simp [limB]
    first | omega | (rw [Bool.eq_iff_iff]; simp; omega)

set_option maxHeartbeats 1000000 in
theorem rr_AK (op a b c k size : Int) (h0 : 0 ≤ k) (hk : k < 4294967296) (w : World) (hn : (nameB op).toList.isEmpty = false)
    (hA : hasB op 65 = true) (hB : hasB op 66 = false) (hM : hasB op 77 = false) (hC : hasB op 67 = false) (hT : hasB op 84 = false) (hK : hasB op 75 = true) (R : Bool) (e : R = (limB 7 a && limB 0 b && limB 0 c && true)) :
    Calls Tryz.prog 51 #[insV op a b c k, .int .i64 size] w fun e w' => e = .returned (.bool R) ∧ Gr w w' := by
  have hg := Gr.alloc (Gr.refl w) #[.int .i64 op, .int .i64 a, .int .i64 b, .int .i64 c, .int .u32 k] 53
  have hb := Box.fresh op a b c k w
  have E := hide e
  clear e
  go_enter Tryz.func51, Tryz.ntmps51
  go_wp2_with (first
    | (go_at_call 77; refine (refname_calls _ _).mono ?_; rintro e w1 ⟨rfl, hg1⟩; have hb := hb.later hg1; have hg := hg.trans hg1; obtain ⟨_, c0, c1, c2, c3, c4⟩ := id hb)
    | (go_at_call 52; refine (has_calls _ _ _).mono ?_; rintro e w1 ⟨rfl, hg1⟩; have hb := hb.later hg1; have hg := hg.trans hg1; obtain ⟨_, c0, c1, c2, c3, c4⟩ := id hb))
  all_goals
    go_ret
    refine ⟨retb ?_, hg⟩
    rw [E.out]
    simp [limB]
    first | omega | (rw [Bool.eq_iff_iff]; simp; omega)

set_option maxHeartbeats 1000000 in
theorem rr_AB (op a b c k size : Int) (h0 : 0 ≤ k) (hk : k < 4294967296) (w : World) (hn : (nameB op).toList.isEmpty = false)
    (hA : hasB op 65 = true) (hB : hasB op 66 = true) (hM : hasB op 77 = false) (hC : hasB op 67 = false) (hT : hasB op 84 = false) (hK : hasB op 75 = false) (R : Bool) (e : R = (limB 7 a && limB 7 b && limB 0 c && (k == 0))) :
    Calls Tryz.prog 51 #[insV op a b c k, .int .i64 size] w fun e w' => e = .returned (.bool R) ∧ Gr w w' := by
  have hg := Gr.alloc (Gr.refl w) #[.int .i64 op, .int .i64 a, .int .i64 b, .int .i64 c, .int .u32 k] 53
  have hb := Box.fresh op a b c k w
  have E := hide e
  clear e
  go_enter Tryz.func51, Tryz.ntmps51
  go_wp2_with (first
    | (go_at_call 77; refine (refname_calls _ _).mono ?_; rintro e w1 ⟨rfl, hg1⟩; have hb := hb.later hg1; have hg := hg.trans hg1; obtain ⟨_, c0, c1, c2, c3, c4⟩ := id hb)
    | (go_at_call 52; refine (has_calls _ _ _).mono ?_; rintro e w1 ⟨rfl, hg1⟩; have hb := hb.later hg1; have hg := hg.trans hg1; obtain ⟨_, c0, c1, c2, c3, c4⟩ := id hb))
  all_goals
    go_ret
    refine ⟨retb ?_, hg⟩
    rw [E.out]
    simp [limB]
    first | omega | (rw [Bool.eq_iff_iff]; simp; omega)

set_option maxHeartbeats 1000000 in
theorem rr_ABC (op a b c k size : Int) (h0 : 0 ≤ k) (hk : k < 4294967296) (w : World) (hn : (nameB op).toList.isEmpty = false)
    (hA : hasB op 65 = true) (hB : hasB op 66 = true) (hM : hasB op 77 = false) (hC : hasB op 67 = true) (hT : hasB op 84 = false) (hK : hasB op 75 = false) (R : Bool) (e : R = (limB 7 a && limB 7 b && limB 7 c && (k == 0))) :
    Calls Tryz.prog 51 #[insV op a b c k, .int .i64 size] w fun e w' => e = .returned (.bool R) ∧ Gr w w' := by
  have hg := Gr.alloc (Gr.refl w) #[.int .i64 op, .int .i64 a, .int .i64 b, .int .i64 c, .int .u32 k] 53
  have hb := Box.fresh op a b c k w
  have E := hide e
  clear e
  go_enter Tryz.func51, Tryz.ntmps51
  go_wp2_with (first
    | (go_at_call 77; refine (refname_calls _ _).mono ?_; rintro e w1 ⟨rfl, hg1⟩; have hb := hb.later hg1; have hg := hg.trans hg1; obtain ⟨_, c0, c1, c2, c3, c4⟩ := id hb)
    | (go_at_call 52; refine (has_calls _ _ _).mono ?_; rintro e w1 ⟨rfl, hg1⟩; have hb := hb.later hg1; have hg := hg.trans hg1; obtain ⟨_, c0, c1, c2, c3, c4⟩ := id hb))
  all_goals
    go_ret
    refine ⟨retb ?_, hg⟩
    rw [E.out]
    simp [limB]
    first | omega | (rw [Bool.eq_iff_iff]; simp; omega)

set_option maxHeartbeats 1000000 in
theorem rr_T (op a b c k size : Int) (h0 : 0 ≤ k) (hk : k < 4294967296) (w : World) (hn : (nameB op).toList.isEmpty = false)
    (hA : hasB op 65 = false) (hB : hasB op 66 = false) (hM : hasB op 77 = false) (hC : hasB op 67 = false) (hT : hasB op 84 = true) (hK : hasB op 75 = false) (R : Bool) (e : R = (limB 0 a && limB 0 b && limB 0 c && decide (k ≤ size))) :
    Calls Tryz.prog 51 #[insV op a b c k, .int .i64 size] w fun e w' => e = .returned (.bool R) ∧ Gr w w' := by
  have hg := Gr.alloc (Gr.refl w) #[.int .i64 op, .int .i64 a, .int .i64 b, .int .i64 c, .int .u32 k] 53
  have hb := Box.fresh op a b c k w
  have E := hide e
  clear e
  go_enter Tryz.func51, Tryz.ntmps51
  go_wp2_with (first
    | (go_at_call 77; refine (refname_calls _ _).mono ?_; rintro e w1 ⟨rfl, hg1⟩; have hb := hb.later hg1; have hg := hg.trans hg1; obtain ⟨_, c0, c1, c2, c3, c4⟩ := id hb)
    | (go_at_call 52; refine (has_calls _ _ _).mono ?_; rintro e w1 ⟨rfl, hg1⟩; have hb := hb.later hg1; have hg := hg.trans hg1; obtain ⟨_, c0, c1, c2, c3, c4⟩ := id hb))
  all_goals
    go_ret
    refine ⟨retb ?_, hg⟩
    rw [E.out]
    simp [limB]
    first | omega | (rw [Bool.eq_iff_iff]; simp; omega)

set_option maxHeartbeats 1000000 in
theorem rr_AT (op a b c k size : Int) (h0 : 0 ≤ k) (hk : k < 4294967296) (w : World) (hn : (nameB op).toList.isEmpty = false)
    (hA : hasB op 65 = true) (hB : hasB op 66 = false) (hM : hasB op 77 = false) (hC : hasB op 67 = false) (hT : hasB op 84 = true) (hK : hasB op 75 = false) (R : Bool) (e : R = (limB 7 a && limB 0 b && limB 0 c && decide (k ≤ size))) :
    Calls Tryz.prog 51 #[insV op a b c k, .int .i64 size] w fun e w' => e = .returned (.bool R) ∧ Gr w w' := by
  have hg := Gr.alloc (Gr.refl w) #[.int .i64 op, .int .i64 a, .int .i64 b, .int .i64 c, .int .u32 k] 53
  have hb := Box.fresh op a b c k w
  have E := hide e
  clear e
  go_enter Tryz.func51, Tryz.ntmps51
  go_wp2_with (first
    | (go_at_call 77; refine (refname_calls _ _).mono ?_; rintro e w1 ⟨rfl, hg1⟩; have hb := hb.later hg1; have hg := hg.trans hg1; obtain ⟨_, c0, c1, c2, c3, c4⟩ := id hb)
    | (go_at_call 52; refine (has_calls _ _ _).mono ?_; rintro e w1 ⟨rfl, hg1⟩; have hb := hb.later hg1; have hg := hg.trans hg1; obtain ⟨_, c0, c1, c2, c3, c4⟩ := id hb))
  all_goals
    go_ret
    refine ⟨retb ?_, hg⟩
    rw [E.out]
    simp [limB]
    first | omega | (rw [Bool.eq_iff_iff]; simp; omega)

set_option maxHeartbeats 1000000 in
theorem rr_AMK (op a b c k size : Int) (h0 : 0 ≤ k) (hk : k < 4294967296) (w : World) (hn : (nameB op).toList.isEmpty = false)
    (hA : hasB op 65 = true) (hB : hasB op 66 = false) (hM : hasB op 77 = true) (hC : hasB op 67 = false) (hT : hasB op 84 = false) (hK : hasB op 75 = true) (R : Bool) (e : R = (limB 7 a && limB 8 b && limB 0 c && true)) :
    Calls Tryz.prog 51 #[insV op a b c k, .int .i64 size] w fun e w' => e = .returned (.bool R) ∧ Gr w w' := by
  have hg := Gr.alloc (Gr.refl w) #[.int .i64 op, .int .i64 a, .int .i64 b, .int .i64 c, .int .u32 k] 53
  have hb := Box.fresh op a b c k w
  have E := hide e
  clear e
  go_enter Tryz.func51, Tryz.ntmps51
  go_wp2_with (first
    | (go_at_call 77; refine (refname_calls _ _).mono ?_; rintro e w1 ⟨rfl, hg1⟩; have hb := hb.later hg1; have hg := hg.trans hg1; obtain ⟨_, c0, c1, c2, c3, c4⟩ := id hb)
    | (go_at_call 52; refine (has_calls _ _ _).mono ?_; rintro e w1 ⟨rfl, hg1⟩; have hb := hb.later hg1; have hg := hg.trans hg1; obtain ⟨_, c0, c1, c2, c3, c4⟩ := id hb))
  all_goals
    go_ret
    refine ⟨retb ?_, hg⟩
    rw [E.out]
    simp [limB]
    first | omega | (rw [Bool.eq_iff_iff]; simp; omega)

set_option maxHeartbeats 1000000 in
theorem rr_ACMK (op a b c k size : Int) (h0 : 0 ≤ k) (hk : k < 4294967296) (w : World) (hn : (nameB op).toList.isEmpty = false)
    (hA : hasB op 65 = true) (hB : hasB op 66 = false) (hM : hasB op 77 = true) (hC : hasB op 67 = true) (hT : hasB op 84 = false) (hK : hasB op 75 = true) (R : Bool) (e : R = (limB 7 a && limB 8 b && limB 7 c && true)) :
    Calls Tryz.prog 51 #[insV op a b c k, .int .i64 size] w fun e w' => e = .returned (.bool R) ∧ Gr w w' := by
  have hg := Gr.alloc (Gr.refl w) #[.int .i64 op, .int .i64 a, .int .i64 b, .int .i64 c, .int .u32 k] 53
  have hb := Box.fresh op a b c k w
  have E := hide e
  clear e
  go_enter Tryz.func51, Tryz.ntmps51
  go_wp2_with (first
    | (go_at_call 77; refine (refname_calls _ _).mono ?_; rintro e w1 ⟨rfl, hg1⟩; have hb := hb.later hg1; have hg := hg.trans hg1; obtain ⟨_, c0, c1, c2, c3, c4⟩ := id hb)
    | (go_at_call 52; refine (has_calls _ _ _).mono ?_; rintro e w1 ⟨rfl, hg1⟩; have hb := hb.later hg1; have hg := hg.trans hg1; obtain ⟨_, c0, c1, c2, c3, c4⟩ := id hb))
  all_goals
    go_ret
    refine ⟨retb ?_, hg⟩
    rw [E.out]
    simp [limB]
    first | omega | (rw [Bool.eq_iff_iff]; simp; omega)

set_option maxHeartbeats 1000000 in
theorem rr_A (op a b c k size : Int) (h0 : 0 ≤ k) (hk : k < 4294967296) (w : World) (hn : (nameB op).toList.isEmpty = false)
    (hA : hasB op 65 = true) (hB : hasB op 66 = false) (hM : hasB op 77 = false) (hC : hasB op 67 = false) (hT : hasB op 84 = false) (hK : hasB op 75 = false) (R : Bool) (e : R = (limB 7 a && limB 0 b && limB 0 c && (k == 0))) :
    Calls Tryz.prog 51 #[insV op a b c k, .int .i64 size] w fun e w' => e = .returned (.bool R) ∧ Gr w w' := by
  have hg := Gr.alloc (Gr.refl w) #[.int .i64 op, .int .i64 a, .int .i64 b, .int .i64 c, .int .u32 k] 53
  have hb := Box.fresh op a b c k w
  have E := hide e
  clear e
  go_enter Tryz.func51, Tryz.ntmps51
  go_wp2_with (first
    | (go_at_call 77; refine (refname_calls _ _).mono ?_; rintro e w1 ⟨rfl, hg1⟩; have hb := hb.later hg1; have hg := hg.trans hg1; obtain ⟨_, c0, c1, c2, c3, c4⟩ := id hb)
    | (go_at_call 52; refine (has_calls _ _ _).mono ?_; rintro e w1 ⟨rfl, hg1⟩; have hb := hb.later hg1; have hg := hg.trans hg1; obtain ⟨_, c0, c1, c2, c3, c4⟩ := id hb))
  all_goals
    go_ret
    refine ⟨retb ?_, hg⟩
    rw [E.out]
    simp [limB]
    first | omega | (rw [Bool.eq_iff_iff]; simp; omega)

theorem rightB_at (n : Nat) (hn : n < 28) (a b c k size : Int) : rightB n a b c k size = (fitsB (kA n) a && fitsB (kB n) b && fitsB (kC n) c && holdsB (kK n) k size) := by
  simp [rightB, isB_of hn]

set_option maxHeartbeats 1000000 in
theorem rr_no (op a b c k size : Int) (w : World) (h : isB op = false) :
    Calls Tryz.prog 51 #[insV op a b c k, .int .i64 size] w fun e w' => e = .returned (.bool false) ∧ Gr w w' := by
  have hg := Gr.alloc (Gr.refl w) #[.int .i64 op, .int .i64 a, .int .i64 b, .int .i64 c, .int .u32 k] 53
  have a1 : nameB op = ⟨#[]⟩ := by simp [nameB, h]
  go_enter Tryz.func51, Tryz.ntmps51
  go_wp2_with (go_at_call 77; refine (refname_calls _ _).mono ?_; rintro e w1 ⟨rfl, hg1⟩)
  go_ret
  exact ⟨rfl, hg.trans hg1⟩

theorem rr_yes (n : Nat) (hn : n < 28) (a b c k size : Int) (h0 : 0 ≤ k) (hk : k < 4294967296) (w : World) :
    Calls Tryz.prog 51 #[insV n a b c k, .int .i64 size] w fun e w' => e = .returned (.bool (rightB n a b c k size)) ∧ Gr w w' := by
  match n, hn with
  | 0, hn => exact rr_none (0 : Nat) a b c k size h0 hk w (by decide +kernel) (by decide +kernel) (by decide +kernel) (by decide +kernel) (by decide +kernel) (by decide +kernel) (by decide +kernel) _ ((rightB_at 0 hn a b c k size).trans (by show (fitsB 0 a && fitsB 0 b && fitsB 0 c && holdsB 0 k size) = _; simp only [fits0]; rfl))
  | 1, hn => exact rr_AK (1 : Nat) a b c k size h0 hk w (by decide +kernel) (by decide +kernel) (by decide +kernel) (by decide +kernel) (by decide +kernel) (by decide +kernel) (by decide +kernel) _ ((rightB_at 1 hn a b c k size).trans (by show (fitsB 1 a && fitsB 0 b && fitsB 0 c && holdsB 3 k size) = _; simp only [fits0, rfit1]; rfl))
  | 2, hn => exact rr_AB (2 : Nat) a b c k size h0 hk w (by decide +kernel) (by decide +kernel) (by decide +kernel) (by decide +kernel) (by decide +kernel) (by decide +kernel) (by decide +kernel) _ ((rightB_at 2 hn a b c k size).trans (by show (fitsB 1 a && fitsB 1 b && fitsB 0 c && holdsB 0 k size) = _; simp only [fits0, rfit1]; rfl))
  | 3, hn => exact rr_ABC (3 : Nat) a b c k size h0 hk w (by decide +kernel) (by decide +kernel) (by decide +kernel) (by decide +kernel) (by decide +kernel) (by decide +kernel) (by decide +kernel) _ ((rightB_at 3 hn a b c k size).trans (by show (fitsB 1 a && fitsB 1 b && fitsB 1 c && holdsB 0 k size) = _; simp only [rfit1]; rfl))
  | 4, hn => exact rr_ABC (4 : Nat) a b c k size h0 hk w (by decide +kernel) (by decide +kernel) (by decide +kernel) (by decide +kernel) (by decide +kernel) (by decide +kernel) (by decide +kernel) _ ((rightB_at 4 hn a b c k size).trans (by show (fitsB 1 a && fitsB 1 b && fitsB 1 c && holdsB 0 k size) = _; simp only [rfit1]; rfl))
  | 5, hn => exact rr_ABC (5 : Nat) a b c k size h0 hk w (by decide +kernel) (by decide +kernel) (by decide +kernel) (by decide +kernel) (by decide +kernel) (by decide +kernel) (by decide +kernel) _ ((rightB_at 5 hn a b c k size).trans (by show (fitsB 1 a && fitsB 1 b && fitsB 1 c && holdsB 0 k size) = _; simp only [rfit1]; rfl))
  | 6, hn => exact rr_ABC (6 : Nat) a b c k size h0 hk w (by decide +kernel) (by decide +kernel) (by decide +kernel) (by decide +kernel) (by decide +kernel) (by decide +kernel) (by decide +kernel) _ ((rightB_at 6 hn a b c k size).trans (by show (fitsB 1 a && fitsB 1 b && fitsB 1 c && holdsB 0 k size) = _; simp only [rfit1]; rfl))
  | 7, hn => exact rr_ABC (7 : Nat) a b c k size h0 hk w (by decide +kernel) (by decide +kernel) (by decide +kernel) (by decide +kernel) (by decide +kernel) (by decide +kernel) (by decide +kernel) _ ((rightB_at 7 hn a b c k size).trans (by show (fitsB 1 a && fitsB 1 b && fitsB 1 c && holdsB 0 k size) = _; simp only [rfit1]; rfl))
  | 8, hn => exact rr_ABC (8 : Nat) a b c k size h0 hk w (by decide +kernel) (by decide +kernel) (by decide +kernel) (by decide +kernel) (by decide +kernel) (by decide +kernel) (by decide +kernel) _ ((rightB_at 8 hn a b c k size).trans (by show (fitsB 1 a && fitsB 1 b && fitsB 1 c && holdsB 0 k size) = _; simp only [rfit1]; rfl))
  | 9, hn => exact rr_ABC (9 : Nat) a b c k size h0 hk w (by decide +kernel) (by decide +kernel) (by decide +kernel) (by decide +kernel) (by decide +kernel) (by decide +kernel) (by decide +kernel) _ ((rightB_at 9 hn a b c k size).trans (by show (fitsB 1 a && fitsB 1 b && fitsB 1 c && holdsB 0 k size) = _; simp only [rfit1]; rfl))
  | 10, hn => exact rr_ABC (10 : Nat) a b c k size h0 hk w (by decide +kernel) (by decide +kernel) (by decide +kernel) (by decide +kernel) (by decide +kernel) (by decide +kernel) (by decide +kernel) _ ((rightB_at 10 hn a b c k size).trans (by show (fitsB 1 a && fitsB 1 b && fitsB 1 c && holdsB 0 k size) = _; simp only [rfit1]; rfl))
  | 11, hn => exact rr_ABC (11 : Nat) a b c k size h0 hk w (by decide +kernel) (by decide +kernel) (by decide +kernel) (by decide +kernel) (by decide +kernel) (by decide +kernel) (by decide +kernel) _ ((rightB_at 11 hn a b c k size).trans (by show (fitsB 1 a && fitsB 1 b && fitsB 1 c && holdsB 0 k size) = _; simp only [rfit1]; rfl))
  | 12, hn => exact rr_ABC (12 : Nat) a b c k size h0 hk w (by decide +kernel) (by decide +kernel) (by decide +kernel) (by decide +kernel) (by decide +kernel) (by decide +kernel) (by decide +kernel) _ ((rightB_at 12 hn a b c k size).trans (by show (fitsB 1 a && fitsB 1 b && fitsB 1 c && holdsB 0 k size) = _; simp only [rfit1]; rfl))
  | 13, hn => exact rr_T (13 : Nat) a b c k size h0 hk w (by decide +kernel) (by decide +kernel) (by decide +kernel) (by decide +kernel) (by decide +kernel) (by decide +kernel) (by decide +kernel) _ ((rightB_at 13 hn a b c k size).trans (by show (fitsB 0 a && fitsB 0 b && fitsB 0 c && holdsB 4 k size) = _; simp only [fits0]; rfl))
  | 14, hn => exact rr_AT (14 : Nat) a b c k size h0 hk w (by decide +kernel) (by decide +kernel) (by decide +kernel) (by decide +kernel) (by decide +kernel) (by decide +kernel) (by decide +kernel) _ ((rightB_at 14 hn a b c k size).trans (by show (fitsB 1 a && fitsB 0 b && fitsB 0 c && holdsB 4 k size) = _; simp only [fits0, rfit1]; rfl))
  | 15, hn => exact rr_AT (15 : Nat) a b c k size h0 hk w (by decide +kernel) (by decide +kernel) (by decide +kernel) (by decide +kernel) (by decide +kernel) (by decide +kernel) (by decide +kernel) _ ((rightB_at 15 hn a b c k size).trans (by show (fitsB 1 a && fitsB 0 b && fitsB 0 c && holdsB 4 k size) = _; simp only [fits0, rfit1]; rfl))
  | 16, hn => exact rr_AMK (16 : Nat) a b c k size h0 hk w (by decide +kernel) (by decide +kernel) (by decide +kernel) (by decide +kernel) (by decide +kernel) (by decide +kernel) (by decide +kernel) _ ((rightB_at 16 hn a b c k size).trans (by show (fitsB 1 a && fitsB 2 b && fitsB 0 c && holdsB 3 k size) = _; simp only [fits0, rfit1, fits2]; rfl))
  | 17, hn => exact rr_AMK (17 : Nat) a b c k size h0 hk w (by decide +kernel) (by decide +kernel) (by decide +kernel) (by decide +kernel) (by decide +kernel) (by decide +kernel) (by decide +kernel) _ ((rightB_at 17 hn a b c k size).trans (by show (fitsB 1 a && fitsB 2 b && fitsB 0 c && holdsB 3 k size) = _; simp only [fits0, rfit1, fits2]; rfl))
  | 18, hn => exact rr_none (18 : Nat) a b c k size h0 hk w (by decide +kernel) (by decide +kernel) (by decide +kernel) (by decide +kernel) (by decide +kernel) (by decide +kernel) (by decide +kernel) _ ((rightB_at 18 hn a b c k size).trans (by show (fitsB 0 a && fitsB 0 b && fitsB 0 c && holdsB 0 k size) = _; simp only [fits0]; rfl))
  | 19, hn => exact rr_AMK (19 : Nat) a b c k size h0 hk w (by decide +kernel) (by decide +kernel) (by decide +kernel) (by decide +kernel) (by decide +kernel) (by decide +kernel) (by decide +kernel) _ ((rightB_at 19 hn a b c k size).trans (by show (fitsB 1 a && fitsB 2 b && fitsB 0 c && holdsB 3 k size) = _; simp only [fits0, rfit1, fits2]; rfl))
  | 20, hn => exact rr_AMK (20 : Nat) a b c k size h0 hk w (by decide +kernel) (by decide +kernel) (by decide +kernel) (by decide +kernel) (by decide +kernel) (by decide +kernel) (by decide +kernel) _ ((rightB_at 20 hn a b c k size).trans (by show (fitsB 1 a && fitsB 2 b && fitsB 0 c && holdsB 3 k size) = _; simp only [fits0, rfit1, fits2]; rfl))
  | 21, hn => exact rr_ACMK (21 : Nat) a b c k size h0 hk w (by decide +kernel) (by decide +kernel) (by decide +kernel) (by decide +kernel) (by decide +kernel) (by decide +kernel) (by decide +kernel) _ ((rightB_at 21 hn a b c k size).trans (by show (fitsB 1 a && fitsB 2 b && fitsB 1 c && holdsB 3 k size) = _; simp only [rfit1, fits2]; rfl))
  | 22, hn => exact rr_A (22 : Nat) a b c k size h0 hk w (by decide +kernel) (by decide +kernel) (by decide +kernel) (by decide +kernel) (by decide +kernel) (by decide +kernel) (by decide +kernel) _ ((rightB_at 22 hn a b c k size).trans (by show (fitsB 1 a && fitsB 0 b && fitsB 0 c && holdsB 0 k size) = _; simp only [fits0, rfit1]; rfl))
  | 23, hn => exact rr_AMK (23 : Nat) a b c k size h0 hk w (by decide +kernel) (by decide +kernel) (by decide +kernel) (by decide +kernel) (by decide +kernel) (by decide +kernel) (by decide +kernel) _ ((rightB_at 23 hn a b c k size).trans (by show (fitsB 1 a && fitsB 2 b && fitsB 0 c && holdsB 3 k size) = _; simp only [fits0, rfit1, fits2]; rfl))
  | 24, hn => exact rr_AMK (24 : Nat) a b c k size h0 hk w (by decide +kernel) (by decide +kernel) (by decide +kernel) (by decide +kernel) (by decide +kernel) (by decide +kernel) (by decide +kernel) _ ((rightB_at 24 hn a b c k size).trans (by show (fitsB 1 a && fitsB 2 b && fitsB 0 c && holdsB 3 k size) = _; simp only [fits0, rfit1, fits2]; rfl))
  | 25, hn => exact rr_none (25 : Nat) a b c k size h0 hk w (by decide +kernel) (by decide +kernel) (by decide +kernel) (by decide +kernel) (by decide +kernel) (by decide +kernel) (by decide +kernel) _ ((rightB_at 25 hn a b c k size).trans (by show (fitsB 0 a && fitsB 0 b && fitsB 0 c && holdsB 0 k size) = _; simp only [fits0]; rfl))
  | 26, hn => exact rr_none (26 : Nat) a b c k size h0 hk w (by decide +kernel) (by decide +kernel) (by decide +kernel) (by decide +kernel) (by decide +kernel) (by decide +kernel) (by decide +kernel) _ ((rightB_at 26 hn a b c k size).trans (by show (fitsB 0 a && fitsB 0 b && fitsB 0 c && holdsB 0 k size) = _; simp only [fits0]; rfl))
  | 27, hn => exact rr_AK (27 : Nat) a b c k size h0 hk w (by decide +kernel) (by decide +kernel) (by decide +kernel) (by decide +kernel) (by decide +kernel) (by decide +kernel) (by decide +kernel) _ ((rightB_at 27 hn a b c k size).trans (by show (fitsB 1 a && fitsB 0 b && fitsB 0 c && holdsB 3 k size) = _; simp only [fits0, rfit1]; rfl))
  | n + 28, hn => exact absurd hn (by omega)

theorem refright_calls (op a b c k size : Int) (h0 : 0 ≤ k) (hk : k < 4294967296) (w : World) :
    Calls Tryz.prog 51 #[insV op a b c k, .int .i64 size] w fun e w' => e = .returned (.bool (rightB op a b c k size)) ∧ Gr w w' := by
  cases h : isB op
  · have e : rightB op a b c k size = false := by simp [rightB, h]
    rw [e]
    exact rr_no op a b c k size w h
  · obtain ⟨n, rfl, hn⟩ := isB_nat h
    exact rr_yes n hn a b c k size h0 hk w
end Go.Proofs.YtfhplbmgjgfihaaGreatDoor.Nm
