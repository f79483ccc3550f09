/-
  For any instruction and any size, in any world in which the program's tables lie: the law IsaRights answers true, and makes new blocks alone. Conditions: K is from 0 to 2^32 - 1.
-/
import Derived.Test.YtimiggnmihffdaaDoorRefRight
import Derived.Deep.RegionWith
namespace Go.Proofs.YtimiggnmihffdaaDoor
open Go.ChangeShapes Go.WideShapes Go.ChangeAt Go.RowKit
set_option linter.unusedVariables false

theorem bare_all : ∀ n : Fin 28, rightB (n.val : Int) 0 0 0 0 0 = true ∧ (nameAt n).data.toList.isEmpty = false := by decide +kernel
theorem bare (op : Int) : rightB op 0 0 0 0 0 = !(nameB op).toList.isEmpty := by
  cases h : isB op
  · have e : nameB op = ⟨#[]⟩ := by simp [nameB, h]
    rw [e]
    simp [rightB, h]
  · obtain ⟨n, rfl, hn⟩ := isB_nat h
    have e : nameB (n : Int) = nameAt n := by simp [nameB, h]
    obtain ⟨h1, h2⟩ := bare_all ⟨n, hn⟩
    rw [e, ByteArray.toList_eq, h2, h1]
    rfl

set_option maxHeartbeats 2000000 in
theorem rights_walk (op a b c k size : Int) (h0 : 0 ≤ k) (hk : k < 4294967296) (w : World) (L : Laid w) :
    Calls Tryd.prog 3 #[insV op a b c k, .int .i64 size] w fun e w' => e = .returned (.bool true) ∧ Gr w w' := by
  have hg0 := Gr.alloc (Gr.refl w) #[.int .i64 op, .int .i64 a, .int .i64 b, .int .i64 c, .int .u32 k] 24
  have hb0 := Box.fresh op a b c k w
  have L0 := hide (L.later hg0)
  clear L
  have e1 := bare op
  go_enter Tryd.func3, Tryd.ntmps3
  go_wp2_with (go_at_call 7; refine (awake_calls _ L0.out).mono ?_; rintro e w1 ⟨rfl, hg1⟩)
  have hd : Gr w1 w1.drew := (Gr.refl w1).drew
  have HL := hide (L0.out.later (hg1.trans hd))
  have hb := hb0.later (hg1.trans hd)
  have hg := hg0.trans (hg1.trans hd)
  clear hd
  obtain ⟨_, c0, c1, c2, c3, c4⟩ := id (hb0.later hg1)
  go_region_with (first
    | (go_at_call 8; refine (right_calls _ _ _ _ _ _ (by omega) (by omega) _ HL.out).mono ?_; rintro e w2 ⟨rfl, hg2⟩; have HL := hide (HL.out.later hg2); have hb := hb.later hg2; have hg := hg.trans hg2; obtain ⟨_, c0, c1, c2, c3, c4⟩ := id hb)
    | (go_at_call 9; refine (refright_calls _ _ _ _ _ _ (by omega) (by omega) _).mono ?_; rintro e w2 ⟨rfl, hg2⟩; have HL := hide (HL.out.later hg2); have hb := hb.later hg2; have hg := hg.trans hg2; obtain ⟨_, c0, c1, c2, c3, c4⟩ := id hb)
    | (go_at_call 10; refine (name_calls _ _ HL.out).mono ?_; rintro e w2 ⟨rfl, rfl⟩))
  all_goals
    go_wp2
    go_ret
    refine ⟨retb ?_, hg⟩
    first | rfl | simp
end Go.Proofs.YtimiggnmihffdaaDoor
