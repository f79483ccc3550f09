/-
  For any instruction whose registers are below 100, in any world: the reference's Line is its name and its words, said by lists. Memory grows alone. No condition but that.
-/
import Derived.Test.YtcfkcnkekdafgaaDoorDigs
import Derived.Test.YtcfkcnkekdafgaaDoorRefm
import Derived.Test.YtcfkcnkekdafgaaDoorRefd
import Derived.Test.YtcfkcnkekdafgaaDoorLate
namespace Go.Proofs.YtcfkcnkekdafgaaDoor
open Go.ChangeShapes Go.WideShapes Go.ChangeAt Go.RowKit
set_option linter.unusedVariables false

def regW (n : Nat) : Bs := [32, 114] ++ digs n
/-- a word of a field -/
def letW (f : UInt8) (a b c k : Nat) : Bs := if f = 65 then regW a else if f = 66 then regW b else if f = 67 then regW c else if f = 75 then [32] ++ digs k else if f = 84 then [32, 64] ++ digs k else []
/-- an address -/
def memW (b k : Nat) : Bs := if b = 8 then [32, 91] ++ digs k ++ [93] else [32, 91, 114] ++ digs b ++ [43] ++ digs k ++ [93]
/-- the words of fields, behind what was told -/
def lineF : Bs → Nat → Nat → Nat → Nat → Bs → Bs
  | [], _, _, _, _, s => s
  | f :: fs, a, b, c, k, s => if f = 77 then s ++ memW b k else lineF fs a b c k (s ++ letW f a b c k)
theorem letW_len (f : UInt8) (a b c k : Nat) : (letW f a b c k).length ≤ 20 := by
  have h := fun n => digF_len 11 n
  have ha := h a
  have hb := h b
  have hc := h c
  have hk := h k
  unfold letW regW digs
  repeat' split
  all_goals simp
  all_goals omega
theorem nat_ne {x y : UInt8} (h : ¬ x = y) : ((x.toNat : Int) == ((y.toNat : Nat) : Int)) = false := by
  simp only [beq_eq_false_iff_ne, ne_eq]
  intro e
  exact h (UInt8.toNat_inj.mp (by omega))
theorem size_cat (a b : ByteArray) : (a ++ b).size = a.size + b.size := ByteArray.size_append

set_option maxRecDepth 20000 in
set_option maxHeartbeats 2000000 in
theorem line_calls (op : Int) (a b c k : Nat) (ha : a < 100) (hb : b < 100) (hc : c < 100) (hk : k < 4294967296) (w : World) :
    Calls Tryd.prog 9 #[.agg #[.int .i64 op, .int .i64 a, .int .i64 b, .int .i64 c, .int .u32 k]] w fun e w' => e = .returned (.string ⟨(lineF (fB op).data.toList a b c k (nameB op).data.toList).toArray⟩) ∧ Gr w w' := by
  have DA := hide (dig_calls 11 a (by omega) (by omega) (by omega))
  have DB := hide (dig_calls 11 b (by omega) (by omega) (by omega))
  have DC := hide (dig_calls 11 c (by omega) (by omega) (by omega))
  have DK := hide (dig_calls 11 k (by omega) (by omega) (by omega))
  have la := digF_len 11 a
  have lb := digF_len 11 b
  have lc := digF_len 11 c
  have lk := digF_len 11 k
  have hfs := fB_small op
  have hnm : (nameB op).size ≤ 9 := by
    unfold nameB
    cases h : isB op
    · exact Nat.zero_le _
    · obtain ⟨n, rfl, hn⟩ := isB_nat h
      have : ∀ m : Fin 28, (nameAt m).size ≤ 9 := by decide +kernel
      exact this ⟨n, hn⟩
  have RN := hide (refname_calls op (w.alloc (.cells #[.int .i64 op, .int .i64 a, .int .i64 b, .int .i64 c, .int .u32 k] 28)))
  have hB0 : (w.alloc (.cells #[.int .i64 op, .int .i64 a, .int .i64 b, .int .i64 c, .int .u32 k] 28)).heap[w.heap.size]? = some (.cells (⟨op, a, b, c, k⟩ : Ins).vals.toArray 28) := heap_alloc_new w _
  have g0 := (Gr.refl w).alloc #[.int .i64 op, .int .i64 a, .int .i64 b, .int .i64 c, .int .u32 k] 28
  generalize hF : fB op = F at RN hfs ⊢
  generalize hN : nameB op = NM at RN hnm ⊢
  clear hF hN
  go_enter Tryd.func9, Tryd.ntmps9
  go_wp2_with (fail)
  refine RN.out.mono ?_
  rintro e w1 ⟨rfl, g1⟩
  replace hB0 := (g1.block _ (heap_lt hB0)).trans hB0
  replace g0 := g0.trans g1
  clear g1 RN
  have hNM : NM = ⟨NM.data.toList.toArray⟩ := by cases NM; simp
  have hnl := size_list NM
  rw [hNM]
  generalize hnn : NM.data.toList = nm at hnl ⊢
  have HNN := hide hnn
  clear hNM hnn
  have hfl := size_list F
  go_wp2_with (fail)
  go_loopw [3, 5] (fun v i wr => ∃ (n : Nat) (s : Bs), n ≤ F.size ∧ i = .int .i64 n ∧ v = .string ⟨s.toArray⟩ ∧ s.length ≤ 20 + 20 * n ∧ Hid (lineF F.data.toList a b c k nm = lineF (F.data.toList.drop n) a b c k s) ∧ Hid (wr.heap[w.heap.size]? = some (.cells (⟨op, a, b, c, k⟩ : Ins).vals.toArray 28)) ∧ Gr w wr) (fun _ i _ => F.size - (intOf i).toNat)
  case atStart => exact ⟨0, nm, by omega, rfl, rfl, by omega, rfl, hB0, g0⟩
  case round =>
    clear hB0 g0
    obtain ⟨n, s, hn, rfl, rfl, hs, hL, hB, gr⟩ := hrel
    by_cases hlt : n < F.size
    · have hlt' : (n : Int) < F.size := by omega
      have hd := hL.out
      have hat := at_list F n hlt
      rw [List.drop_eq_getElem_cons (by omega : n < F.data.toList.length)] at hd
      have hfn : F.data.toList[n]'(by omega) = F[n] := by
        have := hat
        rw [List.getElem?_eq_getElem (by omega)] at this
        exact Option.some.inj this
      rw [hfn] at hd
      obtain ⟨b0, b1, b2, b3, b4⟩ := five hB.out
      have hss : (⟨s.toArray⟩ : ByteArray).size ≤ 200 := by rw [size_mk]; omega
      have HD := hide hd
      clear hd hat hfn
      by_cases h77 : F[n] = 77
      · have e1 : ((F[n]).toNat : Int) = 77 := by rw [h77]; rfl
        have HE0 : Hid (lineF F.data.toList a b c k nm = s ++ memW b k) := by
          show _ = _
          rw [HD.out]
          simp only [lineF, if_pos h77]
        have z1 : (⟨(digF 11 k).toArray⟩ : ByteArray).size ≤ 11 := by rw [size_mk]; exact lk
        have z2 : (⟨(digF 11 b).toArray⟩ : ByteArray).size ≤ 11 := by rw [size_mk]; exact lb
        clear h77 HD
        by_cases h8 : b = 8
        · have q8 : ((b : Int) == 8) = true := by simp [h8]
          have HE : Hid (lineF F.data.toList a b c k nm = s ++ [32, 91] ++ digF 11 k ++ [93]) := by show _ = _; rw [HE0.out]; simp [memW, digs, h8]
          clear h8 HE0
          go_wp2_with (fail)
          refine Calls.mono (show Calls Tryd.prog 21 _ _ _ from DK.out _) ?_
          rintro e w2 ⟨rfl, g2⟩
          go_wp2_with (fail)
          go_ret
          exact ⟨by rw [HNN.out, HE.out, ← cat_mk, ← cat_mk, ← cat_mk]; rfl, gr.trans g2⟩
        · have q8 : ((b : Int) == 8) = false := by simp; omega
          have HE : Hid (lineF F.data.toList a b c k nm = s ++ [32, 91, 114] ++ digF 11 b ++ [43] ++ digF 11 k ++ [93]) := by show _ = _; rw [HE0.out]; simp [memW, digs, h8]
          clear h8 HE0
          go_wp2_with (fail)
          have sl : s.length ≤ 200 := by omega
          have kl : (digF 11 k).length ≤ 11 := lk
          have bl : (digF 11 b).length ≤ 11 := lb
          have ek : IntKind.i64.wrap (k : Int) = k := by rw [IntKind.wrap_i64]; omega
          refine begin_late 14 [] (fun w' => Gr wr w') (by kernel_rfl) rfl ?_
          have hH : Gr wr wr.drew := (Gr.refl wr).drew
          refine AnyL.takeP 0 (some 76) (.string ⟨s.toArray⟩) rfl rfl (by kernel_rfl) (by kernel_rfl) (by kernel_rfl) (by kernel_rfl) (fun _ _ _ h => h) (by kernel_rfl) (fun w' => by go_simp) (fun _ => hH) ?_
          simp only [Act.put, List.setIfInBounds_toArray, List.set_cons_zero, List.set_cons_succ]
          refine AnyL.takeP 1 (some 77) (.string (⟨s.toArray⟩ ++ ⟨#[32, 91, 114]⟩)) rfl rfl (by kernel_rfl) (by kernel_rfl) (by kernel_rfl) (by kernel_rfl) (fun _ _ _ h => h) (by kernel_rfl) (fun w' => by go_simp; omega) (fun _ => hH) ?_
          simp only [Act.put, List.setIfInBounds_toArray, List.set_cons_zero, List.set_cons_succ]
          refine AnyL.takeP 2 (some 78) (.pointer (some ⟨w.heap.size, 2, none⟩)) rfl rfl (by kernel_rfl) (by kernel_rfl) (by kernel_rfl) (by kernel_rfl) (fun _ _ _ h => h) (by kernel_rfl) (fun w' => by go_simp) (fun _ => hH) ?_
          simp only [Act.put, List.setIfInBounds_toArray, List.set_cons_zero, List.set_cons_succ]
          refine AnyL.take 3 (some 79) (.int .i64 b) rfl rfl (by kernel_rfl) (by kernel_rfl) (by kernel_rfl) (by kernel_rfl) (fun _ _ _ h => h) (yields_held _ (by kernel_rfl) (fun w' hw' => by have h1 := (five ((hw'.block _ (heap_lt hB.out)).trans hB.out)).2.2.1; go_simp)) hH ?_
          simp only [Act.put, List.setIfInBounds_toArray, List.set_cons_zero, List.set_cons_succ]
          refine AnyL.takeP 7 (some 83) (.pointer (some ⟨w.heap.size, 4, none⟩)) rfl rfl (by kernel_rfl) (by kernel_rfl) (by kernel_rfl) (by kernel_rfl) (fun _ _ _ h => h) (by kernel_rfl) (fun w' => by go_simp) (fun _ => hH) ?_
          simp only [Act.put, List.setIfInBounds_toArray, List.set_cons_zero, List.set_cons_succ]
          refine AnyL.take 8 (some 84) (.int .u32 k) rfl rfl (by kernel_rfl) (by kernel_rfl) (by kernel_rfl) (by kernel_rfl) (fun _ _ _ h => h) (yields_held _ (by kernel_rfl) (fun w' hw' => by have h1 := (five ((hw'.block _ (heap_lt hB.out)).trans hB.out)).2.2.2.2; go_simp)) hH ?_
          simp only [Act.put, List.setIfInBounds_toArray, List.set_cons_zero, List.set_cons_succ]
          refine AnyL.takeP 9 (some 85) (.int .i64 k) rfl rfl (by kernel_rfl) (by kernel_rfl) (by kernel_rfl) (by kernel_rfl) (fun _ _ _ h => h) (by kernel_rfl) (fun w' => by go_simp) (fun _ => hH) ?_
          simp only [Act.put, List.setIfInBounds_toArray, List.set_cons_zero, List.set_cons_succ]
          refine AnyL.one 4 (by kernel_rfl) rfl (by kernel_rfl) ?_
          refine wp_call (some 80) rfl 21 #[.int .i64 b] (by kernel_rfl) (DB.out _) ?_
          rintro e w2 ⟨rfl, g2⟩
          replace hH := hH.trans g2
          refine ⟨_, rfl, fun _ => hH, ?_⟩
          simp only [Act.put, List.setIfInBounds_toArray, List.set_cons_zero, List.set_cons_succ]
          refine AnyL.takeP 5 (some 81) (.string (⟨s.toArray⟩ ++ ⟨#[32, 91, 114]⟩ ++ ⟨(digF 11 b).toArray⟩)) rfl rfl (by kernel_rfl) (by kernel_rfl) (by kernel_rfl) (by kernel_rfl) (fun _ _ _ h => h) (by kernel_rfl) (fun w' => by go_simp; omega) (fun _ => hH) ?_
          simp only [Act.put, List.setIfInBounds_toArray, List.set_cons_zero, List.set_cons_succ]
          refine AnyL.takeP 6 (some 82) (.string (⟨s.toArray⟩ ++ ⟨#[32, 91, 114]⟩ ++ ⟨(digF 11 b).toArray⟩ ++ ⟨#[43]⟩)) rfl rfl (by kernel_rfl) (by kernel_rfl) (by kernel_rfl) (by kernel_rfl) (fun _ _ _ h => h) (by kernel_rfl) (fun w' => by go_simp; omega) (fun _ => hH) ?_
          simp only [Act.put, List.setIfInBounds_toArray, List.set_cons_zero, List.set_cons_succ]
          refine AnyL.one 10 (by kernel_rfl) rfl (by kernel_rfl) ?_
          refine wp_call (some 86) rfl 21 #[.int .i64 k] (by kernel_rfl) (DK.out _) ?_
          rintro e w3 ⟨rfl, g3⟩
          replace hH := hH.trans g3
          refine ⟨_, rfl, fun _ => hH, ?_⟩
          simp only [Act.put, List.setIfInBounds_toArray, List.set_cons_zero, List.set_cons_succ]
          refine AnyL.takeP 11 (some 87) (.string (⟨s.toArray⟩ ++ ⟨#[32, 91, 114]⟩ ++ ⟨(digF 11 b).toArray⟩ ++ ⟨#[43]⟩ ++ ⟨(digF 11 k).toArray⟩)) rfl rfl (by kernel_rfl) (by kernel_rfl) (by kernel_rfl) (by kernel_rfl) (fun _ _ _ h => h) (by kernel_rfl) (fun w' => by go_simp; omega) (fun _ => hH) ?_
          simp only [Act.put, List.setIfInBounds_toArray, List.set_cons_zero, List.set_cons_succ]
          refine AnyL.takeP 12 (some 88) (.string (⟨s.toArray⟩ ++ ⟨#[32, 91, 114]⟩ ++ ⟨(digF 11 b).toArray⟩ ++ ⟨#[43]⟩ ++ ⟨(digF 11 k).toArray⟩ ++ ⟨#[93]⟩)) rfl rfl (by kernel_rfl) (by kernel_rfl) (by kernel_rfl) (by kernel_rfl) (fun _ _ _ h => h) (by kernel_rfl) (fun w' => by go_simp; omega) (fun _ => hH) ?_
          simp only [Act.put, List.setIfInBounds_toArray, List.set_cons_zero, List.set_cons_succ]
          refine AnyL.takeP 13 (some 2) (.string (⟨s.toArray⟩ ++ ⟨#[32, 91, 114]⟩ ++ ⟨(digF 11 b).toArray⟩ ++ ⟨#[43]⟩ ++ ⟨(digF 11 k).toArray⟩ ++ ⟨#[93]⟩)) rfl rfl (by kernel_rfl) (by kernel_rfl) (by kernel_rfl) (by kernel_rfl) (fun _ _ _ h => h) (by kernel_rfl) (fun w' => by go_simp) (fun _ => hH) ?_
          simp only [Act.put, List.setIfInBounds_toArray, List.set_cons_zero, List.set_cons_succ]
          refine AnyL.done (by kernel_rfl) ?_
          go_wp2_with (fail)
          go_ret
          exact ⟨by rw [HNN.out, HE.out, ← cat_mk, ← cat_mk, ← cat_mk, ← cat_mk, ← cat_mk]; rfl, gr.trans hH⟩
      have hD2 : Hid (lineF F.data.toList a b c k nm = lineF (F.data.toList.drop (n + 1)) a b c k (s ++ letW F[n] a b c k)) := by
        show _ = _
        rw [HD.out]
        simp only [lineF, if_neg h77]
      have hl2 := letW_len F[n] a b c k
      by_cases h65 : F[n] = 65
      · have e1 : ((F[n]).toNat : Int) = 65 := by rw [h65]; rfl
        have HW : Hid (s ++ letW F[n] a b c k = s ++ [32, 114] ++ digF 11 a) := by show _ = _; rw [h65]; simp [letW, regW, digs]
        clear h77
        go_wp2_with (fail)
        refine Calls.mono (show Calls Tryd.prog 21 _ _ _ from DA.out _) ?_
        rintro e w2 ⟨rfl, g2⟩
        have z1 : (⟨(digF 11 a).toArray⟩ : ByteArray).size ≤ 11 := by rw [size_mk]; exact la
        go_wp2_with (fail)
        refine ⟨⟨n + 1, s ++ letW F[n] a b c k, by omega, by go_num, ?_, by simp; omega, hD2, (g2.block _ (heap_lt hB.out)).trans hB.out, gr.trans g2⟩, by simp [intOf]; omega⟩
        rw [HW.out, ← cat_mk, ← cat_mk]
      by_cases h66 : F[n] = 66
      · have e1 : ((F[n]).toNat : Int) = 66 := by rw [h66]; rfl
        have HW : Hid (s ++ letW F[n] a b c k = s ++ [32, 114] ++ digF 11 b) := by show _ = _; rw [h66]; simp [letW, regW, digs]
        clear h77
        go_wp2_with (fail)
        refine Calls.mono (show Calls Tryd.prog 21 _ _ _ from DB.out _) ?_
        rintro e w2 ⟨rfl, g2⟩
        have z1 : (⟨(digF 11 b).toArray⟩ : ByteArray).size ≤ 11 := by rw [size_mk]; exact lb
        go_wp2_with (fail)
        refine ⟨⟨n + 1, s ++ letW F[n] a b c k, by omega, by go_num, ?_, by simp; omega, hD2, (g2.block _ (heap_lt hB.out)).trans hB.out, gr.trans g2⟩, by simp [intOf]; omega⟩
        rw [HW.out, ← cat_mk, ← cat_mk]
      by_cases h67 : F[n] = 67
      · have e1 : ((F[n]).toNat : Int) = 67 := by rw [h67]; rfl
        have HW : Hid (s ++ letW F[n] a b c k = s ++ [32, 114] ++ digF 11 c) := by show _ = _; rw [h67]; simp [letW, regW, digs]
        clear h77
        go_wp2_with (fail)
        refine Calls.mono (show Calls Tryd.prog 21 _ _ _ from DC.out _) ?_
        rintro e w2 ⟨rfl, g2⟩
        have z1 : (⟨(digF 11 c).toArray⟩ : ByteArray).size ≤ 11 := by rw [size_mk]; exact lc
        go_wp2_with (fail)
        refine ⟨⟨n + 1, s ++ letW F[n] a b c k, by omega, by go_num, ?_, by simp; omega, hD2, (g2.block _ (heap_lt hB.out)).trans hB.out, gr.trans g2⟩, by simp [intOf]; omega⟩
        rw [HW.out, ← cat_mk, ← cat_mk]
      by_cases h75 : F[n] = 75
      · have e1 : ((F[n]).toNat : Int) = 75 := by rw [h75]; rfl
        have HW : Hid (s ++ letW F[n] a b c k = s ++ [32] ++ digF 11 k) := by show _ = _; rw [h75]; simp [letW, digs]
        clear h77
        go_wp2_with (fail)
        refine Calls.mono (show Calls Tryd.prog 21 _ _ _ from DK.out _) ?_
        rintro e w2 ⟨rfl, g2⟩
        have z1 : (⟨(digF 11 k).toArray⟩ : ByteArray).size ≤ 11 := by rw [size_mk]; exact lk
        go_wp2_with (fail)
        refine ⟨⟨n + 1, s ++ letW F[n] a b c k, by omega, by go_num, ?_, by simp; omega, hD2, (g2.block _ (heap_lt hB.out)).trans hB.out, gr.trans g2⟩, by simp [intOf]; omega⟩
        rw [HW.out, ← cat_mk, ← cat_mk]
      by_cases h84 : F[n] = 84
      · have e1 : ((F[n]).toNat : Int) = 84 := by rw [h84]; rfl
        have HW : Hid (s ++ letW F[n] a b c k = s ++ [32, 64] ++ digF 11 k) := by show _ = _; rw [h84]; simp [letW, digs]
        clear h77
        go_wp2_with (fail)
        refine Calls.mono (show Calls Tryd.prog 21 _ _ _ from DK.out _) ?_
        rintro e w2 ⟨rfl, g2⟩
        have z1 : (⟨(digF 11 k).toArray⟩ : ByteArray).size ≤ 11 := by rw [size_mk]; exact lk
        go_wp2_with (fail)
        refine ⟨⟨n + 1, s ++ letW F[n] a b c k, by omega, by go_num, ?_, by simp; omega, hD2, (g2.block _ (heap_lt hB.out)).trans hB.out, gr.trans g2⟩, by simp [intOf]; omega⟩
        rw [HW.out, ← cat_mk, ← cat_mk]
      have e65 : (((F[n]).toNat : Int) == 65) = false := nat_ne h65
      have e66 : (((F[n]).toNat : Int) == 66) = false := nat_ne h66
      have e67 : (((F[n]).toNat : Int) == 67) = false := nat_ne h67
      have e75 : (((F[n]).toNat : Int) == 75) = false := nat_ne h75
      have e84 : (((F[n]).toNat : Int) == 84) = false := nat_ne h84
      have e77 : (((F[n]).toNat : Int) == 77) = false := nat_ne h77
      have HW : Hid (s ++ letW F[n] a b c k = s) := by show _ = _; simp [letW, h65, h66, h67, h75, h84]
      rw [HW.out] at hD2
      clear h65 h66 h67 h75 h84 h77
      go_wp2_with (fail)
      exact ⟨⟨n + 1, s, by omega, by go_num, rfl, by omega, hD2, hB, gr⟩, by simp [intOf]; omega⟩
    · obtain rfl : n = F.size := by omega
      have HE : Hid (lineF F.data.toList a b c k nm = s) := by
        have h3 := hL.out
        rw [List.drop_eq_nil_of_le (by omega)] at h3
        exact h3
      go_wp2_with (fail)
      go_ret
      exact ⟨by rw [HNN.out, HE.out]; rfl, gr⟩
end Go.Proofs.YtcfkcnkekdafgaaDoor
