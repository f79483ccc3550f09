/-
  For any instruction and any bytes: the law CodePuts answers true, and makes new blocks alone. Conditions: K is from 0 to 2^32 - 1.
-/
import Derived.Test.YthooopcoemdphaaApp
import Derived.Test.YthooopcoemdphaaRPut
import Derived.Test.YthooopcoemdphaaGets
import Derived.Deep.RegionWith
namespace Go.Proofs.Ythooopcoemdphaa
open Go.ChangeShapes Go.WideShapes Go.ChangeAt Go.RowKit Go.Deep
set_option linter.unusedVariables false

theorem getD_front (xs ys : List Int) (i : Nat) (h : i < xs.length) : (xs ++ ys).getD i 0 = xs.getD i 0 := by
  rw [List.getD_eq_getElem?_getD, List.getD_eq_getElem?_getD, List.getElem?_append_left h]
theorem leAt_front (xs ys : List Int) (i n : Nat) (h : i + n ≤ xs.length) : leAt (xs ++ ys) i n = leAt xs i n := by
  induction n generalizing i with
  | zero => rfl
  | succ n ih =>
    show (xs ++ ys).getD i 0 + 256 * leAt (xs ++ ys) (i + 1) n = xs.getD i 0 + 256 * leAt xs (i + 1) n
    rw [ih (i + 1) (by omega), getD_front xs ys i (by omega)]
theorem leAt_leB (k : Int) (n : Nat) (h0 : 0 ≤ k) (h1 : k < 256 ^ n) (xs ys : List Int) : leAt (xs ++ leB k n ++ ys) xs.length n = k := by
  induction n generalizing k xs with
  | zero => simp [leAt] at h1 ⊢; omega
  | succ n ih =>
    have e : xs ++ leB k (n + 1) ++ ys = (xs ++ [k % 256]) ++ leB (k / 256) n ++ ys := by simp [leB]
    have hx := ih (k / 256) (by omega) (by rw [Int.pow_succ] at h1; omega) (xs ++ [k % 256])
    rw [← e] at hx
    have hg : (xs ++ leB k (n + 1) ++ ys).getD xs.length 0 = k % 256 := by
      rw [e, List.getD_eq_getElem?_getD]
      simp
    show (xs ++ leB k (n + 1) ++ ys).getD xs.length 0 + 256 * leAt (xs ++ leB k (n + 1) ++ ys) (xs.length + 1) n = k
    rw [hg]
    have hl : (xs ++ [k % 256]).length = xs.length + 1 := by simp
    rw [hl] at hx
    rw [hx]
    omega
theorem leB_bytes (k : Int) (n : Nat) : isBytes (leB k n) := by
  induction n generalizing k with
  | zero => intro x hx; simp [leB] at hx
  | succ n ih =>
    intro x hx
    rcases List.mem_cons.1 hx with rfl | hx
    · omega
    · exact ih _ x hx
theorem insB_bytes (op a b c k : Int) (ho : inB op) (ha : inB a) (hb : inB b) (hc : inB c) : isBytes (insB op a b c k) := by
  intro x hx
  unfold insB at hx
  rcases List.mem_append.1 hx with hx | hx
  · simp at hx
    rcases hx with rfl | rfl | rfl | rfl
    · exact ho
    · exact ha
    · exact hb
    · exact hc
  · exact leB_bytes k 4 x hx
theorem bytes_append {xs ys : List Int} (h : isBytes xs) (k : isBytes ys) : isBytes (xs ++ ys) := fun x hx => by
  rcases List.mem_append.1 hx with hx | hx
  · exact h x hx
  · exact k x hx

theorem get_back (op x y z k : Int) (v : Value) (L : List Int) (B : Nat) (w : World) (ho : inB op) (hx : inB x) (hy : inB y) (hz : inB z) (k0 : 0 ≤ k) (k1 : k < 4294967296) (hb : isBytes L) (hO : Own w B v (insB op x y z k ++ L)) :
    Calls Try.prog 8 #[v] w fun e w' => e = .returned (.tuple #[insV op x y z k, .int .i64 0]) ∧ Gr w w' := by
  obtain ⟨a, cap, rfl, hl, hm, hB⟩ := hO.bytes
  refine (get_calls a _ cap w (bytes_append (insB_bytes op x y z k ho hx hy hz) hb) hB hl hm).mono ?_
  rintro e w' ⟨hg, ⟨h8, _⟩ | ⟨_, rfl⟩⟩
  · rw [List.length_append, insB_len] at h8; omega
  · refine ⟨?_, hg⟩
    have e0 : ∀ i, i < 4 → (insB op x y z k ++ L).getD i 0 = [op, x, y, z].getD i 0 := by
      intro i hi
      rw [getD_front _ _ _ (by rw [insB_len]; omega)]
      exact getD_front [op, x, y, z] (leB k 4) i (by simpa using hi)
    have e4 : leAt (insB op x y z k ++ L) 4 4 = k := leAt_leB k 4 k0 (by simpa using k1) [op, x, y, z] L
    rw [e0 0 (by omega), e0 1 (by omega), e0 2 (by omega), e0 3 (by omega), e4]
    rfl

set_option maxHeartbeats 4000000 in
theorem puts_walk (op x y z k : Int) (a : Option Addr) (L : List Int) (cap : Nat) (w : World) (k0 : 0 ≤ k) (k1 : k < 4294967296) (hb : isBytes L) (h : BytesAt w a L) (hnil : a = none → cap = 0) (hl : L.length ≤ cap) (hm : cap ≤ maxLen) :
    Calls Try.prog 3 #[insV op x y z k, .slice a L.length cap] w fun e w' => e = .returned (.bool true) ∧ Gr w w' := by
  have HB := hide h
  have hm' := hm
  unfold maxLen at hm'
  have hg0 := (Gr.refl w).alloc #[.int .i64 op, .int .i64 x, .int .i64 y, .int .i64 z, .int .u32 k] 24
  have BX := hide (IBox.fresh op x y z k w)
  clear h
  by_cases hbig : 2000 < L.length
  · go_enter Try.func3, Try.ntmps3
    go_wp2_with (fail)
    generalize w.alloc (.cells #[.int .i64 op, .int .i64 x, .int .i64 y, .int .i64 z, .int .u32 k] 24) = w0 at hg0 BX ⊢
    refine (awake_calls w0).mono ?_
    rintro e w1 ⟨rfl, hg1⟩
    go_wp2_with (fail)
    refine (awake_calls w1).mono ?_
    rintro e w2 ⟨rfl, hg2⟩
    go_wp2_with (fail)
    go_ret
    exact ⟨rfl, hg0.trans (hg1.trans hg2)⟩
  · go_enter Try.func3, Try.ntmps3
    go_wp2_with (fail)
    generalize w.alloc (.cells #[.int .i64 op, .int .i64 x, .int .i64 y, .int .i64 z, .int .u32 k] 24) = w0 at hg0 BX ⊢
    refine (awake_calls w0).mono ?_
    rintro e w1 ⟨rfl, hg1⟩
    have BX1 := BX.out.later (Kept.of_gr (B := 0) hg1)
    obtain ⟨q0, q1, q2, q3, q4⟩ := BX1.cells
    have G1 := hg0.trans hg1
    by_cases hin : inB op ∧ inB x ∧ inB y ∧ inB z
    · go_wp2_with (fail)
      obtain ⟨⟨o0, o1⟩, ⟨x0, x1⟩, ⟨y0, y1⟩, ⟨z0, z1⟩⟩ := hin
      refine (put_ok op x y z k w1 ⟨o0, o1⟩ ⟨x0, x1⟩ ⟨y0, y1⟩ ⟨z0, z1⟩ k0 k1).mono ?_
      rintro e w2 ⟨v', rfl, ho, hg2⟩
      have BX2 := BX1.later (Kept.of_gr (B := 0) hg2)
      obtain ⟨q0', q1', q2', q3', q4'⟩ := BX2.cells
      have G2 := G1.trans hg2
      obtain ⟨a2, cap2, rfl, hl2, hm2, hB⟩ := ho.bytes
      have hB' := hide hB
      have hc1 := conv_bytes cap2 (hB.later (Gr.refl w2).drew)
      rw [insB_len] at hc1 ⊢
      have HO := hide ho
      rw [insB_len] at HO
      clear ho q0 q1 q2 q3 q4 hB
      have lenB := insB_len op x y z k
      generalize hS : strOfNums (insB op x y z k) = S at hc1
      have RP : Hid (Calls Try.prog 7 #[insV op x y z k] w2.drew fun e w' => ∃ g, e = .returned (.slice (some ⟨g, 0, none⟩) 8 8) ∧ Hid (Gr w2.drew w') ∧ (convert 25 9 (.slice a2 8 cap2)).run Try.prog w' = .ok (.string S) w' ∧ (convert 25 9 (.slice (some ⟨g, 0, none⟩) 8 8)).run Try.prog w' = .ok (.string S) w') := by
        refine (rput_calls op x y z k w2.drew ⟨o0, o1⟩ ⟨x0, x1⟩ ⟨y0, y1⟩ ⟨z0, z1⟩ k0 k1).mono ?_
        rintro e w' ⟨g, rfl, hO, hG⟩
        obtain ⟨a3, cap3, hv, _, _, hB3⟩ := hO.bytes
        rw [lenB] at hv
        simp only [Value.slice.injEq] at hv
        obtain ⟨rfl, _, rfl⟩ := hv
        have e1 := conv_bytes cap2 (hB'.out.later ((Gr.refl w2).drew.trans hG))
        have e2 := conv_bytes 8 hB3
        rw [lenB, hS] at e1 e2
        exact ⟨g, rfl, hG, e1, e2⟩
      clear hS
      go_wp2_with (fail)
      go_region_with (go_at_call 7; refine RP.out.mono ?_; rintro e w3 ⟨g, rfl, hg3, hc2, hc3⟩)
      all_goals
        have G3 := G2.trans ((Gr.refl w2).drew.trans hg3.out)
        have OW : Hid (Own (w3.alloc (.cells #[] 5)) w3.heap.size (.slice (some ⟨w3.heap.size, 0, none⟩) 0 0) []) := own_lit w3 w3.heap.size [] (Nat.le_refl _) (by simp [maxLen])
        have BX3 := hide (BX2.later (Kept.of_gr (B := 0) ((Gr.refl w2).drew.trans hg3.out)))
        have S1 := hide (hB'.out.later (((Gr.refl w2).drew.trans hg3.out).alloc #[] 5))
        have SZ : w3.heap.size ≤ (w3.alloc (.cells #[] 5)).heap.size := by simp
        have N2 : Hid (a2 = none → cap2 = 0 ∧ insB op x y z k = []) := by
          intro hn
          rcases hB'.out with h0 | ⟨b, off, ha, _⟩
          · have := congrArg List.length h0; rw [lenB] at this; simp at this
          · rw [hn] at ha; cases ha
        have N1 : Hid (a = none → cap = 0 ∧ L = []) := by
          intro hn
          have := hnil hn
          exact ⟨this, List.eq_nil_of_length_eq_zero (by omega)⟩
        clear RP hc1 hc2 hc3 q0' q1' q2' q3' q4'
        go_wp2_with (at_builtin; refine wpList_app rfl (.tmp 78) (.tmp 79) rfl w3.heap.size _ [] rfl OW.out a2 _ 8 cap2 rfl lenB N2.out S1.out (by rw [lenB]; simp) SZ ?_)
        intro v4 w4 O4 K4
        have O4' := hide O4
        have S2 := hide (HB.out.later (G3.trans (((Gr.refl w3).alloc #[] 5).after (K4.below SZ))))
        have SZ4 : w3.heap.size ≤ w4.heap.size := Nat.le_trans SZ K4.size
        have BX4 := hide (BX3.out.later ((Kept.of_gr ((Gr.refl w3).alloc #[] 5)).trans K4))
        have LL : ([] ++ insB op x y z k).length + L.length ≤ 1099511627776 := by rw [List.nil_append, lenB]; omega
        clear O4
        go_wp2_with (at_builtin; refine wpList_app rfl (.tmp 80) (.tmp 81) rfl w3.heap.size _ _ rfl O4'.out a L L.length cap rfl rfl N1.out S2.out LL SZ4 ?_)
        intro v5 w5 O5 K5
        have G5 : Gr w3 w5 := ((Gr.refl w3).alloc #[] 5).after ((K4.below SZ).trans (K5.below SZ4))
        have BX5 := BX4.out.later K5
        have GB := hide (get_back op x y z k v5 L _ w5 ⟨o0, o1⟩ ⟨x0, x1⟩ ⟨y0, y1⟩ ⟨z0, z1⟩ k0 k1 hb O5)
        clear O5 O4' S2 OW S1 BX4 N1 N2
        go_wp2_with (fail)
        refine GB.out.mono ?_
        rintro e w6 ⟨rfl, hg6⟩
        obtain ⟨q0, q1, q2, q3, q4⟩ := (BX5.later (Kept.of_gr (B := 0) hg6)).cells
        have l6 : w.heap.size < w6.heap.size := World.block_lt_of_cell? _ _ q0
        go_wp2_with (fail)
        go_ret
        exact ⟨rfl, (G3.trans (G5.trans hg6)).alloc _ _⟩
    · have BX1' := hide BX1
      go_wp2_with (fail)
      refine (put_no op x y z k w1 hin).mono ?_
      rintro e w2 ⟨rfl, hg2⟩
      obtain ⟨q0', q1', q2', q3', q4'⟩ := (BX1'.out.later (Kept.of_gr (B := 0) hg2)).cells
      have G2 := G1.trans hg2
      clear q0 q1 q2 q3 q4
      have hor : op < 0 ∨ 255 < op ∨ x < 0 ∨ 255 < x ∨ y < 0 ∨ 255 < y ∨ z < 0 ∨ 255 < z := by unfold inB at hin; omega
      clear hin BX1
      go_wp2_with (fail)
      all_goals first | (go_ret; exact ⟨rfl, G2⟩) | (exfalso; omega)
end Go.Proofs.Ythooopcoemdphaa
