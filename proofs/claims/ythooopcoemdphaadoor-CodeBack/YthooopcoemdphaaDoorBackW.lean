/-
  For any program in memory, any number of 16 bits and any byte, in any world in which the program's table of kinds lies: the law CodeBack answers true, and makes new blocks alone. No condition but that.
-/
import Derived.Test.YthooopcoemdphaaDoorBack
import Derived.Test.YthooopcoemdphaaDoorSame
import Derived.Test.YthooopcoemdphaaDoorSmall
import Derived.Test.YthooopcoemdphaaDoorApp
namespace Go.Proofs.YthooopcoemdphaaDoor
open Go.ChangeShapes Go.WideShapes Go.ChangeAt Go.RowKit Go.Deep
set_option linter.unusedVariables false

theorem leB_bytes (k : Int) (n : Nat) : isBytes (leB k n) := by
  induction n generalizing k with
  | zero => intro x hx; simp [leB] at hx
  | succ n ih =>
    intro x hx
    rcases List.mem_cons.1 hx with rfl | hx
    · omega
    · exact ih _ x hx
theorem write_bytes {p : Pg} (h : Okay p) : isBytes (writeB p) := by
  intro x hx
  rw [writeB_eq] at hx
  have l1 := h.codes
  have l3 := h.room0
  have l4 := h.room
  rcases List.mem_append.1 hx with hx | hx
  · rcases List.mem_append.1 hx with hx | hx
    · unfold frontB at hx
      rcases List.mem_append.1 hx with hx | hx
      · simp at hx
        rcases hx with rfl | rfl | rfl | rfl | rfl
        · omega
        · omega
        · omega
        · omega
        · omega
      · exact leB_bytes _ _ x hx
    · obtain ⟨y, _, hy⟩ := List.mem_flatMap.1 hx
      exact leB_bytes _ _ x hy
  · obtain ⟨c, hc, hy⟩ := List.mem_flatMap.1 hx
    unfold codeBy at hy
    rcases List.mem_append.1 hy with hy | hy
    · exact leB_bytes _ _ x hy
    · obtain ⟨i, hi, hy⟩ := List.mem_flatMap.1 hy
      obtain ⟨⟨h1, h2, h3, h4⟩, _⟩ := h.ins c hc i hi
      unfold insBy insB at hy
      rcases List.mem_append.1 hy with hy | hy
      · simp at hy
        rcases hy with rfl | rfl | rfl | rfl
        · exact h1
        · exact h2
        · exact h3
        · exact h4
      · exact leB_bytes _ _ x hy
theorem write_len {p : Pg} (h : Okay p) : 7 ≤ (writeB p).length ∧ (writeB p).length ≤ 300000 := by
  have := flat_len codeBy 32002 p.codes (fun c hc => by have := h.code c hc; rw [codeBy_len]; omega)
  have h8 := Nat.mul_le_mul_right 32002 h.codes
  have hm := h.mem
  rw [writeB_eq, List.length_append, List.length_append, front_len, mem_len]
  omega

theorem BytesAt.take {w : World} {a : Option Addr} {L : List Int} (h : BytesAt w a L) (n : Nat) : BytesAt w a (L.take n) := by
  rcases h with h | ⟨b, off, ha, h⟩
  · subst h; exact .inl (by simp)
  · refine .inr ⟨b, off, ha, fun j x hx => h j x ?_⟩
    rw [List.getElem?_take] at hx
    split at hx
    · exact hx
    · cases hx

set_option maxHeartbeats 1500000 in
theorem back_walk (v : Value) (p : Pg) (cut more : Nat) (w : World) (LD : Laid w) (h : ProgAt w v p) (hcut : cut < 65536) (hmore : more < 256) :
    Calls Tryd.prog 5 #[v, .int .u16 cut, .int .u8 more] w fun e w' => e = .returned (.bool true) ∧ Gr w w' := by
  obtain ⟨a, cap, A, C, ma, mc, rfl, hC, hM⟩ := id h
  have hg0 := (Gr.refl w).alloc #[.slice a p.codes.length cap, .slice ma p.mem.length mc, .int .i64 p.room] 27
  have HB := hide (PBox.fresh a p.codes.length cap ma p.mem.length mc p.room w)
  have HP := hide (h.later hg0)
  have HL := hide (LD.later hg0)
  clear h LD hC hM
  go_enter Tryd.func5, Tryd.ntmps5
  go_wp2_with (fail)
  generalize w.alloc (.cells #[.slice a p.codes.length cap, .slice ma p.mem.length mc, .int .i64 p.room] 27) = w0 at hg0 HB HP HL ⊢
  refine (awake_calls w0).mono ?_
  rintro e w1 ⟨rfl, hg1⟩
  obtain ⟨b0, b1, b2⟩ := HB.out.later hg1
  go_wp2_with (fail)
  refine (small_calls _ p w1 (HP.out.later hg1)).mono ?_
  rintro e w2 ⟨⟨bb, rfl⟩, hg2⟩
  have G2 := hg1.trans hg2
  obtain ⟨b0, b1, b2⟩ := HB.out.later G2
  cases bb
  · go_wp2_with (fail)
    refine (awake_calls w2).mono ?_
    rintro e w3 ⟨rfl, hg3⟩
    go_wp2_with (fail)
    go_ret
    exact ⟨rfl, hg0.trans (G2.trans hg3)⟩
  · go_wp2_with (fail)
    refine (write_calls _ p w2 (HL.out.later G2) (HP.out.later G2)).mono ?_
    rintro e w3 ⟨hg3, ⟨hn, rfl⟩ | ⟨he, ok, v3, rfl, O3⟩⟩
    · have G3 := G2.trans hg3
      have hq : (p.err == 0) = false := by simpa using hn
      go_wp2_with (fail)
      go_ret
      exact ⟨rfl, hg0.trans G3⟩
    · have G3 := G2.trans hg3
      obtain ⟨b0, b1, b2⟩ := HB.out.later G3
      obtain ⟨a3, cap3, rfl, hl3, hm3, hB3⟩ := O3.bytes
      have B3 := hide hB3
      have hlen := write_len ok
      have WB := hide (write_bytes ok)
      have S1 := hide (back_same ok he)
      have S2 := hide (fun k hk => back_short ok k hk)
      have S3 := hide (fun x => back_long ok x)
      have hm3' := hm3
      unfold maxLen at hm3'
      obtain ⟨bq, oq, rfl⟩ : ∃ b off, a3 = some ⟨b, off, none⟩ := by
        rcases hB3 with h0 | ⟨b, off, ha, _⟩
        · rw [h0] at hlen; simp at hlen
        · exact ⟨b, off, ha⟩
      clear O3 hB3 ok
      generalize writeB p = L at *
      obtain ⟨hlen1, hlen2⟩ := hlen
      go_wp2_with (fail)
      refine (read_calls _ L cap3 w3 (HL.out.later G3) WB.out B3.out hl3 hm3 (by omega)).mono ?_
      intro e w4 hR4
      unfold ReadP at hR4
      rw [S1.out] at hR4
      obtain ⟨v4, rfl, P4, hg4⟩ := hR4
      obtain ⟨a4, cap4, A4, C4, ma4, mc4, rfl, _, _⟩ := id P4
      have g5 := hg4.trans ((Gr.refl w4).alloc #[.slice a4 p.codes.length cap4, .slice ma4 p.mem.length mc4, .int .i64 p.room] 27)
      have G5 := G3.trans g5
      have P5 := hide (P4.later ((Gr.refl w4).alloc #[.slice a4 p.codes.length cap4, .slice ma4 p.mem.length mc4, .int .i64 p.room] 27))
      obtain ⟨b0, b1, b2⟩ := HB.out.later G5
      have PP5 := hide (HP.out.later G5)
      have SC := hide (same_calls _ _ p _ PP5.out P5.out)
      clear P4 hg4
      go_wp2_with (fail)
      refine SC.out.mono ?_
      rintro e w6 ⟨rfl, hg6⟩
      have G6 := G5.trans hg6
      have g36 := g5.trans hg6
      obtain ⟨kk, hkk⟩ : ∃ kk : Nat, cut % L.length = kk := ⟨_, rfl⟩
      have hkl : kk < L.length := by rw [← hkk]; exact Nat.mod_lt _ (by omega)
      have hcm : (cut : Int) % (L.length : Int) = kk := by rw [← hkk]; simp
      have hl0 : ((L.length : Int) == 0) = false := beq_eq_false_iff_ne.2 (by omega)
      have hlk : (L.take kk).length = kk := by rw [List.length_take]; omega
      have RC : Hid (Calls Tryd.prog 8 #[.slice (some ⟨bq, oq, none⟩) kk cap3] w6 (ReadP (L.take kk) w6)) := by
        have := read_calls (some ⟨bq, oq, none⟩) (L.take kk) cap3 w6 (HL.out.later G6) (fun x hx => WB.out x (List.mem_of_mem_take hx)) ((B3.out.later g36).take kk) (by omega) hm3 (by omega)
        rw [hlk] at this
        exact this
      clear hkk hlk
      go_wp2_with (fail)
      refine RC.out.mono ?_
      intro e w7 hR7
      unfold ReadP at hR7
      rw [S2.out kk hkl] at hR7
      obtain ⟨v7, rfl, P7, hg7⟩ := hR7
      obtain ⟨a7, cap7, A7, C7, ma7, mc7, rfl, _, _⟩ := id P7
      have g8 := hg7.trans ((Gr.refl w7).alloc #[.slice a7 pg0.codes.length cap7, .slice ma7 pg0.mem.length mc7, .int .i64 pg0.room] 27)
      have g38 := g36.trans g8
      have G8 := G6.trans g8
      clear P7 RC hg7
      have hs8 : (w7.alloc (.cells #[.slice a7 pg0.codes.length cap7, .slice ma7 pg0.mem.length mc7, .int .i64 pg0.room] 27)).heap.size = w7.heap.size + 1 := by simp
      have OW0 := own_lit (w7.alloc (.cells #[.slice a7 pg0.codes.length cap7, .slice ma7 pg0.mem.length mc7, .int .i64 pg0.room] 27)) (w7.heap.size + 1) [] (by omega) (by simp [maxLen])
      rw [hs8] at OW0
      have OW : Hid (Own ((w7.alloc (.cells #[.slice a7 pg0.codes.length cap7, .slice ma7 pg0.mem.length mc7, .int .i64 pg0.room] 27)).alloc (.cells #[] 5)) (w7.heap.size + 1) (.slice (some ⟨w7.heap.size + 1, 0, none⟩) 0 0) []) := OW0
      have g89 := (Gr.refl (w7.alloc (.cells #[.slice a7 pg0.codes.length cap7, .slice ma7 pg0.mem.length mc7, .int .i64 pg0.room] 27))).alloc #[] 5
      have BB := hide (B3.out.later (g38.trans g89))
      have SZ : w7.heap.size + 1 ≤ ((w7.alloc (.cells #[.slice a7 pg0.codes.length cap7, .slice ma7 pg0.mem.length mc7, .int .i64 pg0.room] 27)).alloc (.cells #[] 5)).heap.size := by have := g89.size; omega
      have LB : ([] : List Int).length + L.length ≤ 1099511627776 := by simp; omega
      have G9 := hide (G8.trans g89)
      have g99 : Hid (Gr (w7.alloc (.cells #[.slice a7 pg0.codes.length cap7, .slice ma7 pg0.mem.length mc7, .int .i64 pg0.room] 27)) ((w7.alloc (.cells #[.slice a7 pg0.codes.length cap7, .slice ma7 pg0.mem.length mc7, .int .i64 pg0.room] 27)).alloc (.cells #[] 5))) := g89
      clear OW0 g89
      go_wp2_with (at_builtin; refine wpList_app rfl (.tmp 74) (.tmp 75) rfl (w7.heap.size + 1) _ [] rfl OW.out (some ⟨bq, oq, none⟩) L L.length cap3 rfl rfl (fun h => by cases h) BB.out LB SZ ?_)
      intro v9 w9 O9 K9
      have B8 : Below (w7.heap.size + 1) (w7.alloc (.cells #[.slice a7 pg0.codes.length cap7, .slice ma7 pg0.mem.length mc7, .int .i64 pg0.room] 27)) w9 := by
        have := g99.out
        unfold Gr at this
        rw [hs8] at this
        exact this.trans (K9.below SZ)
      have sz9 : w7.heap.size + 1 ≤ w9.heap.size := Nat.le_trans SZ K9.size
      have gA := (Gr.refl w9).alloc #[.int .u8 more] 5
      have OA := hide (O9.lift gA)
      have BA : Hid (BytesAt (w9.alloc (.cells #[.int .u8 (more : Int)] 5)) (some ⟨w9.heap.size, 0, none⟩) [(more : Int)]) := bytes_lit w9 [(more : Int)]
      have szA : w7.heap.size + 1 ≤ (w9.alloc (.cells #[.int .u8 (more : Int)] 5)).heap.size := by have := gA.size; omega
      have LA : L.length + [(more : Int)].length ≤ 1099511627776 := by simp; omega
      have B9 := hide B8
      clear O9 K9 OW BB B8
      go_wp2_with (at_builtin; refine wpList_app rfl (.tmp 76) (.tmp 78) rfl (w7.heap.size + 1) _ L rfl OA.out (some ⟨w9.heap.size, 0, none⟩) [(more : Int)] 1 1 rfl rfl (fun h => by cases h) BA.out LA szA ?_)
      intro v10 w10 O10 K10
      have G10 : Gr (w7.alloc (.cells #[.slice a7 pg0.codes.length cap7, .slice ma7 pg0.mem.length mc7, .int .i64 pg0.room] 27)) w10 := by
        unfold Gr
        rw [hs8]
        have h1 : Below (w7.heap.size + 1) w9 (w9.alloc (.cells #[.int .u8 (more : Int)] 5)) := Below.alloc (Below.refl _ w9) sz9 _
        exact B9.out.trans (h1.trans (K10.below szA))
      have GG := hide (G8.trans G10)
      obtain ⟨a10, cap10, rfl, hl10, hm10, hB10⟩ := O10.bytes
      have RC : Hid (Calls Tryd.prog 8 #[.slice a10 (L ++ [(more : Int)]).length cap10] w10 (ReadP (L ++ [(more : Int)]) w10)) := read_calls a10 (L ++ [(more : Int)]) cap10 w10 (HL.out.later GG.out) (fun x hx => by
        rcases List.mem_append.1 hx with hx | hx
        · exact WB.out x hx
        · obtain rfl := List.mem_singleton.1 hx
          omega) hB10 hl10 hm10 (by rw [List.length_append]; simp; omega)
      clear O10 hB10 OA BA K10 G10
      generalize (L ++ [(more : Int)]).length = n10 at *
      go_wp2_with (fail)
      refine RC.out.mono ?_
      intro e w11 hR11
      unfold ReadP at hR11
      rw [S3.out more] at hR11
      obtain ⟨v11, rfl, P11, hg11⟩ := hR11
      obtain ⟨a11, cap11, A11, C11, ma11, mc11, rfl, _, _⟩ := id P11
      clear P11 RC
      go_wp2_with (fail)
      go_ret
      exact ⟨rfl, hg0.trans (GG.out.trans (hg11.trans ((Gr.refl _).alloc _ _)))⟩
end Go.Proofs.YthooopcoemdphaaDoor
