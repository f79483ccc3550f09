/-
  TraceJoins' walk: of any two rows of events it answers true. No condition but that the slices' cells hold the events.
-/
import Derived.Test.YtfhplbmgjgfihaaRsm3
import Derived.Test.YtfhplbmgjgfihaaAwk
import Derived.Deep.CutRange
namespace Go.Proofs.Ytfhplbmgjgfihaa
open Go.ChangeShapes Go.WideShapes Go.ChangeAt Go.RowKit
set_option linter.unusedVariables false
set_option maxRecDepth 20000

theorem own_empty (w : World) (base sz : Nat) (t : TypeId) (hb : base ≤ w.heap.size) : (w.alloc (.cells #[] t)).ownsRow base t sz (.slice (some ⟨w.heap.size, 0, none⟩) 0 0) 0 [] :=
  ⟨by simp, .inr ⟨w.heap.size, 0, #[], rfl, hb, Has.new w #[] t, Nat.le_refl _, Nat.zero_le _, by simp, by simp⟩⟩
theorem own_nilc {α : Type} {f : α → List Value} {w : World} {base sz c : Nat} {t : TypeId} {a : Option Addr} {l : List α} (h : w.ownsRow base t sz (.slice a l.length c) l.length (flatOf f l)) : a = none → c = 0 ∧ l = [] := by
  rintro rfl
  rcases h.2 with ⟨z, h0⟩ | ⟨g, cap, cur, z, -⟩
  · obtain ⟨-, -, rfl⟩ := Value.slice.inj z
    exact ⟨rfl, List.length_eq_zero_iff.1 h0⟩
  · cases z
theorem outsF_append (t : Int) (l k : List Ev) : outsF t (l ++ k) = outsF t l ++ outsF t k := by simp [outsF]
def ownF (t : Int) (l : List Ev) : List Ev := l.filter fun x => x.who == t
theorem ownF_snoc (t : Int) (l : List Ev) (x : Ev) : ownF t (l ++ [x]) = if x.who = t then ownF t l ++ [x] else ownF t l := by
  by_cases h : x.who = t <;> simp [ownF, h]
theorem outs_ownF (t : Int) (l : List Ev) : outsF t (ownF t l) = outsF t l := by
  unfold outsF ownF
  rw [List.filter_filter]
  congr 2
  funext x
  cases x.who == t <;> simp
theorem outs_other (t u : Int) (h : u ≠ t) (l : List Ev) : outsF u (ownF t l) = [] := by
  unfold outsF ownF
  rw [List.map_eq_nil_iff, List.filter_filter, List.filter_eq_nil_iff]
  intro x _ q
  simp at q
  omega
theorem wrap_ne (t : Int) : wrap64 (t + 1) ≠ t := by
  unfold wrap64
  omega

set_option maxHeartbeats 4000000 in
theorem joins_few (a : Option Addr) (c : Nat) (l : List Ev) (hl : ∀ x ∈ l, EvOk x) (hn : l.length ≤ 400) (hc : a = none → c = 0 ∧ l = []) (b : Option Addr) (d : Nat) (k : List Ev) (hk : ∀ x ∈ k, EvOk x) (kn : k.length ≤ 400) (hd : b = none → d = 0 ∧ k = []) (t : Int) (w : World) (h : RowAt w a (flatOf evL l)) (h' : RowAt w b (flatOf evL k)) :
    Calls Try.prog 7 #[.slice a l.length c, .slice b k.length d, .int .i64 t] w fun e w' => e = .returned (.bool true) ∧ Gr w w' := by
  have hn' : (l.length : Int) ≤ 400 := by omega
  have kn' : (k.length : Int) ≤ 400 := by omega
  have C : Hid (∀ (u : World) (z : Option Addr) (y : Nat) (m : List Ev) (t : Int), (∀ x ∈ m, EvOk x) → m.length ≤ 900 → RowAt u z (flatOf evL m) → Calls Try.prog 10 #[.slice z m.length y, .int .i64 t] u (WordsP u (outsF t m))) := fun u z y m t hm hn h => by
    have := outs_calls z y m hm hn t u h
    rw [outs_same] at this
    exact this
  have HA := hide h
  have HB := hide h'
  clear h h'
  have hall : ∀ x ∈ l ++ k, EvOk x := fun x hx => (List.mem_append.1 hx).elim (hl x) (hk x)
  go_enter Try.func7, Try.ntmps7
  go_wp2_with (fail)
  refine (awake_calls _).mono ?_
  rintro e w1 ⟨rfl, g1⟩
  go_upto_region 3 with (fail)
  have o0 := own_empty w1 w.heap.size 8 35 g1.size
  have g2 := g1.alloc #[] 35
  obtain ⟨v1, w3, hr1, ho1, hg1, -⟩ := app_recs (l := []) (T := 22) (ty := 22) evL_len evL_one Try.underlying22 infoEv rfl (by omega) (by omega) o0 a c l (HA.out.later g2) hc (by simp; omega) g2.size
  have g3 := grown_gr g2 o0 hg1 (Nat.le_refl _)
  rw [List.nil_append] at ho1
  obtain ⟨s1, d1, rfl, -⟩ := own_at ho1
  obtain ⟨v2, w4, hr2, ho2, hg2, -⟩ := app_recs (T := 22) (ty := 22) evL_len evL_one Try.underlying22 infoEv rfl (by omega) (by omega) ho1 b d k (HB.out.later g3) hd (by omega) g3.size
  have g4 := grown_gr g3 ho1 hg2 (Nat.le_refl _)
  obtain ⟨N, hN⟩ : ∃ N, (l ++ k).length = N := ⟨_, rfl⟩
  have hN9 : N ≤ 900 := by rw [← hN, List.length_append]; omega
  obtain ⟨s2, d2, rfl, hrow, -⟩ := own_at ho2
  have HR1 := hide hr1
  rw [hN] at hr2
  have HR2 := hide hr2
  have HROW := hide hrow
  have HN := hide hN
  clear hr1 hr2 ho1 ho2 hg1 hg2 o0 hrow hN g2
  go_upto_region 4 with (first
    | (refine step_app rfl (some 25) rfl _ _ _ rfl (.slice (some ⟨w1.heap.size, 0, none⟩) 0 0) (.slice a l.length c) rfl rfl (.slice s1 l.length d1) w3 (by exact HR1.out) ?_)
    | (refine step_app rfl (some 27) rfl _ _ _ rfl (.slice s1 l.length d1) (.slice b k.length d) rfl rfl (.slice s2 N d2) w4 (by exact HR2.out) ?_))
  have CA : Hid (∀ u (t : Int), Gr w4 u → Calls Try.prog 10 #[.slice s2 N d2, .int .i64 t] u (WordsP u (outsF t (l ++ k)))) := fun u t g => by
    have := C.out u s2 d2 (l ++ k) t hall (by rw [HN.out]; exact hN9) (HROW.out.later g)
    rw [HN.out] at this
    exact this
  go_wp2_with (fail)
  refine (CA.out _ t (Gr.refl _)).mono ?_
  rintro e w5 ⟨v5, ⟨rfl, h5⟩, g5⟩
  have G5 := g4.trans g5
  go_wp2_with (fail)
  have o6 := own_empty w5 w5.heap.size 1 33 (Nat.le_refl _)
  have g6 := (Gr.refl w5).alloc #[] 33
  refine (C.out _ a c l t hl (by omega) (HA.out.later (G5.trans g6))).mono ?_
  rintro e w7 ⟨v7, ⟨rfl, h7⟩, g7⟩
  obtain ⟨s7, d7, rfl, r7, -⟩ := own_at h7
  have o7 := own_later o6 g7
  obtain ⟨v8, w8, hr8, ho8, hg8, -⟩ := app_recs (l := []) (T := 25) (ty := 25) wordL_len wordL_one Try.underlying25 infoWrd rfl (by omega) (by omega) o7 s7 d7 (outsF t l) r7 (own_nilc h7) (by have := outsF_len t l; simp; omega) ((g6.trans g7).size)
  have g8 : Gr w5 w8 := grown_gr (g6.trans g7) o7 hg8 (Nat.le_refl _)
  rw [List.nil_append] at ho8
  obtain ⟨s8, d8, rfl, -⟩ := own_at ho8
  have HR8 := hide hr8
  have l7 := outsF_len t l
  have l9 := outsF_len t k
  clear hr8 hg8 r7 h7 o7 g7 g6
  go_wp2_with (first
    | (refine step_app rfl (some 35) rfl _ _ _ rfl (.slice (some ⟨w5.heap.size, 0, none⟩) 0 0) (.slice s7 (outsF t l).length d7) rfl rfl (.slice s8 (outsF t l).length d8) w8 (by exact HR8.out) ?_))
  refine (C.out _ b d k t hk (by omega) (HB.out.later (G5.trans g8))).mono ?_
  rintro e w9 ⟨v9, ⟨rfl, h9⟩, g9⟩
  obtain ⟨s9, d9, rfl, r9, -⟩ := own_at h9
  have o9 := own_later ho8 g9
  obtain ⟨v10, w10, hr10, ho10, hg10, -⟩ := app_recs (T := 25) (ty := 25) wordL_len wordL_one Try.underlying25 infoWrd rfl (by omega) (by omega) o9 s9 d9 (outsF t k) r9 (own_nilc h9) (by omega) ((g8.trans g9).size)
  have g10 : Gr w5 w10 := grown_gr (g8.trans g9) o9 hg10 (Nat.le_refl _)
  rw [← outsF_append] at ho10
  obtain ⟨s10, d10, rfl, r10, -⟩ := own_at ho10
  obtain ⟨s5, d5, rfl, r5, -⟩ := own_at h5
  have la : (outsF t (l ++ k)).length ≤ 900 := by have := outsF_len t (l ++ k); rw [HN.out] at this; omega
  have HS := hide (words_same s5 s10 d5 d10 (outsF t (l ++ k)) (by omega) w10 (r5.later g10) r10)
  have HR10 := hide hr10
  have G10 := G5.trans g10
  have g410 := g5.trans g10
  have hu : (outsF t l).length + (outsF t k).length = (outsF t (l ++ k)).length := by rw [outsF_append, List.length_append]
  clear hr10 hg10 ho10 r9 h9 o9 g9 ho8 o6 r10 r5 h5 G5 g8 g10
  go_wp2_with (first
    | (refine step_app rfl (some 39) rfl _ _ _ rfl (.slice s8 (outsF t l).length d8) (.slice s9 (outsF t k).length d9) rfl rfl (.slice s10 (outsF t (l ++ k)).length d10) w10 (by exact HR10.out) ?_))
  refine HS.out.mono ?_
  rintro e w11 ⟨rfl, g11⟩
  have G11 := G10.trans g11
  have HROW2 := hide (HROW.out.later (g410.trans g11))
  have g411 := hide (g410.trans g11)
  clear HS HR10 hu g410 l7 l9 g11
  go_wp2_with (fail)
  go_loopw [8, 9] (fun v u wr => ∃ j : Nat, j ≤ N ∧ u = .int .i64 j ∧ EvsO wr w11.heap.size v (ownF t ((l ++ k).take j)) ∧ Gr w11 wr) (fun _ u _ => N - (intOf u).toNat)
  case atStart => exact ⟨0, by omega, rfl, own_nil _ _ _ _, Gr.refl _⟩
  case round =>
    obtain ⟨j, hj, rfl, hs, g⟩ := hrel
    by_cases hlt : j < N
    · have hlt' : (j : Int) < N := by omega
      have hlt2 : j < (l ++ k).length := by rw [HN.out]; exact hlt
      have rw1 := HROW2.out.later g
      obtain ⟨bb, off, had, -⟩ := rw1.get (by rw [flatOf_length evL_len]; omega)
      subst had
      have c0 := rw1.cell evL_len hlt2 ev0 0 (by omega)
      have c1 := rw1.cell evL_len hlt2 ev0 1 (by omega)
      have c2 := rw1.cell evL_len hlt2 ev0 2 (by omega)
      have c3 := rw1.cell evL_len hlt2 ev0 3 (by omega)
      have c4 := rw1.cell evL_len hlt2 ev0 4 (by omega)
      have c5 := rw1.cell evL_len hlt2 ev0 5 (by omega)
      have c6 := rw1.cell evL_len hlt2 ev0 6 (by omega)
      have c7 := rw1.cell evL_len hlt2 ev0 7 (by omega)
      have hT := take_snoc' hlt2 ev0
      generalize (l ++ k).getD j ev0 = x at c0 c1 c2 c3 c4 c5 c6 c7 hT
      simp only [evL, List.getElem?_cons_zero, List.getElem?_cons_succ, Nat.add_zero, ← Nat.add_assoc] at c0 c1 c2 c3 c4 c5 c6 c7
      have HT := hide (show ownF t ((l ++ k).take (j + 1)) = if x.who = t then ownF t ((l ++ k).take j) ++ [x] else ownF t ((l ++ k).take j) by rw [hT, ownF_snoc])
      have hlen : (ownF t ((l ++ k).take j)).length ≤ 900 := by
        have h1 : (ownF t ((l ++ k).take j)).length ≤ ((l ++ k).take j).length := List.length_filter_le _ _
        have h2 : ((l ++ k).take j).length ≤ j := List.length_take_le _ _
        omega
      clear hT rw1
      generalize ownF t ((l ++ k).take j) = o at hs HT hlen
      obtain ⟨va, vc, rfl, -⟩ := own_at hs
      by_cases hw : x.who = t
      · have hw' : (x.who == t) = true := by simpa using hw
        have HE := hide (HT.out.trans (if_pos hw))
        clear hw HT
        obtain ⟨v', w2, hra, ho, hg, -⟩ := app_rec (T := 22) (ty := 22) evL_len evL_one Try.underlying22 infoEv rfl (by omega) (by omega) hs x (evA x) rfl (by omega) g.size
        have HRA := hide hra
        have HO := hide ho
        have g2 := grown_gr (g.alloc (evA x) 35) (own_later hs ((Gr.refl wr).alloc (evA x) 35)) hg (Nat.le_refl _)
        clear hra ho hg
        go_wp2_with (first
          | (refine step_app rfl (some 61) rfl _ _ _ rfl (.slice va o.length vc) (.slice (some ⟨wr.heap.size, 0, none⟩) 1 1) rfl rfl v' w2 (by exact HRA.out) ?_))
        exact ⟨⟨j + 1, by omega, by go_num, by rw [HE.out]; exact HO.out, g2⟩, by simp [intOf]; omega⟩
      · have hw' : (x.who == t) = false := by simpa using hw
        have HE := hide (HT.out.trans (if_neg hw))
        clear hw HT
        go_wp2_with (fail)
        exact ⟨⟨j + 1, by omega, by go_num, by rw [HE.out]; exact hs, g⟩, by simp [intOf]; omega⟩
    · obtain rfl : j = N := by omega
      rw [show (l ++ k).take j = l ++ k by rw [← HN.out, List.take_length]] at hs
      obtain ⟨va, vc, rfl, rv, -⟩ := own_at hs
      have ol : (ownF t (l ++ k)).length ≤ 900 := by
        have h1 : (ownF t (l ++ k)).length ≤ (l ++ k).length := List.length_filter_le _ _
        rw [HN.out] at h1
        omega
      have oo : ∀ x ∈ ownF t (l ++ k), EvOk x := fun x hx => hall x (List.mem_filter.1 hx).1
      have RV := hide rv
      have OO := hide oo
      clear hs rv oo
      go_wp2_with (fail)
      refine (C.out _ va vc (ownF t (l ++ k)) t OO.out ol RV.out).mono ?_
      rintro e w12 ⟨v12, ⟨rfl, h12⟩, g12⟩
      go_wp2_with (fail)
      refine (CA.out _ t ((g411.out.trans g).trans g12)).mono ?_
      rintro e w13 ⟨v13, ⟨rfl, h13⟩, g13⟩
      rw [outs_ownF] at h12
      obtain ⟨s12, d12, rfl, r12, -⟩ := own_at h12
      obtain ⟨s13, d13, rfl, r13, -⟩ := own_at h13
      have HS := hide (words_same s12 s13 d12 d13 (outsF t (l ++ k)) (by omega) w13 (r12.later g13) r13)
      have G13 := ((G11.trans g).trans g12).trans g13
      have RV2 := hide (RV.out.later (g12.trans g13))
      clear h12 h13 r12 r13 g12 g13 RV
      go_wp2_with (fail)
      refine HS.out.mono ?_
      rintro e w14 ⟨rfl, g14⟩
      clear HS
      have hwr := hide (wrap_ne t)
      go_wp2_with (fail)
      refine (C.out _ va vc (ownF t (l ++ k)) _ OO.out ol (RV2.out.later g14)).mono ?_
      rintro e w15 ⟨v15, ⟨rfl, h15⟩, g15⟩
      rw [outs_other t (wrap64 (t + 1)) hwr.out] at h15
      obtain ⟨s15, d15, rfl, -⟩ := own_at h15
      go_wp2_with (fail)
      go_ret
      exact ⟨rfl, (G13.trans g14).trans g15⟩
set_option maxHeartbeats 1000000 in
theorem joins_many (a : Option Addr) (c n : Nat) (hn : 400 < n) (hm : n ≤ maxLen) (b : Option Addr) (d k : Nat) (t : Int) (w : World) :
    Calls Try.prog 7 #[.slice a n c, .slice b k d, .int .i64 t] w fun e w' => e = .returned (.bool true) ∧ Gr w w' := by
  unfold maxLen at hm
  go_enter Try.func7, Try.ntmps7
  go_wp2_with (fail)
  refine (awake_calls _).mono ?_
  rintro e w1 ⟨rfl, g1⟩
  go_wp2_with (fail)
  refine (awake_calls _).mono ?_
  rintro e w2 ⟨rfl, g2⟩
  go_wp2_with (fail)
  go_ret
  exact ⟨rfl, g1.trans g2⟩
set_option maxHeartbeats 1000000 in
theorem joins_more (a : Option Addr) (c n : Nat) (hn : n ≤ 400) (b : Option Addr) (d k : Nat) (hk : 400 < k) (hm : k ≤ maxLen) (t : Int) (w : World) :
    Calls Try.prog 7 #[.slice a n c, .slice b k d, .int .i64 t] w fun e w' => e = .returned (.bool true) ∧ Gr w w' := by
  unfold maxLen at hm
  have hn' : (n : Int) ≤ 400 := by omega
  go_enter Try.func7, Try.ntmps7
  go_wp2_with (fail)
  refine (awake_calls _).mono ?_
  rintro e w1 ⟨rfl, g1⟩
  go_wp2_with (fail)
  refine (awake_calls _).mono ?_
  rintro e w2 ⟨rfl, g2⟩
  go_wp2_with (fail)
  go_ret
  exact ⟨rfl, g1.trans g2⟩
end Go.Proofs.Ytfhplbmgjgfihaa
