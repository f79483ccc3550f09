/-
  For any bytes: the law CodeGets answers true, and makes new blocks alone. No condition.
-/
import Derived.Test.YthooopcoemdphaaGet
import Derived.Test.YthooopcoemdphaaAwake
import Derived.Deep.RegionWith
import Derived.BigQuiet
import Derived.Deep.QuietTactic
namespace Go.Proofs.Ythooopcoemdphaa
open Go.ChangeShapes Go.WideShapes Go.ChangeAt Go.RowKit Go.Deep
set_option linter.unusedVariables false

theorem leB_leAt {L : List Int} (hb : isBytes L) (i n : Nat) (h : i + n ≤ L.length) : leB (leAt L i n) n = (L.drop i).take n := by
  induction n generalizing i with
  | zero => simp [leB]
  | succ n ih =>
    have hx := getD_byte hb i
    have e : leAt L i (n + 1) = L.getD i 0 + 256 * leAt L (i + 1) n := rfl
    have h1 : (L.getD i 0 + 256 * leAt L (i + 1) n) % 256 = L.getD i 0 := by omega
    have h2 : (L.getD i 0 + 256 * leAt L (i + 1) n) / 256 = leAt L (i + 1) n := by omega
    rw [e, show leB (L.getD i 0 + 256 * leAt L (i + 1) n) (n + 1) = ((L.getD i 0 + 256 * leAt L (i + 1) n) % 256) :: leB ((L.getD i 0 + 256 * leAt L (i + 1) n) / 256) n from rfl, h1, h2, ih (i + 1) (by omega)]
    rw [show L.drop i = L[i]'(by omega) :: L.drop (i + 1) from List.drop_eq_getElem_cons (by omega), List.take_succ_cons]
    congr 1
    rw [List.getD_eq_getElem?_getD, List.getElem?_eq_getElem (by omega)]
    rfl
theorem getD_drop {L : List Int} {i : Nat} (h : i < L.length) : L.drop i = L.getD i 0 :: L.drop (i + 1) := by
  rw [List.getD_eq_getElem?_getD, List.getElem?_eq_getElem h, Option.getD_some]
  exact List.drop_eq_getElem_cons h
theorem insB_take {L : List Int} (hb : isBytes L) (i : Nat) (h : i + 8 ≤ L.length) : insB (L.getD i 0) (L.getD (i + 1) 0) (L.getD (i + 2) 0) (L.getD (i + 3) 0) (leAt L (i + 4) 4) = (L.drop i).take 8 := by
  unfold insB
  rw [leB_leAt hb (i + 4) 4 (by omega), getD_drop (show i < L.length by omega), getD_drop (show i + 1 < L.length by omega), getD_drop (show i + 1 + 1 < L.length by omega), getD_drop (show i + 1 + 1 + 1 < L.length by omega)]
  simp only [List.take_succ_cons, List.cons_append, List.nil_append]

theorem BytesAt.take {w : World} {a : Option Addr} {L : List Int} (h : BytesAt w a L) (n : Nat) : BytesAt w a (L.take n) := by
  rcases h with h | ⟨b, off, ha, h⟩
  · subst h; exact .inl (by simp)
  · refine .inr ⟨b, off, ha, fun j x hx => h j x ?_⟩
    rw [List.getElem?_take] at hx
    split at hx
    · exact hx
    · cases hx

set_option maxHeartbeats 1000000 in
theorem gets_walk (a : Option Addr) (L : List Int) (cap : Nat) (w : World) (hb : isBytes L) (h : BytesAt w a L) (hl : L.length ≤ cap) (hm : cap ≤ maxLen) :
    Calls Try.prog 4 #[.slice a L.length cap] w fun e w' => e = .returned (.bool true) ∧ Gr w w' := by
  have HB := hide h
  have hm' := hm
  unfold maxLen at hm'
  clear h
  by_cases hbig : 2000 < L.length
  · go_enter Try.func4, Try.ntmps4
    go_wp2_with (fail)
    refine (awake_calls w).mono ?_
    rintro e w1 ⟨rfl, hg1⟩
    go_wp2_with (fail)
    refine (awake_calls w1).mono ?_
    rintro e w2 ⟨rfl, hg2⟩
    go_wp2_with (fail)
    go_ret
    exact ⟨rfl, hg1.trans hg2⟩
  · go_enter Try.func4, Try.ntmps4
    go_wp2_with (fail)
    refine (awake_calls w).mono ?_
    rintro e w1 ⟨rfl, hg1⟩
    go_wp2_with (fail)
    refine (get_calls a L cap w1 hb (HB.out.later hg1) hl hm).mono ?_
    rintro e w2 ⟨hg2, ⟨h8, rfl⟩ | ⟨h8, rfl⟩⟩
    · go_wp2_with (fail)
      go_ret
      exact ⟨rfl, (hg1.trans hg2).alloc _ _⟩
    · have e0 := getD_byte hb 0
      have e1 := getD_byte hb 1
      have e2 := getD_byte hb 2
      have e3 := getD_byte hb 3
      have e4 := leAt_bounds hb 4 4
      have EQ := hide (insB_take hb 0 (by omega))
      rw [List.drop_zero] at EQ
      generalize L.getD 0 0 = x0 at e0 EQ ⊢
      generalize L.getD 1 0 = x1 at e1 EQ ⊢
      generalize L.getD 2 0 = x2 at e2 EQ ⊢
      generalize L.getD 3 0 = x3 at e3 EQ ⊢
      generalize leAt L 4 4 = x4 at e4 EQ ⊢
      have hg3 := (hg1.trans hg2).alloc #[.int .i64 x0, .int .i64 x1, .int .i64 x2, .int .i64 x3, .int .u32 x4] 24
      go_wp2_with (fail)
      refine (put_ok x0 x1 x2 x3 x4 _ e0 e1 e2 e3 e4.1 (by simpa using e4.2)).mono ?_
      rintro e w4 ⟨v', rfl, ho, hg4⟩
      obtain ⟨a2, cap2, rfl, _, _, hB⟩ := ho.bytes
      have hg := hg3.trans hg4
      have hB2 := (HB.out.later hg).take 8
      rw [EQ.out] at hB
      have hlen : (insB x0 x1 x2 x3 x4).length = 8 := insB_len _ _ _ _ _
      have hlen2 : (L.take 8).length = 8 := by simp; omega
      have hc1 : ∀ n, _ := fun n => conv_bytes cap2 (hB.later ((Gr.refl w4).drewNs n))
      have hc2 : ∀ n, _ := fun n => conv_bytes cap (hB2.later ((Gr.refl w4).drewNs n))
      simp only [hlen2] at hc1 hc2
      rw [hlen]
      generalize strOfNums (L.take 8) = s at hc1 hc2
      clear EQ ho hB hB2 hlen hlen2
      obtain ⟨b, off, rfl⟩ : ∃ b off, a = some ⟨b, off, none⟩ := by
        rcases HB.out with h0 | ⟨b, off, ha, _⟩
        · subst h0; simp at h8
        · exact ⟨b, off, ha⟩
      go_wp2_with (fail)
      go_quiet (fail)
      go_wp2
      go_ret
      exact ⟨rfl, hg.drewNs nq⟩
end Go.Proofs.Ythooopcoemdphaa
