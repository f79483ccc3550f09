/-
  container/heap over what is due: down. No condition but what each law names.
-/
import Derived.Test.YtokbbjpnahpeaaaHp
namespace Go.Proofs.Ytokbbjpnahpeaaa
open Go.ChangeShapes Go.WideShapes Go.ChangeAt Go.RowKit
set_option linter.unusedVariables false

/-- what is so while one goes down -/
structure DnI (w : World) (base d : Nat) (v : Value) (l : List Du) (n i0 : Nat) (wr : World) (i : Nat) (l' : List Du) : Prop where
  ds : Ds wr base d v l'
  len : l'.length = l.length
  fr : Fr base w wr
  lt : i < n
  ge : i0 ≤ i
  near : Near (fn l') n i
  up : i ≠ i0 → (fn l' ((i - 1) / 2)).b ≤ (fn l' i).b
  alike : Alike n (fn l) (fn l')
/-- what comes of going down -/
def DnP (w : World) (base d : Nat) (v : Value) (l : List Du) (n i0 : Nat) (e : Ending) (w' : World) : Prop :=
  ∃ b, (e = .returned (.bool b) ∧ Fr base w w') ∧ ∃ l', Ds w' base d v l' ∧ l'.length = l.length ∧ Alike n (fn l) (fn l') ∧ (b = true → Heap (fn l') n) ∧ (b = false → Near (fn l') n i0 ∧ Kids (fn l') n i0)
theorem DnI.drewN {w wr : World} {base d n i0 i : Nat} {v : Value} {l l' : List Du} (s : DnI w base d v l n i0 wr i l') (q : Nat) : DnI w base d v l n i0 (wr.drewN q) i l' :=
  ⟨s.ds.drewN q, s.len, s.fr.trans (Fr.drewN _ _ q), s.lt, s.ge, s.near, s.up, s.alike⟩
theorem DnI.stop {w wr : World} {base d n i0 i : Nat} {v : Value} {l l' : List Du} (s : DnI w base d v l n i0 wr i l') (hk : Kids (fn l') n i) : DnP w base d v l n i0 (.returned (.bool (decide (i0 < i)))) wr := by
  refine ⟨_, ⟨rfl, s.fr⟩, l', s.ds, s.len, s.alike, fun h => ?_, fun h => ?_⟩
  · have h' : i0 < i := by simpa using h
    exact s.near.heap hk (fun _ => s.up (by omega))
  · have h' : ¬ i0 < i := by simpa using h
    have h2 := s.ge
    obtain rfl : i = i0 := by omega
    exact ⟨s.near, hk⟩
theorem DnI.step {w wr w2 : World} {base d n i0 i j : Nat} {v : Value} {l l' : List Du} (s : DnI w base d v l n i0 wr i l') (hn : n ≤ l.length) (hj : j < n) (hp : 0 < j ∧ (j - 1) / 2 = i) (hlt : (fn l' j).b < (fn l' i).b) (hm : ∀ k, 0 < k → k < n → (k - 1) / 2 = i → (fn l' j).b ≤ (fn l' k).b) (q : Nat)
    (hf : Fr base (wr.drewN q) w2) (hr : Dw w2 base v (swapL l' i j)) (hd : ∀ k C, Has (wr.drewN q) k C 46 → Has w2 k C 46) : DnI w base d v l n i0 w2 j (swapL l' i j) := by
  have h1 := s.lt
  have h2 := s.len
  have h3 := s.ge
  have e := fn_swapL l' i j (by omega) (by omega)
  have st := down_step s.near hp.1 hj hp.2 hlt hm
  refine ⟨(s.ds.drewN q).swapped hd hr, by rw [swapL_len]; exact h2, (s.fr.trans (Fr.drewN base wr q)).trans hf, hj, by omega, by rw [e]; exact st.1, fun _ => by rw [e]; exact st.2, ?_⟩
  rw [e]
  exact s.alike.trans (Alike.swp _ (by omega) (by omega))
theorem less_at {w : World} {base : Nat} {v : Value} {l : List Du} (h : Dw w base v l) (hl : l.length ≤ 1000) (i j : Nat) (hi : i < l.length) (hj : j < l.length) (b : Bool) (hb : decide ((fn l i).b < (fn l j).b) = b) (x y : Int) (hx : x = i) (hy : y = j) :
    Calls Try.prog 43 #[v, .int .i64 x, .int .i64 y] w fun e w' => e = .returned (.bool b) ∧ ∃ n, w' = w.drewN n := by
  subst hx hy hb
  exact less_calls h i j hi hj hl
theorem swap_at {w : World} {base : Nat} {v : Value} {l : List Du} (h : Dw w base v l) (hb0 : base ≤ w.heap.size) (hl : l.length ≤ 1000) (i j : Nat) (hi : i < l.length) (hj : j < l.length) (x y : Int) (hx : x = i) (hy : y = j) :
    Calls Try.prog 44 #[v, .int .i64 x, .int .i64 y] w fun e w' => (e = .returned (.tuple #[]) ∧ Fr base w w') ∧ Dw w' base v (swapL l i j) ∧ (∀ k C, Has w k C 46 → Has w' k C 46) := by
  subst hx hy
  exact swap_calls h hb0 i j hi hj hl

set_option maxHeartbeats 1000000 in
theorem down_calls {w : World} {base d : Nat} {v : Value} {l : List Du} (h : Ds w base d v l) (n i0 : Nat) (hn : n ≤ l.length) (hl : l.length ≤ 1000) (hi : i0 < n) (hN : Near (fn l) n i0) :
    Calls Try.prog 25 #[ifc d, .int .i64 i0, .int .i64 n] w (DnP w base d v l n i0) := by
  have start : DnI w base d v l n i0 w i0 l := ⟨h, rfl, Fr.refl _ _, hi, Nat.le_refl _, hN, fun q => absurd rfl q, Alike.refl _ _⟩
  obtain ⟨a, c, rfl⟩ := h.row.slice
  clear h hN
  go_enter Try.func25, Try.ntmps25
  go_wp2_with (fail)
  go_loopw [7] (fun s7 wr => ∃ (i : Nat) (l' : List Du), s7 = .int .i64 i ∧ DnI w base d (.slice a l.length c) l n i0 wr i l') (fun s7 _ => n - (intOf s7).toNat)
  case atStart => exact ⟨i0, l, rfl, start⟩
  case round =>
    clear start
    obtain ⟨i, l', rfl, s⟩ := hrel
    have hlt := s.lt
    have hlen := s.len
    have hll : l'.length ≤ 1000 := by omega
    have HLL := hide hll
    have HD := hide s.ds
    have SS := hide s
    have mL : ∀ q, Sem.run Try.prog (method 179 53 (.pointer (some ⟨d, 0, none⟩)) "Less") (wr.drewN q) = .ok (43, .slice a l.length c) (wr.drewN q) := fun q => finds_less (s.ds.head.drewN q)
    have mL0 : Sem.run Try.prog (method 179 53 (.pointer (some ⟨d, 0, none⟩)) "Less") wr = .ok (43, .slice a l.length c) wr := finds_less s.ds.head
    have mS : ∀ q, Sem.run Try.prog (method 179 53 (.pointer (some ⟨d, 0, none⟩)) "Swap") (wr.drewN q) = .ok (44, .slice a l.length c) (wr.drewN q) := fun q => finds_swap (s.ds.head.drewN q)
    clear s hll
    by_cases h1 : n ≤ 2 * i + 1
    · have h1' : (n : Int) ≤ 2 * (i : Int) + 1 := by omega
      clear mL mL0 mS
      go_wp2_with (fail)
      go_ret
      exact SS.out.stop (fun k h0 hk hp => by omega)
    · have h1' : ¬ (n : Int) ≤ 2 * (i : Int) + 1 := by omega
      by_cases h2 : 2 * i + 2 < n
      · have h2' : 2 * (i : Int) + 1 + 1 < (n : Int) := by omega
        by_cases h3 : (fn l' (2 * i + 2)).b < (fn l' (2 * i + 1)).b
        · have H3 := hide h3
          have HM : Hid (∀ k, 0 < k → k < n → (k - 1) / 2 = i → (fn l' (2 * i + 2)).b ≤ (fn l' k).b) := by
            intro k h0 hk hp
            rcases (by omega : k = 2 * i + 1 ∨ k = 2 * i + 2) with rfl | rfl <;> omega
          have C1 := fun x y hx hy => less_at HD.out.row HLL.out (2 * i + 2) (2 * i + 1) (by omega) (by omega) true (by simpa using h3) x y hx hy
          have HC1 := hide C1
          clear C1 h3
          by_cases h4 : (fn l' (2 * i + 2)).b < (fn l' i).b
          · have H4 := hide h4
            have C2 := fun q x y hx hy => less_at (HD.out.drewN q).row HLL.out (2 * i + 2) i (by omega) (by omega) true (by simpa using h4) x y hx hy
            have HC2 := hide C2
            clear C2 h4
            have HW := hide (fun q x y hx hy => swap_at (HD.out.drewN q).row (HD.out.drewN q).size HLL.out i (2 * i + 2) (by omega) (by omega) x y hx hy)
            go_wp2_with (first
              | (go_at_call 43; refine (HC1.out _ _ (by omega) (by omega)).mono ?_; rintro e w' ⟨rfl, q, rfl⟩)
              | (go_at_call 43; refine (HC2.out _ _ _ (by omega) (by omega)).mono ?_; rintro e w' ⟨rfl, q2, rfl⟩)
              | (go_at_call 44; refine (HW.out _ _ _ (by omega) (by omega)).mono ?_; rintro e w2 ⟨⟨rfl, hf⟩, hr, hd⟩))
            exact ⟨⟨2 * i + 2, _, by congr 1, SS.out.step hn (by omega) (by omega) H4.out (HM.out) (q + q2) hf hr hd⟩, by simp [intOf]; omega⟩
          · have H4 := hide h4
            have C2 := fun q x y hx hy => less_at (HD.out.drewN q).row HLL.out (2 * i + 2) i (by omega) (by omega) false (by simpa using h4) x y hx hy
            have HC2 := hide C2
            clear C2 h4
            go_wp2_with (first
              | (go_at_call 43; refine (HC1.out _ _ (by omega) (by omega)).mono ?_; rintro e w' ⟨rfl, q, rfl⟩)
              | (go_at_call 43; refine (HC2.out _ _ _ (by omega) (by omega)).mono ?_; rintro e w' ⟨rfl, q2, rfl⟩))
            go_ret
            refine (SS.out.drewN (q + q2)).stop (fun k h0 hk hp => ?_)
            have h5 := (HM.out) k h0 hk hp
            have h6 := H4.out
            omega
        · have H3 := hide h3
          have HM : Hid (∀ k, 0 < k → k < n → (k - 1) / 2 = i → (fn l' (2 * i + 1)).b ≤ (fn l' k).b) := by
            intro k h0 hk hp
            rcases (by omega : k = 2 * i + 1 ∨ k = 2 * i + 2) with rfl | rfl <;> omega
          have C1 := fun x y hx hy => less_at HD.out.row HLL.out (2 * i + 2) (2 * i + 1) (by omega) (by omega) false (by simpa using h3) x y hx hy
          have HC1 := hide C1
          clear C1 h3
          by_cases h4 : (fn l' (2 * i + 1)).b < (fn l' i).b
          · have H4 := hide h4
            have C2 := fun q x y hx hy => less_at (HD.out.drewN q).row HLL.out (2 * i + 1) i (by omega) (by omega) true (by simpa using h4) x y hx hy
            have HC2 := hide C2
            clear C2 h4
            have HW := hide (fun q x y hx hy => swap_at (HD.out.drewN q).row (HD.out.drewN q).size HLL.out i (2 * i + 1) (by omega) (by omega) x y hx hy)
            go_wp2_with (first
              | (go_at_call 43; refine (HC1.out _ _ (by omega) (by omega)).mono ?_; rintro e w' ⟨rfl, q, rfl⟩)
              | (go_at_call 43; refine (HC2.out _ _ _ (by omega) (by omega)).mono ?_; rintro e w' ⟨rfl, q2, rfl⟩)
              | (go_at_call 44; refine (HW.out _ _ _ (by omega) (by omega)).mono ?_; rintro e w2 ⟨⟨rfl, hf⟩, hr, hd⟩))
            exact ⟨⟨2 * i + 1, _, by congr 1, SS.out.step hn (by omega) (by omega) H4.out (HM.out) (q + q2) hf hr hd⟩, by simp [intOf]; omega⟩
          · have H4 := hide h4
            have C2 := fun q x y hx hy => less_at (HD.out.drewN q).row HLL.out (2 * i + 1) i (by omega) (by omega) false (by simpa using h4) x y hx hy
            have HC2 := hide C2
            clear C2 h4
            go_wp2_with (first
              | (go_at_call 43; refine (HC1.out _ _ (by omega) (by omega)).mono ?_; rintro e w' ⟨rfl, q, rfl⟩)
              | (go_at_call 43; refine (HC2.out _ _ _ (by omega) (by omega)).mono ?_; rintro e w' ⟨rfl, q2, rfl⟩))
            go_ret
            refine (SS.out.drewN (q + q2)).stop (fun k h0 hk hp => ?_)
            have h5 := (HM.out) k h0 hk hp
            have h6 := H4.out
            omega
      · have h2' : ¬ 2 * (i : Int) + 1 + 1 < (n : Int) := by omega
        have HM : Hid (∀ k, 0 < k → k < n → (k - 1) / 2 = i → (fn l' (2 * i + 1)).b ≤ (fn l' k).b) := by
          intro k h0 hk hp
          obtain rfl : k = 2 * i + 1 := by omega
          omega
        by_cases h4 : (fn l' (2 * i + 1)).b < (fn l' i).b
        · have H4 := hide h4
          have C2 := fun x y hx hy => less_at HD.out.row HLL.out (2 * i + 1) i (by omega) (by omega) true (by simpa using h4) x y hx hy
          have HC2 := hide C2
          clear C2 h4
          have HW := hide (fun q x y hx hy => swap_at (HD.out.drewN q).row (HD.out.drewN q).size HLL.out i (2 * i + 1) (by omega) (by omega) x y hx hy)
          go_wp2_with (first
            | (go_at_call 43; refine (HC2.out _ _ (by omega) (by omega)).mono ?_; rintro e w' ⟨rfl, q2, rfl⟩)
            | (go_at_call 44; refine (HW.out _ _ _ (by omega) (by omega)).mono ?_; rintro e w2 ⟨⟨rfl, hf⟩, hr, hd⟩))
          exact ⟨⟨2 * i + 1, _, by congr 1, SS.out.step hn (by omega) (by omega) H4.out (HM.out) q2 hf hr hd⟩, by simp [intOf]; omega⟩
        · have H4 := hide h4
          have C2 := fun x y hx hy => less_at HD.out.row HLL.out (2 * i + 1) i (by omega) (by omega) false (by simpa using h4) x y hx hy
          have HC2 := hide C2
          clear C2 h4
          go_wp2_with (first
            | (go_at_call 43; refine (HC2.out _ _ (by omega) (by omega)).mono ?_; rintro e w' ⟨rfl, q2, rfl⟩))
          go_ret
          refine (SS.out.drewN q2).stop (fun k h0 hk hp => ?_)
          have h5 := (HM.out) k h0 hk hp
          have h6 := H4.out
          omega
end Go.Proofs.Ytokbbjpnahpeaaa
