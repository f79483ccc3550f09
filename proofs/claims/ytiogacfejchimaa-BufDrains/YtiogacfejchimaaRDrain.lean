/-
  What the document's Drain answers of any entries and any memory: new words into which all entries were put. No condition but that their cells hold them, and their number.
-/
import Derived.Test.YtiogacfejchimaaAppd
import Derived.Test.YtiogacfejchimaaDrain
namespace Go.Proofs.Ytiogacfejchimaa
open Go.ChangeShapes Go.WideShapes Go.ChangeAt Go.RowKit
set_option linter.unusedVariables false

/-- the first k words were looked at -/
def drainK (m : List Int) (x : Ent) (k : Nat) : List Int := if 0 ≤ x.a ∧ x.a < (k : Int) then m.set x.a.toNat x.v else m
theorem drainK_length (m : List Int) (x : Ent) (k : Nat) : (drainK m x k).length = m.length := by
  unfold drainK
  split <;> simp
theorem drainK_all (m : List Int) (x : Ent) : drainK m x m.length = drain1 m x := rfl
theorem drainK_zero (m : List Int) (x : Ent) : drainK m x 0 = m := by
  unfold drainK
  rw [if_neg (by omega)]
theorem drainK_yes (m : List Int) (x : Ent) (k : Nat) (h : x.a = k) : drainK m x (k + 1) = (drainK m x k).set k x.v := by
  unfold drainK
  rw [if_pos (by omega), if_neg (by omega), h]
  rfl
theorem drainK_no (m : List Int) (x : Ent) (k : Nat) (h : x.a ≠ k) : drainK m x (k + 1) = drainK m x k := by
  unfold drainK
  by_cases h2 : 0 ≤ x.a ∧ x.a < (k : Int)
  · rw [if_pos h2, if_pos (by omega)]
  · rw [if_neg h2, if_neg (by omega)]

set_option maxHeartbeats 1000000 in
theorem rdrain_calls (al : Option Addr) (cl : Nat) (l : List Ent) (hl : l.length ≤ 1000) (ad : Option Addr) (cap : Nat) (m : List Int) (hm : m.length ≤ 1000) (w : World) (he : EntsAt w al l) (hw : WordsAt w ad m) (hc : ad = none → cap = 0) :
    Calls Try.prog 18 #[.slice al l.length cl, .slice ad m.length cap] w fun e w' => ∃ a c, (e = .returned (.slice a m.length c) ∧ Gr w w') ∧ WordsAt w' a (drainL l m) := by
  have HE := hide he
  have HC := hide (clone_words w 48 ad cap m hw hc (by omega))
  clear he hw hc
  obtain ⟨a', c', w1, hr, g1, ho, _⟩ := HC.out
  have HR := hide hr
  clear HC hr
  go_enter Try.func18, Try.ntmps18
  go_wp2_with (first
    | (refine step_app rfl (some 10) rfl _ _ 48 rfl _ _ rfl rfl _ _ HR.out ?_))
  go_loopw [6] (fun i wr => ∃ k : Nat, k ≤ l.length ∧ i = .int .i64 k ∧ Gr w wr ∧ Outs w.heap.size wr a' (drainL (l.take k) m)) (fun i _ => l.length - (intOf i).toNat)
  case atStart => exact ⟨0, by omega, rfl, g1, ho⟩
  case round =>
    clear g1 ho HR
    obtain ⟨k, hk, rfl, gr, ho⟩ := hrel
    by_cases hlt : k < l.length
    · have hlt' : (k : Int) < l.length := by omega
      obtain ⟨b, off, had, _⟩ := HE.out.get hlt
      have HT := hide (taken l k hlt)
      have hml := drainL_length (l.take k) m
      have ST : Hid (∀ w', EntsAt w' al l → w'.cell? ⟨b, off + k * 2, none⟩ = some (.int .i64 (l.getD k ent0).a) ∧ w'.cell? ⟨b, off + k * 2 + 1, none⟩ = some (.int .u32 (l.getD k ent0).v)) := by
        intro w' h
        obtain ⟨b', off', h1, h2, h3⟩ := h.get hlt
        rw [had] at h1
        cases h1
        exact ⟨h2, h3⟩
      subst had
      generalize l.getD k ent0 = x at HT ST
      have HD := hide (drainL_snoc (l.take k) x m)
      generalize drainL (l.take k) m = q at ho HD hml
      have HL := hide hml
      clear hml
      go_wp2_with (fail)
      go_loopw [7] (fun i wr => ∃ j : Nat, j ≤ m.length ∧ i = .int .i64 j ∧ Gr w wr ∧ Outs w.heap.size wr a' (drainK q x j)) (fun i _ => m.length - (intOf i).toNat)
      case atStart => exact ⟨0, by omega, rfl, gr, by rw [drainK_zero]; exact ho⟩
      case round =>
        clear gr ho
        obtain ⟨j, hj, rfl, gr, ho⟩ := hrel
        by_cases hjt : j < m.length
        · have hjt' : (j : Int) < m.length := by omega
          obtain ⟨ca, cv⟩ := ST.out _ (HE.out.later gr)
          obtain ⟨g, hg, hb, hgl, c1, c2, hput⟩ := ho.put (i := j) (by rw [drainK_length, HL.out]; exact hjt)
          have hbl : b < w.heap.size := by
            have := (ST.out _ HE.out).1
            exact block_lt_of_cell this
          have hne : b ≠ g := by omega
          subst hg
          have HP := hide hput
          clear hput
          by_cases hx : x.a = j
          · have hx' : ((j : Int) == x.a) = true := by simp [hx]
            have HK := hide (drainK_yes q x j hx)
            clear hx
            go_wp2_with (fail)
            exact ⟨⟨j + 1, by omega, by go_num, gr.setCell hb _, by rw [HK.out]; exact HP.out _⟩, by simp [intOf]; omega⟩
          · have hx' : ((j : Int) == x.a) = false := by simp; omega
            have HK := hide (drainK_no q x j hx)
            clear hx
            go_wp2_with (fail)
            exact ⟨⟨j + 1, by omega, by go_num, gr, by rw [HK.out]; exact ho⟩, by simp [intOf]; omega⟩
        · obtain rfl : j = m.length := by omega
          go_wp2_with (fail)
          exact ⟨⟨k + 1, by omega, by go_num, gr, by rw [HT.out, HD.out, ← drainK_all, HL.out]; exact ho⟩, by simp [intOf]; omega⟩
    · obtain rfl : k = l.length := by omega
      rw [List.take_length] at ho
      go_wp2_with (fail)
      go_ret
      exact ⟨_, _, ⟨rfl, gr⟩, ho.words⟩
end Go.Proofs.Ytiogacfejchimaa
