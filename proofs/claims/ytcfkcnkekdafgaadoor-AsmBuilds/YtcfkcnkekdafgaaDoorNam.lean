/-
  For any string: what asm.Name answers, said by lists of bytes; asm.insist goes on, or gives up by a panic of the errno. Conditions: strings of at most 2^63 - 1 bytes.
-/
import Derived.Test.YtcfkcnkekdafgaaDoorIsa
import Derived.Test.YtcfkcnkekdafgaaDoorPars
import Derived.Laws.RangeAny
namespace Go.Proofs.YtcfkcnkekdafgaaDoor
open Go.ChangeShapes Go.WideShapes Go.ChangeAt Go.RowKit
set_option linter.unusedVariables false

theorem letter_calls (n : Int) (w : World) :
    Calls Tryd.prog 18 #[.int .i32 n] w fun e w' => e = .returned (.bool (decide (97 ≤ n) && decide (n ≤ 122))) ∧ w' = w := by
  by_cases h : 97 ≤ n <;> by_cases h' : n ≤ 122
  all_goals
    go_enter Tryd.func18, Tryd.ntmps18
    go_wp2
    go_ret
    exact ⟨by simp [h, h'], rfl⟩
theorem digit_calls (n : Int) (w : World) :
    Calls Tryd.prog 19 #[.int .i32 n] w fun e w' => e = .returned (.bool (decide (48 ≤ n) && decide (n ≤ 57))) ∧ w' = w := by
  by_cases h : 48 ≤ n <;> by_cases h' : n ≤ 57
  all_goals
    go_enter Tryd.func19, Tryd.ntmps19
    go_wp2
    go_ret
    exact ⟨by simp [h, h'], rfl⟩

/-- the byte at a place may stand in a name there -/
def okAt (j : Nat) (b : UInt8) : Bool := letB b || (decide (j ≠ 0) && digB b)
theorem isName_iff (l : Bs) : isName l = (decide (1 ≤ l.length) && decide (l.length ≤ 20) && (l.zipIdx.all fun p => okAt p.2 p.1)) := by
  cases l with
  | nil => rfl
  | cons x xs =>
    have h1 : ∀ (xs : Bs) (n : Nat), 0 < n → ((xs.zipIdx n).all fun p => okAt p.2 p.1) = xs.all (fun b => letB b || digB b) := by
      intro xs
      induction xs with
      | nil => intro n _; rfl
      | cons y ys ih =>
        intro n hn
        rw [List.zipIdx_cons, List.all_cons, List.all_cons, ih (n + 1) (by omega)]
        have : okAt n y = (letB y || digB y) := by unfold okAt; simp [show n ≠ 0 by omega]
        rw [this]
    have h2 : okAt 0 x = letB x := by simp [okAt]
    rw [List.zipIdx_cons, List.all_cons, h1 xs 1 (by omega), h2]
    simp only [isName, List.length_cons]
    have h3 : decide (1 ≤ xs.length + 1) = true := by simp
    have h4 : decide (xs.length + 1 ≤ 20) = decide (xs.length < 20) := by simp; omega
    rw [h3, h4]
    cases letB x <;> cases xs.all (fun b => letB b || digB b) <;> cases decide (xs.length < 20) <;> rfl
theorem isName_no {l : Bs} {k : Nat} {b : UInt8} (h : l[k]? = some b) (hb : okAt k b = false) : isName l = false := by
  rw [isName_iff]
  have : (l.zipIdx.all fun p => okAt p.2 p.1) = false := by
    rw [List.all_eq_false]
    refine ⟨(b, k), ?_, by simp [hb]⟩
    rw [List.mem_zipIdx_iff_getElem?]
    exact h
  rw [this]
  simp
theorem isName_yes {l : Bs} (h1 : 1 ≤ l.length) (h2 : l.length ≤ 20) (h : ∀ k b, l[k]? = some b → okAt k b = true) : isName l = true := by
  rw [isName_iff]
  have : (l.zipIdx.all fun p => okAt p.2 p.1) = true := by
    rw [List.all_eq_true]
    rintro ⟨b, k⟩ hm
    rw [List.mem_zipIdx_iff_getElem?] at hm
    exact h k b hm
  rw [this]
  simp [h1, h2]
theorem isName_long {l : Bs} (h : ¬ (1 ≤ l.length ∧ l.length ≤ 20)) : isName l = false := by
  rw [isName_iff]
  have : (decide (1 ≤ l.length) && decide (l.length ≤ 20)) = false := by simp; omega
  rw [this]
  simp
theorem Gr.iter (w : World) (s : ByteArray) (p : Nat) : Gr w (w.iter s p) := (Gr.refl w).allocO _
theorem at_list (s : ByteArray) (k : Nat) (h : k < s.size) : s.data.toList[k]? = some s[k] := by
  have : s.data[k]? = some s[k] := by
    show s.data[k]? = some (s.data[k])
    rw [Array.getElem?_eq_getElem]
  simpa using this
theorem size_list (s : ByteArray) : s.data.toList.length = s.size := by simp

set_option maxHeartbeats 1000000 in
theorem name_calls (s : ByteArray) (w : World) :
    Calls Tryd.prog 6 #[.string s] w fun e w' => e = .returned (.bool (isName s.data.toList)) ∧ Gr w w' := by
  have hsz := size_list s
  by_cases h1 : s.size < 1
  · have e := isName_long (l := s.data.toList) (by omega)
    have h1' : (s.size : Int) < 1 := by omega
    go_enter Tryd.func6, Tryd.ntmps6
    go_wp2
    go_ret
    exact ⟨by simp [e], Gr.refl _⟩
  by_cases h2 : 20 < s.size
  · have e := isName_long (l := s.data.toList) (by omega)
    have h1' : ¬ (s.size : Int) < 1 := by omega
    have h2' : (20 : Int) < s.size := by omega
    go_enter Tryd.func6, Tryd.ntmps6
    go_wp2
    go_ret
    exact ⟨by simp, Gr.refl _⟩
  have h1' : ¬ (s.size : Int) < 1 := by omega
  have h2' : ¬ (20 : Int) < s.size := by omega
  go_enter Tryd.func6, Tryd.ntmps6
  go_wp2
  go_loopw [] (fun w' => ∃ pos : Nat, w' = w.iter s pos ∧ pos ≤ s.size ∧ Hid (∀ k b, k < pos → s.data.toList[k]? = some b → okAt k b = true)) (fun w' => s.size - w'.iterPos w.heap.size)
  case atStart => exact ⟨0, rfl, by omega, fun k b hk => by omega⟩
  case round =>
    obtain ⟨pos, rfl, hp, hd⟩ := hrel
    by_cases hlt : pos < s.size
    · have hat := at_list s pos hlt
      by_cases ha : (s[pos]'hlt).toNat < 128
      · have hnx : ∀ ty, (Instr.next (.pointer (some ⟨w.heap.size, 0, none⟩)) true ty).run Tryd.prog (w.iter s pos) = _ := fun ty => run_next_ascii w s pos ty hlt ha
        generalize hbb : s[pos]'hlt = b at hat hnx ha
        cases hl : (decide (97 ≤ (b.toNat : Int)) && decide ((b.toNat : Int) ≤ 122))
        · by_cases h0 : pos = 0
          · have h0' : ((pos : Int) == 0) = true := by simp [h0]
            have HE := isName_no hat (by unfold okAt letB; simp [h0]; simp at hl; omega)
            clear hat hd h0
            go_wp2_with (first | (go_at_call 18; refine (letter_calls _ _).mono ?_; rw [hl]; rintro e w1 ⟨rfl, rfl⟩) | (go_at_call 19; refine (digit_calls _ _).mono ?_; rintro e w1 ⟨rfl, rfl⟩))
            go_ret
            exact ⟨by simp [HE], Gr.iter _ _ _⟩
          · have h0' : ((pos : Int) == 0) = false := by simp [h0]
            cases hg : (decide (48 ≤ (b.toNat : Int)) && decide ((b.toNat : Int) ≤ 57))
            · have HE := isName_no hat (by unfold okAt letB digB; simp at hl hg ⊢; omega)
              clear hat hd
              go_wp2_with (first | (go_at_call 18; refine (letter_calls _ _).mono ?_; rw [hl]; rintro e w1 ⟨rfl, rfl⟩) | (go_at_call 19; refine (digit_calls _ _).mono ?_; rw [hg]; rintro e w1 ⟨rfl, rfl⟩))
              go_ret
              exact ⟨by simp [HE], Gr.iter _ _ _⟩
            · have HN : Hid (∀ k b, k < pos + 1 → s.data.toList[k]? = some b → okAt k b = true) := by
                intro k c hk hc
                by_cases e : k = pos
                · subst e
                  rw [hat] at hc
                  cases hc
                  unfold okAt digB; simp at hg ⊢; omega
                · exact hd.out k c (by omega) hc
              clear hat hd
              go_wp2_with (first | (go_at_call 18; refine (letter_calls _ _).mono ?_; rw [hl]; rintro e w1 ⟨rfl, rfl⟩) | (go_at_call 19; refine (digit_calls _ _).mono ?_; rw [hg]; rintro e w1 ⟨rfl, rfl⟩))
              go_roundw
              case rel => exact ⟨pos + 1, rfl, by omega, HN⟩
              case measure => simp; omega
        · have HN : Hid (∀ k b, k < pos + 1 → s.data.toList[k]? = some b → okAt k b = true) := by
            intro k c hk hc
            by_cases e : k = pos
            · subst e
              rw [hat] at hc
              cases hc
              unfold okAt letB; simp at hl ⊢; omega
            · exact hd.out k c (by omega) hc
          clear hat hd
          go_wp2_with (first | (go_at_call 18; refine (letter_calls _ _).mono ?_; rw [hl]; rintro e w1 ⟨rfl, rfl⟩) | (go_at_call 19; refine (digit_calls _ _).mono ?_; rintro e w1 ⟨rfl, rfl⟩))
          go_roundw
          case rel => exact ⟨pos + 1, rfl, by omega, HN⟩
          case measure => simp; omega
      · have hnx : ∀ ty, (Instr.next (.pointer (some ⟨w.heap.size, 0, none⟩)) true ty).run Tryd.prog (w.iter s pos) = _ := fun ty => run_next_any w s pos ty hlt
        have hhi := (decode_high s pos hlt (by omega)).1
        have HE := isName_no hat (by unfold okAt letB digB; simp; omega)
        generalize Utf8.decode s pos = dd at hnx hhi
        have hl : (decide (97 ≤ (dd.1 : Int)) && decide ((dd.1 : Int) ≤ 122)) = false := by simp; omega
        have hg : (decide (48 ≤ (dd.1 : Int)) && decide ((dd.1 : Int) ≤ 57)) = false := by simp; omega
        clear hat hd hhi
        by_cases h0 : pos = 0
        · have h0' : ((pos : Int) == 0) = true := by simp [h0]
          clear h0
          go_wp2_with (first | (go_at_call 18; refine (letter_calls _ _).mono ?_; rw [hl]; rintro e w1 ⟨rfl, rfl⟩) | (go_at_call 19; refine (digit_calls _ _).mono ?_; rw [hg]; rintro e w1 ⟨rfl, rfl⟩))
          go_ret
          exact ⟨by simp [HE], Gr.iter _ _ _⟩
        · have h0' : ((pos : Int) == 0) = false := by simp [h0]
          go_wp2_with (first | (go_at_call 18; refine (letter_calls _ _).mono ?_; rw [hl]; rintro e w1 ⟨rfl, rfl⟩) | (go_at_call 19; refine (digit_calls _ _).mono ?_; rw [hg]; rintro e w1 ⟨rfl, rfl⟩))
          go_ret
          exact ⟨by simp [HE], Gr.iter _ _ _⟩
    · have hnx : ∀ ty, (Instr.next (.pointer (some ⟨w.heap.size, 0, none⟩)) true ty).run Tryd.prog (w.iter s pos) = _ := fun ty => run_next_end w s pos ty hlt
      obtain rfl : pos = s.size := by omega
      have HE := isName_yes (l := s.data.toList) (by omega) (by omega) (fun k b hk => hd.out k b (by have := (List.getElem?_eq_some_iff.1 hk).1; omega) hk)
      clear hd
      go_wp2
      go_ret
      exact ⟨by simp [HE], Gr.iter _ _ _⟩

/-- gives up by a panic of the errno -/
abbrev gone (n : Int) : Ending := .panicked [{ v := .iface 32 (.int .i64 n), recovered := false }]
theorem insist_ok (n : Int) (w : World) : Calls Tryd.prog 39 #[.bool true, .int .i64 n] w fun e w' => e = .returned (.tuple #[]) ∧ w' = w := by
  go_enter Tryd.func39, Tryd.ntmps39
  go_wp2
  go_end0
  exact ⟨rfl, rfl⟩
theorem insist_no (n : Int) (w : World) : Calls Tryd.prog 39 #[.bool false, .int .i64 n] w fun e w' => e = gone n ∧ w' = w := by
  go_enter Tryd.func39, Tryd.ntmps39
  go_wp2
  exact ⟨rfl, rfl, rfl⟩
end Go.Proofs.YtcfkcnkekdafgaaDoor
