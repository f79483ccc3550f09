/-
  For any line: what the parser's 'read' makes of it: what is wrong with it, or nothing. Conditions: lines of at most 2^31 bytes, a parser of at most 2^31 names and 4000 instructions.
-/
import Derived.Test.YtcfkcnkekdafgaaDoorPadd
import Derived.Test.YtcfkcnkekdafgaaDoorCatch
namespace Go.Proofs.YtcfkcnkekdafgaaDoor
open Go.ChangeShapes Go.WideShapes Go.ChangeAt Go.RowKit
set_option linter.unusedVariables false

def ReadP (B g : Nat) (r : Nat × St) (w : World) (e : Ending) (w' : World) : Prop := e = .returned (.int .i64 r.1) ∧ PAt w' B g r.2 ∧ Kp B w w'
theorem empty_str (s : Bs) : ((⟨s.toArray⟩ : ByteArray).toList == []) = decide (s = []) := by
  rw [ByteArray.toList_eq]
  rw [Bool.eq_iff_iff]
  simp

theorem Kp.write {B b o : Nat} {w w2 : World} (h : Kp B w w2) (hb : w.heap.size ≤ b) (v : Value) : Kp B w (w2.setCell ⟨b, o, none⟩ v) :=
  ⟨h.os, h.tape, h.output, by simpa [World.setCell] using h.size, fun k hk hc => (Below.heap_setCell _ _ _ _ (show k ≠ b by omega)).trans (h.block k hk hc)⟩
theorem StepP.ok {B g : Nat} {st : St} {w w' : World} {e : Ending} (h : StepP B g (0, st) w e w') : e = .returned (.tuple #[]) ∧ PAt w' B g st ∧ Kp B w w' := h
theorem StepP.not {B g k : Nat} {st : St} {w w' : World} {e : Ending} (hk : ¬ k = 0) (h : StepP B g (k, st) w e w') : e = gone k ∧ PAt w' B g st ∧ Kp B w w' := by
  obtain ⟨h1, h2⟩ := h
  rw [if_neg hk] at h1
  exact ⟨h1, h2⟩

set_option maxRecDepth 10000 in
set_option maxHeartbeats 800000 in
theorem read_calls (s : Bs) (no B g : Nat) (st : St) (w : World) (hP : PAt w B g st) (L : Laid w) (hs : s.length ≤ 2147483648) (hn : st.names.length ≤ 2147483648) (h4 : st.code.length ≤ 4000) (hl : st.lines.length = st.code.length) (hj : st.jumps.length ≤ st.code.length) (hB : B ≤ w.heap.size) (h6 : 6 < B) :
    Calls Tryd.prog 23 #[.pointer (some ⟨g, 0, none⟩), .string ⟨s.toArray⟩, .int .i64 no] w (ReadP B g (stepL st s no) w) := by
  have hmf : ∀ (fn : Fn) (first cap : Array Value) (w : World), (Instr.makeFunc fn first cap).run Tryd.prog w = .ok (.func fn first cap) w := fun _ _ _ _ => rfl
  have hg1 := (Gr.refl w).alloc #[.int .i64 0] 32
  have R1 : Hid ((w.alloc (.cells #[.int .i64 0] 32)).heap[w.heap.size]? = some (.cells #[.int .i64 0] 32)) := heap_alloc_new w _
  have P1 := hide (hP.gr hg1)
  have L1 := hide (L.later hg1)
  clear hP L
  by_cases h0 : s = []
  · have HS : Hid (stepL st s no = (0, st)) := by show _ = _; simp [stepL, h0]
    have he' : List.isEmpty s = true := by simpa using h0
    have c0 := row_cell R1.out 0
    simp only [List.getElem?_toArray, List.getElem?_cons_zero] at c0
    clear h0
    go_enter_defers Tryd.func23, Tryd.ntmps23
    go_wp2
    refine leaves_cons (f := 28) (args := #[.pointer (some ⟨w.heap.size, 0, none⟩)]) (by simp) (by simp [go_sem]) ?_
    refine (catch_idle ⟨w.heap.size, 0, none⟩ _).mono ?_
    rintro e u' w'' ⟨rfl, rfl, rfl⟩
    simp [Leaves, settle, results, Tryd.results23, go_sem]
    unfold ReadP
    rw [HS.out]
    exact ⟨rfl, P1.out, Kp.of_gr hg1⟩
  · have he' : List.isEmpty s = false := by simpa using h0
    have HC := hide (Tryd.strings_CutSuffix ⟨s.toArray⟩ ⟨#[58]⟩ (w.alloc (.cells #[.int .i64 0] 32)) (by rw [size_mk]; omega))
    have hB1 : B ≤ (w.alloc (.cells #[.int .i64 0] 32)).heap.size := by have := hg1.size; omega
    have HB : Hid (w.heap.size ≤ w.heap.size) := Nat.le_refl _
    have HW : Hid (Kp B w (w.alloc (.cells #[.int .i64 0] 32))) := Kp.of_gr hg1
    clear hg1
    cases hx : Lib.hasSuffix s [58] with
    | true =>
      have ht := trimS_len s [58]
      obtain ⟨k, st', hks⟩ : ∃ k st', nameStep st (Lib.trimSuffix s [58]) = (k, st') := ⟨_, _, rfl⟩
      have HS : Hid (stepL st s no = (k, st')) := by
        show _ = _
        rw [← hks]
        simp [stepL, h0, hx, nameStep]
      have HN := hide (pname_calls (Lib.trimSuffix s [58]) B g st _ P1.out (by omega) hn h4)
      rw [hks] at HN
      generalize hr : Lib.trimSuffix s [58] = r at HN ht
      clear hks h0
      go_enter_defers Tryd.func23, Tryd.ntmps23
      go_wp2_with (go_at_call 29; refine HC.out.mono ?_; simp only [hx, hr]; rintro e w2 ⟨rfl, rfl⟩)
      generalize w.alloc (.cells #[.int .i64 0] 32) = w1 at R1 P1 L1 HC hB1 HN HW ⊢
      generalize hbb : w.heap.size = b at R1 hB ⊢
      rw [hbb] at HB
      have HB : Hid (w.heap.size ≤ b) := by rw [hbb]; exact HB
      clear hbb
      refine HN.out.mono ?_
      clear HN HC
      rintro e w2 hst
      by_cases hk : k = 0
      · subst hk
        obtain ⟨rfl, P2, K2⟩ := hst.ok
        have R2 := hide (K2.errno R1.out)
        have c0 := row_cell R2.out 0
        have z0 := row_frozen R2.out 0
        simp only [List.getElem?_toArray, List.getElem?_cons_zero] at c0
        have HP2 := hide P2
        have HK2 := hide (HW.out.trans K2)
        clear P2 K2 P1 R1 hst
        go_wp2
        refine leaves_cons (f := 28) (args := #[.pointer (some ⟨b, 0, none⟩)]) (by simp) (by simp [go_sem]) ?_
        refine (catch_idle ⟨b, 0, none⟩ _).mono ?_
        rintro e u' w'' ⟨rfl, rfl, rfl⟩
        simp [Leaves, settle, results, Tryd.results23, go_sem, c0]
        unfold ReadP
        rw [HS.out]
        exact ⟨rfl, HP2.out.kept (Kept.setCell B R2.out hB _) (by decide), (HK2.out).write HB.out _⟩
      · obtain ⟨rfl, P2, K2⟩ := hst.not hk
        have R2 := hide (K2.errno R1.out)
        have c0 := row_cell R2.out 0
        have z0 := row_frozen R2.out 0
        simp only [List.getElem?_toArray, List.getElem?_cons_zero] at c0
        have HP2 := hide P2
        have HK2 := hide (HW.out.trans K2)
        clear P2 K2 P1 R1 hst
        go_wp2
        refine leaves_cons (f := 28) (args := #[.pointer (some ⟨b, 0, none⟩)]) (by simp) (by simp [go_sem]) ?_
        refine (catch_gone ⟨b, 0, none⟩ 0 k _ c0 z0).mono ?_
        rintro e u' w'' ⟨rfl, rfl, rfl⟩
        simp [Leaves, settle, results, Tryd.results23, go_sem, c0]
        unfold ReadP
        rw [HS.out]
        exact ⟨rfl, HP2.out.kept (Kept.setCell B R2.out hB _) (by decide), (HK2.out).write HB.out _⟩
    | false =>
      have HF := hide (lineOf_calls s (w.alloc (.cells #[.int .i64 0] 32)) L1.out hs)
      have H0 := hide h0
      clear h0
      go_enter_defers Tryd.func23, Tryd.ntmps23
      go_wp2_with (go_at_call 29; refine HC.out.mono ?_; simp only [hx]; rintro e w2 ⟨rfl, rfl⟩)
      generalize w.alloc (.cells #[.int .i64 0] 32) = w1 at R1 P1 L1 HC hB1 HF HW ⊢
      generalize hbb : w.heap.size = b at R1 hB ⊢
      have HB : Hid (w.heap.size ≤ b) := by rw [hbb]; exact Nat.le_refl _
      clear hbb
      refine HF.out.mono ?_
      rintro e w2 hlp
      unfold LineP at hlp
      clear HC HF
      cases hrd : readL s with
      | none =>
        rw [hrd] at hlp
        obtain ⟨rfl, hg2⟩ := hlp
        have HS : Hid (stepL st s no = (3, st)) := by show _ = _; simp [stepL, H0.out, hx, hrd]
        have K2 := Kp.of_gr (B := B) hg2
        have P2 := P1.out.gr hg2
        have R2 := hide (K2.errno R1.out)
        have c0 := row_cell R2.out 0
        have z0 := row_frozen R2.out 0
        simp only [List.getElem?_toArray, List.getElem?_cons_zero] at c0
        have HP2 := hide P2
        have HK2 := hide (HW.out.trans K2)
        clear P2 K2 P1 R1 hrd
        go_wp2
        refine leaves_cons (f := 28) (args := #[.pointer (some ⟨b, 0, none⟩)]) (by simp) (by simp [go_sem]) ?_
        refine (catch_gone ⟨b, 0, none⟩ 0 3 _ c0 z0).mono ?_
        rintro e u' w'' ⟨rfl, rfl, rfl⟩
        simp [Leaves, settle, results, Tryd.results23, go_sem, c0]
        unfold ReadP
        rw [HS.out]
        exact ⟨rfl, HP2.out.kept (Kept.setCell B R2.out hB _) (by decide), (HK2.out).write HB.out _⟩
      | some p =>
        obtain ⟨i, t⟩ := p
        rw [hrd] at hlp
        obtain ⟨rfl, hg2⟩ := hlp
        obtain ⟨k, st', hks⟩ : ∃ k st', addStep st i t no = (k, st') := ⟨_, _, rfl⟩
        have HS : Hid (stepL st s no = (k, st')) := by
          show _ = _
          rw [← hks]
          simp [stepL, H0.out, hx, hrd, addStep]
        have R1 := hide ((hg2.block _ (heap_lt R1.out)).trans R1.out)
        have hB2 : B ≤ w2.heap.size := by have := hg2.size; omega
        have HN := hide (padd_calls i t no B g st w2 (P1.out.gr hg2) (L1.out.later hg2) h4 hl hj hB2)
        rw [hks] at HN
        have HW := hide (HW.out.trans (Kp.of_gr hg2))
        clear hks hrd P1 L1 hg2
        go_wp2_with (fail)
        refine HN.out.mono ?_
        clear HN
        rintro e w3 hst
        by_cases hk : k = 0
        · subst hk
          obtain ⟨rfl, P2, K2⟩ := hst.ok
          have R2 := hide (K2.errno R1.out)
          have c0 := row_cell R2.out 0
          have z0 := row_frozen R2.out 0
          simp only [List.getElem?_toArray, List.getElem?_cons_zero] at c0
          have HP2 := hide P2
          have HK2 := hide (HW.out.trans K2)
          clear P2 K2 R1 hst
          go_wp2
          refine leaves_cons (f := 28) (args := #[.pointer (some ⟨b, 0, none⟩)]) (by simp) (by simp [go_sem]) ?_
          refine (catch_idle ⟨b, 0, none⟩ _).mono ?_
          rintro e u' w'' ⟨rfl, rfl, rfl⟩
          simp [Leaves, settle, results, Tryd.results23, go_sem, c0]
          unfold ReadP
          rw [HS.out]
          exact ⟨rfl, HP2.out.kept (Kept.setCell B R2.out hB _) (by decide), (HK2.out).write HB.out _⟩
        · obtain ⟨rfl, P2, K2⟩ := hst.not hk
          have R2 := hide (K2.errno R1.out)
          have c0 := row_cell R2.out 0
          have z0 := row_frozen R2.out 0
          simp only [List.getElem?_toArray, List.getElem?_cons_zero] at c0
          have HP2 := hide P2
          have HK2 := hide (HW.out.trans K2)
          clear P2 K2 R1 hst
          go_wp2
          refine leaves_cons (f := 28) (args := #[.pointer (some ⟨b, 0, none⟩)]) (by simp) (by simp [go_sem]) ?_
          refine (catch_gone ⟨b, 0, none⟩ 0 k _ c0 z0).mono ?_
          rintro e u' w'' ⟨rfl, rfl, rfl⟩
          simp [Leaves, settle, results, Tryd.results23, go_sem, c0]
          unfold ReadP
          rw [HS.out]
          exact ⟨rfl, HP2.out.kept (Kept.setCell B R2.out hB _) (by decide), (HK2.out).write HB.out _⟩
end Go.Proofs.YtcfkcnkekdafgaaDoor
