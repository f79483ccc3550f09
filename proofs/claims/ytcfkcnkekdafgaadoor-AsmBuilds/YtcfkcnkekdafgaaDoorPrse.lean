/-
  For any text, in any world in which the program's tables lie: asm.Parse answers the code, or the line and what is wrong first. Conditions: texts of at most 2^63 - 1 bytes.
-/
import Derived.Test.YtcfkcnkekdafgaaDoorPsett
import Derived.Test.YtcfkcnkekdafgaaDoorGood
namespace Go.Proofs.YtcfkcnkekdafgaaDoor
open Go.ChangeShapes Go.WideShapes Go.ChangeAt Go.RowKit
set_option linter.unusedVariables false

def ParseP (s : Bs) (w : World) (e : Ending) (w' : World) : Prop :=
  ∃ v, e = .returned (.tuple #[v, .int .i64 (parseB s).2.1, .int .i64 (parseB s).2.2]) ∧ w'.ownsRow w.heap.size 28 5 v (parseB s).1.length (codeV (parseB s).1) ∧ Gr w w'
theorem own_nil (w : World) (B : Nat) : w.ownsRow B 28 5 (.slice none 0 0) ([] : List Ins).length (codeV []) := ⟨rfl, .inl ⟨rfl, rfl⟩⟩
theorem parse_long {s : Bs} (h : 20000 < s.length) : parseB s = ([], 0, 4) := by unfold parseB; rw [if_pos h]
theorem parse_line {s : Bs} {r no : Nat} {st : St} (h : ¬ 20000 < s.length) (hl : linesL st0 (parts 10 s) 1 = (r, no, st)) (hr : ¬ r = 0) : parseB s = ([], no, r) := by
  unfold parseB
  rw [if_neg h, hl]
  simp only
  rw [if_neg hr]
theorem parse_jump {s : Bs} {no r ln : Nat} {st : St} {code : List Ins} (h : ¬ 20000 < s.length) (hl : linesL st0 (parts 10 s) 1 = (0, no, st)) (hs : settleL st.names st.lines st.jumps st.code = (r, ln, code)) (hr : ¬ r = 0) : parseB s = ([], ln, 5) := by
  unfold parseB
  rw [if_neg h, hl]
  simp only [if_true]
  rw [hs]
  simp only
  rw [if_neg hr]
theorem parse_ok {s : Bs} {no ln : Nat} {st : St} {code : List Ins} (h : ¬ 20000 < s.length) (hl : linesL st0 (parts 10 s) 1 = (0, no, st)) (hs : settleL st.names st.lines st.jumps st.code = (0, ln, code)) : parseB s = (code, 0, 0) := by
  unfold parseB
  rw [if_neg h, hl]
  simp only [if_true]
  rw [hs]
  rfl
theorem settle_five (ns : List (Bs × Nat)) (ls : List Nat) : ∀ (js : List (Nat × Bs)) (code : List Ins), (settleL ns ls js code).1 = 0 ∨ (settleL ns ls js code).1 = 5
  | [], code => .inl rfl
  | j :: js, code => by
    have hj : (jumpL ns j code).1 = 0 ∨ (jumpL ns j code).1 = 5 := by
      unfold jumpL
      split
      · split
        · exact .inl rfl
        · exact .inr rfl
      · split
        · exact .inr rfl
        · split
          · exact .inl rfl
          · exact .inr rfl
    unfold settleL
    rcases hj with h | h
    · rw [if_pos h]
      exact settle_five ns ls js _
    · rw [if_neg (by omega)]
      exact .inr h
abbrev parserV (m : Nat) : Array Value := #[.slice none 0 0, .slice none 0 0, .map (some m), .slice none 0 0]

set_option maxRecDepth 20000 in
set_option maxHeartbeats 1600000 in
theorem parse_calls (s : Bs) (w : World) (L : Laid w) :
    Calls Tryd.prog 11 #[.string ⟨s.toArray⟩] w (ParseP s w) := by
  have hmm := @run_makeMap Tryd.prog
  by_cases hlong : 20000 < s.length
  · have h1 : (20000 : Int) < (s.length : Int) := by omega
    have HP := hide (parse_long hlong)
    clear hlong
    go_enter Tryd.func11, Tryd.ntmps11
    go_wp2
    refine bodyPost_ret (v := .tuple #[.slice none 0 0, .int .i64 0, .int .i64 4]) (by simp [results, Tryd.results11, go_sem]) rfl ?_
    exact ⟨_, by rw [HP.out]; rfl, by rw [HP.out]; exact own_nil _ _, Gr.refl _⟩
  · have h1 : ¬ (20000 : Int) < (s.length : Int) := by omega
    have hg2 : Gr w ((w.alloc (.map #[] 0)).alloc (.cells (parserV w.heap.size) 56)) := ((Gr.refl w).allocO _).alloc _ _
    have HS := hide (split_calls 10 s _ (L.later hg2) (by omega))
    have hg3 := hg2.alloc ((parts 10 s).map strV).toArray 9
    have P3 : Hid (PAt ((((w.alloc (.map #[] 0)).alloc (.cells (parserV w.heap.size) 56))).alloc (.cells ((parts 10 s).map strV).toArray 9)) w.heap.size (w.heap.size + 1) st0) := by
      refine PAt.gr (w := (w.alloc (.map #[] 0)).alloc (.cells (parserV w.heap.size) 56)) ?_ ((Gr.refl _).alloc _ _)
      refine ⟨w.heap.size, _, _, _, new_at _ _ _ (by simp), ⟨rfl, .inl ⟨rfl, rfl⟩⟩, ⟨rfl, .inl ⟨rfl, rfl⟩⟩, ⟨rfl, .inl ⟨rfl, rfl⟩⟩, ?_, Nat.le_succ _, Nat.le_refl _⟩
      exact (mapAt_made w).keep fun es c hb => (heap_alloc_old _ _ (heap_lt hb)).trans hb
    have S3 : Hid (StrRow ((((w.alloc (.map #[] 0)).alloc (.cells (parserV w.heap.size) 56))).alloc (.cells ((parts 10 s).map strV).toArray 9)) (w.heap.size + 1 + 1) (parts 10 s)) := new_at _ _ _ (by simp)
    have L3 := hide (L.later hg3)
    have hB3 : w.heap.size ≤ ((((w.alloc (.map #[] 0)).alloc (.cells (parserV w.heap.size) 56))).alloc (.cells ((parts 10 s).map strV).toArray 9)).heap.size := hg3.size
    have h6 : 6 < w.heap.size := L.lt
    have hpl := parts_len 10 s
    have hps : ∀ p ∈ parts 10 s, p.length ≤ 2147483648 := fun p hp => Nat.le_trans (parts_short 10 s p hp) (by omega)
    clear L hg2
    generalize hLL : parts 10 s = ls at HS hg3 P3 S3 L3 hB3 hpl hps
    have HLS := hide hLL
    clear hLL
    go_enter Tryd.func11, Tryd.ntmps11
    go_wp2_with (go_at_call 22; refine HS.out.mono ?_; rintro e w3 ⟨rfl, hw3⟩; rw [← hw3] at hg3 P3 S3 L3 hB3; clear hw3 HS hmm)
    go_loopw [19] (fun i wr => ∃ k : Nat, k ≤ ls.length ∧ i = .int .i64 k ∧ ∃ st, Hid (PAt wr w.heap.size (w.heap.size + 1) st) ∧ Hid (Good st k) ∧ Hid (linesL st0 ls 1 = linesL st (ls.drop k) (k + 1)) ∧ Hid (Kp w.heap.size w3 wr)) (fun i _ => ls.length - (intOf i).toNat)
    case atStart => exact ⟨0, by omega, rfl, st0, P3, good0, rfl, Kp.refl _ _⟩
    case round =>
      obtain ⟨k, hk, rfl, st, hP, hG, hS, hK⟩ := hrel
      have hBr : w.heap.size ≤ wr.heap.size := by have := hK.out.size; omega
      by_cases hlt : k < ls.length
      · obtain ⟨t, ht⟩ : ∃ t, ls[k]? = some t := ⟨_, List.getElem?_eq_getElem hlt⟩
        have c0 := (S3.out.kp hK.out).cell ht
        have htl := hps t (List.mem_of_getElem? ht)
        have hnl := hG.out.nl
        have HR := hide (read_calls t (k + 1) w.heap.size (w.heap.size + 1) st wr hP.out (L3.out.kp hK.out h6) htl (by omega) hG.out.c4 hG.out.ln hG.out.jl hBr h6)
        have HD := hide (lines_drop (st := st) ht (k + 1))
        have HG2 := hide (good_step (no := k + 1) hG.out htl)
        clear ht hnl
        go_wp2_with (fail)
        refine HR.out.mono ?_
        rintro e w4 ⟨rfl, P4, K4⟩
        have HP4 := hide P4
        have HK4 := hide (hK.out.trans K4)
        clear P4 K4 c0 HR
        by_cases hz : (stepL st t (k + 1)).1 = 0
        · have hz' : (((stepL st t (k + 1)).1 : Nat) : Int) = 0 := by omega
          have HE : Hid (linesL st0 ls 1 = linesL (stepL st t (k + 1)).2 (ls.drop (k + 1)) (k + 1 + 1)) := by
            show _ = _
            rw [hS.out, HD.out, if_pos hz]
          generalize (stepL st t (k + 1)).2 = st2 at HE HP4 HG2
          clear HD
          go_wp2
          go_roundw
          case rel => exact ⟨k + 1, by omega, by go_num, st2, HP4, HG2, HE, HK4⟩
          case measure => simp [intOf]; omega
        · have hz' : ((((stepL st t (k + 1)).1 : Nat) : Int) != 0) = true := by simp; omega
          have HE : Hid (linesL st0 ls 1 = ((stepL st t (k + 1)).1, k + 1, st)) := by
            show _ = _
            rw [hS.out, HD.out, if_neg hz]
          have HPB : Hid (parseB s = ([], k + 1, (stepL st t (k + 1)).1)) := parse_line hlong (by rw [HLS.out]; exact HE.out) hz
          clear HD hz
          go_wp2
          refine bodyPost_ret (v := .tuple #[.slice none 0 0, .int .i64 ((k : Int) + 1), .int .i64 (stepL st t (k + 1)).1]) (by simp [results, Tryd.results11, go_sem]) rfl ?_
          exact ⟨_, by rw [HPB.out]; rfl, by rw [HPB.out]; exact own_nil _ _, Kp.gr hg3 rfl HK4.out⟩
      · obtain rfl : k = ls.length := by omega
        have HE : Hid (linesL st0 (parts 10 s) 1 = (0, 0, st)) := by
          show _ = _
          rw [HLS.out, hS.out, List.drop_length]
          rfl
        have HT := hide (settle_calls w.heap.size (w.heap.size + 1) st wr hP.out (L3.out.kp hK.out h6) hG.out.c4 hG.out.ln hG.out.nv hG.out.jv hG.out.ok (by have := hG.out.c4; have := hG.out.jl; omega) hBr h6)
        obtain ⟨r, ln, code, hsl⟩ : ∃ r ln code, settleL st.names st.lines st.jumps st.code = (r, ln, code) := ⟨_, _, _, rfl⟩
        have h5 := settle_five st.names st.lines st.jumps st.code
        unfold SettleP at HT
        rw [hsl] at HT h5
        have HSL := hide hsl
        clear hsl
        go_wp2_with (fail)
        refine HT.out.mono ?_
        rintro e w4 ⟨rfl, P4, K4⟩
        have HK4 := hide (hK.out.trans K4)
        clear K4 HT
        by_cases hr : r = 0
        · subst hr
          have HPB : Hid (parseB s = (code, 0, 0)) := parse_ok hlong HE.out HSL.out
          obtain ⟨m5, vc, vl, vj, P5⟩ := P4 rfl
          have q0 := row_cell P5.row 0
          simp only [List.getElem?_toArray, List.getElem?_cons_zero] at q0
          have HP5 := hide P5
          clear P5 P4 HSL
          go_wp2
          refine bodyPost_ret (v := .tuple #[vc, .int .i64 0, .int .i64 0]) (by simp [results, Tryd.results11, go_sem]) rfl ?_
          exact ⟨_, by rw [HPB.out]; rfl, by rw [HPB.out]; exact HP5.out.oc, Kp.gr hg3 rfl HK4.out⟩
        · have HPB : Hid (parseB s = ([], ln, 5)) := parse_jump hlong HE.out HSL.out hr
          obtain rfl : r = 5 := by
            rcases h5 with h | h
            · exact absurd h hr
            · exact h
          clear P4 hr HSL h5
          go_wp2
          refine bodyPost_ret (v := .tuple #[.slice none 0 0, .int .i64 ln, .int .i64 5]) (by simp [results, Tryd.results11, go_sem]) rfl ?_
          exact ⟨_, by rw [HPB.out]; rfl, by rw [HPB.out]; exact own_nil _ _, Kp.gr hg3 rfl HK4.out⟩
end Go.Proofs.YtcfkcnkekdafgaaDoor
