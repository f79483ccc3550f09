/-
  For any reader that the call's caller made, over any bytes: what its methods count and words answer and leave. No condition but that at most 2^40 bytes are left.
-/
import Derived.Test.YthbenfnanhpcoaaGreatDoorZtbu
namespace Go.Proofs.YthbenfnanhpcoaaGreatDoor.Cd
open Go.ChangeShapes Go.WideShapes Go.ChangeAt Go.RowKit
set_option linter.unusedVariables false
set_option maxRecDepth 20000

theorem Rd.lt {w : World} {r : Nat} {L : List Int} {s : Bool} (h : Rd w r L s) : r < w.heap.size := by obtain ⟨a, cap, h0, _⟩ := h; exact World.block_lt_of_cell? w _ h0
theorem Rd.below {w w' : World} {r B : Nat} {L : List Int} {s : Bool} (h : Rd w r L s) (hr : r < B) (g : Below B w w') : Rd w' r L s := by
  obtain ⟨a, cap, h0, h1, h2, h3, h4, h5, h6⟩ := h
  refine ⟨a, cap, (Below.cell g (p := ⟨r, 0, none⟩) hr).trans h0, (Below.cell g (p := ⟨r, 1, none⟩) hr).trans h1, (Below.frozen g (p := ⟨r, 0, none⟩) hr).trans h2, (Below.frozen g (p := ⟨r, 1, none⟩) hr).trans h3, h4, h5, ?_⟩
  rcases h6 with h6 | ⟨b, off, ha, hb, h⟩
  · exact .inl h6
  · exact .inr ⟨b, off, ha, hb, fun j x hx => (Below.cell g (p := ⟨b, off + j, none⟩) (Nat.lt_trans hb hr)).trans (h j x hx)⟩
theorem Wr.below {r : Nat} {a w w' : World} (h : Wr r a w) (g : Below a.heap.size w w') : Wr r a w' :=
  ⟨g.os.trans h.os, g.tape.trans h.tape, g.output.trans h.output, Nat.le_trans h.size g.size, fun k hk hne => (g.block k hk).trans (h.block k hk hne)⟩
theorem own_kept {w w' : World} {r B n sz : Nat} {e : TypeId} {v : Value} {xs : List Value} (h : w.ownsRow B e sz v n xs) (hr : r < B) (g : Wr r w w') : w'.ownsRow B e sz v n xs := by
  refine h.kept g ?_
  cases hv : v.ownBlock
  · exact .inl rfl
  · right
    have := (h.lt _ hv).1
    simp
    omega

theorem own_shape {w : World} {B n sz : Nat} {e : TypeId} {v : Value} {xs : List Value} (h : w.ownsRow B e sz v n xs) : ∃ a m c, v = .slice a m c := by
  rcases h.2 with ⟨h2, _⟩ | ⟨g, cap, cur, h2, _⟩
  · exact ⟨_, _, _, h2⟩
  · exact ⟨_, _, _, h2⟩

theorem count_calls (r : Nat) (L : List Int) (s : Bool) (w : World) (hr : Rd w r L s) (hb : isBytes L) :
    Calls Tryz.prog 70 #[.pointer (some ⟨r, 0, none⟩)] w fun e w' => e = .returned (.int .i64 (numV 2 L s)) ∧ Rd w' r (numL 2 L s) (numS 2 L s) ∧ Wr r w w' := by
  have HR := hide hr
  clear hr
  obtain ⟨h0, h1⟩ := numV_bounds 2 L s hb
  go_enter Tryz.func70, Tryz.ntmps70
  go_wp2_with (go_at_call 69; refine (num_calls r 2 L s _ HR.out (by omega) (by omega) hb).mono ?_; rintro e w1 ⟨rfl, hR, hW⟩)
  go_ret
  exact ⟨rfl, hR, hW⟩

/-- what is read of the words: these, what is left, whether more was asked for -/
def WordsP (r : Nat) (L : List Int) (s : Bool) (w : World) (e : Ending) (w' : World) : Prop :=
  ∃ v L' s', e = .returned v ∧ (∃ a n c, v = .slice a n c) ∧ Rd w' r L' s' ∧ Wr r w w' ∧ isBytes L' ∧ L'.length ≤ L.length ∧
    (s' = true ∧ (s = true ∨ L.length < 2 ∨ L.length < 2 + 4 * cntAt L 0) ∨
     s' = false ∧ s = false ∧ 2 ≤ L.length ∧ 2 + 4 * cntAt L 0 ≤ L.length ∧ L' = L.drop (2 + 4 * cntAt L 0) ∧ w'.ownsRow w.heap.size 39 1 v (cntAt L 0) ((memAt L 2 (cntAt L 0)).map (Value.int .u32)))

theorem infoCuint32 : (Tryz.prog.info? 39).map (fun i => (i.zero, i.size, i.bytes)) = some (some (.int .u32 0), 1, 4) := by kernel_rfl

set_option maxHeartbeats 2000000 in
theorem words_calls (r : Nat) (L : List Int) (s : Bool) (w : World) (hr : Rd w r L s) (hb : isBytes L) (hl : L.length ≤ 1099511627776) :
    Calls Tryz.prog 51 #[.pointer (some ⟨r, 0, none⟩)] w (WordsP r L s w) := by
  obtain ⟨i0, hi, hz0, hz1, hz2⟩ := info_parts infoCuint32
  have HR := hide hr
  have hrlt := hr.lt
  clear hr
  cases hs : numS 2 L s
  · obtain ⟨rfl, h2, eL, eV⟩ := numS_false hs
    have hc := leAt_bounds hb 0 2
    have hcn : ((cntAt L 0 : Nat) : Int) = leAt L 0 2 := by unfold cntAt; omega
    have hcb : cntAt L 0 < 65536 := by have := hc.2; simp at this; omega
    have EV := hide (eV.trans hcn.symm)
    have EL := hide eL
    have HS := hide hs
    clear eV eL hcn hc hs
    generalize hn : cntAt L 0 = n at EV hcb
    have HN := hide hn
    clear hn
    go_enter Tryz.func51, Tryz.ntmps51
    go_wp2_with (fail)
    refine (count_calls r L false w HR.out hb).mono ?_
    rw [EV.out, EL.out, HS.out]
    rintro e w1 ⟨rfl, R1, W1⟩
    have R1' := hide R1
    have W1' := hide W1
    clear R1 W1
    go_wp2_with (fail)
    go_loopw [3, 4] (fun l i wr => ∃ (k : Nat) (c : Int) (M : List Int) (t : Bool) (xs : List Int), i = .int .i64 c ∧ 0 ≤ c ∧ c < 65536 ∧ c = n - k ∧ k ≤ n ∧ Hid (Rd wr r M t) ∧ Hid (Wr r w wr) ∧ Hid (isBytes M) ∧ M.length ≤ L.length ∧ Hid (wr.ownsRow w.heap.size 39 1 l k (xs.map (Value.int .u32))) ∧
        Hid (t = true ∧ L.length < 2 + 4 * n ∨ t = false ∧ 2 + 4 * k ≤ L.length ∧ M = L.drop (2 + 4 * k) ∧ xs = memAt L 2 k)) (fun _ i _ => (intOf i).toNat)
    case atStart =>
      exact ⟨0, n, L.drop 2, false, [], rfl, by omega, by omega, by omega, by omega, R1', W1', fun x hx => hb x (List.mem_of_mem_drop hx), by simp, World.ownsRow_nil _ _ _ _, .inr ⟨rfl, by omega, rfl, rfl⟩⟩
    case round =>
      obtain ⟨k, c, M, t, xs, rfl, c0, c1, ck, hk, hR, hW, hM, hMl, hO, hF⟩ := hrel
      obtain ⟨ar, capr, r0, r1, z0, z1, _⟩ := id hR.out
      by_cases hgo : 0 < c ∧ t = false
      · obtain ⟨hc0, rfl⟩ := hgo
        have hz := hW.out.size
        go_wp2_with (fail)
        refine (word_calls r M false wr hR.out hM.out).mono ?_
        rintro e w2 ⟨rfl, R2, W2⟩
        have O2 := hide (World.ownsRow.alloc (own_kept hO.out hrlt W2) (.cells #[.int .u32 (numV 4 M false)] 39))
        have HR2 := hide R2
        have HW2 := hide (hW.out.trans W2)
        have hz2' := (hW.out.trans W2).size
        clear R2 W2
        go_wp2_with (at_builtin; refine wpList_append_own _ rfl _ _ 25 rfl w.heap.size 39 i0 (.int .u32 0) 1 4 Tryz.underlying25 hi hz0 hz1 hz2 rfl (by decide) _ _ _ rfl O2.out ⟨w2.heap.size, 0, none⟩ 1 1 [.int .u32 (numV 4 M false)] rfl rfl ?c1 ?c2 ?c3 ?c4 ?c5 ?_)
        case c1 =>
          intro j u hj
          match j, hj with
          | 0, hj => simp at hj; subst hj; simp [Addr.add]
        case c2 => intro u hu; simp at hu; subst hu; rfl
        case c3 => unfold maxLen; omega
        case c4 => omega
        case c5 => simp; omega
        · intro v' w3 hown' hgrow _
          have bel : Below w.heap.size w2 w3 := (Below.alloc (Below.refl _ w2) hz2' _).grown hgrow (by simp; omega) (fun q hq => (O2.out.lt q hq).1)
          have R3 := hide (HR2.out.below hrlt bel)
          have W3 := hide (HW2.out.below bel)
          have O3 : Hid (w3.ownsRow w.heap.size 39 1 v' (k + 1) ((xs ++ [numV 4 M false]).map (Value.int .u32))) := by
            show w3.ownsRow _ _ _ _ _ _
            simpa using hown'
          clear hown' hgrow O2 HR2 HW2
          have F3 : Hid (numS 4 M false = true ∧ L.length < 2 + 4 * n ∨ numS 4 M false = false ∧ 2 + 4 * (k + 1) ≤ L.length ∧ numL 4 M false = L.drop (2 + 4 * (k + 1)) ∧ xs ++ [numV 4 M false] = memAt L 2 (k + 1)) := by
            rcases hF.out with ⟨h, _⟩ | ⟨_, hle, rfl, rfl⟩
            · cases h
            · cases h4 : numS 4 (L.drop (2 + 4 * k)) false
              · obtain ⟨_, hl4, e4, v4⟩ := numS_false h4
                rw [List.length_drop] at hl4
                exact .inr ⟨rfl, by omega, by rw [e4, List.drop_drop]; congr 1, by rw [memAt_succ, v4, leAt_drop]; rfl⟩
              · refine .inl ⟨rfl, ?_⟩
                simp [numS] at h4
                omega
          have hlen : (numL 4 M false).length ≤ L.length := by
            unfold numL
            split
            · exact hMl
            · rw [List.length_drop]; omega
          go_wp2
          go_roundw
          case rel => exact ⟨k + 1, c - 1, _, _, _, congrArg (Value.int .i64) (by omega), by omega, by omega, by omega, by omega, R3, W3, numL_bytes hM.out, hlen, O3, F3⟩
          case measure => simp [intOf]; omega
      · have fin : Hid (t = true ∧ (False ∨ L.length < 2 ∨ L.length < 2 + 4 * n) ∨ t = false ∧ 2 + 4 * n ≤ L.length ∧ M = L.drop (2 + 4 * n) ∧ k = n ∧ xs = memAt L 2 n) := by
          rcases hF.out with ⟨h, h'⟩ | ⟨rfl, hle, e1, e2⟩
          · exact .inl ⟨h, .inr (.inr h')⟩
          · obtain rfl : k = n := by
              have : ¬ 0 < c := fun h => hgo ⟨h, rfl⟩
              omega
            exact .inr ⟨rfl, hle, e1, rfl, e2⟩
        have done : ∀ l, wr.ownsRow w.heap.size 39 1 l k (xs.map (Value.int .u32)) → WordsP r L false w (.returned l) wr := by
          intro l hO'
          refine ⟨l, M, t, rfl, own_shape hO', hR.out, hW.out, hM.out, hMl, ?_⟩
          rw [HN.out]
          rcases fin.out with ⟨h, h'⟩ | ⟨h, h1, h3, rfl, h4⟩
          · exact .inl ⟨h, by simpa using h'⟩
          · exact .inr ⟨h, rfl, h2, h1, h3, by rw [← h4]; exact hO'⟩
        have hD := hide done
        clear done fin hF
        by_cases hc0 : 0 < c
        · obtain rfl : t = true := by cases t <;> simp_all
          go_wp2_with (fail)
          go_ret
          exact hD.out _ hO.out
        · obtain rfl : c = 0 := by omega
          go_wp2_with (fail)
          go_ret
          exact hD.out _ hO.out
  · have h2 : s = true ∨ L.length < 2 := by simpa [numS] using hs
    have eL : numL 2 L s = L := if_pos h2
    have eV : numV 2 L s = 0 := if_pos h2
    have HS := hide hs
    clear hs
    go_enter Tryz.func51, Tryz.ntmps51
    go_wp2_with (fail)
    refine (count_calls r L s w HR.out hb).mono ?_
    rw [eV, eL, HS.out]
    rintro e w1 ⟨rfl, R1, W1⟩
    have R1' := hide R1
    have W1' := hide W1
    clear R1 W1
    go_wp2_with (fail)
    go_loopw [3, 4] (fun l i wr => l = .slice none 0 0 ∧ i = .int .i64 0 ∧ wr = w1) (fun _ i _ => 0)
    case atStart => exact ⟨rfl, rfl, rfl⟩
    case round =>
      obtain ⟨rfl, rfl, rfl⟩ := hrel
      go_wp2_with (fail)
      go_ret
      exact ⟨_, L, true, rfl, ⟨_, _, _, rfl⟩, R1'.out, W1'.out, hb, Nat.le_refl _, .inl ⟨rfl, by rcases h2 with h2 | h2; exact .inl h2; exact .inr (.inl h2)⟩⟩
end Go.Proofs.YthbenfnanhpcoaaGreatDoor.Cd

namespace Go.Proofs.YthbenfnanhpcoaaGreatDoor.Cd
open Go.ChangeShapes Go.WideShapes Go.ChangeAt Go.RowKit
set_option linter.unusedVariables false
set_option maxRecDepth 20000

/-- what is read of a code: its instructions, what is left, whether more was asked for -/
def CodeP (r : Nat) (L : List Int) (s : Bool) (w : World) (e : Ending) (w' : World) : Prop :=
  ∃ v n xs L' s', e = .returned v ∧ Rd w' r L' s' ∧ Wr r w w' ∧ isBytes L' ∧ L'.length ≤ L.length ∧ n ≤ 65536 ∧ w'.ownsRow w.heap.size 72 5 v n (xs.flatMap Ins.vals) ∧ (∀ i ∈ xs, i.ok) ∧ xs.length = n ∧
    (s' = true ∧ (s = true ∨ L.length < 2 ∨ L.length < 2 + 8 * cntAt L 0) ∨
     s' = false ∧ s = false ∧ 2 ≤ L.length ∧ 2 + 8 * cntAt L 0 ≤ L.length ∧ L' = L.drop (2 + 8 * cntAt L 0) ∧ n = cntAt L 0 ∧ xs = codeAt L 2 (cntAt L 0))

abbrev zeroI : Value := .agg #[.int .i64 0, .int .i64 0, .int .i64 0, .int .i64 0, .int .u32 0]
theorem infoCapi_Instr : (Tryz.prog.info? 72).map (fun i => (i.zero, i.size, i.bytes)) = some (some zeroI, 5, 40) := by kernel_rfl
theorem insAt_drop (L : List Int) (m i : Nat) : insAt (L.drop m) i = insAt L (m + i) := by
  have g : ∀ j, (L.drop m).getD j 0 = L.getD (m + j) 0 := by
    intro j
    rw [List.getD_eq_getElem?_getD, List.getD_eq_getElem?_getD, List.getElem?_drop]
  unfold insAt
  rw [g, g, g, g, leAt_drop]
  rfl

set_option maxHeartbeats 4000000 in
theorem code_calls (r : Nat) (L : List Int) (s : Bool) (w : World) (hr : Rd w r L s) (hb : isBytes L) (hl : L.length ≤ 1099511627776) :
    Calls Tryz.prog 52 #[.pointer (some ⟨r, 0, none⟩)] w (CodeP r L s w) := by
  obtain ⟨i0, hi, hz0, hz1, hz2⟩ := info_parts infoCapi_Instr
  have HR := hide hr
  have hrlt := hr.lt
  clear hr
  cases hs : numS 2 L s
  · obtain ⟨rfl, h2, eL, eV⟩ := numS_false hs
    have hc := leAt_bounds hb 0 2
    have hcn : ((cntAt L 0 : Nat) : Int) = leAt L 0 2 := by unfold cntAt; omega
    have hcb : cntAt L 0 < 65536 := by have := hc.2; simp at this; omega
    have EV := hide (eV.trans hcn.symm)
    have EL := hide eL
    have HS := hide hs
    clear eV eL hcn hc hs
    generalize hn : cntAt L 0 = n at EV hcb
    have HN := hide hn
    clear hn
    go_enter Tryz.func52, Tryz.ntmps52
    go_wp2_with (fail)
    refine (count_calls r L false w HR.out hb).mono ?_
    rw [EV.out, EL.out, HS.out]
    rintro e w1 ⟨rfl, R1, W1⟩
    have R1' := hide R1
    have W1' := hide W1
    clear R1 W1
    go_wp2_with (fail)
    go_loopw [3, 4] (fun l i wr => ∃ (k : Nat) (c : Int) (M : List Int) (t : Bool) (xs : List Ins), i = .int .i64 c ∧ 0 ≤ c ∧ c < 65536 ∧ c = n - k ∧ k ≤ n ∧ Hid (Rd wr r M t) ∧ Hid (Wr r w wr) ∧ Hid (isBytes M) ∧ M.length ≤ L.length ∧ Hid (wr.ownsRow w.heap.size 72 5 l k (xs.flatMap Ins.vals)) ∧ Hid ((∀ i ∈ xs, i.ok) ∧ xs.length = k) ∧
        Hid (t = true ∧ L.length < 2 + 8 * n ∨ t = false ∧ 2 + 8 * k ≤ L.length ∧ M = L.drop (2 + 8 * k) ∧ xs = codeAt L 2 k)) (fun _ i _ => (intOf i).toNat)
    case atStart =>
      exact ⟨0, n, L.drop 2, false, [], rfl, by omega, by omega, by omega, by omega, R1', W1', fun x hx => hb x (List.mem_of_mem_drop hx), by simp, World.ownsRow_nil _ _ _ _, ⟨by simp, rfl⟩, .inr ⟨rfl, by omega, rfl, rfl⟩⟩
    case round =>
      obtain ⟨k, c, M, t, xs, rfl, c0, c1, ck, hk, hR, hW, hM, hMl, hO, hX, hF⟩ := hrel
      obtain ⟨ar, capr, r0, r1, z0, z1, _⟩ := id hR.out
      by_cases hgo : 0 < c ∧ t = false
      · obtain ⟨hc0, rfl⟩ := hgo
        have hz := hW.out.size
        go_wp2_with (fail)
        refine (instr_calls r M false wr hR.out hM.out).mono ?_
        rintro e w2 ⟨op, fa, fb, fc, fk, M', t', rfl, R2, W2, hM', hle2, hkk, hfin⟩
        have O2 := hide (World.ownsRow.alloc (own_kept hO.out hrlt W2) (.cells #[.int .i64 op, .int .i64 fa, .int .i64 fb, .int .i64 fc, .int .u32 fk] 72))
        have HR2 := hide R2
        have HW2 := hide (hW.out.trans W2)
        have hz2' := (hW.out.trans W2).size
        have HFIN := hide hfin
        clear R2 W2 hfin
        go_wp2_with (at_builtin; refine wpList_append_own _ rfl _ _ 65 rfl w.heap.size 72 i0 zeroI 5 40 Tryz.underlying65 hi hz0 hz1 hz2 rfl (by decide) _ _ _ rfl O2.out ⟨w2.heap.size, 0, none⟩ 1 1 [.int .i64 op, .int .i64 fa, .int .i64 fb, .int .i64 fc, .int .u32 fk] rfl rfl ?c1 ?c2 ?c3 ?c4 ?c5 ?_)
        case c1 =>
          intro j u hj
          have hrow : (w2.alloc (.cells #[.int .i64 op, .int .i64 fa, .int .i64 fb, .int .i64 fc, .int .u32 fk] 72)).heap[w2.heap.size]? = some (.cells #[.int .i64 op, .int .i64 fa, .int .i64 fb, .int .i64 fc, .int .u32 fk] 72) := heap_alloc_new w2 _
          rw [Addr.add_mid, row_cell hrow]
          simpa using hj
        case c2 => intro u hu; simp at hu; rcases hu with rfl | rfl | rfl | rfl | rfl <;> rfl
        case c3 => unfold maxLen; omega
        case c4 => omega
        case c5 => simp; omega
        · intro v' w3 hown' hgrow _
          have bel : Below w.heap.size w2 w3 := (Below.alloc (Below.refl _ w2) hz2' _).grown hgrow (by simp; omega) (fun q hq => (O2.out.lt q hq).1)
          have R3 := hide (HR2.out.below hrlt bel)
          have W3 := hide (HW2.out.below bel)
          have O3 : Hid (w3.ownsRow w.heap.size 72 5 v' (k + 1) ((xs ++ [(⟨op, fa, fb, fc, fk⟩ : Ins)]).flatMap Ins.vals)) := by
            show w3.ownsRow _ _ _ _ _ _
            rw [List.flatMap_append]
            simpa using hown'
          have X3 : Hid ((∀ i ∈ xs ++ [(⟨op, fa, fb, fc, fk⟩ : Ins)], i.ok) ∧ (xs ++ [(⟨op, fa, fb, fc, fk⟩ : Ins)]).length = k + 1) := by
            refine ⟨fun i hi => ?_, by rw [List.length_append, hX.out.2]; rfl⟩
            rcases List.mem_append.1 hi with hi | hi
            · exact hX.out.1 i hi
            · obtain rfl := List.mem_singleton.1 hi
              exact hkk
          clear hown' hgrow O2 HR2 HW2
          have F3 : Hid (t' = true ∧ L.length < 2 + 8 * n ∨ t' = false ∧ 2 + 8 * (k + 1) ≤ L.length ∧ M' = L.drop (2 + 8 * (k + 1)) ∧ xs ++ [(⟨op, fa, fb, fc, fk⟩ : Ins)] = codeAt L 2 (k + 1)) := by
            rcases hF.out with ⟨h, _⟩ | ⟨_, hle, rfl, rfl⟩
            · cases h
            · rcases HFIN.out with ⟨rfl, h⟩ | ⟨rfl, _, h8, e1, e2, e3, e4, e5, e6⟩
              · refine .inl ⟨rfl, ?_⟩
                simp at h
                omega
              · rw [List.length_drop] at h8
                refine .inr ⟨rfl, by omega, by rw [e1, List.drop_drop]; congr 1, ?_⟩
                have ed := insAt_drop L (2 + 8 * k) 0
                rw [Nat.add_zero] at ed
                rw [codeAt_succ, ← ed]
                unfold insAt
                rw [e2, e3, e4, e5, e6]
          have hlen : M'.length ≤ L.length := Nat.le_trans hle2 hMl
          go_wp2
          go_roundw
          case rel => exact ⟨k + 1, c - 1, _, _, _, congrArg (Value.int .i64) (by omega), by omega, by omega, by omega, by omega, R3, W3, hM', hlen, O3, X3, F3⟩
          case measure => simp [intOf]; omega
      · have fin : Hid (t = true ∧ (False ∨ L.length < 2 ∨ L.length < 2 + 8 * n) ∨ t = false ∧ 2 + 8 * n ≤ L.length ∧ M = L.drop (2 + 8 * n) ∧ k = n ∧ xs = codeAt L 2 n) := by
          rcases hF.out with ⟨h, h'⟩ | ⟨rfl, hle, e1, e2⟩
          · exact .inl ⟨h, .inr (.inr h')⟩
          · obtain rfl : k = n := by
              have : ¬ 0 < c := fun h => hgo ⟨h, rfl⟩
              omega
            exact .inr ⟨rfl, hle, e1, rfl, e2⟩
        have done : ∀ l, wr.ownsRow w.heap.size 72 5 l k (xs.flatMap Ins.vals) → CodeP r L false w (.returned l) wr := by
          intro l hO'
          refine ⟨l, k, xs, M, t, rfl, hR.out, hW.out, hM.out, hMl, by omega, hO', hX.out.1, hX.out.2, ?_⟩
          rw [HN.out]
          rcases fin.out with ⟨h, h'⟩ | ⟨h, h1, h3, rfl, h4⟩
          · exact .inl ⟨h, by simpa using h'⟩
          · exact .inr ⟨h, rfl, h2, h1, h3, rfl, h4⟩
        have hD := hide done
        clear done fin hF
        by_cases hc0 : 0 < c
        · obtain rfl : t = true := by cases t <;> simp_all
          go_wp2_with (fail)
          go_ret
          exact hD.out _ hO.out
        · obtain rfl : c = 0 := by omega
          go_wp2_with (fail)
          go_ret
          exact hD.out _ hO.out
  · have h2 : s = true ∨ L.length < 2 := by simpa [numS] using hs
    have eL : numL 2 L s = L := if_pos h2
    have eV : numV 2 L s = 0 := if_pos h2
    have HS := hide hs
    clear hs
    go_enter Tryz.func52, Tryz.ntmps52
    go_wp2_with (fail)
    refine (count_calls r L s w HR.out hb).mono ?_
    rw [eV, eL, HS.out]
    rintro e w1 ⟨rfl, R1, W1⟩
    have R1' := hide R1
    have W1' := hide W1
    clear R1 W1
    go_wp2_with (fail)
    go_loopw [3, 4] (fun l i wr => l = .slice none 0 0 ∧ i = .int .i64 0 ∧ wr = w1) (fun _ i _ => 0)
    case atStart => exact ⟨rfl, rfl, rfl⟩
    case round =>
      obtain ⟨rfl, rfl, rfl⟩ := hrel
      go_wp2_with (fail)
      go_ret
      exact ⟨_, 0, [], L, true, rfl, R1'.out, W1'.out, hb, Nat.le_refl _, by omega, World.ownsRow_nil _ _ _ _, by simp, rfl, .inl ⟨rfl, by rcases h2 with h2 | h2; exact .inl h2; exact .inr (.inl h2)⟩⟩
end Go.Proofs.YthbenfnanhpcoaaGreatDoor.Cd
