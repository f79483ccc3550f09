/-
  For any parser: what its 'settle' answers, and what its code is then. Conditions: a parser of at most 4000 instructions, whose jumps stand among them.
-/
import Derived.Test.YtcfkcnkekdafgaaDoorPsetl
import Derived.Deep.QuietTactic
import Derived.Deep.RegionWith
import Derived.BigQuiet
namespace Go.Proofs.YtcfkcnkekdafgaaDoor
open Go.ChangeShapes Go.WideShapes Go.ChangeAt Go.RowKit
set_option linter.unusedVariables false

theorem settle_drop {ns : List (Bs × Nat)} {ls : List Nat} {js : List (Nat × Bs)} {k : Nat} {j : Nat × Bs} (h : js[k]? = some j) (code : List Ins) :
    settleL ns ls (js.drop k) code = if (jumpL ns j code).1 = 0 then settleL ns ls (js.drop (k + 1)) (jumpL ns j code).2 else ((jumpL ns j code).1, ls.getD j.1 0, (jumpL ns j code).2) := by
  obtain ⟨h1, e1⟩ := List.getElem?_eq_some_iff.1 h
  rw [List.drop_eq_getElem_cons h1, e1]
  rfl

theorem MapAt.look {w : World} {m : Nat} {ns : List (Bs × Nat)} (h : MapAt w m ns) (s : Bs) (hs : s.length ≤ 9223372036854775807) : (Instr.lookup 38 (.map (some m)) (.string ⟨s.toArray⟩) true).run Tryd.prog w = .ok (.tuple #[.int .i64 (((look ns s).getD 0 : Nat) : Int), .bool (look ns s).isSome]) w := by
  obtain ⟨D, hD, h1, h2⟩ := h
  obtain ⟨v, ps, hr, hv⟩ := hD.look_ok (t := 38) keyed9 Tryd.underlying38 (zero3 w) (plainElem_int Tryd.underlying3 (wf64 0 (by omega))) (key_of s hs)
  obtain ⟨a, rfl, ha, _⟩ := plainElem_int_inv Tryd.underlying3 hv
  rw [h1] at hr
  have e : a = (((Go.Proofs.YtcfkcnkekdafgaaDoor.look ns s).getD 0 : Nat) : Int) := by
    cases hl : Go.Proofs.YtcfkcnkekdafgaaDoor.look ns s with
    | some p =>
      rw [h2 s p hl] at ha
      simp at ha
      simp [ha]
    | none =>
      have hh := h1 s
      rw [hl] at hh
      rw [Maps.atKey_of_not_has (by simpa using hh)] at ha
      simp at ha
      simp [← ha.1]
  rw [e] at hr
  exact hr
/-- what the look at a jump leaves: the frame's slots that count, and the world -/
def CutS (g jb : Nat) (vj : Value) (n k : Int) (b : Bool) (R : World → Prop) : Exit → Act → World → Prop
  | .normal, a, w' => R w' ∧ ∃ u2 u3 u6 u7 u8 u15 u16 u17 u18 u19 u20 u21 u22 u23 u24 u25 u26 u27 u28 u29 u30 u31 u32 u33 u34 u35 u36 u37 u38 u39 u40 u41 u42 u43 u44 u45 u46 u47 u48 u49 u50 u51 u52 u53 u54 u55 u56 u57 u58 u59 u60 u61 u63 u64 u65 u66 u67 u68 u69 u70 u71 : Value, a = ⟨#[.pointer (some ⟨g, 0, none⟩), undef, u2, u3, undef, .pointer (some ⟨jb, 0, none⟩), u6, u7, u8, .pointer (some ⟨g, 0, none⟩), .pointer (some ⟨g, 0, none⟩), .pointer (some ⟨g, 3, none⟩), vj, .int .i64 n, .int .i64 k, u15, u16, u17, u18, u19, u20, u21, u22, u23, u24, u25, u26, u27, u28, u29, u30, u31, u32, u33, u34, u35, u36, u37, u38, u39, u40, u41, u42, u43, u44, u45, u46, u47, u48, u49, u50, u51, u52, u53, u54, u55, u56, u57, u58, u59, u60, u61, .bool b, u63, u64, u65, u66, u67, u68, u69, u70, u71], []⟩
  | _, _, _ => False
theorem CutS.elim {g jb : Nat} {vj : Value} {n k : Int} {b : Bool} {R : World → Prop} {Q : Exit → Act → World → Prop} {e : Exit} {a : Act} {w' : World} (h : CutS g jb vj n k b R e a w') (f : ∀ u2 u3 u6 u7 u8 u15 u16 u17 u18 u19 u20 u21 u22 u23 u24 u25 u26 u27 u28 u29 u30 u31 u32 u33 u34 u35 u36 u37 u38 u39 u40 u41 u42 u43 u44 u45 u46 u47 u48 u49 u50 u51 u52 u53 u54 u55 u56 u57 u58 u59 u60 u61 u63 u64 u65 u66 u67 u68 u69 u70 u71 : Value, R w' → Q .normal ⟨#[.pointer (some ⟨g, 0, none⟩), undef, u2, u3, undef, .pointer (some ⟨jb, 0, none⟩), u6, u7, u8, .pointer (some ⟨g, 0, none⟩), .pointer (some ⟨g, 0, none⟩), .pointer (some ⟨g, 3, none⟩), vj, .int .i64 n, .int .i64 k, u15, u16, u17, u18, u19, u20, u21, u22, u23, u24, u25, u26, u27, u28, u29, u30, u31, u32, u33, u34, u35, u36, u37, u38, u39, u40, u41, u42, u43, u44, u45, u46, u47, u48, u49, u50, u51, u52, u53, u54, u55, u56, u57, u58, u59, u60, u61, .bool b, u63, u64, u65, u66, u67, u68, u69, u70, u71], []⟩ w') : Q e a w' := by
  cases e with
  | normal =>
    obtain ⟨hR, u2, u3, u6, u7, u8, u15, u16, u17, u18, u19, u20, u21, u22, u23, u24, u25, u26, u27, u28, u29, u30, u31, u32, u33, u34, u35, u36, u37, u38, u39, u40, u41, u42, u43, u44, u45, u46, u47, u48, u49, u50, u51, u52, u53, u54, u55, u56, u57, u58, u59, u60, u61, u63, u64, u65, u66, u67, u68, u69, u70, u71, rfl⟩ := h
    exact f u2 u3 u6 u7 u8 u15 u16 u17 u18 u19 u20 u21 u22 u23 u24 u25 u26 u27 u28 u29 u30 u31 u32 u33 u34 u35 u36 u37 u38 u39 u40 u41 u42 u43 u44 u45 u46 u47 u48 u49 u50 u51 u52 u53 u54 u55 u56 u57 u58 u59 u60 u61 u63 u64 u65 u66 u67 u68 u69 u70 u71 hR
  | _ => exact False.elim h
theorem getD_of {l : List Ins} {n : Nat} {i : Ins} (h : l[n]? = some i) : l.getD n ins0 = i := by rw [List.getD_eq_getElem?_getD, h]; rfl
theorem lines_at {l : List Nat} {n x : Nat} (h : l[n]? = some x) : (linesV l)[n]? = some (.int .i64 x) := by simp [linesV, h]
set_option maxRecDepth 200000 in
set_option maxHeartbeats 1600000 in
theorem settle_calls (B g : Nat) (st : St) (w : World) (hP : PAt w B g st) (L : Laid w) (h4 : st.code.length ≤ 4000) (hl : st.lines.length = st.code.length) (hn : ∀ x ∈ st.names, x.2 ≤ 4000) (hj : ∀ j ∈ st.jumps, j.1 < st.code.length ∧ j.2.length ≤ 2147483648) (hok : ∀ i ∈ st.code, i.ok) (hjl : st.jumps.length ≤ 4000) (hB : B ≤ w.heap.size) (h6 : 6 < B) :
    Calls Tryd.prog 24 #[.pointer (some ⟨g, 0, none⟩)] w (SettleP B g st w) := by
  obtain ⟨m, vc, vl, vj, P0⟩ := hP
  by_cases hz : st.jumps.length = 0
  · have e0 : st.jumps = [] := List.eq_nil_of_length_eq_zero hz
    have HS : Hid (settleL st.names st.lines st.jumps st.code = (0, 0, st.code)) := by show _ = _; rw [e0]; rfl
    obtain ⟨a3, c3, rfl⟩ := own_shape P0.oj
    have q3 := row_cell P0.row 3
    simp only [List.getElem?_toArray, List.getElem?_cons_zero, List.getElem?_cons_succ] at q3
    rw [hz] at q3
    have HP := hide P0
    clear P0 hz
    go_enter Tryd.func24, Tryd.ntmps24
    go_wp2
    refine wp_loop_rounds 1 ?_
    rw [rounds_succ]
    go_wp2
    go_ret2
    unfold SettleP
    rw [HS.out]
    exact ⟨rfl, fun _ => ⟨_, _, _, _, HP.out⟩, Kp.refl _ _⟩
  have hc0 : 0 < st.code.length := by
    have : 0 < st.jumps.length := by omega
    have := (hj _ (List.getElem_mem this)).1
    omega
  obtain ⟨q, cap, rfl, hq, hcap, _, _⟩ := own_some P0.oc hc0
  obtain ⟨ql, capl, rfl, hql, hcapl, _, hlc⟩ := own_some P0.ol (by omega)
  obtain ⟨qj, capj, rfl, hqj, hcapj, _, hjc⟩ := own_some P0.oj (by omega)
  have q3 := row_cell P0.row 3
  simp only [List.getElem?_toArray, List.getElem?_cons_zero, List.getElem?_cons_succ] at q3
  have HP := hide P0
  have HL := hide L
  have hll : st.lines.length ≤ 4000 := by omega
  have HLL := hide hl
  clear P0 hz hlc hjc L hl
  go_enter Tryd.func24, Tryd.ntmps24
  go_wp2
  go_loopw [14] (fun i wr => ∃ k : Nat, k ≤ st.jumps.length ∧ i = .int .i64 k ∧ ∃ cur : List Ins, Hid (PRow wr B g m (.slice (some ⟨q, 0, none⟩) cur.length cap) (.slice (some ⟨ql, 0, none⟩) st.lines.length capl) (.slice (some ⟨qj, 0, none⟩) st.jumps.length capj) ⟨cur, st.lines, st.names, st.jumps⟩) ∧ Hid (cur.length = st.code.length) ∧ Hid (∀ i ∈ cur, i.ok) ∧ Hid (settleL st.names st.lines st.jumps st.code = settleL st.names st.lines (st.jumps.drop k) cur) ∧ Hid (Kp B w wr)) (fun i _ => st.jumps.length - (intOf i).toNat)
  case atStart => exact ⟨0, by omega, rfl, st.code, HP, rfl, hok, rfl, Kp.refl _ _⟩
  case round =>
    obtain ⟨k, hk, rfl, cur, hP, hcl, hco, hS, hK⟩ := hrel
    by_cases hlt : k < st.jumps.length
    · obtain ⟨⟨at', to'⟩, hjk⟩ : ∃ j, st.jumps[k]? = some j := ⟨_, List.getElem?_eq_getElem hlt⟩
      have hjm := hj _ (List.mem_of_getElem? hjk)
      simp only at hjm
      obtain ⟨i0, hi0⟩ : ∃ i0, cur[at']? = some i0 := ⟨_, List.getElem?_eq_getElem (by have := hcl.out; omega)⟩
      have hSD := settle_drop (ns := st.names) (ls := st.lines) hjk cur
      obtain ⟨_, _, hv, _, _, _, hjc⟩ := own_some hP.out.oj (by show 0 < st.jumps.length; omega)
      cases hv
      obtain ⟨j0, j1⟩ := jumpsV_at _ _ _ hjk
      have cj0 := hjc _ _ j0
      have cj1 := hjc _ _ j1
      simp only at cj0 cj1
      clear hjc j0 j1
      obtain ⟨ln, hln⟩ : ∃ ln, st.lines[at']? = some ln := ⟨_, List.getElem?_eq_getElem (by have := HLL.out; omega)⟩
      have hal : at' < st.lines.length := (List.getElem?_eq_some_iff.1 hln).1
      have hac : at' < cur.length := (List.getElem?_eq_some_iff.1 hi0).1
      have hlnD : st.lines.getD at' 0 = ln := by rw [List.getD_eq_getElem?_getD, hln]; rfl
      have hi0k := hco.out _ (List.mem_of_getElem? hi0)
      have hg2 := (Gr.refl wr).alloc #[.int .i64 at', strV to'] 64
      have JB : Hid ((wr.alloc (.cells #[.int .i64 at', strV to'] 64)).heap[wr.heap.size]? = some (.cells #[.int .i64 at', strV to'] 64)) := heap_alloc_new wr _
      have P2 := hide (hP.out.gr hg2)
      have LW := hide ((HL.out.kp hK.out h6).later hg2)
      have K2 := hide (hK.out.trans (Kp.of_gr hg2))
      have HSD := hide hSD
      have HLN := hide hlnD
      have HJK := hide hjk
      have HI0 := hide hi0
      have HLNN := hide hln
      clear hSD hlnD hjk hi0 hln hP
      go_wp2_with (fail)
      generalize wr.alloc (.cells #[.int .i64 at', strV to'] 64) = w2 at hg2 JB P2 LW K2 ⊢
      generalize wr.heap.size = jb at JB ⊢
      have j0 := row_cell JB.out 0
      have j1 := row_cell JB.out 1
      have p0 := row_cell P2.out.row 0
      simp only [List.getElem?_toArray, List.getElem?_cons_zero, List.getElem?_cons_succ] at j0 j1 p0
      have b0 : (at' : Int) < cur.length := by omega
      go_quiet (fail)
      have G3 := (Gr.refl w2).drewN nq
      have P3 := hide (P2.out.gr G3)
      have L3 := hide (LW.out.later G3)
      have K3 := hide (K2.out.trans (Kp.of_gr G3))
      have j0 := cell_later G3 j0
      have j1 := cell_later G3 j1
      have JB3 := hide ((G3.block _ (heap_lt JB.out)).trans JB.out)
      clear JB P2 LW K2 p0 cj0 cj1 hg2
      generalize w2.drewN nq = w3 at G3 P3 L3 K3 j0 j1 JB3 ⊢
      clear G3
      by_cases he : to' = []
      · have he' : List.isEmpty to' = true := by simpa using he
        have HJL : Hid (jumpL st.names (at', to') cur = if rightB i0.op i0.a i0.b i0.c i0.k (cur.length : Int) = true then (0, cur) else (5, cur)) := by
          show _ = _
          unfold jumpL
          rw [if_pos he, getD_of HI0.out]
          rfl
        have hln := HLNN.out
        clear he
        obtain ⟨r0, r1, r2, r3, r4, _⟩ := PRow.codeAt (st := ⟨cur, st.lines, st.names, st.jumps⟩) (P3.out : PRow w3 B g m (.slice (some ⟨q, 0, none⟩) cur.length cap) (.slice (some ⟨ql, 0, none⟩) st.lines.length capl) (.slice (some ⟨qj, 0, none⟩) st.jumps.length capj) ⟨cur, st.lines, st.names, st.jumps⟩) at' i0 HI0.out
        try simp only at r0 r1 r2 r3 r4
        have r5 := row_cell P3.out.row 0
        simp only [List.getElem?_toArray, List.getElem?_cons_zero] at r5
        have hRT := hide (right_calls i0.op i0.a i0.b i0.c i0.k (cur.length : Int) hi0k.1 hi0k.2 w3.drew ((L3.out).later (Gr.refl _).drew))
        go_wp2_with (fail)
        refine Code.wp_mono (Q := CutS g jb (.slice (some ⟨qj, 0, none⟩) st.jumps.length capj) st.jumps.length k (!rightB i0.op i0.a i0.b i0.c i0.k (cur.length : Int)) (fun w' => Gr w3 w')) (fun e a w6 h => CutS.elim h ?_) ?_
        rotate_left
        · go_region_with (go_at_call 33; refine hRT.out.mono ?_; rintro e w6 ⟨rfl, hg6⟩; have hg6 := (Gr.refl w3).drew.trans hg6)
          all_goals exact ⟨hg6, _, _, _, _, _, _, _, _, _, _, _, _, _, _, _, _, _, _, _, _, _, _, _, _, _, _, _, _, _, _, _, _, _, _, _, _, _, _, _, _, _, _, _, _, _, _, _, _, _, _, _, _, _, _, _, _, _, _, _, _, _, rfl⟩
        intro u2 u3 u6 u7 u8 u15 u16 u17 u18 u19 u20 u21 u22 u23 u24 u25 u26 u27 u28 u29 u30 u31 u32 u33 u34 u35 u36 u37 u38 u39 u40 u41 u42 u43 u44 u45 u46 u47 u48 u49 u50 u51 u52 u53 u54 u55 u56 u57 u58 u59 u60 u61 u63 u64 u65 u66 u67 u68 u69 u70 u71 hg6
        have P6 := hide (P3.out.gr hg6)
        have j6 := cell_later hg6 j0
        have K6 := hide (K3.out.trans (Kp.of_gr hg6))
        clear hRT r0 r1 r2 r3 r4 r5
        cases hR : rightB i0.op i0.a i0.b i0.c i0.k (cur.length : Int) with
        | false =>
          have HE : Hid (settleL st.names st.lines st.jumps st.code = (5, ln, cur)) := by
            show _ = _
            rw [hS.out, HSD.out]
            rw [HJL.out, hR]
            simp [HLNN.out]
          have p1 := row_cell P6.out.row 1
          simp only [List.getElem?_toArray, List.getElem?_cons_zero, List.getElem?_cons_succ] at p1
          have x1 := P6.out
          obtain ⟨_, _, hv, _, _, _, hlc⟩ := own_some x1.ol (by show 0 < st.lines.length; omega)
          cases hv
          have cl := hlc _ _ (lines_at hln)
          have b1 : (at' : Int) < st.lines.length := by omega
          clear x1 hlc
          go_wp2_with (fail)
          go_quiet (fail)
          go_wp2
          go_ret2
          unfold SettleP
          rw [HE.out]
          exact ⟨rfl, (fun h => absurd h (by simp)), K6.out.trans (Kp.of_gr ((Gr.refl _).drewN _))⟩
        | true =>
          have HE : Hid (settleL st.names st.lines st.jumps st.code = settleL st.names st.lines (st.jumps.drop (k + 1)) cur) := by
            show _ = _
            rw [hS.out, HSD.out]
            rw [HJL.out, hR]
            simp
          go_wp2
          go_roundw
          case rel => exact ⟨k + 1, by omega, by go_num, cur, P6, hcl, hco, HE, K6⟩
          case measure => simp [intOf]; omega
      · have he' : List.isEmpty to' = false := by simpa using he
        have p2 := row_cell P3.out.row 2
        simp only [List.getElem?_toArray, List.getElem?_cons_zero, List.getElem?_cons_succ] at p2
        have hlk : ∀ n, (Instr.lookup 38 (.map (some m)) (strV to') true).run Tryd.prog (w3.drewN n) = .ok (.tuple #[.int .i64 (((look st.names to').getD 0 : Nat) : Int), .bool (look st.names to').isSome]) (w3.drewN n) := fun n => MapAt.look (P3.out.gr ((Gr.refl w3).drewN n)).mp to' (by have := hjm.2; omega)
        cases hlo : look st.names to' with
        | none =>
          have HE : Hid (settleL st.names st.lines st.jumps st.code = (5, ln, cur)) := by
            show _ = _
            rw [hS.out, HSD.out]
            unfold jumpL
            rw [if_neg he]
            simp [hlo, HLNN.out]
          rw [hlo] at hlk
          simp only [Option.getD_none, Option.isSome_none] at hlk
          have hln := HLNN.out
          clear he hlo
          go_wp2_with (fail)
          go_quiet (fail)
          have G4 := (Gr.refl w3).drewN nq
          have P4 := hide (P3.out.gr G4)
          have K4 := hide (K3.out.trans (Kp.of_gr G4))
          have j0 := cell_later G4 j0
          clear hlk p2 P3 L3 K3 j1
          generalize w3.drewN nq = w4 at G4 P4 K4 j0 ⊢
          clear G4
          have p1 := row_cell P4.out.row 1
          simp only [List.getElem?_toArray, List.getElem?_cons_zero, List.getElem?_cons_succ] at p1
          have x1 := P4.out
          obtain ⟨_, _, hv, _, _, _, hlc⟩ := own_some x1.ol (by show 0 < st.lines.length; omega)
          cases hv
          have cl := hlc _ _ (lines_at hln)
          have b1 : (at' : Int) < st.lines.length := by omega
          clear x1 hlc
          go_wp2_with (fail)
          go_quiet (fail)
          go_wp2
          go_ret2
          unfold SettleP
          rw [HE.out]
          exact ⟨rfl, (fun h => absurd h (by simp)), K4.out.trans (Kp.of_gr ((Gr.refl _).drewN _))⟩
        | some p =>
          have hp4 := look_le hn hlo
          have HJL : Hid (jumpL st.names (at', to') cur = if rightB i0.op i0.a i0.b i0.c p (cur.length : Int) = true then (0, cur.set at' ⟨i0.op, i0.a, i0.b, i0.c, p⟩) else (5, cur.set at' ⟨i0.op, i0.a, i0.b, i0.c, p⟩)) := by
            show _ = _
            unfold jumpL
            rw [if_neg he]
            simp only [hlo]
            rw [setK_eq cur at' i0 p HI0.out, getD_of (i := ⟨i0.op, i0.a, i0.b, i0.c, p⟩) (by rw [List.getElem?_set_self hac])]
            rfl
          rw [hlo] at hlk
          simp only [Option.getD_some, Option.isSome_some] at hlk
          have hln := HLNN.out
          clear he hlo
          go_wp2_with (fail)
          go_quiet (fail)
          have G4 := (Gr.refl w3).drewN nq
          have P4 := hide (P3.out.gr G4)
          have K4 := hide (K3.out.trans (Kp.of_gr G4))
          have L4 := hide (L3.out.later G4)
          have JB4 := hide ((G4.block _ (heap_lt JB3.out)).trans JB3.out)
          clear hlk p2 P3 L3 K3 j1 j0 JB3
          generalize w3.drewN nq = w4 at G4 P4 K4 L4 JB4 ⊢
          clear G4
          obtain ⟨_, _, _, _, s4, z4⟩ := PRow.codeAt (st := ⟨cur, st.lines, st.names, st.jumps⟩) P4.out at' i0 HI0.out
          obtain ⟨P5', K5'⟩ := PRow.setK (st := ⟨cur, st.lines, st.names, st.jumps⟩) P4.out at' i0 HI0.out (p : Int)
          have L5 := hide (L4.out.kp K5' h6)
          have hi5 : (cur.set at' ⟨i0.op, i0.a, i0.b, i0.c, p⟩)[at']? = some ⟨i0.op, i0.a, i0.b, i0.c, p⟩ := by rw [List.getElem?_set_self hac]
          have HI5 := hide hi5
          have hi5k : (⟨i0.op, i0.a, i0.b, i0.c, (p : Int)⟩ : Ins).ok := ⟨by show (0 : Int) ≤ p; omega, by show (p : Int) < 4294967296; omega⟩
          have hp5 : (p : Int) < 4294967296 := by omega
          have hco5 : Hid (∀ i ∈ cur.set at' ⟨i0.op, i0.a, i0.b, i0.c, p⟩, i.ok) := by
            intro i hi
            rcases List.mem_or_eq_of_mem_set hi with h | rfl
            · exact hco.out i h
            · exact hi5k
          have hcl5 : Hid ((cur.set at' ⟨i0.op, i0.a, i0.b, i0.c, p⟩).length = st.code.length) := by show _ = _; rw [List.length_set]; exact hcl.out
          have P5 := hide P5'
          have K5 := hide (K4.out.trans K5')
          have JB5 : Hid ((w4.setCell ⟨q, at' * 5 + 4, none⟩ (.int .u32 p)).heap[jb]? = some (.cells #[.int .i64 at', strV to'] 64)) := by
            obtain ⟨_, _, hv, hb, _, ⟨cc, hq4⟩, _⟩ := own_some P4.out.oc (by show 0 < cur.length; omega)
            cases hv
            exact (Kept.setCell B hq4 hb _).row (by decide) JB4.out
          clear hi5 P4 L4 K4 P5' K5'
          go_wp2_with (fail)
          generalize w4.setCell ⟨q, at' * 5 + 4, none⟩ (.int .u32 p) = w5 at P5 K5 L5 JB5 ⊢
          have j0 := row_cell JB5.out 0
          simp only [List.getElem?_toArray, List.getElem?_cons_zero] at j0
          have HI5K := hide hi5k
          clear s4 z4 JB4 hi5k hp4 hp5 he'
          obtain ⟨r0, r1, r2, r3, r4, _⟩ := PRow.codeAt (st := ⟨(cur.set at' ⟨i0.op, i0.a, i0.b, i0.c, p⟩), st.lines, st.names, st.jumps⟩) ((by rw [List.length_set]; exact P5.out) : PRow w5 B g m (.slice (some ⟨q, 0, none⟩) (cur.set at' ⟨i0.op, i0.a, i0.b, i0.c, p⟩).length cap) (.slice (some ⟨ql, 0, none⟩) st.lines.length capl) (.slice (some ⟨qj, 0, none⟩) st.jumps.length capj) ⟨(cur.set at' ⟨i0.op, i0.a, i0.b, i0.c, p⟩), st.lines, st.names, st.jumps⟩) at' (⟨i0.op, i0.a, i0.b, i0.c, p⟩ : Ins) HI5.out
          try simp only at r0 r1 r2 r3 r4
          have r5 := row_cell P5.out.row 0
          simp only [List.getElem?_toArray, List.getElem?_cons_zero] at r5
          have hRT := hide (right_calls i0.op i0.a i0.b i0.c (p : Int) (cur.length : Int) HI5K.out.1 HI5K.out.2 w5.drew ((L5.out).later (Gr.refl _).drew))
          go_wp2_with (fail)
          refine Code.wp_mono (Q := CutS g jb (.slice (some ⟨qj, 0, none⟩) st.jumps.length capj) st.jumps.length k (!rightB i0.op i0.a i0.b i0.c (p : Int) (cur.length : Int)) (fun w' => Gr w5 w')) (fun e a w6 h => CutS.elim h ?_) ?_
          rotate_left
          · go_region_with (go_at_call 33; refine hRT.out.mono ?_; rintro e w6 ⟨rfl, hg6⟩; have hg6 := (Gr.refl w5).drew.trans hg6)
            all_goals exact ⟨hg6, _, _, _, _, _, _, _, _, _, _, _, _, _, _, _, _, _, _, _, _, _, _, _, _, _, _, _, _, _, _, _, _, _, _, _, _, _, _, _, _, _, _, _, _, _, _, _, _, _, _, _, _, _, _, _, _, _, _, _, _, _, rfl⟩
          intro u2 u3 u6 u7 u8 u15 u16 u17 u18 u19 u20 u21 u22 u23 u24 u25 u26 u27 u28 u29 u30 u31 u32 u33 u34 u35 u36 u37 u38 u39 u40 u41 u42 u43 u44 u45 u46 u47 u48 u49 u50 u51 u52 u53 u54 u55 u56 u57 u58 u59 u60 u61 u63 u64 u65 u66 u67 u68 u69 u70 u71 hg6
          have P6 := hide (P5.out.gr hg6)
          have j6 := cell_later hg6 j0
          have K6 := hide (K5.out.trans (Kp.of_gr hg6))
          clear hRT r0 r1 r2 r3 r4 r5
          cases hR : rightB i0.op i0.a i0.b i0.c (p : Int) (cur.length : Int) with
          | false =>
            have HE : Hid (settleL st.names st.lines st.jumps st.code = (5, ln, (cur.set at' ⟨i0.op, i0.a, i0.b, i0.c, p⟩))) := by
              show _ = _
              rw [hS.out, HSD.out]
              rw [HJL.out, hR]
              simp [HLNN.out]
            have p1 := row_cell P6.out.row 1
            simp only [List.getElem?_toArray, List.getElem?_cons_zero, List.getElem?_cons_succ] at p1
            have x1 := P6.out
            obtain ⟨_, _, hv, _, _, _, hlc⟩ := own_some x1.ol (by show 0 < st.lines.length; omega)
            cases hv
            have cl := hlc _ _ (lines_at hln)
            have b1 : (at' : Int) < st.lines.length := by omega
            clear x1 hlc
            go_wp2_with (fail)
            go_quiet (fail)
            go_wp2
            go_ret2
            unfold SettleP
            rw [HE.out]
            exact ⟨rfl, (fun h => absurd h (by simp)), K6.out.trans (Kp.of_gr ((Gr.refl _).drewN _))⟩
          | true =>
            have HE : Hid (settleL st.names st.lines st.jumps st.code = settleL st.names st.lines (st.jumps.drop (k + 1)) (cur.set at' ⟨i0.op, i0.a, i0.b, i0.c, p⟩)) := by
              show _ = _
              rw [hS.out, HSD.out]
              rw [HJL.out, hR]
              simp
            go_wp2
            go_roundw
            case rel => exact ⟨k + 1, by omega, by go_num, (cur.set at' ⟨i0.op, i0.a, i0.b, i0.c, p⟩), (by show PRow _ _ _ _ _ _ _ _; rw [List.length_set]; exact P6.out), hcl5, hco5, HE, K6⟩
            case measure => simp [intOf]; omega
    · obtain rfl : k = st.jumps.length := by omega
      have HS : Hid (settleL st.names st.lines st.jumps st.code = (0, 0, cur)) := by
        show _ = _
        rw [hS.out, List.drop_length]
        rfl
      go_wp2
      go_ret2
      unfold SettleP
      rw [HS.out]
      exact ⟨rfl, fun _ => ⟨_, _, _, _, hP.out⟩, hK.out⟩
end Go.Proofs.YtcfkcnkekdafgaaDoor
