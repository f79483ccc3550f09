/-
  For any name: what a builder's At makes of it. Conditions: names of at most 2^31 bytes, at most 2^31 of them, at most 2^31 instructions.
-/
import Derived.Test.YtcfkcnkekdafgaaGreatDoorBld2
namespace Go.Proofs.YtcfkcnkekdafgaaGreatDoor
open Go.ChangeShapes Go.WideShapes Go.ChangeAt Go.RowKit
set_option linter.unusedVariables false

def atStep (st : St) (s : Bs) (wr : Bool) : St × Bool :=
  if (look st.names s).isSome = true ∨ isName s = false then (st, true) else (⟨st.code, st.lines, st.names ++ [(s, st.code.length)], st.jumps⟩, wr)
theorem BRow.lookM {w : World} {own : Nat → Prop} {g : Nat} {vc vm vj : Value} {st : St} {wr : Bool} (h : BRow w own g vc vm vj st wr) (s : Bs) (hs : s.length ≤ 2147483648) : (Instr.lookup 40 vm (.string ⟨s.toArray⟩) true).run Tryz.prog w = .ok (.tuple #[.int .i64 (((look st.names s).getD 0 : Nat) : Int), .bool (look st.names s).isSome]) w := by
  rcases h.mp with ⟨rfl, hn⟩ | ⟨m, rfl, h2, _⟩
  · rw [Maps.look_nil true keyed9 Tryz.underlying40 (zero3 w) (key_of s hs), hn]
    rfl
  · exact MapAt.look h2 s hs
theorem wf64b (n : Nat) (h : n ≤ 2147483648) : (Lit.int .i64 (n : Int)).wf = true := wf64 n (by omega)

theorem BRow.put {W : World} {own : Nat → Prop} {g m : Nat} {vc vj : Value} {st : St} {wr : Bool} (h : BRow W own g vc (.map (some m)) vj st wr) (s : Bs) (hs : s.length ≤ 2147483648) (hl : look st.names s = none) (h4 : st.code.length ≤ 2147483648) (hn : st.names.length ≤ 2147483648) :
    ∃ w2, (Instr.mapUpdate 40 (.map (some m)) (.string ⟨s.toArray⟩) (.int .i64 st.code.length)).run Tryz.prog W.drew = .ok () w2 ∧ BRow w2 own g vc (.map (some m)) vj ⟨st.code, st.lines, st.names ++ [(s, st.code.length)], st.jumps⟩ wr ∧ Ko own W w2 := by
  rcases h.mp with ⟨hv, _⟩ | ⟨m', hv, hM, hom⟩
  · cases hv
  cases hv
  obtain ⟨D, hD, hd1, hd2⟩ := id hM
  obtain ⟨w2, hup, hD2, hgr⟩ := (hD.drew).update (t := 40) (val := .int .i64 st.code.length) keyed9 Tryz.underlying40 (by unfold maxLen; omega) (key_of s hs) (plainElem_int Tryz.underlying3 (wf64b st.code.length h4))
  have HM := mapAt_put s st.code.length hl hD2 hD.isMap hd1 hd2
  obtain ⟨es, ck, hmap⟩ := hM.map
  have hmm : ∀ i, i < W.heap.size → i ≠ m → w2.heap[i]? = W.heap[i]? := fun i hi hne => hgr.block i hi (by simp; exact hne)
  have k1 : ∀ (t : TypeId) (i : Nat) (cur : Array Value), W.heap[i]? = some (Obj.cells cur t) → w2.heap[i]? = some (Obj.cells cur t) := fun t i cur hc => (hmm i (heap_lt hc) (by rintro rfl; rw [hmap] at hc; cases hc)).trans hc
  refine ⟨w2, hup, ⟨k1 _ _ _ h.row, own_keep h.oc (k1 _), own_keep h.oj (k1 _), .inr ⟨m, rfl, HM, hom⟩, h.og, h.wc, h.wj, fun i hi => Nat.lt_of_lt_of_le (h.lt i hi) hgr.size⟩, ?_⟩
  exact Ko.trans (own' := own) (Ko.of_gr (Gr.refl W).drew) (Ko.grown hgr (fun k hk => by cases hk; exact hom)) (fun i h => .inl h)
theorem BRow.made {w1 : World} {own : Nat → Prop} {g : Nat} {vc vj : Value} {st : St} {wr : Bool} (h : BRow w1 own g vc (.map none) vj st wr) (hn : st.names = []) :
    BRow ((w1.alloc (.map #[] 0)).setCell ⟨g, 1, none⟩ (.map (some w1.heap.size))) (fun k => own k ∨ k = w1.heap.size) g vc (.map (some w1.heap.size)) vj st wr ∧ Ko own w1 ((w1.alloc (.map #[] 0)).setCell ⟨g, 1, none⟩ (.map (some w1.heap.size))) := by
  have g1 : Gr w1 (w1.alloc (.map #[] 0)) := (Gr.refl _).allocO _
  have h1 := h.gr g1
  have k2 : Kept 43 0 (w1.alloc (.map #[] 0)) ((w1.alloc (.map #[] 0)).setCell ⟨g, 1, none⟩ (.map (some w1.heap.size))) := Kept.setCell 0 h1.row (Nat.zero_le _) _
  refine ⟨⟨row_set h1.row 1 _, k2.own (by decide) h1.oc, k2.own (by decide) h1.oj, .inr ⟨_, rfl, ?_, .inr rfl⟩, .inl h.og, fun k hk => .inl (h.wc k hk), fun k hk => .inl (h.wj k hk), fun k hk => ?_⟩, Ko.trans (own' := own) (Ko.of_gr g1) (Ko.setCell h.og _) (fun i h => .inl h)⟩
  · rw [hn]
    exact k2.map (mapAt_made w1)
  · have hs : ((w1.alloc (.map #[] 0)).setCell ⟨g, 1, none⟩ (.map (some w1.heap.size))).heap.size = w1.heap.size + 1 := by simp [World.setCell]
    rw [hs]
    rcases hk with hk | hk
    · have := h.lt k hk; omega
    · omega

set_option maxRecDepth 20000 in
set_option maxHeartbeats 800000 in
theorem at_calls (s : Bs) (own : Nat → Prop) (g : Nat) (st : St) (wr : Bool) (w : World) (hP : BAt w own g st wr) (hs : s.length ≤ 2147483648) (h4 : st.code.length ≤ 2147483648) (hn : st.names.length ≤ 2147483648) :
    Calls Tryz.prog 24 #[.pointer (some ⟨g, 0, none⟩), .string ⟨s.toArray⟩] w (BldP own g (atStep st s wr).1 (atStep st s wr).2 w) := by
  obtain ⟨vc, vm, vj, P0⟩ := hP
  have hlk := P0.lookM s hs
  have q1 := row_cell P0.row 1
  have q3 := row_cell P0.row 3
  have z3 := row_frozen P0.row 3
  simp only [List.getElem?_toArray, List.getElem?_cons_zero, List.getElem?_cons_succ] at q1 q3
  have HP := hide P0
  have HN := hide (name_calls ⟨s.toArray⟩ w)
  clear P0
  cases hl : look st.names s with
  | some p =>
    have HS : Hid (atStep st s wr = (st, true)) := by show _ = _; simp [atStep, hl]
    rw [hl] at hlk
    simp only [Option.getD_some, Option.isSome_some] at hlk
    go_enter Tryz.func24, Tryz.ntmps24
    go_wp2
    first | go_end0 | refine bodyPost_ret (results_none rfl _ _ _) rfl ?_
    rw [HS.out]
    exact ⟨rfl, own, ⟨_, _, _, HP.out.setW true⟩, fun k h => .inl h, Ko.setCell HP.out.og _⟩
  | none =>
    rw [hl] at hlk
    simp only [Option.getD_none, Option.isSome_none] at hlk
    cases hi : isName s with
    | false =>
      have HS : Hid (atStep st s wr = (st, true)) := by show _ = _; simp [atStep, hi]
      go_enter Tryz.func24, Tryz.ntmps24
      go_wp2_with (go_at_call 12; refine HN.out.mono ?_; simp only [hi]; rintro e w1 ⟨rfl, hg1⟩; have P1 := hide (HP.out.gr hg1); have q3 := row_cell P1.out.row 3; have z3 := row_frozen P1.out.row 3; simp only [List.getElem?_toArray, List.getElem?_cons_zero, List.getElem?_cons_succ] at q3)
      first | go_end0 | refine bodyPost_ret (results_none rfl _ _ _) rfl ?_
      rw [HS.out]
      exact ⟨rfl, own, ⟨_, _, _, P1.out.setW true⟩, fun k h => .inl h, Ko.trans (own' := own) (Ko.of_gr hg1) (Ko.setCell HP.out.og _) (fun i h => .inl h)⟩
    | true =>
      have HS : Hid (atStep st s wr = (⟨st.code, st.lines, st.names ++ [(s, st.code.length)], st.jumps⟩, wr)) := by show _ = _; simp [atStep, hl, hi]
      obtain ⟨a0, c0, rfl⟩ := own_shape HP.out.oc
      have hge0 : ∀ (x y : Operand) (w : World), (eqGuard BinOp.eql 40 x y (.map none) (.map none)).run Tryz.prog w = .ok () w := fun _ _ _ => by kernel_rfl
      have hge1 : ∀ (x y : Operand) (m : Nat) (w : World), (eqGuard BinOp.eql 40 x y (.map (some m)) (.map none)).run Tryz.prog w = .ok () w := fun _ _ _ _ => by kernel_rfl
      have heq0 : ∀ w : World, (binOp BinOp.eql 40 (.map none) (.map none)).run Tryz.prog w = .ok (.bool true) w := fun _ => by kernel_rfl
      have heq1 : ∀ (m : Nat) (w : World), (binOp BinOp.eql 40 (.map (some m)) (.map none)).run Tryz.prog w = .ok (.bool false) w := fun _ _ => by kernel_rfl
      rcases HP.out.mp with ⟨rfl, hnm⟩ | ⟨m, rfl, _, _⟩
      · have hmm := @run_makeMap Tryz.prog
        have HNM := hide hnm
        clear hnm
        go_enter Tryz.func24, Tryz.ntmps24
        go_wp2_with (go_at_call 12; refine HN.out.mono ?_; simp only [hi]; rintro e w1 ⟨rfl, hg1⟩; have P1 := hide (HP.out.gr hg1); have q1 := row_cell P1.out.row 1; have z1 := row_frozen P1.out.row 1; simp only [List.getElem?_toArray, List.getElem?_cons_zero, List.getElem?_cons_succ] at q1; have q1' := cell_later ((Gr.refl w1).allocO (.map #[] 0)) q1; have z1' := row_frozen ((((Gr.refl w1).allocO (.map #[] 0)).block g (heap_lt P1.out.row)).trans P1.out.row) 1; clear hlk HN q3 z3)
        obtain ⟨PW, KW⟩ := P1.out.made HNM.out
        have hsz1 := hg1.size
        obtain ⟨w2, hup, PB, KB⟩ := PW.put s hs hl h4 (by first | exact hn | omega)
        have p0 := row_cell PW.row 0
        have p1 := row_cell PW.row 1
        simp only [List.getElem?_toArray, List.getElem?_cons_zero, List.getElem?_cons_succ] at p0 p1
        have HPB := hide PB
        have HKB := hide KB
        clear PB KB PW
        generalize (w1.alloc (.map #[] 0)).setCell ⟨g, 1, none⟩ (.map (some w1.heap.size)) = w3 at hup HKB p0 p1 KW ⊢
        clear q1 q1' z1 z1' hmm
        go_region
        all_goals
          go_wp2
          go_end0
          rw [HS.out]
          refine ⟨rfl, _, ⟨_, _, _, HPB.out⟩, fun k hk => ?_, ?_⟩
          · rcases hk with hk | hk
            · exact .inl hk
            · exact .inr (by omega)
          · exact Ko.trans (own' := fun k => own k ∨ k = w1.heap.size) (Ko.trans (own' := own) (Ko.of_gr hg1) KW (fun i h => .inl h)) HKB.out (fun i h => by rcases h with h | h; exact .inl h; exact .inr (by omega))
      · go_enter Tryz.func24, Tryz.ntmps24
        go_wp2_with (go_at_call 12; refine HN.out.mono ?_; simp only [hi]; rintro e w1 ⟨rfl, hg1⟩; have P1 := hide (HP.out.gr hg1); have q1 := row_cell P1.out.row 1; have z1 := row_frozen P1.out.row 1; simp only [List.getElem?_toArray, List.getElem?_cons_zero, List.getElem?_cons_succ] at q1; clear hlk HN q3 z3)
        have PW := P1.out
        obtain ⟨w2, hup, PB, KB⟩ := PW.put s hs hl h4 (by first | exact hn | omega)
        have p0 := row_cell PW.row 0
        have p1 := row_cell PW.row 1
        simp only [List.getElem?_toArray, List.getElem?_cons_zero, List.getElem?_cons_succ] at p0 p1
        have HPB := hide PB
        have HKB := hide KB
        clear PB KB PW
        clear q1 z1
        go_region
        all_goals
          go_wp2
          go_end0
          rw [HS.out]
          exact ⟨rfl, own, ⟨_, _, _, HPB.out⟩, fun k hk => .inl hk, Ko.trans (own' := own) (Ko.of_gr hg1) HKB.out (fun i h => .inl h)⟩
end Go.Proofs.YtcfkcnkekdafgaaGreatDoor
