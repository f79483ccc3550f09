/-
  What a builder gathers of a code and names, by lists: its code, its places, its jumps; what its Code answers; what the law wants. Lists alone: no condition.
-/
import Derived.Test.YtcfkcnkekdafgaaDoorPsetl
import Derived.Test.YtcfkcnkekdafgaaDoorBld2
import Derived.Test.YtcfkcnkekdafgaaDoorPsett
namespace Go.Proofs.YtcfkcnkekdafgaaDoor
set_option linter.unusedVariables false

/-- the jumps, each to its place; none, if a place has no name -/
def fillL (names : List (Bs × Nat)) : List (Nat × Bs) → List Ins → Option (List Ins)
  | [], c => some c
  | j :: js, c => match look names j.2 with
    | none => none
    | some p => fillL names js (setK c j.1 p)
theorem fill_drop {ns : List (Bs × Nat)} {js : List (Nat × Bs)} {k : Nat} {j : Nat × Bs} (h : js[k]? = some j) (code : List Ins) :
    fillL ns (js.drop k) code = match look ns j.2 with | none => none | some p => fillL ns (js.drop (k + 1)) (setK code j.1 p) := by
  obtain ⟨h1, e1⟩ := List.getElem?_eq_some_iff.1 h
  rw [List.drop_eq_getElem_cons h1, e1]
  rfl
theorem fill_append (ns : List (Bs × Nat)) : ∀ (a b : List (Nat × Bs)) (c : List Ins), fillL ns (a ++ b) c = (fillL ns a c).bind (fillL ns b)
  | [], b, c => rfl
  | j :: a, b, c => by
    rw [List.cons_append, fillL, fillL]
    cases look ns j.2 with
    | none => rfl
    | some p => exact fill_append ns a b _

/-- is it a jump to a name? -/
def jmpB (nm : List Bs) (i : Ins) : Bool := hasB i.op 84 && decide (0 < nm.length)
def lnk (nm : List Bs) (i : Ins) : Bs := if jmpB nm i = true then nm.getD (i.k.toNat % nm.length) [] else []
def want0 (nm : List Bs) (i : Ins) : Ins := if jmpB nm i = true then ⟨i.op, i.a, 0, 0, 0⟩ else i
/-- the places, and whether something was wrong, behind so many lines -/
def plc (nm : List Bs) : Nat → List (Bs × Nat) × Bool
  | 0 => ([], false)
  | j + 1 => if nm.getD j [] = [] then plc nm j
    else if (look (plc nm j).1 (nm.getD j [])).isSome = true ∨ isName (nm.getD j []) = false then ((plc nm j).1, true)
    else ((plc nm j).1 ++ [(nm.getD j [], j)], (plc nm j).2)
def jmps (nm : List Bs) (l : List Ins) : Nat → List (Nat × Bs)
  | 0 => []
  | j + 1 => if jmpB nm (l.getD j ins0) = true then jmps nm l j ++ [(j, lnk nm (l.getD j ins0))] else jmps nm l j
/-- what the law wants behind so many lines: the code, and whether all is good -/
def wnt (names : List (Bs × Nat)) (nm : List Bs) (l : List Ins) : Nat → List Ins × Bool
  | 0 => (l.map (want0 nm), true)
  | j + 1 => if jmpB nm (l.getD j ins0) = true then (setK (wnt names nm l j).1 j (((look names (lnk nm (l.getD j ins0))).getD 0 : Nat) : Int), (wnt names nm l j).2 && (look names (lnk nm (l.getD j ins0))).isSome)
    else wnt names nm l j
theorem fill_wnt (names : List (Bs × Nat)) (nm : List Bs) (l : List Ins) : ∀ j, fillL names (jmps nm l j) (l.map (want0 nm)) = if (wnt names nm l j).2 = true then some (wnt names nm l j).1 else none
  | 0 => rfl
  | j + 1 => by
    have ih := fill_wnt names nm l j
    rw [jmps, wnt]
    by_cases h : jmpB nm (l.getD j ins0) = true
    · rw [if_pos h, if_pos h, fill_append, ih]
      by_cases h2 : (wnt names nm l j).2 = true
      · rw [if_pos h2]
        simp only [Option.bind_some, fillL, h2, Bool.true_and]
        cases hl : look names (lnk nm (l.getD j ins0)) with
        | none => simp
        | some p => simp
      · rw [if_neg h2]
        simp only [Option.bind_none]
        rw [if_neg]
        simp at h2
        simp [h2]
    · rw [if_neg h, if_neg h]
      exact ih
theorem plc_le (nm : List Bs) : ∀ j, ∀ x ∈ (plc nm j).1, x.2 < j
  | 0, x, hx => by cases hx
  | j + 1, x, hx => by
    rw [plc] at hx
    split at hx
    · have := plc_le nm j x hx; omega
    · split at hx
      · have := plc_le nm j x hx; omega
      · rcases List.mem_append.1 hx with h | h
        · have := plc_le nm j x h; omega
        · rw [List.mem_singleton] at h
          subst h
          simp
theorem plc_len (nm : List Bs) : ∀ j, (plc nm j).1.length ≤ j
  | 0 => by simp [plc]
  | j + 1 => by
    have := plc_len nm j
    rw [plc]
    split
    · omega
    · split
      · show (plc nm j).1.length ≤ j + 1; omega
      · simp; omega
theorem jmps_len (nm : List Bs) (l : List Ins) : ∀ j, (jmps nm l j).length ≤ j
  | 0 => by simp [jmps]
  | j + 1 => by
    have := jmps_len nm l j
    rw [jmps]
    split
    · simp; omega
    · omega
theorem jmps_lt (nm : List Bs) (l : List Ins) : ∀ j, ∀ x ∈ jmps nm l j, x.1 < j ∧ (x.2 ∈ nm ∨ x.2 = [])
  | 0, x, hx => by cases hx
  | j + 1, x, hx => by
    rw [jmps] at hx
    split at hx
    · rename_i h1
      rcases List.mem_append.1 hx with h | h
      · have := jmps_lt nm l j x h; exact ⟨by omega, this.2⟩
      · rw [List.mem_singleton] at h
        subst h
        refine ⟨by simp, .inl ?_⟩
        show lnk nm (l.getD j ins0) ∈ nm
        have hp : 0 < nm.length := by simp only [jmpB, Bool.and_eq_true, decide_eq_true_eq] at h1; exact h1.2
        unfold lnk
        rw [if_pos h1, List.getD_eq_getElem?_getD, List.getElem?_eq_getElem (Nat.mod_lt _ hp)]
        exact List.getElem_mem _
    · have := jmps_lt nm l j x hx; exact ⟨by omega, this.2⟩
theorem wnt_len (names : List (Bs × Nat)) (nm : List Bs) (l : List Ins) : ∀ j, (wnt names nm l j).1.length = l.length
  | 0 => by simp [wnt]
  | j + 1 => by
    have := wnt_len names nm l j
    rw [wnt]
    split
    · simp [setK, this]
    · exact this
end Go.Proofs.YtcfkcnkekdafgaaDoor

namespace Go.Proofs.YtcfkcnkekdafgaaDoor
open Go.ChangeShapes Go.WideShapes Go.ChangeAt Go.RowKit
set_option linter.unusedVariables false

def atStep (st : St) (s : Bs) (wr : Bool) : St × Bool :=
  if (look st.names s).isSome = true ∨ isName s = false then (st, true) else (⟨st.code, st.lines, st.names ++ [(s, st.code.length)], st.jumps⟩, wr)
theorem BRow.lookM {w : World} {own : Nat → Prop} {g : Nat} {vc vm vj : Value} {st : St} {wr : Bool} (h : BRow w own g vc vm vj st wr) (s : Bs) (hs : s.length ≤ 9223372036854775807) : (Instr.lookup 38 vm (.string ⟨s.toArray⟩) true).run Tryd.prog w = .ok (.tuple #[.int .i64 (((look st.names s).getD 0 : Nat) : Int), .bool (look st.names s).isSome]) w := by
  rcases h.mp with ⟨rfl, hn⟩ | ⟨m, rfl, h2, _⟩
  · rw [Maps.look_nil true keyed9 Tryd.underlying38 (zero3 w) (key_of s hs), hn]
    rfl
  · exact MapAt.look h2 s hs
theorem wf64b (n : Nat) (h : n ≤ 2147483648) : (Lit.int .i64 (n : Int)).wf = true := wf64 n (by omega)

theorem BRow.put {W : World} {own : Nat → Prop} {g m : Nat} {vc vj : Value} {st : St} {wr : Bool} (h : BRow W own g vc (.map (some m)) vj st wr) (s : Bs) (hs : s.length ≤ 9223372036854775807) (hl : look st.names s = none) (h4 : st.code.length ≤ 2147483648) (hn : st.names.length ≤ 2147483648) :
    ∃ w2, (Instr.mapUpdate 38 (.map (some m)) (.string ⟨s.toArray⟩) (.int .i64 st.code.length)).run Tryd.prog W.drew = .ok () w2 ∧ BRow w2 own g vc (.map (some m)) vj ⟨st.code, st.lines, st.names ++ [(s, st.code.length)], st.jumps⟩ wr ∧ Ko own W w2 := by
  rcases h.mp with ⟨hv, _⟩ | ⟨m', hv, hM, hom⟩
  · cases hv
  cases hv
  obtain ⟨D, hD, hd1, hd2⟩ := id hM
  obtain ⟨w2, hup, hD2, hgr⟩ := (hD.drew).update (t := 38) (val := .int .i64 st.code.length) keyed9 Tryd.underlying38 (by unfold maxLen; omega) (key_of s hs) (plainElem_int Tryd.underlying3 (wf64b st.code.length h4))
  have HM := mapAt_put s st.code.length hl hD2 hD.isMap hd1 hd2
  obtain ⟨es, ck, hmap⟩ := hM.map
  have hmm : ∀ i, i < W.heap.size → i ≠ m → w2.heap[i]? = W.heap[i]? := fun i hi hne => hgr.block i hi (by simp; exact hne)
  have k1 : ∀ (t : TypeId) (i : Nat) (cur : Array Value), W.heap[i]? = some (Obj.cells cur t) → w2.heap[i]? = some (Obj.cells cur t) := fun t i cur hc => (hmm i (heap_lt hc) (by rintro rfl; rw [hmap] at hc; cases hc)).trans hc
  refine ⟨w2, hup, ⟨k1 _ _ _ h.row, own_keep h.oc (k1 _), own_keep h.oj (k1 _), .inr ⟨m, rfl, HM, hom⟩, h.og, h.wc, h.wj, fun i hi => Nat.lt_of_lt_of_le (h.lt i hi) hgr.size⟩, ?_⟩
  exact Ko.trans (own' := own) (Ko.of_gr (Gr.refl W).drew) (Ko.grown hgr (fun k hk => by cases hk; exact hom)) (fun i h => .inl h)
theorem BRow.made {w1 : World} {own : Nat → Prop} {g : Nat} {vc vj : Value} {st : St} {wr : Bool} (h : BRow w1 own g vc (.map none) vj st wr) (hn : st.names = []) :
    BRow ((w1.alloc (.map #[] 0)).setCell ⟨g, 1, none⟩ (.map (some w1.heap.size))) (fun k => own k ∨ k = w1.heap.size) g vc (.map (some w1.heap.size)) vj st wr ∧ Ko own w1 ((w1.alloc (.map #[] 0)).setCell ⟨g, 1, none⟩ (.map (some w1.heap.size))) := by
  have g1 : Gr w1 (w1.alloc (.map #[] 0)) := (Gr.refl _).allocO _
  have h1 := h.gr g1
  have k2 : Kept 41 0 (w1.alloc (.map #[] 0)) ((w1.alloc (.map #[] 0)).setCell ⟨g, 1, none⟩ (.map (some w1.heap.size))) := Kept.setCell 0 h1.row (Nat.zero_le _) _
  refine ⟨⟨row_set h1.row 1 _, k2.own (by decide) h1.oc, k2.own (by decide) h1.oj, .inr ⟨_, rfl, ?_, .inr rfl⟩, .inl h.og, fun k hk => .inl (h.wc k hk), fun k hk => .inl (h.wj k hk), fun k hk => ?_⟩, Ko.trans (own' := own) (Ko.of_gr g1) (Ko.setCell h.og _) (fun i h => .inl h)⟩
  · rw [hn]
    exact k2.map (mapAt_made w1)
  · have hs : ((w1.alloc (.map #[] 0)).setCell ⟨g, 1, none⟩ (.map (some w1.heap.size))).heap.size = w1.heap.size + 1 := by simp [World.setCell]
    rw [hs]
    rcases hk with hk | hk
    · have := h.lt k hk; omega
    · omega

set_option maxRecDepth 20000 in
set_option maxHeartbeats 800000 in
theorem at_calls (s : Bs) (own : Nat → Prop) (g : Nat) (st : St) (wr : Bool) (w : World) (hP : BAt w own g st wr) (hs : s.length ≤ 9223372036854775807) (h4 : st.code.length ≤ 2147483648) (hn : st.names.length ≤ 2147483648) :
    Calls Tryd.prog 14 #[.pointer (some ⟨g, 0, none⟩), .string ⟨s.toArray⟩] w (BldP own g (atStep st s wr).1 (atStep st s wr).2 w) := by
  obtain ⟨vc, vm, vj, P0⟩ := hP
  have hlk := P0.lookM s hs
  have q1 := row_cell P0.row 1
  have q3 := row_cell P0.row 3
  have z3 := row_frozen P0.row 3
  simp only [List.getElem?_toArray, List.getElem?_cons_zero, List.getElem?_cons_succ] at q1 q3
  have HP := hide P0
  have HN := hide (name_calls ⟨s.toArray⟩ w)
  clear P0
  cases hl : look st.names s with
  | some p =>
    have HS : Hid (atStep st s wr = (st, true)) := by show _ = _; simp [atStep, hl]
    rw [hl] at hlk
    simp only [Option.getD_some, Option.isSome_some] at hlk
    go_enter Tryd.func14, Tryd.ntmps14
    go_wp2
    first | go_end0 | refine bodyPost_ret (results_none rfl _ _ _) rfl ?_
    rw [HS.out]
    exact ⟨rfl, own, ⟨_, _, _, HP.out.setW true⟩, fun k h => .inl h, Ko.setCell HP.out.og _⟩
  | none =>
    rw [hl] at hlk
    simp only [Option.getD_none, Option.isSome_none] at hlk
    cases hi : isName s with
    | false =>
      have HS : Hid (atStep st s wr = (st, true)) := by show _ = _; simp [atStep, hi]
      go_enter Tryd.func14, Tryd.ntmps14
      go_wp2_with (go_at_call 6; refine HN.out.mono ?_; simp only [hi]; rintro e w1 ⟨rfl, hg1⟩; have P1 := hide (HP.out.gr hg1); have q3 := row_cell P1.out.row 3; have z3 := row_frozen P1.out.row 3; simp only [List.getElem?_toArray, List.getElem?_cons_zero, List.getElem?_cons_succ] at q3)
      first | go_end0 | refine bodyPost_ret (results_none rfl _ _ _) rfl ?_
      rw [HS.out]
      exact ⟨rfl, own, ⟨_, _, _, P1.out.setW true⟩, fun k h => .inl h, Ko.trans (own' := own) (Ko.of_gr hg1) (Ko.setCell HP.out.og _) (fun i h => .inl h)⟩
    | true =>
      have HS : Hid (atStep st s wr = (⟨st.code, st.lines, st.names ++ [(s, st.code.length)], st.jumps⟩, wr)) := by show _ = _; simp [atStep, hl, hi]
      obtain ⟨a0, c0, rfl⟩ := own_shape HP.out.oc
      have hge0 : ∀ (x y : Operand) (w : World), (eqGuard BinOp.eql 38 x y (.map none) (.map none)).run Tryd.prog w = .ok () w := fun _ _ _ => by kernel_rfl
      have hge1 : ∀ (x y : Operand) (m : Nat) (w : World), (eqGuard BinOp.eql 38 x y (.map (some m)) (.map none)).run Tryd.prog w = .ok () w := fun _ _ _ _ => by kernel_rfl
      have heq0 : ∀ w : World, (binOp BinOp.eql 38 (.map none) (.map none)).run Tryd.prog w = .ok (.bool true) w := fun _ => by kernel_rfl
      have heq1 : ∀ (m : Nat) (w : World), (binOp BinOp.eql 38 (.map (some m)) (.map none)).run Tryd.prog w = .ok (.bool false) w := fun _ _ => by kernel_rfl
      rcases HP.out.mp with ⟨rfl, hnm⟩ | ⟨m, rfl, _, _⟩
      · have hmm := @run_makeMap Tryd.prog
        have HNM := hide hnm
        clear hnm
        go_enter Tryd.func14, Tryd.ntmps14
        go_wp2_with (go_at_call 6; refine HN.out.mono ?_; simp only [hi]; rintro e w1 ⟨rfl, hg1⟩; have P1 := hide (HP.out.gr hg1); have q1 := row_cell P1.out.row 1; have z1 := row_frozen P1.out.row 1; simp only [List.getElem?_toArray, List.getElem?_cons_zero, List.getElem?_cons_succ] at q1; have q1' := cell_later ((Gr.refl w1).allocO (.map #[] 0)) q1; have z1' := row_frozen ((((Gr.refl w1).allocO (.map #[] 0)).block g (heap_lt P1.out.row)).trans P1.out.row) 1; clear hlk HN q3 z3)
        obtain ⟨PW, KW⟩ := P1.out.made HNM.out
        have hsz1 := hg1.size
        obtain ⟨w2, hup, PB, KB⟩ := PW.put s hs hl h4 (by first | exact hn | omega)
        have p0 := row_cell PW.row 0
        have p1 := row_cell PW.row 1
        simp only [List.getElem?_toArray, List.getElem?_cons_zero, List.getElem?_cons_succ] at p0 p1
        have HPB := hide PB
        have HKB := hide KB
        clear PB KB PW
        generalize (w1.alloc (.map #[] 0)).setCell ⟨g, 1, none⟩ (.map (some w1.heap.size)) = w3 at hup HKB p0 p1 KW ⊢
        clear q1 q1' z1 z1' hmm
        go_region
        all_goals
          go_wp2
          go_end0
          rw [HS.out]
          refine ⟨rfl, _, ⟨_, _, _, HPB.out⟩, fun k hk => ?_, ?_⟩
          · rcases hk with hk | hk
            · exact .inl hk
            · exact .inr (by omega)
          · exact Ko.trans (own' := fun k => own k ∨ k = w1.heap.size) (Ko.trans (own' := own) (Ko.of_gr hg1) KW (fun i h => .inl h)) HKB.out (fun i h => by rcases h with h | h; exact .inl h; exact .inr (by omega))
      · go_enter Tryd.func14, Tryd.ntmps14
        go_wp2_with (go_at_call 6; refine HN.out.mono ?_; simp only [hi]; rintro e w1 ⟨rfl, hg1⟩; have P1 := hide (HP.out.gr hg1); have q1 := row_cell P1.out.row 1; have z1 := row_frozen P1.out.row 1; simp only [List.getElem?_toArray, List.getElem?_cons_zero, List.getElem?_cons_succ] at q1; clear hlk HN q3 z3)
        have PW := P1.out
        obtain ⟨w2, hup, PB, KB⟩ := PW.put s hs hl h4 (by first | exact hn | omega)
        have p0 := row_cell PW.row 0
        have p1 := row_cell PW.row 1
        simp only [List.getElem?_toArray, List.getElem?_cons_zero, List.getElem?_cons_succ] at p0 p1
        have HPB := hide PB
        have HKB := hide KB
        clear PB KB PW
        clear q1 z1
        go_region
        all_goals
          go_wp2
          go_end0
          rw [HS.out]
          exact ⟨rfl, own, ⟨_, _, _, HPB.out⟩, fun k hk => .inl hk, Ko.trans (own' := own) (Ko.of_gr hg1) HKB.out (fun i h => .inl h)⟩
end Go.Proofs.YtcfkcnkekdafgaaDoor

namespace Go.Proofs.YtcfkcnkekdafgaaDoor
open Go.ChangeShapes Go.WideShapes Go.ChangeAt Go.RowKit
set_option linter.unusedVariables false

def CloneP (l : List Ins) (w : World) (e : Ending) (w' : World) : Prop := ∃ v', e = .returned v' ∧ w'.ownsRow w.heap.size 28 5 v' l.length (codeV l) ∧ Gr w w'
theorem one_code (l : List Ins) : ∀ u ∈ codeV l, u.oneCell' = true := by
  intro u hu
  unfold codeV at hu
  rw [List.mem_flatMap] at hu
  obtain ⟨i, _, hi⟩ := hu
  simp at hi
  rcases hi with rfl | rfl | rfl | rfl | rfl <;> rfl
set_option maxRecDepth 20000 in
set_option maxHeartbeats 400000 in
theorem clone_calls (v : Value) (l : List Ins) (w : World) (ho : w.ownsRow 0 28 5 v l.length (codeV l)) (h4 : l.length ≤ 2147483648) :
    Calls Tryd.prog 26 #[v] w (CloneP l w) := by
  obtain ⟨i3, hi3, hz30, hz31, hz32⟩ := info_parts infoI
  have heq0 : ∀ w : World, (binOp BinOp.eql 22 (.slice none 0 0) (.slice none 0 0)).run Tryd.prog w = .ok (.bool true) w := fun _ => by kernel_rfl
  have heq1 : ∀ (ad : Addr) (n c : Nat) (w : World), (binOp BinOp.eql 22 (.slice (some ad) n c) (.slice none 0 0)).run Tryd.prog w = .ok (.bool false) w := fun _ _ _ _ => by kernel_rfl
  rcases ho.2 with ⟨rfl, h0⟩ | ⟨q, cap, cur, rfl, hb, hq, h1, h2, h3, h5⟩
  · have e0 : l = [] := List.eq_nil_of_length_eq_zero h0
    subst e0
    go_enter Tryd.func26, Tryd.ntmps26
    go_wp2
    go_ret
    exact ⟨_, rfl, ⟨rfl, .inl ⟨rfl, rfl⟩⟩, Gr.refl _⟩
  · have hg := (Gr.refl w).alloc #[] 28
    have O6 : Hid ((w.alloc (.cells #[] 28)).ownsRow w.heap.size 28 5 (.slice (some ⟨w.heap.size, 0, none⟩) 0 0) 0 []) := ⟨rfl, .inr ⟨_, 0, #[], rfl, Nat.le_refl _, heap_alloc_new w _, Nat.le_refl _, Nat.zero_le _, rfl, rfl⟩⟩
    have N6 : Hid (∀ (j : Nat) (u : Value), (codeV l)[j]? = some u → (w.alloc (.cells #[] 28)).cell? ((⟨q, 0, none⟩ : Addr).add j) = some u) := fun j u hj => cell_later hg (World.ownsRow.cells ho (g := q) rfl j u hj)
    have hlen := codeV_len l
    have U6 := hide (one_code l)
    have HG := hide hg
    clear ho hg hb hq h3 h5
    go_enter Tryd.func26, Tryd.ntmps26
    go_wp2_with (at_builtin; refine wpList_append_own _ rfl (.tmp 5) (.tmp 6) 22 rfl w.heap.size 28 i3 zeroI 5 40 Tryd.underlying22 hi3 hz30 hz31 hz32 rfl (by decide) _ 0 _ rfl O6.out ⟨q, 0, none⟩ l.length cap (codeV l) rfl hlen N6.out U6.out (by unfold maxLen; omega) (by omega) HG.out.size ?_)
    intro v' w7 hown7 hgrow7 _
    have HO : Hid (w7.ownsRow w.heap.size 28 5 v' l.length (codeV l)) := by show w7.ownsRow _ _ _ _ _ _; simpa using hown7
    have HGR : Hid (Gr w w7) := Below.grown HG.out hgrow7 HG.out.size (fun k hk => by cases hk; exact Nat.le_refl _)
    clear hown7 hgrow7
    go_wp2
    go_ret
    exact ⟨_, rfl, HO.out, HGR.out⟩

theorem code_wrong (own : Nat → Prop) (g : Nat) (st : St) (w : World) (hP : BAt w own g st true) :
    Calls Tryd.prog 17 #[.pointer (some ⟨g, 0, none⟩)] w fun e w' => e = .returned (.tuple #[.slice none 0 0, .bool false]) ∧ w' = w := by
  obtain ⟨vc, vm, vj, P0⟩ := hP
  have q3 := row_cell P0.row 3
  simp only [List.getElem?_toArray, List.getElem?_cons_zero, List.getElem?_cons_succ] at q3
  clear P0
  go_enter Tryd.func17, Tryd.ntmps17
  go_wp2
  go_ret2
  exact ⟨rfl, rfl⟩

def CodeP (l : List Ins) (w : World) (e : Ending) (w' : World) : Prop := ∃ v', e = .returned (.tuple #[v', .bool true]) ∧ w'.ownsRow w.heap.size 28 5 v' l.length (codeV l) ∧ Gr w w'
set_option maxRecDepth 20000 in
set_option maxHeartbeats 400000 in
theorem code_plain (own : Nat → Prop) (g : Nat) (st : St) (w : World) (hP : BAt w own g st false) (h4 : st.code.length ≤ 2147483648) (hj : st.jumps = []) :
    Calls Tryd.prog 17 #[.pointer (some ⟨g, 0, none⟩)] w (CodeP st.code w) := by
  obtain ⟨vc, vm, vj, P0⟩ := hP
  have q0 := row_cell P0.row 0
  have q2 := row_cell P0.row 2
  have q3 := row_cell P0.row 3
  simp only [List.getElem?_toArray, List.getElem?_cons_zero, List.getElem?_cons_succ] at q0 q2 q3
  obtain ⟨a3, c3, rfl⟩ := own_shape P0.oj
  rw [hj] at q2
  have HC := hide (clone_calls vc st.code w P0.oc h4)
  clear P0
  go_enter Tryd.func17, Tryd.ntmps17
  go_wp2_with (fail)
  refine HC.out.mono ?_
  rintro e w1 ⟨v', rfl, ho, hg⟩
  have q2' := cell_later hg q2
  have HO := hide ho
  obtain ⟨a7, c7, rfl⟩ := own_shape ho
  clear ho HC
  go_wp2
  refine wp_loop_rounds 1 ?_
  rw [rounds_succ]
  go_wp2
  go_ret2
  exact ⟨_, rfl, HO.out, hg⟩
end Go.Proofs.YtcfkcnkekdafgaaDoor

namespace Go.Proofs.YtcfkcnkekdafgaaDoor
open Go.ChangeShapes Go.WideShapes Go.ChangeAt Go.RowKit
set_option linter.unusedVariables false

/-- what Code answers -/
def FillP (o : Option (List Ins)) (w : World) (e : Ending) (w' : World) : Prop := match o with
  | some l => CodeP l w e w'
  | none => e = .returned (.tuple #[.slice none 0 0, .bool false]) ∧ Gr w w'

set_option maxRecDepth 100000 in
set_option maxHeartbeats 4000000 in
theorem code_fill (own : Nat → Prop) (g : Nat) (st : St) (w : World) (hP : BAt w own g st false) (h4 : st.code.length ≤ 2147483648) (hjn : st.jumps.length ≤ 2147483648) (hj : ∀ j ∈ st.jumps, j.1 < st.code.length ∧ j.2.length ≤ 9223372036854775807) (hn : ∀ x ∈ st.names, x.2 ≤ 2147483648) :
    Calls Tryd.prog 17 #[.pointer (some ⟨g, 0, none⟩)] w (FillP (fillL st.names st.jumps st.code) w) := by
  by_cases hz : st.jumps = []
  · rw [hz]
    exact code_plain own g st w hP h4 hz
  obtain ⟨vc, vm, vj, P0⟩ := hP
  have HP := hide P0
  have q0 := row_cell P0.row 0
  have q2 := row_cell P0.row 2
  have q3 := row_cell P0.row 3
  simp only [List.getElem?_toArray, List.getElem?_cons_zero, List.getElem?_cons_succ] at q0 q2 q3
  have hjl : 0 < st.jumps.length := List.length_pos_iff.2 hz
  obtain ⟨jb, jc, rfl, -, hjc, -, hjcell⟩ := own_some P0.oj hjl
  have HJ := hide hjcell
  have HC := hide (clone_calls vc st.code w P0.oc h4)
  have hc0 : 0 < st.code.length := by
    have := (hj _ (List.getElem_mem hjl)).1
    omega
  have HJJ := hide hj
  have HN := hide hn
  clear P0 hjcell hj hn hz
  go_enter Tryd.func17, Tryd.ntmps17
  go_wp2_with (fail)
  refine HC.out.mono ?_
  rintro e w1 ⟨v', rfl, ho, hg⟩
  have q2' := cell_later hg q2
  have HO := hide ho
  obtain ⟨cb, cc, rfl, hcb, hcc, -, -⟩ := own_some ho hc0
  clear ho HC q0 q2 q3
  go_wp2_with (fail)
  clear q2'
  go_loopw [23] (fun i wr => ∃ k : Nat, k ≤ st.jumps.length ∧ i = .int .i64 k ∧ ∃ c : List Ins, Hid (c.length = st.code.length ∧ wr.ownsRow w.heap.size 28 5 (.slice (some ⟨cb, 0, none⟩) st.code.length cc) c.length (codeV c) ∧ fillL st.names st.jumps st.code = fillL st.names (st.jumps.drop k) c) ∧ Hid (Gr w wr)) (fun i _ => st.jumps.length - (intOf i).toNat)
  case atStart => exact ⟨0, by omega, rfl, st.code, ⟨rfl, HO.out, by simp⟩, hg⟩
  case round =>
    obtain ⟨k, hk, rfl, c, HI, HG⟩ := hrel
    by_cases hlt : k < st.jumps.length
    · obtain ⟨j, hj⟩ : ∃ j, st.jumps[k]? = some j := ⟨_, List.getElem?_eq_getElem hlt⟩
      obtain ⟨hj1, hj2⟩ := HJJ.out j (List.mem_of_getElem? hj)
      have hlt' : (k : Int) < st.jumps.length := by omega
      obtain ⟨y0, y1⟩ := jumpsV_at _ _ _ hj
      have x0 := cell_later HG.out (HJ.out _ _ y0)
      have x1 := cell_later HG.out (HJ.out _ _ y1)
      have HD := hide (fill_drop (ns := st.names) hj c)
      have P1 := HP.out.gr HG.out
      have q1 := row_cell P1.row 1
      simp only [List.getElem?_toArray, List.getElem?_cons_zero, List.getElem?_cons_succ] at q1
      have hjs : j.1 < c.length := by have := HI.out.1; omega
      obtain ⟨i, hi⟩ : ∃ i, c[j.1]? = some i := ⟨_, List.getElem?_eq_getElem hjs⟩
      obtain ⟨j1, j2⟩ := j
      simp only at hj1 hj2 x0 x1 HD hjs hi
      clear y0 y1 hj
      have ga := (Gr.refl wr).alloc #[.int .i64 j1, strV j2] 64
      have hlk := fun n => ((P1.gr ga).gr ((Gr.refl _).drewN n)).lookM j2 hj2
      have q1a := cell_later ga q1
      have z0 : (wr.alloc (.cells #[.int .i64 j1, strV j2] 64)).cell? ⟨wr.heap.size, 0, none⟩ = some (.int .i64 j1) := by simp
      have z1 : (wr.alloc (.cells #[.int .i64 j1, strV j2] 64)).cell? ⟨wr.heap.size, 1, none⟩ = some (strV j2) := by simp
      have G1 := hide (HG.out.trans ga)
      obtain ⟨hcl, hco, hcf⟩ := HI.out
      have HCF := hide hcf
      have HCL := hide hcl
      have HCO := hide (own_gr hco ga)
      clear HI hcf hcl hco P1 q1
      cases hl : look st.names j2 with
      | none =>
        have HF : Hid (fillL st.names st.jumps st.code = none) := by
          show _ = _
          rw [HCF.out, HD.out, hl]
        rw [hl] at hlk
        simp only [Option.getD_none, Option.isSome_none] at hlk
        clear HCF HD hl HCO
        go_wp2_with (fail)
        go_quiet (fail)
        go_wp2_with (fail)
        go_ret2
        rw [HF.out]
        exact ⟨rfl, G1.out.drewN nq⟩
      | some p =>
        have HF : Hid (fillL st.names st.jumps st.code = fillL st.names (st.jumps.drop (k + 1)) (setK c j1 p)) := by
          show _ = _
          rw [HCF.out, HD.out, hl]
        rw [hl] at hlk
        simp only [Option.getD_some, Option.isSome_some] at hlk
        have hp : p ≤ 2147483648 := look_le HN.out hl
        have hwp : IntKind.u32.wrap (p : Int) = p := by rw [IntKind.wrap_u32]; omega
        clear HCF HD hl
        have hj1' : (j1 : Int) < (st.code.length : Int) := by omega
        go_wp2_with (fail)
        go_quiet (fail)
        have hco := own_gr HCO.out ((Gr.refl _).drewN nq)
        rw [HCL.out] at hco
        have z0' := cell_later ((Gr.refl _).drewN nq) z0
        have GW := hide (G1.out.drewN nq)
        change Exit.then _ _ _ _ ((wr.alloc (.cells #[.int .i64 j1, strV j2] 64)).drewN nq)
        generalize (wr.alloc (.cells #[.int .i64 j1, strV j2] 64)).drewN nq = W at hco z0' GW ⊢
        obtain ⟨cb', cc', hv, -, -, ⟨cur, hcur⟩, hcell⟩ := own_some hco hc0
        cases hv
        have y4 := hcell (j1 * 5 + 4) _ (codeV_at c j1 4 i (by omega) hi)
        have f4 := row_frozen hcur (j1 * 5 + 4)
        have hos := own_set hco (j1 * 5 + 4) (by rw [codeV_len]; omega) (.int .u32 (p : Int))
        rw [codeV_set c j1 i p hi, ← setK_eq c j1 i p hi] at hos
        have HOS := hide hos
        have HLS : Hid ((setK c j1 (p : Int)).length = st.code.length) := by show _ = _; unfold setK; rw [List.length_set]; exact HCL.out
        clear hlk q1a z0 z1 x0 x1 hos hcell hcur hco
        go_wp2_with (fail)
        refine ⟨⟨k + 1, by omega, by go_num, setK c j1 p, ⟨HLS.out, ?_, HF.out⟩, ?_⟩, by simp [intOf]; omega⟩
        · rw [HLS.out]; exact HOS.out
        · exact GW.out.setCell hcb _
    · obtain rfl : k = st.jumps.length := by omega
      obtain ⟨h1, h2, h3⟩ := HI.out
      rw [List.drop_length] at h3
      have H2 := hide h2
      have H3 := hide h3
      clear h1 h2 h3 HI
      go_wp2_with (fail)
      go_ret2
      rw [H3.out]
      exact ⟨_, rfl, H2.out, HG.out⟩
end Go.Proofs.YtcfkcnkekdafgaaDoor
