/-
  A parser in memory, by what its lines tell; for any name: what the parser's 'name' makes of it. Conditions: names of at most 2^31 bytes, a parser of at most 2^31 names and 4000 instructions.
-/
import Derived.Test.YtcfkcnkekdafgaaDoorLof
namespace Go.Proofs.YtcfkcnkekdafgaaDoor
open Go.ChangeShapes Go.WideShapes Go.ChangeAt Go.RowKit
set_option linter.unusedVariables false

def codeV (l : List Ins) : List Value := l.flatMap Ins.vals
def linesV (l : List Nat) : List Value := l.map fun (n : Nat) => Value.int .i64 (n : Int)
def jumpsV (l : List (Nat × Bs)) : List Value := l.flatMap fun j => [.int .i64 j.1, strV j.2]
/-- a parser lies in memory -/
structure PRow (w : World) (B g m : Nat) (vc vl vj : Value) (st : St) : Prop where
  row : w.heap[g]? = some (.cells #[vc, vl, .map (some m), vj] 56)
  oc : w.ownsRow B 28 5 vc st.code.length (codeV st.code)
  ol : w.ownsRow B 3 1 vl st.lines.length (linesV st.lines)
  oj : w.ownsRow B 64 2 vj st.jumps.length (jumpsV st.jumps)
  mp : MapAt w m st.names
  hg : B ≤ g
  hm : B ≤ m
def PAt (w : World) (B g : Nat) (st : St) : Prop := ∃ m vc vl vj, PRow w B g m vc vl vj st
theorem PRow.keep {w w' : World} {B g m : Nat} {vc vl vj : Value} {st : St} (h : PRow w B g m vc vl vj st) (k : ∀ i, i < w.heap.size → B ≤ i → w'.heap[i]? = w.heap[i]?) : PRow w' B g m vc vl vj st := by
  have k1 : ∀ (t : TypeId) (i : Nat) (cur : Array Value), B ≤ i → w.heap[i]? = some (Obj.cells cur t) → w'.heap[i]? = some (Obj.cells cur t) := fun t i cur hi hc => (k i (heap_lt hc) hi).trans hc
  have ow : ∀ {t : TypeId} {sz n : Nat} {v : Value} {xs : List Value}, w.ownsRow B t sz v n xs → w'.ownsRow B t sz v n xs := by
    intro t sz n v xs h
    refine ⟨h.1, ?_⟩
    rcases h.2 with h2 | ⟨q, cap, cur, hv, hb, hg, h3⟩
    · exact .inl h2
    · exact .inr ⟨q, cap, cur, hv, hb, k1 _ _ _ hb hg, h3⟩
  exact ⟨k1 _ _ _ h.hg h.row, ow h.oc, ow h.ol, ow h.oj, h.mp.keep fun es c hb => (k m (heap_lt hb) h.hm).trans hb, h.hg, h.hm⟩
theorem PRow.gr {w w' : World} {B g m : Nat} {vc vl vj : Value} {st : St} (h : PRow w B g m vc vl vj st) (k : Gr w w') : PRow w' B g m vc vl vj st := h.keep fun i hi _ => k.block i hi
theorem PAt.gr {w w' : World} {B g : Nat} {st : St} (h : PAt w B g st) (k : Gr w w') : PAt w' B g st := by
  obtain ⟨m, vc, vl, vj, h⟩ := h
  exact ⟨m, vc, vl, vj, h.gr k⟩

/-- all blocks below B, and all rows of strings and of errnos, are as they were -/
structure Kp (B : Nat) (w w' : World) : Prop where
  os : w'.os = w.os
  tape : w'.tape = w.tape
  output : w'.output = w.output
  size : w.heap.size ≤ w'.heap.size
  block : ∀ k, k < w.heap.size → (k < B ∨ ∃ cur t fr, w.heap[k]? = some (.cells cur t fr) ∧ (t = 9 ∨ t = 32)) → w'.heap[k]? = w.heap[k]?
theorem Kp.refl (B : Nat) (w : World) : Kp B w w := ⟨rfl, rfl, rfl, Nat.le_refl _, fun _ _ _ => rfl⟩
theorem Kp.trans {B : Nat} {a b c : World} (h : Kp B a b) (k : Kp B b c) : Kp B a c :=
  ⟨k.os.trans h.os, k.tape.trans h.tape, k.output.trans h.output, Nat.le_trans h.size k.size, fun i hi hc =>
    (k.block i (Nat.lt_of_lt_of_le hi h.size) (by rw [h.block i hi hc]; exact hc)).trans (h.block i hi hc)⟩
theorem Kp.of_gr {B : Nat} {w w' : World} (h : Gr w w') : Kp B w w' := ⟨h.os, h.tape, h.output, h.size, fun k hk _ => h.block k hk⟩
theorem Kp.of_kept {e : TypeId} {B : Nat} {w w' : World} (h : Kept e B w w') (he : 9 ≠ e ∧ 32 ≠ e) : Kp B w w' := by
  refine ⟨h.os, h.tape, h.output, h.size, fun k hk hc => h.block k hk ?_⟩
  rcases hc with hc | ⟨cur, t, fr, hc, ht⟩
  · exact .inl hc
  · refine .inr fun c f q => ?_
    rw [hc] at q
    cases q
    rcases ht with rfl | rfl
    · exact he.1 rfl
    · exact he.2 rfl
theorem Kp.of_map {B m : Nat} {w w' : World} {es : Array MapEntry} {c : Nat} (h : w.grownBy w' (some m)) (hm : w.heap[m]? = some (.map es c)) (hB : B ≤ m) : Kp B w w' := by
  refine ⟨h.os, h.tape, h.output, h.size, fun k hk hc => h.block k hk ?_⟩
  intro e
  cases e
  rcases hc with hc | ⟨cur, t, fr, hc, _⟩
  · omega
  · rw [hm] at hc
    cases hc
theorem Kp.errno {B g : Nat} {w w' : World} {cur : Array Value} (k : Kp B w w') (h : w.heap[g]? = some (.cells cur 32)) : w'.heap[g]? = some (.cells cur 32) := (k.block g (heap_lt h) (.inr ⟨_, _, _, h, .inr rfl⟩)).trans h
theorem PAt.kept {e : TypeId} {B g : Nat} {w w' : World} {st : St} (h : PAt w B g st) (k : Kept e B w w') (he : 56 ≠ e ∧ 28 ≠ e ∧ 3 ≠ e ∧ 64 ≠ e) : PAt w' B g st := by
  obtain ⟨m, vc, vl, vj, h⟩ := h
  exact ⟨m, vc, vl, vj, k.row he.1 h.row, k.own he.2.1 h.oc, k.own he.2.2.1 h.ol, k.own he.2.2.2 h.oj, k.map h.mp, h.hg, h.hm⟩
theorem Kp.gr {B : Nat} {w w1 w2 : World} (h : Gr w w1) (hB : B = w.heap.size) (k : Kp B w1 w2) : Gr w w2 :=
  Below.trans h ⟨k.os, k.tape, k.output, k.size, fun i hi => k.block i (Nat.lt_of_lt_of_le hi h.size) (.inl (by omega))⟩
theorem Laid.kp {B : Nat} {w w' : World} (h : Laid w) (k : Kp B w w') (hB : 6 < B) : Laid w' := h.keep fun i hi => k.block i (by have := h.lt; omega) (.inl (by omega))
theorem StrRow.kp {B b : Nat} {w w' : World} {ss : List Bs} (h : StrRow w b ss) (k : Kp B w w') : StrRow w' b ss := (k.block b (heap_lt h) (.inr ⟨_, _, _, h, .inl rfl⟩)).trans h

/-- what a step of the parser leaves -/
def StepP (B g : Nat) (r : Nat × St) (w : World) (e : Ending) (w' : World) : Prop := (e = if r.1 = 0 then .returned (.tuple #[]) else gone r.1) ∧ PAt w' B g r.2 ∧ Kp B w w'
def nameStep (st : St) (s : Bs) : Nat × St :=
  if isName s = false then (3, st) else if (look st.names s).isSome = true then (6, st) else (0, ⟨st.code, st.lines, st.names ++ [(s, st.code.length)], st.jumps⟩)
theorem zero3 (w : World) : (zeroValue 3).run Tryd.prog w = .ok (.int .i64 0) w := by kernel_rfl
theorem wf64 (n : Nat) (h : n ≤ 4294967296) : (Lit.int .i64 (n : Int)).wf = true := by
  have h1 : IntKind.i64.min = -9223372036854775808 := by decide
  have h2 : IntKind.i64.max = 9223372036854775807 := by decide
  simp [Lit.wf, h1, h2]
  omega
theorem mapAt_put {w : World} {m : Nat} {ns : List (Bs × Nat)} {D : DataW Unit} (s : Bs) (v : Nat) (hl : look ns s = none)
    (hD : w.ownsMap Tryd.prog 9 (plainElem Tryd.prog 3) m (ns.length + 1) (D.put (.string s) (.lit (.int .i64 v)))) (hi : Maps.IsMap D)
    (h1 : ∀ s : Bs, Maps.has D (.string s) = (look ns s).isSome) (h2 : ∀ (s : Bs) (v : Nat), look ns s = some v → ∀ z, D.atKey (.string s) z = .lit (.int .i64 v)) : MapAt w m (ns ++ [(s, v)]) := by
  refine ⟨_, by rw [List.length_append]; exact hD, fun r => ?_, fun r u hr z => ?_⟩
  · rw [look_snoc ns s v hl r]
    by_cases e : r = s
    · subst e
      rw [if_pos rfl, Maps.has_put_same hi (show WideAt.IsKeyLit (.string _) from trivial)]
      rfl
    · rw [if_neg e, Maps.has_put_other (fun q => e (by cases q; rfl)), h1]
  · rw [look_snoc ns s v hl r] at hr
    by_cases e : r = s
    · subst e
      rw [if_pos rfl] at hr
      cases hr
      rw [Maps.atKey_put_same hi (show WideAt.IsKeyLit (.string _) from trivial)]
    · rw [if_neg e] at hr
      rw [Maps.atKey_put_other (fun q => e (by cases q; rfl))]
      exact h2 r u hr z

set_option maxRecDepth 10000 in
set_option maxHeartbeats 800000 in
theorem pname_calls (s : Bs) (B g : Nat) (st : St) (w : World) (hP : PAt w B g st) (hs : s.length ≤ 2147483648) (hn : st.names.length ≤ 2147483648) (h4 : st.code.length ≤ 4000) :
    Calls Tryd.prog 30 #[.pointer (some ⟨g, 0, none⟩), .string ⟨s.toArray⟩] w (StepP B g (nameStep st s) w) := by
  obtain ⟨m, vc, vl, vj, hP⟩ := hP
  have HN := hide (name_calls ⟨s.toArray⟩ w)
  cases hi : isName s with
  | false =>
    have HS : Hid (nameStep st s = (3, st)) := by show _ = _; simp [nameStep, hi]
    have HP := hide hP
    clear hP
    go_enter Tryd.func30, Tryd.ntmps30
    go_wp2_with (first | (go_at_call 6; refine HN.out.mono ?_; simp only [hi]; rintro e w1 ⟨rfl, hg1⟩) | (go_at_call 39; refine (insist_no _ _).mono ?_; rintro e w2 ⟨rfl, rfl⟩))
    refine ⟨rfl, ?_⟩
    unfold StepP
    rw [HS.out]
    exact ⟨rfl, ⟨m, vc, vl, vj, HP.out.gr hg1⟩, Kp.of_gr hg1⟩
  | true =>
    have HP := hide hP
    clear hP
    go_enter Tryd.func30, Tryd.ntmps30
    go_wp2_with (fail)
    refine HN.out.mono ?_
    simp only [hi]
    rintro e w1 ⟨rfl, hg1⟩
    have P1 := HP.out.gr hg1
    clear HN HP
    obtain ⟨D, hD, hd1, hd2⟩ := P1.mp
    obtain ⟨a0, c0, hvc⟩ := own_shape P1.oc
    obtain ⟨v0, ps0, hlk, _⟩ := hD.look_ok (t := 38) keyed9 Tryd.underlying38 (zero3 w1) (plainElem_int Tryd.underlying3 (wf64 0 (by omega))) (key_of s (by omega))
    rw [hd1] at hlk
    have q2 := row_cell P1.row 2
    have q0 := row_cell P1.row 0
    simp only [List.getElem?_toArray, List.getElem?_cons_zero, List.getElem?_cons_succ] at q2 q0
    cases hl : look st.names s with
    | some p =>
      rw [hl] at hlk
      have HS : Hid (nameStep st s = (6, st)) := by show _ = _; simp [nameStep, hi, hl]
      have HP := hide P1
      clear P1 hD hd1 hd2
      go_wp2_with (fail)
      refine (insist_ok _ _).mono ?_
      rintro e w2 ⟨rfl, rfl⟩
      go_wp2_with (fail)
      refine (insist_no _ _).mono ?_
      rintro e w2 ⟨rfl, rfl⟩
      refine ⟨rfl, ?_⟩
      unfold StepP
      rw [HS.out]
      exact ⟨rfl, ⟨m, vc, vl, vj, HP.out⟩, Kp.of_gr hg1⟩
    | none =>
      rw [hl] at hlk
      have HS : Hid (nameStep st s = (0, ⟨st.code, st.lines, st.names ++ [(s, st.code.length)], st.jumps⟩)) := by show _ = _; simp [nameStep, hi, hl]
      obtain ⟨w2, hup, hD2, hgr⟩ := (hD.drew).update (t := 38) (val := .int .i64 st.code.length) keyed9 Tryd.underlying38 (by unfold maxLen; omega) (key_of s (by omega)) (plainElem_int Tryd.underlying3 (wf64 st.code.length (by omega)))
      have him := hD.isMap
      have HM := hide (mapAt_put s st.code.length hl hD2 him hd1 hd2)
      obtain ⟨es, ck, hmap⟩ := P1.mp.map
      have hne : g ≠ m := by rintro rfl; have := hmap.symm.trans P1.row; cases this
      have hmm : ∀ i, i < w1.heap.size → i ≠ m → w2.heap[i]? = w1.heap[i]? := fun i hi hne => hgr.block i hi (by simp; exact hne)
      have HQ : Hid (PRow w2 B g m vc vl vj ⟨st.code, st.lines, st.names ++ [(s, st.code.length)], st.jumps⟩) := by
        have k1 : ∀ (t : TypeId) (i : Nat) (cur : Array Value), w1.heap[i]? = some (Obj.cells cur t) → w2.heap[i]? = some (Obj.cells cur t) := fun t i cur hc => (hmm i (heap_lt hc) (by rintro rfl; rw [hmap] at hc; cases hc)).trans hc
        exact ⟨k1 _ _ _ P1.row, own_keep P1.oc (k1 _), own_keep P1.ol (k1 _), own_keep P1.oj (k1 _), HM.out, P1.hg, P1.hm⟩
      have HK : Hid (Kp B w1 w2) := Kp.trans (Kp.of_gr (Gr.refl w1).drew) (Kp.of_map hgr hmap P1.hm)
      clear P1 hD hd1 hd2 hD2 hgr him HM hmm hmap hne
      subst hvc
      go_wp2_with (go_at_call 39; refine (insist_ok _ _).mono ?_; rintro e w3 ⟨rfl, rfl⟩)
      go_region
      all_goals
        go_wp2
        go_end0
        unfold StepP
        rw [HS.out]
        exact ⟨rfl, ⟨m, _, vl, vj, HQ.out⟩, (Kp.of_gr hg1).trans HK.out⟩
end Go.Proofs.YtcfkcnkekdafgaaDoor
