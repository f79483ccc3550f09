/-
  What the reference's Parse makes of lines, said by lists, and that it is what is said of asm.Parse. Lists alone: no condition.
-/
import Derived.Test.YtcfkcnkekdafgaaDoorRefr
namespace Go.Proofs.YtcfkcnkekdafgaaDoor
set_option linter.unusedVariables false

/-- how many instructions stand in lines -/
def cntL : List Bs → Nat
  | [] => 0
  | t :: ts => if t = [] then cntL ts else if t.getLast? = some 58 then cntL ts else cntL ts + 1
theorem cntL_append : ∀ (l m : List Bs), cntL (l ++ m) = cntL l + cntL m
  | [], m => by simp [cntL]
  | t :: ts, m => by
    simp only [List.cons_append, cntL, cntL_append ts m]
    split
    · rfl
    · split
      · rfl
      · omega

theorem suffix_colon (t : Bs) : Lib.hasSuffix t [58] = true ↔ t.getLast? = some 58 := by
  rcases List.eq_nil_or_concat t with rfl | ⟨l, x, rfl⟩
  · simp [Lib.hasSuffix]
  · simp [Lib.hasSuffix]
    exact eq_comm
theorem trim_colon (t : Bs) (h : t.getLast? = some 58) : Lib.trimSuffix t [58] = t.dropLast := by
  unfold Lib.trimSuffix
  rw [if_pos ((suffix_colon t).2 h), List.dropLast_eq_take]
  rfl
theorem colon_eq (t nm : Bs) (h : t.getLast? = some 58) : t = nm ++ [58] ↔ t.dropLast = nm := by
  rcases List.eq_nil_or_concat t with rfl | ⟨l, x, rfl⟩
  · simp at h
  · simp at h
    subst h
    simp

theorem placeR_append (nm : Bs) (t : Bs) : ∀ (l : List Bs) (n : Nat), placeR (l ++ [t]) nm n = match placeR l nm n with
    | some p => some p
    | none => if t = nm ++ [58] then some (n + cntL l) else none
  | [], n => by
    simp only [List.nil_append, placeR, cntL, Nat.add_zero]
    by_cases h0 : t = []
    · subst h0; simp
    · rw [if_neg h0]
      by_cases h1 : t = nm ++ [58]
      · rw [if_pos h1, if_pos h1]
      · rw [if_neg h1, if_neg h1]; simp
  | x :: l, n => by
    simp only [List.cons_append, placeR, cntL]
    by_cases h0 : x = []
    · rw [if_pos h0, if_pos h0, if_pos h0]; exact placeR_append nm t l n
    · rw [if_neg h0, if_neg h0, if_neg h0]
      by_cases h1 : x = nm ++ [58]
      · rw [if_pos h1, if_pos h1]
      · rw [if_neg h1, if_neg h1]
        by_cases h2 : x.getLast? = some 58
        · rw [if_pos h2, if_pos h2, if_pos h2]; exact placeR_append nm t l n
        · rw [if_neg h2, if_neg h2, if_neg h2, placeR_append nm t l (n + 1)]
          have e : n + 1 + cntL l = n + (cntL l + 1) := by omega
          rw [e]
theorem look_append (nm s : Bs) (p : Nat) : ∀ (xs : List (Bs × Nat)), look (xs ++ [(s, p)]) nm = match look xs nm with
    | some q => some q
    | none => if s = nm then some p else none
  | [] => by simp [look]
  | x :: xs => by
    simp only [List.cons_append, look]
    by_cases h : x.1 = nm
    · rw [if_pos h, if_pos h]
    · rw [if_neg h, if_neg h]; exact look_append nm s p xs

/-- what is gathered of lines is what the reference looks up among them -/
structure Gath (done : List Bs) (st : St) : Prop where
  cnt : st.code.length = cntL done
  nms : ∀ nm, look st.names nm = placeR done nm 0
theorem gath0 : Gath [] st0 := ⟨rfl, fun _ => rfl⟩

theorem gath_step {done : List Bs} {st : St} {t : Bs} {no : Nat} (h : Gath done st) (h0 : (stepL st t no).1 = 0) : Gath (done ++ [t]) (stepL st t no).2 := by
  unfold stepL at h0 ⊢
  by_cases e : t = []
  · rw [if_pos e]
    refine ⟨by rw [cntL_append]; simp [cntL, e, h.cnt], fun nm => ?_⟩
    rw [placeR_append, h.nms, if_neg (by rw [e]; simp)]
    cases placeR done nm 0 <;> rfl
  rw [if_neg e] at h0 ⊢
  by_cases hs : Lib.hasSuffix t [58] = true
  · have hc := (suffix_colon t).1 hs
    rw [if_pos hs, trim_colon t hc] at h0 ⊢
    by_cases hn : isName t.dropLast = false
    · rw [if_pos hn] at h0; cases h0
    rw [if_neg hn] at h0 ⊢
    by_cases hl : (look st.names t.dropLast).isSome = true
    · rw [if_pos hl] at h0; cases h0
    rw [if_neg hl] at h0 ⊢
    refine ⟨by rw [cntL_append]; simp [cntL, e, hc, h.cnt], fun nm => ?_⟩
    show look (st.names ++ [(t.dropLast, st.code.length)]) nm = _
    rw [look_append, placeR_append, h.nms, h.cnt, Nat.zero_add]
    cases placeR done nm 0 with
    | some p => rfl
    | none =>
      show (if t.dropLast = nm then _ else _) = if t = nm ++ [58] then _ else _
      by_cases q : t.dropLast = nm
      · rw [if_pos q, if_pos ((colon_eq t nm hc).2 q)]
      · rw [if_neg q, if_neg (fun r => q ((colon_eq t nm hc).1 r))]
  · have hc : ¬ t.getLast? = some 58 := fun q => hs ((suffix_colon t).2 q)
    rw [if_neg hs] at h0 ⊢
    cases hr : readL t with
    | none => rw [hr] at h0; cases h0
    | some i =>
      rw [hr] at h0
      simp only at h0 ⊢
      by_cases h4 : st.code.length < 4000
      · rw [if_pos h4]
        refine ⟨by rw [cntL_append]; simp [cntL, e, hc, h.cnt], fun nm => ?_⟩
        show look st.names nm = _
        rw [placeR_append, h.nms, if_neg (fun q => hc (by rw [q]; simp))]
        cases placeR done nm 0 <;> rfl
      · rw [if_neg h4] at h0; cases h0

/-- the reference's first loop -/
def ref1 : List Bs → List Bs → List Ins → Nat → Nat × Nat × List Ins
  | _, [], out, _ => (0, 0, out)
  | done, t :: ts, out, no =>
    if t = [] then ref1 (done ++ [t]) ts out (no + 1)
    else if t.getLast? = some 58 then
      if isName t.dropLast = false then (3, no, out)
      else if (placeR done t.dropLast 0).isSome = true then (6, no, out)
      else ref1 (done ++ [t]) ts out (no + 1)
    else match readL t with
      | none => (3, no, out)
      | some i => if out.length < 4000 then ref1 (done ++ [t]) ts (out ++ [i.1]) (no + 1) else (4, no, out)
theorem ref1_eq : ∀ (ts done : List Bs) (st : St) (no : Nat), Gath done st → ref1 done ts st.code no = ((linesL st ts no).1, (linesL st ts no).2.1, (linesL st ts no).2.2.code)
  | [], done, st, no, _ => rfl
  | t :: ts, done, st, no, h => by
    have hg := @gath_step done st t no h
    simp only [ref1, linesL]
    unfold stepL at hg ⊢
    by_cases e : t = []
    · simp only [if_pos e] at hg ⊢
      exact ref1_eq ts _ st (no + 1) (hg trivial)
    simp only [if_neg e] at hg ⊢
    by_cases hc : t.getLast? = some 58
    · simp only [if_pos ((suffix_colon t).2 hc), trim_colon t hc, if_pos hc] at hg ⊢
      by_cases hn : isName t.dropLast = false
      · simp [if_pos hn]
      simp only [if_neg hn] at hg ⊢
      by_cases hl : (look st.names t.dropLast).isSome = true
      · have hl' := hl
        rw [h.nms] at hl'
        simp [if_pos hl, if_pos hl']
      have hl' := hl
      rw [h.nms] at hl'
      simp only [if_neg hl, if_neg hl'] at hg ⊢
      exact ref1_eq ts _ ⟨st.code, st.lines, _, st.jumps⟩ (no + 1) (hg trivial)
    · have hs : ¬ Lib.hasSuffix t [58] = true := fun q => hc ((suffix_colon t).1 q)
      simp only [if_neg hs, if_neg hc] at hg ⊢
      cases hr : readL t with
      | none => simp
      | some i =>
        rw [hr] at hg
        simp only at hg ⊢
        by_cases h4 : st.code.length < 4000
        · simp only [if_pos h4] at hg ⊢
          exact ref1_eq ts _ ⟨st.code ++ [i.1], _, _, _⟩ (no + 1) (hg trivial)
        · simp [if_neg h4]

/-- the instructions, the lines and the jumps of lines that can be read -/
def clL : List Bs → List Ins
  | [] => []
  | t :: ts => if t = [] then clL ts else if t.getLast? = some 58 then clL ts else match readL t with
    | none => clL ts
    | some i => i.1 :: clL ts
def llL : List Bs → Nat → List Nat
  | [], _ => []
  | t :: ts, no => if t = [] then llL ts (no + 1) else if t.getLast? = some 58 then llL ts (no + 1) else no :: llL ts (no + 1)
def jlL : List Bs → Nat → List (Nat × Bs)
  | [], _ => []
  | t :: ts, k => if t = [] then jlL ts k else if t.getLast? = some 58 then jlL ts k else match readL t with
    | none => jlL ts k
    | some i => if jumpB i.1.op = true then (k, i.2) :: jlL ts (k + 1) else jlL ts (k + 1)
/-- all lines can be read -/
def okL : List Bs → Prop
  | [] => True
  | t :: ts => (t = [] ∨ t.getLast? = some 58 ∨ (readL t).isSome = true) ∧ okL ts

theorem lines_all : ∀ (ts : List Bs) (st : St) (no : Nat), (linesL st ts no).1 = 0 →
    okL ts ∧ (linesL st ts no).2.2.code = st.code ++ clL ts ∧ (linesL st ts no).2.2.lines = st.lines ++ llL ts no ∧ (linesL st ts no).2.2.jumps = st.jumps ++ jlL ts st.code.length
  | [], st, no, _ => ⟨trivial, by simp [linesL, clL], by simp [linesL, llL], by simp [linesL, jlL]⟩
  | t :: ts, st, no, h => by
    simp only [linesL] at h ⊢
    by_cases h1 : (stepL st t no).1 = 0
    · rw [if_pos h1] at h ⊢
      obtain ⟨i1, i2, i3, i4⟩ := lines_all ts _ _ h
      rw [i2, i3, i4]
      simp only [clL, llL, jlL, okL]
      clear i2 i3 i4 h
      unfold stepL at h1 ⊢
      by_cases e : t = []
      · simp only [if_pos e]
        refine ⟨⟨.inl e, i1⟩, ?_, ?_, ?_⟩ <;> simp
      simp only [if_neg e] at h1 ⊢
      by_cases hc : t.getLast? = some 58
      · simp only [if_pos ((suffix_colon t).2 hc), trim_colon t hc, if_pos hc] at h1 ⊢
        by_cases hn : isName t.dropLast = false
        · simp [hn] at h1
        simp only [if_neg hn] at h1 ⊢
        by_cases hl : (look st.names t.dropLast).isSome = true
        · simp [hl] at h1
        simp only [if_neg hl]
        refine ⟨⟨.inr (.inl hc), i1⟩, ?_, ?_, ?_⟩ <;> simp
      · have hs : ¬ Lib.hasSuffix t [58] = true := fun q => hc ((suffix_colon t).1 q)
        simp only [if_neg hs, if_neg hc] at h1 ⊢
        cases hr : readL t with
        | none => rw [hr] at h1; simp at h1
        | some i =>
          rw [hr] at h1
          simp only at h1 ⊢
          by_cases h4 : st.code.length < 4000
          · simp only [if_pos h4, List.length_append, List.length_cons, List.length_nil]
            refine ⟨⟨.inr (.inr rfl), i1⟩, by simp, by simp, ?_⟩
            by_cases hj : jumpB i.1.op = true
            · simp [if_pos hj]
            · simp [if_neg hj]
          · rw [if_neg h4] at h1; cases h1
    · rw [if_neg h1] at h
      exact absurd h h1

theorem jump_ops : ∀ n : Fin 28, jumpB (n : Nat) = true → (n : Nat) = 13 ∨ (n : Nat) = 14 ∨ (n : Nat) = 15 := by decide +kernel
theorem reg_lt {s : Bs} {n : Nat} (h : regOf s = some n) : n < 8 := by
  unfold regOf at h
  split at h
  · split at h
    · cases h; omega
    · cases h
  · cases h
theorem right13 (K size : Int) (hK : 0 ≤ K) : rightB ((13 : Nat) : Int) 0 0 0 K size = decide (K ≤ size) := by
  have h : rightB ((13 : Nat) : Int) 0 0 0 K size = holdsB 4 K size := rfl
  rw [h]
  simp [holdsB]
theorem right14 (m : Nat) (hm : m = 14 ∨ m = 15) (n : Nat) (hn : n < 8) (K size : Int) (hK : 0 ≤ K) : rightB (m : Int) n 0 0 K size = decide (K ≤ size) := by
  have h : rightB (m : Int) n 0 0 K size = (fitsB 1 n && true && true && holdsB 4 K size) := by
    rcases hm with rfl | rfl <;> rfl
  have hf : fitsB 1 n = true := by
    have : n = 0 ∨ n = 1 ∨ n = 2 ∨ n = 3 ∨ n = 4 ∨ n = 5 ∨ n = 6 ∨ n = 7 := by omega
    rcases this with rfl | rfl | rfl | rfl | rfl | rfl | rfl | rfl <;> rfl
  rw [h, hf]
  simp [holdsB]
/-- the registers of a jump that was read may be -/
theorem jump_regs {t : Bs} {i : Ins × Bs} (h : readL t = some i) (hj : jumpB i.1.op = true) (K size : Int) (hK : 0 ≤ K) : rightB i.1.op i.1.a i.1.b i.1.c K size = decide (K ≤ size) := by
  unfold readL at h
  split at h
  case isFalse => cases h
  case isTrue hh =>
    obtain ⟨hk, hl⟩ := hh
    generalize ((parts 32 t).headD []).toArray = nm at hk hl h
    generalize (parts 32 t).tail = ss at hl h
    obtain ⟨m, hm, hmn⟩ : ∃ m : Nat, m < 28 ∧ numB ⟨nm⟩ = m := by
      unfold knownB at hk
      have := of_decide_eq_true hk
      exact ⟨_, this, by unfold numB; rw [if_pos this]⟩
    rw [hmn] at h hl
    have hop : ∀ (xs : List Nat) (ss : List Bs) (a b : Ins × Bs), takeAll xs ss a = some b → b.1.op = a.1.op := by
      intro xs
      induction xs with
      | nil => intro ss a b h; simp [takeAll] at h; rw [h]
      | cons x xs ih =>
        intro ss a b h
        cases ss with
        | nil => simp [takeAll] at h
        | cons s ss =>
          simp only [takeAll] at h
          cases hw : takeW x s a with
          | none => rw [hw] at h; simp at h
          | some c =>
            rw [hw] at h
            have h1 := ih ss c b h
            rw [h1]
            unfold takeW at hw
            split at hw
            · obtain ⟨n, _, rfl⟩ := Option.map_eq_some_iff.1 hw; rfl
            split at hw
            · obtain ⟨n, _, rfl⟩ := Option.map_eq_some_iff.1 hw; rfl
            split at hw
            · obtain ⟨n, _, rfl⟩ := Option.map_eq_some_iff.1 hw; rfl
            split at hw
            · obtain ⟨n, _, rfl⟩ := Option.map_eq_some_iff.1 hw; rfl
            split at hw
            · obtain ⟨n, _, rfl⟩ := Option.map_eq_some_iff.1 hw
              split <;> rfl
            · obtain ⟨n, _, rfl⟩ := Option.map_eq_some_iff.1 hw; rfl
    have ho := hop _ _ _ _ h
    simp only at ho
    rw [ho] at hj ⊢
    have h3 := jump_ops ⟨m, hm⟩ hj
    simp only at h3
    rcases h3 with rfl | rfl | rfl
    · have hw : wk 13 = [4] := rfl
      simp only [Int.toNat_natCast, hw] at h
      match ss, h with
      | [], h => simp [takeAll] at h
      | s :: ss, h =>
        simp only [takeAll] at h
        cases hp : placeOf s with
        | none => simp [takeW, hp] at h
        | some p =>
          simp [takeW, hp] at h
          have e : i.1.a = 0 ∧ i.1.b = 0 ∧ i.1.c = 0 := by
            split at h <;> (rw [← h]; exact ⟨rfl, rfl, rfl⟩)
          rw [e.1, e.2.1, e.2.2]
          exact right13 K size hK
    · have hw : wk 14 = [0, 4] := rfl
      simp only [Int.toNat_natCast, hw] at h
      match ss, h with
      | [], h => simp [takeAll] at h
      | [s], h =>
        simp only [takeAll] at h
        cases hq : regOf s with
        | none => simp [takeW, hq] at h
        | some n => simp [takeW, hq] at h
      | s :: u :: ss, h =>
        simp only [takeAll] at h
        cases hq : regOf s with
        | none => simp [takeW, hq] at h
        | some n =>
          cases hp : placeOf u with
          | none => simp [takeW, hq, hp] at h
          | some p =>
            simp [takeW, hq, hp] at h
            have e : i.1.a = n ∧ i.1.b = 0 ∧ i.1.c = 0 := by
              split at h <;> (rw [← h]; exact ⟨rfl, rfl, rfl⟩)
            rw [e.1, e.2.1, e.2.2]
            exact right14 14 (.inl rfl) n (reg_lt hq) K size hK
    · have hw : wk 15 = [0, 4] := rfl
      simp only [Int.toNat_natCast, hw] at h
      match ss, h with
      | [], h => simp [takeAll] at h
      | [s], h =>
        simp only [takeAll] at h
        cases hq : regOf s with
        | none => simp [takeW, hq] at h
        | some n => simp [takeW, hq] at h
      | s :: u :: ss, h =>
        simp only [takeAll] at h
        cases hq : regOf s with
        | none => simp [takeW, hq] at h
        | some n =>
          cases hp : placeOf u with
          | none => simp [takeW, hq, hp] at h
          | some p =>
            simp [takeW, hq, hp] at h
            have e : i.1.a = n ∧ i.1.b = 0 ∧ i.1.c = 0 := by
              split at h <;> (rw [← h]; exact ⟨rfl, rfl, rfl⟩)
            rw [e.1, e.2.1, e.2.2]
            exact right14 15 (.inr rfl) n (reg_lt hq) K size hK

/-- the reference's second loop -/
def ref2 (lines : List Bs) : List Bs → Nat → List Ins → Nat → Nat × Nat × List Ins
  | [], _, out, _ => (0, 0, out)
  | t :: ts, k, out, no =>
    if t = [] then ref2 lines ts k out (no + 1)
    else if t.getLast? = some 58 then ref2 lines ts k out (no + 1)
    else match readL t with
      | none => (0, 0, out)
      | some i =>
        if jumpB i.1.op = true then
          if i.2 = [] then (if (out.getD k ins0).k ≤ (out.length : Int) then ref2 lines ts (k + 1) out (no + 1) else (5, no, out))
          else match placeR lines i.2 0 with
            | none => (5, no, out)
            | some p => if (p : Int) ≤ (out.length : Int) then ref2 lines ts (k + 1) (setK out k p) (no + 1) else (5, no, setK out k p)
        else ref2 lines ts (k + 1) out (no + 1)

theorem setK_length (code : List Ins) (n : Nat) (k : Int) : (setK code n k).length = code.length := by simp [setK]
theorem setK_at (code : List Ins) (n : Nat) (k : Int) (h : n < code.length) : (setK code n k).getD n ins0 = ⟨(code.getD n ins0).op, (code.getD n ins0).a, (code.getD n ins0).b, (code.getD n ins0).c, k⟩ := by
  unfold setK
  rw [List.getD_eq_getElem?_getD, List.getElem?_set]
  simp [h]
theorem setK_drop (code : List Ins) (n : Nat) (k : Int) : (setK code n k).drop (n + 1) = code.drop (n + 1) := by
  unfold setK
  rw [List.drop_set_of_lt (by omega)]

theorem settle_ref2 (lines : List Bs) (names : List (Bs × Nat)) (F : List Nat) (hn : ∀ nm, look names nm = placeR lines nm 0) (hk0 : ∀ t i, readL t = some i → 0 ≤ i.1.k) :
    ∀ (ts : List Bs) (k no : Nat) (code : List Ins), okL ts → code.drop k = clL ts → F.drop k = llL ts no → settleL names F (jlL ts k) code = ref2 lines ts k code no
  | [], k, no, code, _, _, _ => rfl
  | t :: ts, k, no, code, hok, hc, hl => by
    simp only [clL, llL, jlL, ref2, okL] at hok hc hl ⊢
    by_cases e : t = []
    · simp only [if_pos e] at hc hl ⊢
      exact settle_ref2 lines names F hn hk0 ts k (no + 1) code hok.2 hc hl
    simp only [if_neg e] at hc hl ⊢
    by_cases h2 : t.getLast? = some 58
    · simp only [if_pos h2] at hc hl ⊢
      exact settle_ref2 lines names F hn hk0 ts k (no + 1) code hok.2 hc hl
    simp only [if_neg h2] at hc hl ⊢
    cases hr : readL t with
    | none =>
      rcases hok.1 with h | h | h
      · exact absurd h e
      · exact absurd h h2
      · rw [hr] at h; cases h
    | some i =>
      rw [hr] at hc
      simp only at hc ⊢
      have hlt : k < code.length := by
        rcases Nat.lt_or_ge k code.length with h | h
        · exact h
        · rw [List.drop_eq_nil_of_le h] at hc; cases hc
      have hlf : k < F.length := by
        rcases Nat.lt_or_ge k F.length with h | h
        · exact h
        · rw [List.drop_eq_nil_of_le h] at hl; cases hl
      rw [List.drop_eq_getElem_cons hlt] at hc
      rw [List.drop_eq_getElem_cons hlf] at hl
      obtain ⟨hc1, hc2⟩ := List.cons.inj hc
      obtain ⟨hl1, hl2⟩ := List.cons.inj hl
      have hg : code.getD k ins0 = i.1 := by rw [List.getD_eq_getElem?_getD, List.getElem?_eq_getElem hlt]; exact hc1
      have hf : F.getD k 0 = no := by rw [List.getD_eq_getElem?_getD, List.getElem?_eq_getElem hlf]; exact hl1
      by_cases hj : jumpB i.1.op = true
      · simp only [if_pos hj, settleL]
        unfold jumpL
        simp only
        by_cases h0 : i.2 = []
        · simp only [if_pos h0]
          have hq : rightI (code.getD k ins0) code.length = decide (i.1.k ≤ (code.length : Int)) := by
            rw [hg]
            exact jump_regs hr hj i.1.k code.length (hk0 t i hr)
          rw [hq, hg]
          by_cases h3 : i.1.k ≤ (code.length : Int)
          · simp only [h3, decide_true, if_true]
            exact settle_ref2 lines names F hn hk0 ts (k + 1) (no + 1) code hok.2 hc2 hl2
          · simp only [h3, decide_false, Bool.false_eq_true, if_false]
            simp only [hf]
            rfl
        · simp only [if_neg h0, hn]
          cases hp : placeR lines i.2 0 with
          | none => simp only [hf]; rfl
          | some p =>
            simp only
            have hq : rightI ((setK code k p).getD k ins0) code.length = decide ((p : Int) ≤ (code.length : Int)) := by
              rw [setK_at code k p hlt, hg]
              exact jump_regs hr hj p code.length (by omega)
            rw [hq]
            by_cases h3 : (p : Int) ≤ (code.length : Int)
            · simp only [h3, decide_true, if_true]
              exact settle_ref2 lines names F hn hk0 ts (k + 1) (no + 1) (setK code k p) hok.2 (by rw [setK_drop]; exact hc2) hl2
            · simp only [h3, decide_false, Bool.false_eq_true, if_false]
              simp only [hf]
              rfl
      · simp only [if_neg hj]
        exact settle_ref2 lines names F hn hk0 ts (k + 1) (no + 1) code hok.2 hc2 hl2

theorem gath_lines : ∀ (ts done : List Bs) (st : St) (no : Nat), Gath done st → (linesL st ts no).1 = 0 → Gath (done ++ ts) (linesL st ts no).2.2
  | [], done, st, no, h, _ => by rw [List.append_nil]; exact h
  | t :: ts, done, st, no, h, h0 => by
    simp only [linesL] at h0 ⊢
    by_cases h1 : (stepL st t no).1 = 0
    · rw [if_pos h1] at h0 ⊢
      have := gath_lines ts (done ++ [t]) _ (no + 1) (gath_step h h1) h0
      rw [List.append_assoc] at this
      exact this
    · rw [if_neg h1] at h0
      exact absurd h0 h1

/-- what the reference's Parse answers -/
def rparse (s : Bs) : List Ins × Nat × Nat :=
  if 20000 < s.length then ([], 0, 4)
  else if (ref1 [] (parts 10 s) [] 1).1 = 0 then
    if (ref2 (parts 10 s) (parts 10 s) 0 (ref1 [] (parts 10 s) [] 1).2.2 1).1 = 0 then ((ref2 (parts 10 s) (parts 10 s) 0 (ref1 [] (parts 10 s) [] 1).2.2 1).2.2, 0, 0)
    else ([], (ref2 (parts 10 s) (parts 10 s) 0 (ref1 [] (parts 10 s) [] 1).2.2 1).2.1, 5)
  else ([], (ref1 [] (parts 10 s) [] 1).2.1, (ref1 [] (parts 10 s) [] 1).1)
theorem rparse_eq (s : Bs) (hk0 : ∀ t i, readL t = some i → 0 ≤ i.1.k) : rparse s = parseB s := by
  have h1 := ref1_eq (parts 10 s) [] st0 1 gath0
  rw [show st0.code = [] from rfl] at h1
  unfold rparse parseB
  by_cases hs : 20000 < s.length
  · rw [if_pos hs, if_pos hs]
  rw [if_neg hs, if_neg hs, h1]
  simp only
  by_cases h0 : (linesL st0 (parts 10 s) 1).1 = 0
  · rw [if_pos h0, if_pos h0]
    obtain ⟨a1, a2, a3, a4⟩ := lines_all (parts 10 s) st0 1 h0
    have hg := gath_lines (parts 10 s) [] st0 1 gath0 h0
    rw [List.nil_append] at hg
    rw [show st0.code = [] from rfl, List.nil_append] at a2
    rw [show st0.lines = [] from rfl, List.nil_append] at a3
    rw [show st0.jumps = [] from rfl, List.nil_append, show st0.code.length = 0 from rfl] at a4
    have hS := settle_ref2 (parts 10 s) (linesL st0 (parts 10 s) 1).2.2.names (linesL st0 (parts 10 s) 1).2.2.lines hg.nms hk0 (parts 10 s) 0 1 (linesL st0 (parts 10 s) 1).2.2.code a1 (by rw [a2]; rfl) (by rw [a3]; rfl)
    rw [← a4] at hS
    rw [hS]
  · rw [if_neg h0, if_neg h0]
end Go.Proofs.YtcfkcnkekdafgaaDoor
