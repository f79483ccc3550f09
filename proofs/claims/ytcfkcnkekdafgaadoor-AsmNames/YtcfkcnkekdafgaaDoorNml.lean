/-
  A code whose places have names, as text, is read as the code that it is. Lists alone: conditions as each law names.
-/
import Derived.Test.YtcfkcnkekdafgaaDoorNms
namespace Go.Proofs.YtcfkcnkekdafgaaDoor
set_option linter.unusedVariables false

/-- the lines of such a text -/
def blankN (bl n : Nat) : List Bs := if bl % 3 = n % 3 then [[]] else []
def linesN (name : Bs) (bl : Nat) : Nat → List Ins → List Bs
  | n, [] => (nmP name n ++ [58]) :: (blankN bl n ++ [[]])
  | n, i :: l => (nmP name n ++ [58]) :: (blankN bl n ++ lineN name i :: linesN name bl (n + 1) l)
theorem colon_not {s : Bs} (h : 10 ∉ s) : 10 ∉ s ++ [58] := fun q => by
  rcases List.mem_append.1 q with q | q
  · exact h q
  · revert q; decide
theorem head_parts (name : Bs) (bl n : Nat) (hn : 10 ∉ nmP name n) (t : Bs) : parts 10 (headN name bl n ++ t) = (nmP name n ++ [58]) :: (blankN bl n ++ parts 10 t) := by
  unfold headN blankN
  split
  · have e : nmP name n ++ [58, 10] ++ [10] ++ t = (nmP name n ++ [58]) ++ 10 :: ([] ++ 10 :: t) := by simp
    rw [e, parts_cut 10 _ _ (colon_not hn), parts_cut 10 [] t (by simp)]
    rfl
  · have e : nmP name n ++ [58, 10] ++ [] ++ t = (nmP name n ++ [58]) ++ 10 :: t := by simp
    rw [e, parts_cut 10 _ _ (colon_not hn)]
    rfl
theorem text_linesN (name : Bs) (bl : Nat) : ∀ (l : List Ins) (n : Nat), (∀ m, n ≤ m → m ≤ n + l.length → 10 ∉ nmP name m) → (∀ i ∈ l, 10 ∉ lineN name i) → parts 10 (textN name bl n l) = linesN name bl n l
  | [], n, hn, _ => by
    have := head_parts name bl n (hn n (Nat.le_refl _) (by simp)) []
    rw [List.append_nil] at this
    exact this
  | i :: l, n, hn, hl => by
    have e : textN name bl n (i :: l) = headN name bl n ++ (lineN name i ++ 10 :: textN name bl (n + 1) l) := by simp [textN]
    simp only [List.length_cons] at hn
    rw [e, head_parts name bl n (hn n (Nat.le_refl _) (by omega)), parts_cut 10 _ _ (hl i (by simp)), text_linesN name bl l (n + 1) (fun m h1 h2 => hn m (by omega) (by omega)) (fun j hj => hl j (by simp [hj]))]
    rfl

def namesN (name : Bs) : Nat → Nat → List (Bs × Nat)
  | n, 0 => [(nmP name n, n)]
  | n, k + 1 => (nmP name n, n) :: namesN name (n + 1) k
def jumpsN (name : Bs) : Nat → List Ins → List (Nat × Bs)
  | _, [] => []
  | n, i :: l => if hasB i.op 84 = true then (n, nmP name i.k.toNat) :: jumpsN name (n + 1) l else jumpsN name (n + 1) l
theorem look_app (xs : List (Bs × Nat)) (s t : Bs) (p : Nat) (h : s ≠ t) : look (xs ++ [(s, p)]) t = look xs t := by
  rw [look_append]
  cases look xs t with
  | none => simp [h]
  | some v => rfl

theorem step_label (st : St) (s : Bs) (no : Nat) (hs : isName s = true) (hl : look st.names s = none) : stepL st (s ++ [58]) no = (0, ⟨st.code, st.lines, st.names ++ [(s, st.code.length)], st.jumps⟩) := by
  have hsuf : Lib.hasSuffix (s ++ [58]) [58] = true := by rw [suffix_colon]; simp
  have htr : Lib.trimSuffix (s ++ [58]) [58] = s := by rw [trim_colon _ (by simp)]; simp
  unfold stepL
  rw [if_neg (by simp), if_pos hsuf, htr, hs, if_neg (by simp), hl, if_neg (by simp)]
theorem step_blank (st : St) (no : Nat) : stepL st [] no = (0, st) := by unfold stepL; rw [if_pos rfl]
theorem step_line (st : St) (name : Bs) (i : Ins) (no n : Nat) (hr : rightsI n i = true) (hk : i.ok) (hname : hasB i.op 84 = true → isName (nmP name i.k.toNat) = true) (hc : st.code.length < 4000) :
    stepL st (lineN name i) no = (0, ⟨st.code ++ [zI i], st.lines ++ [no], st.names, if hasB i.op 84 = true then st.jumps ++ [(st.code.length, nmP name i.k.toNat)] else st.jumps⟩) := by
  obtain ⟨r1, r2, r3, r4⟩ := read_either hr hk hname
  have hs : ¬ Lib.hasSuffix (lineN name i) [58] = true := fun q => by
    rw [suffix_colon] at q
    exact r4 (List.mem_of_getLast? q)
  have hj : jumpB (zI i).op = hasB i.op 84 := by
    obtain ⟨o, p, q, r, m, eo, ea, eb, ec, ek, ho, -⟩ := right_tells hr hk.1 hk.2
    have e : (zI i).op = i.op := by unfold zI; split <;> rfl
    rw [e, eo]
    exact (t_kinds ⟨o, ho⟩).2
  unfold stepL
  rw [if_neg r2, if_neg hs, r1]
  simp only
  rw [if_pos hc, hj]
  by_cases h : hasB i.op 84 = true
  · simp [h, toI]
  · simp [h]
theorem lines_blank (st : St) (bl n no : Nat) (ts : List Bs) : ∃ no', linesL st (blankN bl n ++ ts) no = linesL st ts no' := by
  unfold blankN
  split
  · refine ⟨no + 1, ?_⟩
    show linesL st ([] :: ts) no = _
    rw [linesL, step_blank, if_pos rfl]
  · exact ⟨no, rfl⟩
theorem lines_named (name : Bs) (bl size : Nat) : ∀ (l : List Ins) (st : St) (no : Nat), (∀ i ∈ l, (rightsI size i = true ∧ i.ok) ∧ (hasB i.op 84 = true → isName (nmP name i.k.toNat) = true)) → (∀ m, m ≤ st.code.length + l.length → isName (nmP name m) = true) →
    (∀ m, st.code.length ≤ m → m ≤ st.code.length + l.length → look st.names (nmP name m) = none) → st.code.length + l.length < 1000 →
    ∃ st', linesL st (linesN name bl st.code.length l) no = (0, 0, st') ∧ st'.code = st.code ++ l.map zI ∧ st'.jumps = st.jumps ++ jumpsN name st.code.length l ∧ st'.names = st.names ++ namesN name st.code.length l.length
  | [], st, no, _, hn, hl, hs => by
    have e := step_label st (nmP name st.code.length) no (hn _ (by simp)) (hl _ (Nat.le_refl _) (by simp))
    obtain ⟨no', e2⟩ := lines_blank ⟨st.code, st.lines, st.names ++ [(nmP name st.code.length, st.code.length)], st.jumps⟩ bl st.code.length (no + 1) [[]]
    refine ⟨⟨st.code, st.lines, st.names ++ [(nmP name st.code.length, st.code.length)], st.jumps⟩, ?_, by simp, by simp [jumpsN], by simp [namesN]⟩
    rw [linesN, linesL, e, if_pos rfl]
    simp only
    rw [e2, linesL, step_blank, if_pos rfl]
    rfl
  | i :: l, st, no, hi, hn, hl, hs => by
    simp only [List.length_cons] at hn hl hs
    have e := step_label st (nmP name st.code.length) no (hn _ (by omega)) (hl _ (Nat.le_refl _) (by omega))
    obtain ⟨no', e2⟩ := lines_blank ⟨st.code, st.lines, st.names ++ [(nmP name st.code.length, st.code.length)], st.jumps⟩ bl st.code.length (no + 1) (lineN name i :: linesN name bl (st.code.length + 1) l)
    have hi0 := hi i (by simp)
    have e3 := step_line ⟨st.code, st.lines, st.names ++ [(nmP name st.code.length, st.code.length)], st.jumps⟩ name i no' size hi0.1.1 hi0.1.2 hi0.2 (by show st.code.length < 4000; omega)
    obtain ⟨st', h1, h2, h3, h4⟩ := lines_named name bl size l (stepL ⟨st.code, st.lines, st.names ++ [(nmP name st.code.length, st.code.length)], st.jumps⟩ (lineN name i) no').2 (no' + 1) (fun j hj => hi j (by simp [hj]))
      (by rw [e3]; intro m hm; exact hn m (by simp at hm; omega))
      (by
        rw [e3]
        intro m hm1 hm2
        simp only [List.length_append, List.length_cons, List.length_nil] at hm1 hm2 ⊢
        show look (st.names ++ [(nmP name st.code.length, st.code.length)]) (nmP name m) = none
        rw [look_app _ _ _ _ (fun q => by have := nmP_inj (by omega) (by omega) q; omega)]
        exact hl m (by omega) (by omega))
      (by rw [e3]; simp; omega)
    rw [e3] at h1 h2 h3 h4
    simp only [List.length_append, List.length_cons, List.length_nil, Nat.zero_add] at h1 h2 h3 h4
    refine ⟨st', ?_, ?_, ?_, ?_⟩
    · rw [linesN, linesL, e, if_pos rfl]
      simp only
      rw [e2, linesL, e3, if_pos rfl]
      exact h1
    · rw [h2]; simp
    · rw [h3, jumpsN]
      by_cases h : hasB i.op 84 = true
      · simp [h]
      · simp [h]
    · rw [h4, List.length_cons]; simp [namesN]
theorem look_names (name : Bs) : ∀ (k n m : Nat), n ≤ m → m ≤ n + k → n + k < 1000 → look (namesN name n k) (nmP name m) = some m
  | 0, n, m, h1, h2, h3 => by
    obtain rfl : m = n := by omega
    simp [namesN, look]
  | k + 1, n, m, h1, h2, h3 => by
    rw [namesN, look]
    by_cases h : m = n
    · subst h; simp
    · rw [if_neg (fun q => h (nmP_inj (by omega) (by omega) q).symm)]
      exact look_names name k (n + 1) m (by omega) (by omega) (by omega)
theorem settle_named (name : Bs) (names : List (Bs × Nat)) (lines : List Nat) : ∀ (rest done : List Ins), (∀ i ∈ rest, rightsI (done.length + rest.length) i = true ∧ i.ok) → (∀ m, m ≤ done.length + rest.length → look names (nmP name m) = some m) →
    settleL names lines (jumpsN name done.length rest) (done ++ rest.map zI) = (0, 0, done ++ rest)
  | [], done, _, _ => by simp [jumpsN, settleL]
  | i :: rest, done, hr, hl => by
    simp only [List.length_cons] at hr hl
    have hi := hr i (by simp)
    have ih := settle_named name names lines rest (done ++ [i]) (by
      intro j hj
      have := hr j (by simp [hj])
      rw [List.length_append]
      simp only [List.length_cons, List.length_nil]
      rw [show done.length + (0 + 1) + rest.length = done.length + (rest.length + 1) by omega]
      exact this) (by
      intro m hm
      simp only [List.length_append, List.length_cons, List.length_nil] at hm
      exact hl m (by omega))
    simp only [List.length_append, List.length_cons, List.length_nil, Nat.zero_add, List.append_assoc, List.cons_append, List.nil_append] at ih
    by_cases h : hasB i.op 84 = true
    · obtain ⟨o, p, q, r, m, eo, ea, eb, ec, ek, ho, -⟩ := right_tells hi.1 hi.2.1 hi.2.2
      have hkm : m ≤ done.length + (rest.length + 1) := by
        have := t_le hi.1 hi.2 h
        omega
      have hlook := hl m hkm
      have ekn : i.k.toNat = m := by omega
      have ez : zI i = ⟨i.op, i.a, i.b, i.c, 0⟩ := by unfold zI; rw [if_pos h]
      have hat : (done ++ (zI i :: rest.map zI)).getD done.length ins0 = zI i := by simp [List.getD_eq_getElem?_getD]
      have hset : setK (done ++ (zI i :: rest.map zI)) done.length (m : Int) = done ++ (i :: rest.map zI) := by
        unfold setK
        rw [hat, ez]
        simp only
        rw [List.set_append_right _ _ (Nat.le_refl _), Nat.sub_self, List.set_cons_zero]
        congr 2
        rw [← ek]
      have hlen : (done ++ (zI i :: rest.map zI)).length = done.length + (rest.length + 1) := by simp
      have hj : jumpL names (done.length, nmP name m) (done ++ (zI i :: rest.map zI)) = (0, done ++ (i :: rest.map zI)) := by
        unfold jumpL
        rw [if_neg (by simp [nmP]), hlook]
        simp only
        rw [hset, if_pos]
        have e : (done ++ (i :: rest.map zI)).getD done.length ins0 = i := by simp [List.getD_eq_getElem?_getD]
        rw [e, hlen]
        exact hi.1
      rw [jumpsN, if_pos h, ekn, List.map_cons, settleL, hj, if_pos rfl]
      exact ih
    · have ez : zI i = i := by unfold zI; rw [if_neg h]
      rw [jumpsN, if_neg h, List.map_cons, ez]
      exact ih
/-- what places are called changes nothing -/
theorem parse_named (name : Bs) (bl : Nat) (l : List Ins) (hname : isName name = true) (hnl : name.length ≤ 10) (h4 : l.length ≤ 200) (hr : ∀ i ∈ l, rightsI l.length i = true) (hk : ∀ i ∈ l, i.ok) (hs : (textN name bl 0 l).length ≤ 20000) : parseB (textN name bl 0 l) = (l, 0, 0) := by
  have hN : ∀ m, m < 1000 → isName (nmP name m) = true := fun m hm => nmP_name hname hnl m hm
  have hN10 : ∀ m, m < 1000 → 10 ∉ nmP name m := fun m hm => name_not (hN m hm) (by decide) (by decide)
  have hT : ∀ i ∈ l, hasB i.op 84 = true → isName (nmP name i.k.toNat) = true := fun i hi h => hN _ (by have := t_le (hr i hi) (hk i hi) h; omega)
  have hp : parts 10 (textN name bl 0 l) = linesN name bl 0 l := text_linesN name bl l 0 (fun m _ h => hN10 m (by omega)) (fun i hi => (read_either (hr i hi) (hk i hi) (hT i hi)).2.2.1)
  obtain ⟨st', h1, h2, h3, h5⟩ := lines_named name bl l.length l st0 1 (fun i hi => ⟨⟨hr i hi, hk i hi⟩, hT i hi⟩) (fun m hm => hN m (by simp [st0] at hm; omega)) (fun m _ _ => rfl) (by simp [st0]; omega)
  rw [show st0.code.length = 0 from rfl] at h1 h3 h5
  rw [show st0.code ++ l.map zI = [] ++ l.map zI from rfl] at h2
  rw [show st0.jumps ++ jumpsN name 0 l = jumpsN name 0 l from rfl] at h3
  rw [show st0.names ++ namesN name 0 l.length = namesN name 0 l.length from rfl] at h5
  have hse := settle_named name st'.names st'.lines l [] (by simpa using fun i hi => ⟨hr i hi, hk i hi⟩) (by
    intro m hm
    rw [h5]
    exact look_names name l.length 0 m (Nat.zero_le _) (by simpa using hm) (by omega))
  unfold parseB
  rw [if_neg (by omega), hp, h1]
  simp only
  rw [if_pos trivial, h2, h3]
  rw [show ([] : List Ins).length = 0 from rfl] at hse
  rw [hse]
  simp
end Go.Proofs.YtcfkcnkekdafgaaDoor
