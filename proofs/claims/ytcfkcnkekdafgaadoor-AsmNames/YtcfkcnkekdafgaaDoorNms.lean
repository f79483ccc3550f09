/-
  Codes whose places have names, as text: what is read of it. Lists alone: no condition but that K is from 0 to 2^32 - 1 in each instruction, that the name is one, of at most ten bytes, and that there are at most 200 instructions.
-/
import Derived.Test.YtcfkcnkekdafgaaDoorBak
namespace Go.Proofs.YtcfkcnkekdafgaaDoor
set_option linter.unusedVariables false

/-- what a place is called -/
def nmP (name : Bs) (n : Nat) : Bs := name ++ [120] ++ digF 11 n
/-- a line whose place has a name -/
def lineN (name : Bs) (i : Ins) : Bs := if hasB i.op 84 = true then (lineI i).take ((lineI i).length - (digF 11 i.k.toNat).length) ++ nmP name i.k.toNat else lineI i
/-- what stands ahead of a line: the place's name, and perhaps a line without bytes -/
def headN (name : Bs) (bl n : Nat) : Bs := nmP name n ++ [58, 10] ++ (if bl % 3 = n % 3 then [10] else [])
def textN (name : Bs) (bl : Nat) : Nat → List Ins → Bs
  | n, [] => headN name bl n
  | n, i :: l => headN name bl n ++ lineN name i ++ [10] ++ textN name bl (n + 1) l

/-- digits tell numbers apart -/
theorem digF_inj {m n : Nat} (hm : m < 10 ^ 11) (hn : n < 10 ^ 11) (h : digF 11 m = digF 11 n) : m = n := by
  rw [← digF_val 10 m hm, ← digF_val 10 n hn, h]
theorem nmP_inj {name : Bs} {m n : Nat} (hm : m < 10 ^ 11) (hn : n < 10 ^ 11) (h : nmP name m = nmP name n) : m = n := by
  unfold nmP at h
  exact digF_inj hm hn (List.append_cancel_left h)
/-- a place's name is one -/
theorem letB_120 : letB 120 = true := by decide
theorem nmP_name {name : Bs} (h : isName name = true) (hl : name.length ≤ 10) (n : Nat) (hn : n < 1000) : isName (nmP name n) = true := by
  cases name with
  | nil => simp [isName] at h
  | cons x xs =>
    unfold isName at h
    simp only [Bool.and_eq_true, decide_eq_true_eq] at h
    obtain ⟨⟨h1, h2⟩, h3⟩ := h
    have hd : (digF 11 n).length ≤ 3 := by
      have e : digF 11 n = digF 3 n := by
        have := fun f hf => digF_more f n hf
        rw [digF_more 10 n (by omega) (by omega), digF_more 9 n (by omega) (by omega), digF_more 8 n (by omega) (by omega), digF_more 7 n (by omega) (by omega), digF_more 6 n (by omega) (by omega), digF_more 5 n (by omega) (by omega), digF_more 4 n (by omega) (by omega), digF_more 3 n (by omega) (by omega)]
      rw [e]
      exact digF_len 3 n
    show isName (x :: (xs ++ [120] ++ digF 11 n)) = true
    unfold isName
    simp only [Bool.and_eq_true, decide_eq_true_eq]
    refine ⟨⟨h1, ?_⟩, ?_⟩
    · rw [List.all_append, List.all_append, h2]
      have h4 : (digF 11 n).all (fun b => letB b || digB b) = true := by
        rw [List.all_eq_true]
        intro c hc
        rw [digF_dig 11 n c hc]
        simp
      rw [h4]
      simp [letB_120]
    · simp only [List.length_cons] at hl
      simp only [List.length_append, List.length_cons, List.length_nil]
      omega
theorem name_bytes {s : Bs} (h : isName s = true) : ∀ c ∈ s, letB c = true ∨ digB c = true := by
  cases s with
  | nil => intro c hc; cases hc
  | cons x xs =>
    unfold isName at h
    simp only [Bool.and_eq_true, decide_eq_true_eq] at h
    intro c hc
    rcases List.mem_cons.1 hc with rfl | hc
    · exact .inl h.1.1
    · have := List.all_eq_true.1 h.1.2 c hc
      simpa using this
theorem name_not {s : Bs} (h : isName s = true) {d : UInt8} (h1 : letB d = false) (h2 : digB d = false) : d ∉ s := fun q => by
  rcases name_bytes h d q with e | e
  · rw [h1] at e; cases e
  · rw [h2] at e; cases e

/-- the kinds that jump -/
theorem t_kinds : ∀ n : Fin 28, (hasB (n.val : Int) 84 = true ↔ n.val = 13 ∨ n.val = 14 ∨ n.val = 15) ∧ (jumpB (n.val : Int) = hasB (n.val : Int) 84) := by decide +kernel
theorem wk_t : wk 13 = [4] ∧ wk 14 = [0, 4] ∧ wk 15 = [0, 4] := by decide
theorem use_t : ∀ n : Fin 28, (n.val = 13 ∨ n.val = 14 ∨ n.val = 15) → kB n = 0 ∧ kC n = 0 ∧ kK n = 4 ∧ (n.val = 13 → kA n = 0) := by decide +kernel
theorem name_num {s : Bs} (h : isName s = true) : numOf s = none := by
  cases e : numOf s with
  | none => rfl
  | some k => rw [num_no_name e] at h; cases h
theorem place_name {s : Bs} (h : isName s = true) : placeOf ([64] ++ s) = some (0, s) := by
  show placeOf (64 :: s) = _
  rw [placeOf_ref, name_num h]
  simp only
  rw [if_pos h]
theorem join_two (a b : Bs) : Lib.join [a, b] [32] = a ++ [32] ++ b := by simp [Lib.join_cons, Lib.joinTail]
theorem join_three (a b c : Bs) : Lib.join [a, b, c] [32] = a ++ [32] ++ b ++ [32] ++ c := by simp [Lib.join_cons, Lib.joinTail]
theorem cut_tail (x d : Bs) : (x ++ d).take ((x ++ d).length - d.length) = x := by simp

/-- what is left of an instruction whose place has a name, ahead of the place -/
def zI (i : Ins) : Ins := if hasB i.op 84 = true then ⟨i.op, i.a, i.b, i.c, 0⟩ else i
def toI (name : Bs) (i : Ins) : Bs := if hasB i.op 84 = true then nmP name i.k.toNat else []
theorem readL_words {t : Bs} {o : Nat} {ts : List Bs} (ho : o < 28) (hp : parts 32 t = (nameB (o : Int)).data.toList :: ts) (hl : ts.length = (wk o).length) : readL t = takeAll (wk o) ts (⟨(o : Int), 0, 0, 0, 0⟩, []) := by
  obtain ⟨n1, n2, -⟩ := name_known ⟨o, ho⟩
  simp only at n1 n2
  have en : (⟨(((nameB (o : Int)).data.toList :: ts).headD []).toArray⟩ : ByteArray) = nameB (o : Int) := by
    show (⟨((nameB (o : Int)).data.toList).toArray⟩ : ByteArray) = nameB (o : Int)
    simp
  have et : ((nameB (o : Int)).data.toList :: ts).tail = ts := rfl
  unfold readL
  rw [hp, en, n1, n2, show ((o : Int)).toNat = o from rfl, et, if_pos ⟨rfl, hl⟩]
theorem read_named {name : Bs} {i : Ins} {n : Nat} (hr : rightsI n i = true) (hk : i.ok) (hn : hasB i.op 84 = true) (hname : isName (nmP name i.k.toNat) = true) :
    readL (lineN name i) = some (zI i, toI name i) ∧ lineN name i ≠ [] ∧ 10 ∉ lineN name i ∧ 58 ∉ lineN name i := by
  have hT := hn
  unfold lineN zI toI
  rw [if_pos hn, if_pos hn, if_pos hn]
  obtain ⟨o, p, q, r, m, eo, ea, eb, ec, ek, ho, hp8, hq8, hr8, hm, hTell⟩ := right_tells hr hk.1 hk.2
  obtain ⟨iop, ia, ib, ic, ik⟩ := i
  simp only at eo ea eb ec ek hname
  subst eo ea eb ec ek
  have ho3 := ((t_kinds ⟨o, ho⟩).1).1 hn
  simp only at ho3
  obtain ⟨n1, n2, n3, n4, n5, n6⟩ := name_known ⟨o, ho⟩
  simp only at n1 n2 n3 n4 n5 n6
  have hR : rightB (o : Int) p q r m n = true := hr
  unfold rightB at hR
  simp only [Bool.and_eq_true, show ((o : Int)).toNat = o from rfl] at hR
  obtain ⟨hi, ⟨⟨ha, hb⟩, hc⟩, hkk⟩ := hR
  obtain ⟨ub, uc, uk, ua⟩ := use_t ⟨o, ho⟩ ho3
  simp only at ub uc uk ua
  rw [ub] at hb
  rw [uc] at hc
  have hq0 := fits_zero hb
  have hr0 := fits_zero hc
  have hli : lineI ⟨(o : Int), p, q, r, m⟩ = Lib.join (toldL o p q r m (wk o)) [32] := by
    rw [← line_eq o p q r m ho]
    rfl
  have N32 : 32 ∉ nmP name m := name_not hname (by decide) (by decide)
  have N10 : 10 ∉ nmP name m := name_not hname (by decide) (by decide)
  have N58 : 58 ∉ nmP name m := name_not hname (by decide) (by decide)
  rw [show ((m : Int)).toNat = m from rfl] at hname
  have en : (⟨(nameB (o : Int)).data.toList.toArray⟩ : ByteArray) = nameB (o : Int) := by simp
  have hne : nmP name m ≠ [] := by simp [nmP]
  rcases ho3 with rfl | ho3
  · have ea : lineI ⟨((13 : Nat) : Int), p, q, r, m⟩ = ((nameB ((13 : Nat) : Int)).data.toList ++ [32] ++ [64]) ++ digF 11 m := by
      rw [hli, wk_t.1]
      simp only [toldL, List.map_cons, List.map_nil]
      rw [join_two]
      simp [tellW]
    have hp0 := fits_zero (by rw [ua rfl] at ha; exact ha)
    rw [show ((m : Int)).toNat = m from rfl, ea, cut_tail]
    have eb : (nameB ((13 : Nat) : Int)).data.toList ++ [32] ++ [64] ++ nmP name m = Lib.join [(nameB ((13 : Nat) : Int)).data.toList, [64] ++ nmP name m] [32] := by rw [join_two]; simp
    rw [eb]
    have hparts := parts_join 32 [(nameB ((13 : Nat) : Int)).data.toList, [64] ++ nmP name m] (by simp) (by
      intro w hw
      simp only [List.mem_cons, List.not_mem_nil, or_false] at hw
      rcases hw with rfl | rfl
      · exact n4
      · intro h
        rcases List.mem_append.1 h with h | h
        · revert h; decide
        · exact N32 h)
    refine ⟨?_, ?_, ?_, ?_⟩
    · rw [readL_words (by omega) hparts (by rw [wk_t.1]; rfl), wk_t.1]
      simp only [takeAll, takeW, place_name hname]
      simp [hne, hp0, hq0, hr0]
    · rw [join_two]; simp
    · intro h
      rcases mem_join 10 _ h with h | ⟨w, hw, hd⟩
      · revert h; decide
      · simp only [List.mem_cons, List.not_mem_nil, or_false] at hw
        rcases hw with rfl | rfl
        · exact n5 hd
        · rcases List.mem_append.1 hd with h | h
          · revert h; decide
          · exact N10 h
    · intro h
      rcases mem_join 58 _ h with h | ⟨w, hw, hd⟩
      · revert h; decide
      · simp only [List.mem_cons, List.not_mem_nil, or_false] at hw
        rcases hw with rfl | rfl
        · exact n6 hd
        · rcases List.mem_append.1 hd with h | h
          · revert h; decide
          · exact N58 h
  · have hwk : wk o = [0, 4] := by
      rcases ho3 with rfl | rfl
      · exact wk_t.2.1
      · exact wk_t.2.2
    have hp7 : p < 8 := (hTell 0 (by rw [hwk]; simp)).1 rfl
    have hreg := reg_dig ⟨p, hp7⟩
    simp only at hreg
    have ea : lineI ⟨(o : Int), p, q, r, m⟩ = ((nameB (o : Int)).data.toList ++ [32] ++ ([114] ++ digF 11 p) ++ [32] ++ [64]) ++ digF 11 m := by
      rw [hli, hwk]
      simp only [toldL, List.map_cons, List.map_nil]
      rw [join_three]
      simp [tellW]
    rw [show ((m : Int)).toNat = m from rfl, ea, cut_tail]
    have eb : (nameB (o : Int)).data.toList ++ [32] ++ ([114] ++ digF 11 p) ++ [32] ++ [64] ++ nmP name m = Lib.join [(nameB (o : Int)).data.toList, [114] ++ digF 11 p, [64] ++ nmP name m] [32] := by rw [join_three]; simp
    rw [eb]
    have R : ∀ d : UInt8, plainB d = false → d ∉ [114] ++ digF 11 p := by
      intro d hd h
      rcases List.mem_append.1 h with h | h
      · rw [List.mem_singleton] at h
        rw [h] at hd
        revert hd; decide
      · have := List.all_eq_true.1 (dig_plain 11 p) d h
        rw [hd] at this
        cases this
    have hparts := parts_join 32 [(nameB (o : Int)).data.toList, [114] ++ digF 11 p, [64] ++ nmP name m] (by simp) (by
      intro w hw
      simp only [List.mem_cons, List.not_mem_nil, or_false] at hw
      rcases hw with rfl | rfl | rfl
      · exact n4
      · exact R 32 (by decide)
      · intro h
        rcases List.mem_append.1 h with h | h
        · revert h; decide
        · exact N32 h)
    refine ⟨?_, ?_, ?_, ?_⟩
    · rw [readL_words ho hparts (by rw [hwk]; rfl), hwk]
      simp only [takeAll, takeW, place_name hname, hreg.1]
      simp [hne, hq0, hr0]
    · rw [join_three]; simp [n3]
    · intro h
      rcases mem_join 10 _ h with h | ⟨w, hw, hd⟩
      · revert h; decide
      · simp only [List.mem_cons, List.not_mem_nil, or_false] at hw
        rcases hw with rfl | rfl | rfl
        · exact n5 hd
        · exact R 10 (by decide) hd
        · rcases List.mem_append.1 hd with h | h
          · revert h; decide
          · exact N10 h
    · intro h
      rcases mem_join 58 _ h with h | ⟨w, hw, hd⟩
      · revert h; decide
      · simp only [List.mem_cons, List.not_mem_nil, or_false] at hw
        rcases hw with rfl | rfl | rfl
        · exact n6 hd
        · exact R 58 (by decide) hd
        · rcases List.mem_append.1 hd with h | h
          · revert h; decide
          · exact N58 h
/-- a place is at most as great as the code -/
theorem t_le {n : Nat} {i : Ins} (hr : rightsI n i = true) (hk : i.ok) (h : hasB i.op 84 = true) : i.k.toNat ≤ n := by
  obtain ⟨o, p, q, r, m, eo, ea, eb, ec, ek, ho, -⟩ := right_tells hr hk.1 hk.2
  have hR : rightB i.op i.a i.b i.c i.k (n : Int) = true := hr
  unfold rightB at hR
  rw [eo] at h hR
  have ho3 := ((t_kinds ⟨o, ho⟩).1).1 h
  have uk := (use_t ⟨o, ho⟩ ho3).2.2.1
  simp only [Bool.and_eq_true, show ((o : Int)).toNat = o from rfl] at hR uk
  obtain ⟨-, -, hkk⟩ := hR
  rw [uk, ek] at hkk
  unfold holdsB at hkk
  simp at hkk
  omega
theorem read_either {name : Bs} {i : Ins} {n : Nat} (hr : rightsI n i = true) (hk : i.ok) (hname : hasB i.op 84 = true → isName (nmP name i.k.toNat) = true) :
    readL (lineN name i) = some (zI i, toI name i) ∧ lineN name i ≠ [] ∧ 10 ∉ lineN name i ∧ 58 ∉ lineN name i := by
  by_cases h : hasB i.op 84 = true
  · exact read_named hr hk h (hname h)
  · have := read_line hr hk
    unfold lineN zI toI
    rw [if_neg h, if_neg h, if_neg h]
    exact this
end Go.Proofs.YtcfkcnkekdafgaaDoor
