/-
  What is printed is read as it was: of any code whose instructions may all stand in it, the text is read as that code, if it is not too long. Lists alone: no condition but that K is from 0 to 2^32 - 1 in each.
-/
import Derived.Test.YtcfkcnkekdafgaaDoorRefa
import Derived.Test.YtcfkcnkekdafgaaDoorRefr
import Derived.Test.YtcfkcnkekdafgaaDoorRefh
import Derived.Test.YtcfkcnkekdafgaaDoorLeq
import Derived.Test.YtcfkcnkekdafgaaDoorPrnt
import Derived.Test.YtcfkcnkekdafgaaDoorRrig
namespace Go.Proofs.YtcfkcnkekdafgaaDoor
set_option linter.unusedVariables false

/-- digits, and what they spell -/
theorem digD_all : ∀ n : Fin 10, digB (digD n) = true ∧ (digD n).toNat - 48 = n ∧ (0 < n.val → digD n ≠ 48) := by decide +kernel
theorem digF_dig : ∀ (f n : Nat), ∀ c ∈ digF f n, digB c = true
  | 0, n, c, h => by simp [digF] at h
  | f + 1, n, c, h => by
    rw [digF] at h
    split at h
    · rename_i hn
      rw [List.mem_singleton] at h
      rw [h]
      exact (digD_all ⟨n, hn⟩).1
    · rcases List.mem_append.1 h with h | h
      · exact digF_dig f _ c h
      · rw [List.mem_singleton] at h
        rw [h]
        exact (digD_all ⟨n % 10, by omega⟩).1
theorem digF_ne (f n : Nat) : digF (f + 1) n ≠ [] := by
  rw [digF]
  split <;> simp
theorem digF_val : ∀ (f n : Nat), n < 10 ^ (f + 1) → decV 0 (digF (f + 1) n) = n
  | 0, n, h => by
    have hn : n < 10 := by simpa using h
    rw [digF, if_pos hn]
    show 0 * 10 + ((digD n).toNat - 48) = n
    have := (digD_all ⟨n, hn⟩).2.1
    simp only at this
    omega
  | f + 1, n, h => by
    rw [digF]
    split
    · rename_i hn
      show 0 * 10 + ((digD n).toNat - 48) = n
      have := (digD_all ⟨n, hn⟩).2.1
      simp only at this
      omega
    · have h3 : n / 10 < 10 ^ (f + 1) := by rw [Nat.div_lt_iff_lt_mul (by omega)]; rw [Nat.pow_succ] at h; omega
      rw [decV_snoc, digF_val f (n / 10) h3]
      have := (digD_all ⟨n % 10, by omega⟩).2.1
      simp only at this
      omega
theorem digF_head : ∀ (f n : Nat), 0 < n → n < 10 ^ (f + 1) → (digF (f + 1) n).head? ≠ some 48
  | 0, n, h0, h => by
    have hn : n < 10 := by simpa using h
    rw [digF, if_pos hn]
    have := (digD_all ⟨n, hn⟩).2.2 h0
    simpa using this
  | f + 1, n, h0, h => by
    rw [digF]
    split
    · rename_i hn
      have := (digD_all ⟨n, hn⟩).2.2 h0
      simpa using this
    · have h3 : n / 10 < 10 ^ (f + 1) := by rw [Nat.div_lt_iff_lt_mul (by omega)]; rw [Nat.pow_succ] at h; omega
      have ih := digF_head f (n / 10) (by omega) h3
      have hne := digF_ne f (n / 10)
      cases e : digF (f + 1) (n / 10) with
      | nil => exact absurd e hne
      | cons x xs => rw [e] at ih; simpa using ih
theorem num_dig (k : Nat) (h : k < 4294967296) : numOf (digF 11 k) = some k := by
  have hp : k < 10 ^ (10 + 1) := by omega
  have hv := digF_val 10 k hp
  have := numOf_ok (digF_ne 10 k) (digF_dig 11 k) (by rw [hv]; omega) (by
    rcases Nat.eq_zero_or_pos k with h0 | h0
    · subst h0; exact .inl rfl
    · exact .inr (digF_head 10 k h0 hp))
  rw [this, hv]
theorem reg_dig : ∀ n : Fin 8, regOf ([114] ++ digF 11 n) = some n.val ∧ digF 11 n.val = [digD n] := by decide +kernel
theorem dig_not {d : UInt8} (hd : digB d = false) (f n : Nat) : d ∉ digF f n := fun h => by have := digF_dig f n d h; rw [hd] at this; cases this
theorem place_dig (k : Nat) (h : k < 4294967296) : placeOf ([64] ++ digF 11 k) = some (k, []) := by
  show placeOf (64 :: digF 11 k) = _
  rw [placeOf_ref, num_dig k h]
theorem addr_dig (b k : Nat) (hb : b ≤ 8) (h : k < 4294967296) : addrOf (tellW 5 0 b 0 k) = some (b, k) := by
  by_cases h8 : b = 8
  · have e : tellW 5 0 b 0 k = 91 :: (digF 11 k ++ [93]) := by simp [tellW, h8]
    rw [e, addr_mid, cut_none (dig_not (by decide) 11 k)]
    simp [num_dig k h, h8]
  · have hr := reg_dig ⟨b, by omega⟩
    simp only at hr
    have e : tellW 5 0 b 0 k = 91 :: (([114, digD b] ++ 43 :: digF 11 k) ++ [93]) := by simp [tellW, h8, hr.2]
    have hc : Lib.cut ([114, digD b] ++ 43 :: digF 11 k) [43] = ([114, digD b], digF 11 k, true) := by
      have hd : digD b ≠ 43 := by
        intro q
        have := (digD_all ⟨b, by omega⟩).1
        simp only at this
        rw [q] at this
        revert this
        decide
      rw [cut_some (k := 2) (by simp) (fun j hj => by
        rcases (by omega : j = 0 ∨ j = 1) with rfl | rfl
        · simp
        · simpa using hd)]
      simp
    rw [e, addr_mid, hc]
    have h1 : regOf [114, digD b] = some b := by have := hr.1; rw [hr.2] at this; exact this
    simp [h1, num_dig k h]
theorem tell5 (a b c k : Nat) : tellW 5 a b c k = tellW 5 0 b 0 k := by simp [tellW]

/-- what a word of a kind sets -/
def setW (a b c k : Nat) (i : Ins × Bs) (x : Nat) : Ins × Bs :=
  if x = 0 then (⟨i.1.op, a, i.1.b, i.1.c, i.1.k⟩, i.2)
  else if x = 1 then (⟨i.1.op, i.1.a, b, i.1.c, i.1.k⟩, i.2)
  else if x = 2 then (⟨i.1.op, i.1.a, i.1.b, c, i.1.k⟩, i.2)
  else if x = 5 then (⟨i.1.op, i.1.a, b, i.1.c, k⟩, i.2)
  else (⟨i.1.op, i.1.a, i.1.b, i.1.c, k⟩, i.2)
theorem take_tell (x a b c k : Nat) (hx : x < 6) (h : TellOk x a b c k) (i : Ins × Bs) : takeW x (tellW x a b c k) i = some (setW a b c k i x) := by
  obtain ⟨h0, h1, h2, h5, hk⟩ := h
  rcases (by omega : x = 0 ∨ x = 1 ∨ x = 2 ∨ x = 3 ∨ x = 4 ∨ x = 5) with rfl | rfl | rfl | rfl | rfl | rfl
  · have := (reg_dig ⟨a, h0 rfl⟩).1
    simp only at this
    simp [takeW, tellW, setW] at this ⊢
    rw [this]; rfl
  · have := (reg_dig ⟨b, h1 rfl⟩).1
    simp only at this
    simp [takeW, tellW, setW] at this ⊢
    rw [this]; rfl
  · have := (reg_dig ⟨c, h2 rfl⟩).1
    simp only at this
    simp [takeW, tellW, setW] at this ⊢
    rw [this]; rfl
  · have := num_dig k hk
    simp [takeW, tellW, setW, this]
  · have := place_dig k hk
    simp [takeW, tellW, setW] at this ⊢
    rw [this]
    exact ⟨k, [], rfl, if_pos rfl⟩
  · have := addr_dig b k (h5 rfl) hk
    rw [tell5]
    simp [takeW, setW, this]
theorem take_tells (a b c k : Nat) : ∀ (ks : List Nat) (i : Ins × Bs), (∀ x ∈ ks, x < 6 ∧ TellOk x a b c k) → takeAll ks (ks.map fun x => tellW x a b c k) i = some (ks.foldl (setW a b c k) i)
  | [], i, _ => rfl
  | x :: ks, i, h => by
    show (takeW x (tellW x a b c k) i).bind (takeAll ks _) = _
    rw [take_tell x a b c k (h x (by simp)).1 (h x (by simp)).2 i]
    exact take_tells a b c k ks _ (fun y hy => h y (by simp [hy]))
theorem fold_set (a b c k : Nat) : ∀ (ks : List Nat) (i : Ins × Bs), ks.foldl (setW a b c k) i =
    (⟨i.1.op, if 0 ∈ ks then (a : Int) else i.1.a, if 1 ∈ ks ∨ 5 ∈ ks then (b : Int) else i.1.b, if 2 ∈ ks then (c : Int) else i.1.c, if ks.any (fun x => decide (3 ≤ x)) then (k : Int) else i.1.k⟩, i.2)
  | [], i => by simp
  | x :: ks, i => by
    rw [List.foldl_cons, fold_set a b c k ks]
    unfold setW
    by_cases h0 : x = 0
    · subst h0; simp
    by_cases h1 : x = 1
    · subst h1; simp
    by_cases h2 : x = 2
    · subst h2; simp
    by_cases h5 : x = 5
    · subst h5; simp
    have h3 : 3 ≤ x := by omega
    have e0 : ¬ 0 = x := fun q => h0 q.symm
    have e1 : ¬ 1 = x := fun q => h1 q.symm
    have e2 : ¬ 2 = x := fun q => h2 q.symm
    have e5 : ¬ 5 = x := fun q => h5 q.symm
    simp [h0, h1, h2, h5, h3, e0, e1, e2, e5]
/-- the fields that a kind's words do not tell are 0 -/
theorem untold : ∀ n : Fin 28, (0 ∉ wk n → kA n = 0) ∧ (1 ∉ wk n → 5 ∉ wk n → kB n = 0) ∧ (2 ∉ wk n → kC n = 0) ∧ ((wk n).any (fun x => decide (3 ≤ x)) = false → kK n ≠ 3 ∧ kK n ≠ 4) ∧ (∀ x ∈ wk n, x < 6) := by decide +kernel
theorem name_known : ∀ n : Fin 28, numB (nameB (n.val : Int)) = (n.val : Int) ∧ knownB (nameB (n.val : Int)) = true ∧ (nameB (n.val : Int)).data.toList ≠ [] ∧ 32 ∉ (nameB (n.val : Int)).data.toList ∧ 10 ∉ (nameB (n.val : Int)).data.toList ∧ 58 ∉ (nameB (n.val : Int)).data.toList := by decide +kernel

def plainB (d : UInt8) : Bool := digB d || (d == 114 || d == 64 || d == 91 || d == 43 || d == 93)
theorem dig_plain (f n : Nat) : (digF f n).all plainB = true := by
  rw [List.all_eq_true]
  intro c hc
  unfold plainB
  rw [digF_dig f n c hc]
  rfl
theorem tell_plain (x a b c k : Nat) : (tellW x a b c k).all plainB = true := by
  have p1 : plainB 114 = true := by decide
  have p2 : plainB 64 = true := by decide
  have p3 : plainB 91 = true := by decide
  have p4 : plainB 43 = true := by decide
  have p5 : plainB 93 = true := by decide
  unfold tellW
  repeat' split
  all_goals simp only [List.all_append, List.all_cons, List.all_nil, dig_plain, p1, p2, p3, p4, p5, Bool.and_self]
theorem tell_not {d : UInt8} (h : plainB d = false) (x a b c k : Nat) : d ∉ tellW x a b c k := fun q => by
  have := List.all_eq_true.1 (tell_plain x a b c k) d q
  rw [h] at this
  cases this
theorem parts_join (c : UInt8) : ∀ (ws : List Bs), ws ≠ [] → (∀ w ∈ ws, c ∉ w) → parts c (Lib.join ws [c]) = ws
  | [], h, _ => absurd rfl h
  | [w], _, h => by rw [Lib.join_one]; exact parts_free c w (h w (by simp))
  | w :: v :: r, _, h => by
    have e : Lib.join (w :: v :: r) [c] = w ++ c :: Lib.join (v :: r) [c] := by
      rw [Lib.join_cons, Lib.join_cons]
      simp [Lib.joinTail]
    rw [e, parts_cut c w _ (h w (by simp)), parts_join c (v :: r) (by simp) (fun u hu => h u (by simp [hu]))]
theorem mem_join (d : UInt8) : ∀ (ws : List Bs), d ∈ Lib.join ws [32] → d = 32 ∨ ∃ w ∈ ws, d ∈ w
  | [], h => by simp [Lib.join, List.intercalate] at h
  | [w], h => by rw [Lib.join_one] at h; exact .inr ⟨w, by simp, h⟩
  | w :: v :: r, h => by
    have e : Lib.join (w :: v :: r) [32] = w ++ 32 :: Lib.join (v :: r) [32] := by
      rw [Lib.join_cons, Lib.join_cons]
      simp [Lib.joinTail]
    rw [e] at h
    rcases List.mem_append.1 h with h | h
    · exact .inr ⟨w, by simp, h⟩
    · rcases List.mem_cons.1 h with h | h
      · exact .inl h
      · rcases mem_join d (v :: r) h with h | ⟨u, hu, hd⟩
        · exact .inl h
        · exact .inr ⟨u, by simp [hu], hd⟩

theorem told_ne {d : UInt8} (h : plainB d = false) {o : Nat} (ho : d ∉ (nameB (o : Int)).data.toList) (p q r m : Nat) (ks : List Nat) : ∀ w ∈ toldL o p q r m ks, d ∉ w := by
  intro w hw
  unfold toldL at hw
  rcases List.mem_cons.1 hw with rfl | hw
  · exact ho
  · obtain ⟨x, _, rfl⟩ := List.mem_map.1 hw
    exact tell_not h x p q r m
theorem fits_zero {n : Int} (h : fitsB 0 n = true) : n = 0 := by
  rw [fits0] at h
  unfold limB at h
  simp at h
  omega

theorem read_line {i : Ins} {n : Nat} (hr : rightsI n i = true) (hk : i.ok) : readL (lineI i) = some (i, []) ∧ lineI i ≠ [] ∧ 10 ∉ lineI i ∧ 58 ∉ lineI i := by
  obtain ⟨o, p, q, r, m, eo, ea, eb, ec, ek, ho, hp8, hq8, hr8, hm, hT⟩ := right_tells hr hk.1 hk.2
  obtain ⟨iop, ia, ib, ic, ik⟩ := i
  simp only at eo ea eb ec ek
  subst eo ea eb ec ek
  obtain ⟨n1, n2, n3, n4, n5, n6⟩ := name_known ⟨o, ho⟩
  obtain ⟨u1, u2, u3, u4, u5⟩ := untold ⟨o, ho⟩
  simp only at n1 n2 n3 n4 n5 n6 u1 u2 u3 u4 u5
  have hli : lineI ⟨(o : Int), p, q, r, m⟩ = Lib.join (toldL o p q r m (wk o)) [32] := by
    rw [← line_eq o p q r m ho]
    rfl
  rw [hli]
  have hp32 := told_ne (d := 32) (by decide) n4 p q r m (wk o)
  have hparts : parts 32 (Lib.join (toldL o p q r m (wk o)) [32]) = toldL o p q r m (wk o) := parts_join 32 _ (by simp [toldL]) hp32
  refine ⟨?_, ?_, ?_, ?_⟩
  · have en : (⟨((toldL o p q r m (wk o)).headD []).toArray⟩ : ByteArray) = nameB (o : Int) := by
      show (⟨((nameB (o : Int)).data.toList).toArray⟩ : ByteArray) = nameB (o : Int)
      simp
    unfold readL
    rw [hparts, en, n1, n2, show ((o : Int)).toNat = o from rfl]
    have et : (toldL o p q r m (wk o)).tail = (wk o).map fun x => tellW x p q r m := rfl
    rw [et, if_pos ⟨rfl, by simp⟩, take_tells p q r m (wk o) _ (fun x hx => ⟨u5 x hx, hT x hx⟩), fold_set]
    have hR : rightB (o : Int) p q r m n = true := hr
    unfold rightB at hR
    simp only [Bool.and_eq_true, show ((o : Int)).toNat = o from rfl] at hR
    obtain ⟨hi, ⟨⟨ha, hb⟩, hc⟩, hkk⟩ := hR
    simp only [Option.some.injEq, Prod.mk.injEq, and_true, Ins.mk.injEq, true_and]
    refine ⟨?_, ?_, ?_, ?_⟩
    · by_cases h0 : 0 ∈ wk o
      · rw [if_pos h0]
      · rw [if_neg h0]
        rw [u1 h0] at ha
        exact (fits_zero ha).symm
    · by_cases h1 : 1 ∈ wk o ∨ 5 ∈ wk o
      · rw [if_pos h1]
      · rw [if_neg h1]
        rw [u2 (fun q => h1 (.inl q)) (fun q => h1 (.inr q))] at hb
        exact (fits_zero hb).symm
    · by_cases h0 : 2 ∈ wk o
      · rw [if_pos h0]
      · rw [if_neg h0]
        rw [u3 h0] at hc
        exact (fits_zero hc).symm
    · cases h3 : (wk o).any (fun x => decide (3 ≤ x))
      · obtain ⟨k3, k4⟩ := u4 h3
        unfold holdsB at hkk
        rw [if_neg k3, if_neg k4] at hkk
        simp at hkk
        simp [hkk]
      · rfl
  · intro h
    have e : Lib.join (toldL o p q r m (wk o)) [32] = (nameB (o : Int)).data.toList ++ Lib.joinTail [32] ((wk o).map fun x => tellW x p q r m) := Lib.join_cons _ _ _
    rw [e] at h
    exact n3 (List.append_eq_nil_iff.1 h).1
  · intro h
    rcases mem_join 10 _ h with h | ⟨w, hw, hd⟩
    · revert h; decide
    · exact told_ne (d := 10) (by decide) n5 p q r m (wk o) w hw hd
  · intro h
    rcases mem_join 58 _ h with h | ⟨w, hw, hd⟩
    · revert h; decide
    · exact told_ne (d := 58) (by decide) n6 p q r m (wk o) w hw hd

/-- a printed text's lines -/
theorem text_parts : ∀ (l : List Ins), (∀ i ∈ l, 10 ∉ lineI i) → parts 10 (textL l) = l.map lineI ++ [[]]
  | [], _ => rfl
  | i :: l, h => by
    have e : textL (i :: l) = lineI i ++ 10 :: textL l := by simp [textL]
    rw [e, parts_cut 10 _ _ (h i (by simp)), text_parts l (fun j hj => h j (by simp [hj]))]
    rfl
theorem lines_back (n : Nat) : ∀ (l : List Ins) (st : St) (no : Nat), (∀ i ∈ l, rightsI n i = true ∧ i.ok) → st.code.length + l.length ≤ 4000 → ∃ st', linesL st (l.map lineI ++ [[]]) no = (0, 0, st') ∧ st'.code = st.code ++ l ∧
    ∀ j ∈ st'.jumps, j ∈ st.jumps ∨ (j.2 = [] ∧ j.1 < st.code.length + l.length)
  | [], st, no, _, _ => by
    refine ⟨st, ?_, by simp, fun j hj => .inl hj⟩
    simp [linesL, stepL]
  | i :: l, st, no, h, hl => by
    obtain ⟨r1, r2, r3, r4⟩ := read_line (h i (by simp)).1 (h i (by simp)).2
    simp only [List.length_cons] at hl
    have hs : ¬ Lib.hasSuffix (lineI i) [58] = true := fun q => by
      rw [suffix_colon] at q
      exact r4 (List.mem_of_getLast? q)
    have e : stepL st (lineI i) no = (0, ⟨st.code ++ [i], st.lines ++ [no], st.names, if jumpB i.op = true then st.jumps ++ [(st.code.length, [])] else st.jumps⟩) := by
      unfold stepL
      rw [if_neg r2, if_neg hs, r1]
      simp only
      rw [if_pos (by omega)]
    obtain ⟨st', h1, h2, h3⟩ := lines_back n l (stepL st (lineI i) no).2 (no + 1) (fun j hj => h j (by simp [hj])) (by rw [e]; simp; omega)
    refine ⟨st', ?_, ?_, ?_⟩
    · rw [List.map_cons, List.cons_append, linesL, if_pos (by rw [e])]
      exact h1
    · rw [h2, e]
      simp
    · intro j hj
      rcases h3 j hj with h4 | ⟨h4, h5⟩
      · rw [e] at h4
        simp only at h4
        split at h4
        · rcases List.mem_append.1 h4 with h4 | h4
          · exact .inl h4
          · rw [List.mem_singleton] at h4
            subst h4
            exact .inr ⟨rfl, by simp⟩
        · exact .inl h4
      · rw [e] at h5
        simp only [List.length_append, List.length_cons, List.length_nil] at h5 ⊢
        exact .inr ⟨h4, by omega⟩
theorem settle_back (names : List (Bs × Nat)) (lines : List Nat) (code : List Ins) (hr : ∀ i ∈ code, rightsI code.length i = true) : ∀ (js : List (Nat × Bs)), (∀ j ∈ js, j.2 = [] ∧ j.1 < code.length) → settleL names lines js code = (0, 0, code)
  | [], _ => rfl
  | j :: js, h => by
    obtain ⟨h1, h2⟩ := h j (by simp)
    have e : jumpL names j code = (0, code) := by
      unfold jumpL
      rw [if_pos h1, if_pos]
      have e : code.getD j.1 ins0 = code[j.1] := by rw [List.getD_eq_getElem?_getD, List.getElem?_eq_getElem h2]; rfl
      rw [e]
      exact hr _ (List.getElem_mem h2)
    rw [settleL, e, if_pos rfl]
    exact settle_back names lines code hr js (fun k hk => h k (by simp [hk]))
/-- what is printed is read as it was -/
theorem parse_text (l : List Ins) (h4 : l.length ≤ 4000) (hr : l.all (rightsI l.length) = true) (hk : ∀ i ∈ l, i.ok) (hs : (textL l).length ≤ 20000) : parseB (textL l) = (l, 0, 0) := by
  have hr' : ∀ i ∈ l, rightsI l.length i = true := List.all_eq_true.1 hr
  have hp : parts 10 (textL l) = l.map lineI ++ [[]] := text_parts l (fun i hi => (read_line (hr' i hi) (hk i hi)).2.2.1)
  obtain ⟨st', h1, h2, h3⟩ := lines_back l.length l st0 1 (fun i hi => ⟨hr' i hi, hk i hi⟩) (by simp [st0]; omega)
  rw [show st0.code ++ l = l from rfl] at h2
  have hj : ∀ j ∈ st'.jumps, j.2 = [] ∧ j.1 < l.length := by
    intro j hj
    rcases h3 j hj with h | ⟨h, h'⟩
    · cases h
    · exact ⟨h, by simpa [st0] using h'⟩
  have hse := settle_back st'.names st'.lines l hr' st'.jumps hj
  unfold parseB
  rw [if_neg (by omega), hp, h1]
  simp only
  rw [if_pos trivial, h2, hse]
  simp
end Go.Proofs.YtcfkcnkekdafgaaDoor
