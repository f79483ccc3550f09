/-
  A program's bytes tell it again, whatever stands behind; a front of them tells none. Lists and numbers alone. Conditions: the program's numbers fit into their bytes.
-/
import Derived.Test.YthooopcoemdphaaDoorWrit
import Derived.Test.YthooopcoemdphaaDoorRead
namespace Go.Proofs.YthooopcoemdphaaDoor
open Go.ChangeShapes Go.WideShapes Go.ChangeAt Go.RowKit Go.Deep
set_option linter.unusedVariables false

theorem getD_front (xs ys : List Int) (i : Nat) (h : i < xs.length) : (xs ++ ys).getD i 0 = xs.getD i 0 := by
  rw [List.getD_eq_getElem?_getD, List.getD_eq_getElem?_getD, List.getElem?_append_left h]
theorem leAt_front (xs ys : List Int) (i n : Nat) (h : i + n ≤ xs.length) : leAt (xs ++ ys) i n = leAt xs i n := by
  induction n generalizing i with
  | zero => rfl
  | succ n ih =>
    show (xs ++ ys).getD i 0 + 256 * leAt (xs ++ ys) (i + 1) n = xs.getD i 0 + 256 * leAt xs (i + 1) n
    rw [ih (i + 1) (by omega), getD_front xs ys i (by omega)]
theorem leAt_leB (k : Int) (n : Nat) (h0 : 0 ≤ k) (h1 : k < 256 ^ n) (xs ys : List Int) : leAt (xs ++ leB k n ++ ys) xs.length n = k := by
  induction n generalizing k xs with
  | zero => simp [leAt] at h1 ⊢; omega
  | succ n ih =>
    have e : xs ++ leB k (n + 1) ++ ys = (xs ++ [k % 256]) ++ leB (k / 256) n ++ ys := by simp [leB]
    have hx := ih (k / 256) (by omega) (by rw [Int.pow_succ] at h1; omega) (xs ++ [k % 256])
    rw [← e] at hx
    have hg : (xs ++ leB k (n + 1) ++ ys).getD xs.length 0 = k % 256 := by
      rw [e, List.getD_eq_getElem?_getD]
      simp
    show (xs ++ leB k (n + 1) ++ ys).getD xs.length 0 + 256 * leAt (xs ++ leB k (n + 1) ++ ys) (xs.length + 1) n = k
    rw [hg]
    have hl : (xs ++ [k % 256]).length = xs.length + 1 := by simp
    rw [hl] at hx
    rw [hx]
    omega
theorem leAt_leB' (k : Int) (n i : Nat) (h0 : 0 ≤ k) (h1 : k < 256 ^ n) (xs ys : List Int) (hi : xs.length = i) : leAt (xs ++ leB k n ++ ys) i n = k := by subst hi; exact leAt_leB k n h0 h1 xs ys
theorem memAt_cons (L : List Int) (i n : Nat) : memAt L i (n + 1) = leAt L i 4 :: memAt L (i + 4) n := by
  unfold memAt
  rw [List.range_succ_eq_map, List.map_cons, List.map_map]
  congr 1
  apply List.map_congr_left
  intro j _
  show leAt L (i + 4 * (j + 1)) 4 = leAt L (i + 4 + 4 * j) 4
  congr 1
  omega
theorem codeAt_cons (L : List Int) (i n : Nat) : codeAt L i (n + 1) = insAt L i :: codeAt L (i + 8) n := by
  unfold codeAt
  rw [List.range_succ_eq_map, List.map_cons, List.map_map]
  congr 1
  apply List.map_congr_left
  intro j _
  show insAt L (i + 8 * (j + 1)) = insAt L (i + 8 + 8 * j)
  congr 1
  omega
theorem mem_back (m : List Int) (xs ys : List Int) (h : ∀ x ∈ m, 0 ≤ x ∧ x < 4294967296) (i : Nat) (hi : xs.length = i) : memAt (xs ++ memBy m ++ ys) i m.length = m := by
  induction m generalizing xs i with
  | nil => rfl
  | cons x m ih =>
    have e : xs ++ memBy (x :: m) ++ ys = xs ++ leB x 4 ++ (memBy m ++ ys) := by simp [memBy]
    have hx := h x (by simp)
    rw [List.length_cons, memAt_cons, e, leAt_leB' x 4 i hx.1 (by simpa using hx.2) xs _ hi]
    congr 1
    rw [show xs ++ leB x 4 ++ (memBy m ++ ys) = (xs ++ leB x 4) ++ memBy m ++ ys by simp]
    exact ih (xs ++ leB x 4) (fun y hy => h y (by simp [hy])) (i + 4) (by rw [List.length_append, leB_len, hi])
theorem insAt_back (i : Ins) (xs ys : List Int) (h : i.ok) (n : Nat) (hn : xs.length = n) : insAt (xs ++ insBy i ++ ys) n = i := by
  have e : xs ++ insBy i ++ ys = (xs ++ [i.op, i.a, i.b, i.c]) ++ leB i.k 4 ++ ys := by simp [insBy, insB]
  have hk : leAt (xs ++ insBy i ++ ys) (n + 4) 4 = i.k := by
    rw [e]
    exact leAt_leB' i.k 4 (n + 4) h.1 (by simpa using h.2) _ _ (by simp [hn])
  have g : ∀ t, t < 4 → (xs ++ insBy i ++ ys).getD (n + t) 0 = [i.op, i.a, i.b, i.c].getD t 0 := by
    intro t ht
    rw [show xs ++ insBy i ++ ys = xs ++ ([i.op, i.a, i.b, i.c] ++ (leB i.k 4 ++ ys)) by simp [insBy, insB]]
    rw [List.getD_eq_getElem?_getD, List.getD_eq_getElem?_getD, List.getElem?_append_right (by omega), show n + t - xs.length = t by omega, List.getElem?_append_left (by simpa using ht)]
  have g0 := g 0 (by omega)
  have g1 := g 1 (by omega)
  have g2 := g 2 (by omega)
  have g3 := g 3 (by omega)
  unfold insAt
  rw [hk, show (xs ++ insBy i ++ ys).getD n 0 = i.op from g0, g1, g2, g3]
  rfl
theorem code_back (c : List Ins) (xs ys : List Int) (h : ∀ i ∈ c, i.ok) (n : Nat) (hn : xs.length = n) : codeAt (xs ++ c.flatMap insBy ++ ys) n c.length = c := by
  induction c generalizing xs n with
  | nil => rfl
  | cons x c ih =>
    have e : xs ++ (x :: c).flatMap insBy ++ ys = xs ++ insBy x ++ (c.flatMap insBy ++ ys) := by simp
    rw [List.length_cons, codeAt_cons, e, insAt_back x xs _ (h x (by simp)) n hn]
    congr 1
    rw [show xs ++ insBy x ++ (c.flatMap insBy ++ ys) = (xs ++ insBy x) ++ c.flatMap insBy ++ ys by simp]
    exact ih (xs ++ insBy x) (fun y hy => h y (by simp [hy])) (n + 8) (by rw [List.length_append, insBy_len, hn])
theorem codes_back (cs : List (List Ins)) (xs ys : List Int) (h : ∀ c ∈ cs, c.length ≤ 4000 ∧ ∀ i ∈ c, i.ok) (n : Nat) (hn : xs.length = n) (t : Nat) (ht : t ≤ cs.length) :
    codesTo (xs ++ cs.flatMap codeBy ++ ys) n t = some (cs.take t, n + ((cs.take t).flatMap codeBy).length) := by
  induction t with
  | zero => simp [codesTo]
  | succ t ih =>
    have hlt : t < cs.length := by omega
    have hc := h _ (getD_mem (d := []) hlt)
    have hT := codesBy_take cs t hlt
    have hspl : cs.flatMap codeBy = (cs.take t).flatMap codeBy ++ codeBy (cs.getD t []) ++ (cs.drop (t + 1)).flatMap codeBy := by
      rw [← hT, ← List.flatMap_append, List.take_append_drop]
    have hT1 := take_snoc cs [] t hlt
    generalize cs.getD t [] = c at hc hT hspl hT1
    obtain ⟨hc1, hc2⟩ := hc
    have hL : xs ++ cs.flatMap codeBy ++ ys = (xs ++ (cs.take t).flatMap codeBy) ++ leB c.length 2 ++ (c.flatMap insBy ++ ((cs.drop (t + 1)).flatMap codeBy ++ ys)) := by
      rw [hspl]; simp [codeBy]
    have hL2 : xs ++ cs.flatMap codeBy ++ ys = ((xs ++ (cs.take t).flatMap codeBy) ++ leB c.length 2) ++ c.flatMap insBy ++ ((cs.drop (t + 1)).flatMap codeBy ++ ys) := by
      rw [hspl]; simp [codeBy]
    have hcnt : cntAt (xs ++ cs.flatMap codeBy ++ ys) (n + ((cs.take t).flatMap codeBy).length) = c.length := by
      unfold cntAt
      rw [hL, leAt_leB' c.length 2 _ (by omega) (by simp; omega) _ _ (by rw [List.length_append, hn])]
      omega
    have hcd : codeAt (xs ++ cs.flatMap codeBy ++ ys) (n + ((cs.take t).flatMap codeBy).length + 2) c.length = c := by
      rw [hL2]
      exact code_back c _ _ hc2 _ (by rw [List.length_append, List.length_append, leB_len, hn])
    have hlen : n + ((cs.take t).flatMap codeBy).length + 2 + 8 * c.length ≤ (xs ++ cs.flatMap codeBy ++ ys).length := by
      rw [hL2, List.length_append, List.length_append, List.length_append, List.length_append, leB_len, code_len, hn]
      omega
    simp only [codesTo, ih (by omega)]
    rw [hcnt, if_neg (by omega), hcd, hT, hT1, List.length_append, codeBy_len]
    congr 2
    omega
theorem front_len (p : Pg) : (frontB p).length = 7 := by simp [frontB, leB_len]
/-- WHAT IS WRITTEN TELLS WHAT IT WAS, whatever stands behind -/
theorem tell_write {p : Pg} (h : Okay p) (X : List Int) : tell (writeB p ++ X) = some (p.codes, (writeB p).length) ∧ isHead (writeB p ++ X) ∧ pgOf (writeB p ++ X) p.codes = p ∧ 7 ≤ (writeB p).length := by
  have hw : writeB p ++ X = [100, 108, 49, (p.codes.length : Int), p.room] ++ leB p.mem.length 2 ++ (memBy p.mem ++ (p.codes.flatMap codeBy ++ X)) := by simp [writeB]
  have hw2 : writeB p ++ X = frontB p ++ memBy p.mem ++ (p.codes.flatMap codeBy ++ X) := by rw [writeB_eq]; simp
  have hw3 : writeB p ++ X = (frontB p ++ memBy p.mem) ++ p.codes.flatMap codeBy ++ X := by rw [writeB_eq]
  have hl : (writeB p).length = 7 + 4 * p.mem.length + (p.codes.flatMap codeBy).length := by rw [writeB_eq, List.length_append, List.length_append, front_len, mem_len]
  have g : ∀ t, t < 5 → (writeB p ++ X).getD t 0 = [100, 108, 49, (p.codes.length : Int), p.room].getD t 0 := by
    intro t ht
    rw [hw, List.append_assoc]
    exact getD_front _ _ t (by simpa using ht)
  have hc := h.codes
  have hm := h.mem
  have hwd : words (writeB p ++ X) = p.mem.length := by
    unfold words
    rw [hw, leAt_leB' p.mem.length 2 5 (by omega) (by simp; omega) _ _ rfl]
    omega
  have hth : thr (writeB p ++ X) = p.codes.length := by
    unfold thr
    rw [g 3 (by omega)]
    show ((p.codes.length : Int)).toNat = _
    omega
  refine ⟨?_, ⟨g 0 (by omega), g 1 (by omega), g 2 (by omega)⟩, ?_, by omega⟩
  · unfold tell
    rw [hwd, hth, if_neg (by rw [List.length_append]; omega), if_neg (by rw [List.length_append]; omega), hw3, codes_back p.codes _ X (fun c hc => ⟨h.code c hc, fun i hi => (h.ins c hc i hi).2⟩) _ (by rw [List.length_append, front_len, mem_len]) p.codes.length (Nat.le_refl _), List.take_length, hl]
  · unfold pgOf
    rw [hwd, g 4 (by omega), hw2, mem_back p.mem _ _ h.word 7 (front_len p)]
    rfl
theorem codesTo_more (A X : List Int) (e t : Nat) (he : e ≤ A.length) (cs : List (List Ins)) (q : Nat) (h : codesTo A e t = some (cs, q)) : codesTo (A ++ X) e t = some (cs, q) := by
  induction t generalizing cs q with
  | zero => exact h
  | succ t ih =>
    simp only [codesTo] at h ⊢
    cases hc : codesTo A e t with
    | none => rw [hc] at h; simp at h
    | some x =>
      obtain ⟨cs', q'⟩ := x
      rw [hc] at h
      rw [ih cs' q' hc]
      simp only at h ⊢
      split at h
      · cases h
      · rename_i hn
        simp only [Option.some.injEq, Prod.mk.injEq] at h
        obtain ⟨rfl, rfl⟩ := h
        have h2 : cntAt (A ++ X) q' = cntAt A q' := by unfold cntAt; rw [leAt_front A X q' 2 (by omega)]
        have h3 : codeAt (A ++ X) (q' + 2) (cntAt A q') = codeAt A (q' + 2) (cntAt A q') := by
          unfold codeAt
          apply List.map_congr_left
          intro j hj
          have hj' := List.mem_range.1 hj
          unfold insAt
          rw [getD_front A X _ (by omega), getD_front A X _ (by omega), getD_front A X _ (by omega), getD_front A X _ (by omega), leAt_front A X _ 4 (by omega)]
        rw [h2, h3, List.length_append, if_neg (by omega)]
theorem tell_more (A X : List Int) (cs : List (List Ins)) (q : Nat) (h : tell A = some (cs, q)) : tell (A ++ X) = some (cs, q) ∧ q ≤ A.length := by
  unfold tell at h ⊢
  split at h
  · cases h
  · split at h
    · cases h
    · rename_i h7 hw
      have e1 : words (A ++ X) = words A := by unfold words; rw [leAt_front A X 5 2 (by omega)]
      have e2 : thr (A ++ X) = thr A := by unfold thr; rw [getD_front A X 3 (by omega)]
      rw [e1, e2, List.length_append, if_neg (by omega), if_neg (by omega)]
      exact ⟨codesTo_more A X _ _ (by omega) cs q h, (codesTo_le A _ _ (by omega) cs q h).1⟩

theorem back_same {p : Pg} (h : Okay p) (he : p.err = 0) : readB (writeB p) = (p, 0, 0) := by
  obtain ⟨h1, h2, h3, h4⟩ := tell_write h []
  rw [List.append_nil] at h1 h2 h3
  have := readB_ok (by omega) h2 h1 (by omega) (by rw [h3]; exact he)
  rw [this, h3]
theorem back_long {p : Pg} (h : Okay p) (x : Int) : readB (writeB p ++ [x]) = (pg0, ((writeB p).length : Int), 4) := by
  obtain ⟨h1, h2, h3, h4⟩ := tell_write h [x]
  exact readB_long (by rw [List.length_append]; omega) h2 h1 (by rw [List.length_append]; simp)
theorem back_short {p : Pg} (h : Okay p) (k : Nat) (hk : k < (writeB p).length) : readB ((writeB p).take k) = (pg0, (k : Int), 2) := by
  obtain ⟨h1, h2, h3, h4⟩ := tell_write h []
  rw [List.append_nil] at h1 h2 h3
  have hl : ((writeB p).take k).length = k := by rw [List.length_take]; omega
  by_cases h3' : k < 3
  · rw [readB_small (by omega), hl]
  · have hg : ∀ i, i < 3 → ((writeB p).take k).getD i 0 = (writeB p).getD i 0 := by
      intro i hi
      rw [List.getD_eq_getElem?_getD, List.getD_eq_getElem?_getD, List.getElem?_take, if_pos (by omega)]
    have hh : isHead ((writeB p).take k) := by
      refine ⟨?_, ?_, ?_⟩
      · rw [hg 0 (by omega)]; exact h2.1
      · rw [hg 1 (by omega)]; exact h2.2.1
      · rw [hg 2 (by omega)]; exact h2.2.2
    have hn : tell ((writeB p).take k) = none := by
      cases ht : tell ((writeB p).take k) with
      | none => rfl
      | some x =>
        obtain ⟨cs, q⟩ := x
        obtain ⟨g1, g2⟩ := tell_more _ ((writeB p).drop k) cs q ht
        rw [List.take_append_drop, h1] at g1
        simp only [Option.some.injEq, Prod.mk.injEq] at g1
        omega
    rw [readB_short (by omega) hh hn, hl]
end Go.Proofs.YthooopcoemdphaaDoor
