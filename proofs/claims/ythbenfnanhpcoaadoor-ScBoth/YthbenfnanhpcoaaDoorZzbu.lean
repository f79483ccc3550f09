/-
  What the document's waiting answers of any events. No condition but what each law names.
-/
import Derived.Test.YthbenfnanhpcoaaDoorZzbt
import Derived.Test.YthbenfnanhpcoaaDoorZzbk
import Derived.Deep.LoopGhost
import Derived.Test.YthbenfnanhpcoaaDoorZzar
namespace Go.Proofs.YthbenfnanhpcoaaDoor.Mc
open Go.ChangeShapes Go.WideShapes Go.ChangeAt Go.RowKit
set_option linter.unusedVariables false
set_option maxRecDepth 20000

def ev0 : Ev := ⟨0, 0, 0, 0, 0, 0, 0, false⟩
theorem take_snoc' {α : Type} {l : List α} {j : Nat} (h : j < l.length) (d : α) : l.take (j + 1) = l.take j ++ [l.getD j d] := by
  rw [List.take_add_one, List.getElem?_eq_getElem h, List.getD_eq_getElem?_getD, List.getElem?_eq_getElem h]
  rfl
theorem waitE_len (who : Int) : ∀ (l : List Ev) (o : List Ev), (l.foldl (wait1 who) o).length ≤ o.length + l.length
  | [], o => by simp
  | x :: l, o => by
    have h1 := waitE_len who l (wait1 who o x)
    have h2 : (wait1 who o x).length ≤ o.length + 1 := by
      unfold wait1
      split
      · split
        · simp
        · split
          · simp; omega
          · omega
      · omega
    simp only [List.foldl_cons, List.length_cons]
    omega
def WaitP (w : World) (l : List Ev) (r : Ending) (w' : World) : Prop := ∃ v, (r = .returned v ∧ SubO w' w.heap.size v l) ∧ Gr w w'
set_option maxHeartbeats 1000000 in
theorem waiting_calls (a : Option Addr) (c : Nat) (l : List Ev) (hn : l.length ≤ 100000) (who : Int) (w : World) (h : RowAt w a (flatOf evL l)) :
    Calls Tryd.prog 34 #[.slice a l.length c, .int .i64 who] w (WaitP w (waitE who l)) := by
  have HH := hide h
  have g0 := Gr.refl w
  clear h
  go_enter Tryd.func34, Tryd.ntmps34
  go_wp2_with (fail)
  go_loopw [5, 6] (fun v u wr => ∃ j : Nat, j ≤ l.length ∧ u = .int .i64 j ∧ SubO wr w.heap.size v (waitE who (l.take j)) ∧ Gr w wr) (fun _ u _ => l.length - (intOf u).toNat)
  case atStart => exact ⟨0, by omega, rfl, SubO.nil _ _, g0⟩
  case round =>
    clear g0
    obtain ⟨j, hj, rfl, hs, g⟩ := hrel
    by_cases hlt : j < l.length
    · have hlt' : (j : Int) < l.length := by omega
      have rw1 := HH.out.later g
      obtain ⟨b, off, had, -⟩ := rw1.get (by rw [flatOf_length evL_len]; omega)
      subst had
      have c0 := rw1.cell evL_len hlt ev0 0 (by omega)
      have c1 := rw1.cell evL_len hlt ev0 1 (by omega)
      have c2 := rw1.cell evL_len hlt ev0 2 (by omega)
      have c3 := rw1.cell evL_len hlt ev0 3 (by omega)
      have c4 := rw1.cell evL_len hlt ev0 4 (by omega)
      have c5 := rw1.cell evL_len hlt ev0 5 (by omega)
      have c6 := rw1.cell evL_len hlt ev0 6 (by omega)
      have c7 := rw1.cell evL_len hlt ev0 7 (by omega)
      have hT := take_snoc' hlt ev0
      have hk0 : ∀ u, Gr w u → u.cell? ⟨b, off + j * 8, none⟩ = some (.int .i64 (l.getD j ev0).kind) := fun u gu => (HH.out.later gu).cell evL_len hlt ev0 0 (by omega)
      have HK := hide hk0
      clear hk0
      generalize l.getD j ev0 = x at HK c0 c1 c2 c3 c4 c5 c6 c7 hT
      have HT := hide (show waitE who (l.take (j + 1)) = wait1 who (waitE who (l.take j)) x by rw [hT, waitE_snoc])
      have hwl : (waitE who (l.take j)).length ≤ 100000 := by
        have := waitE_len who (l.take j) []
        simp at this
        unfold waitE
        omega
      generalize waitE who (l.take j) = o at hs HT hwl
      clear rw1 hT
      simp only [evL, List.getElem?_cons_zero, List.getElem?_cons_succ, Nat.add_zero, ← Nat.add_assoc] at c0 c1 c2 c3 c4 c5 c6 c7
      by_cases hw : x.who = who
      · have hw' : (x.who == who) = true := by simpa using hw
        by_cases h2 : x.kind = 2
        · have h2' : (x.kind == 2) = true := by simpa using h2
          have HR := hide (show wait1 who o x = o ++ [x] by unfold wait1; rw [if_pos hw, if_pos h2])
          obtain ⟨v', w', hr, ho, hg⟩ := app_sub hs x hwl w g rfl 35
          obtain ⟨oa, oc, rfl⟩ := hs.len
          have HRN := hide hr
          have HO := hide ho
          have HG := hide hg
          have c0' := HK.out w' hg
          have h3' : (x.kind == 3) = false := by rw [h2]; rfl
          clear hr ho hg hs h2 hw
          go_wp2_with (first
            | (refine step_made rfl (some 31) rfl _ _ (build_ev _ rfl x rfl) ?_)
            | (refine step_app rfl (some 32) rfl _ _ 35 rfl _ _ rfl rfl _ _ HRN.out ?_))
          exact ⟨⟨j + 1, by omega, by go_num, by rw [HT.out, HR.out]; exact HO.out, HG.out⟩, by simp [intOf]; omega⟩
        · have h2' : (x.kind == 2) = false := by simpa using h2
          by_cases h3 : x.kind = 3
          · have h3' : (x.kind == 3) = true := by simpa using h3
            have HR := hide (show wait1 who o x = o.tail by unfold wait1; rw [if_pos hw, if_neg h2, if_pos h3])
            cases o with
            | nil =>
              obtain ⟨oa, oc, rfl⟩ := hs.len
              have HS := hide hs
              have HG := hide g
              have hz : (([] : List Ev).length : Int) = 0 := rfl
              clear hs g h2 hw h3
              go_wp2_with (fail)
              exact ⟨⟨j + 1, by omega, by go_num, by rw [HT.out, HR.out]; exact HS.out, HG.out⟩, by simp [intOf]; omega⟩
            | cons y o =>
              have hs0 := hs
              rcases hs with ⟨-, hq⟩ | ⟨g1, off1, cap1, cur1, ⟨rfl, hb1⟩, ⟨hC1, hl1, hm1⟩, -⟩
              · cases hq
              · have HS := hide (SubO.tail' hs0)
                have HG := hide g
                have hpo : (0 : Int) < ((y :: o).length : Nat) := by rw [List.length_cons]; omega
                have hle : 1 ≤ (y :: o).length := by simp
                clear hs0 g h2 hw h3 hC1 hb1
                go_wp2_with (fail)
                exact ⟨⟨j + 1, by omega, by go_num, by rw [HT.out, HR.out]; exact HS.out, HG.out⟩, by simp [intOf]; omega⟩
          · have h3' : (x.kind == 3) = false := by simpa using h3
            have HR := hide (show wait1 who o x = o by unfold wait1; rw [if_pos hw, if_neg h2, if_neg h3])
            obtain ⟨oa, oc, rfl⟩ := hs.len
            have HS := hide hs
            have HG := hide g
            clear hs g h2 hw h3
            go_wp2_with (fail)
            exact ⟨⟨j + 1, by omega, by go_num, by rw [HT.out, HR.out]; exact HS.out, HG.out⟩, by simp [intOf]; omega⟩
      · have hw' : (x.who == who) = false := by simpa using hw
        have HR := hide (show wait1 who o x = o by unfold wait1; rw [if_neg hw])
        obtain ⟨oa, oc, rfl⟩ := hs.len
        have HS := hide hs
        have HG := hide g
        clear hs g hw
        go_wp2_with (fail)
        exact ⟨⟨j + 1, by omega, by go_num, by rw [HT.out, HR.out]; exact HS.out, HG.out⟩, by simp [intOf]; omega⟩
    · have hj' : j = l.length := by omega
      subst hj'
      rw [List.take_length] at hs
      obtain ⟨oa, oc, rfl⟩ := hs.len
      have HS := hide hs
      have HG := hide g
      clear hs g
      go_wp2_with (fail)
      go_ret
      exact ⟨_, ⟨rfl, HS.out⟩, HG.out⟩
end Go.Proofs.YthbenfnanhpcoaaDoor.Mc

namespace Go.Proofs.YthbenfnanhpcoaaDoor.Mc
open Go.ChangeShapes Go.WideShapes Go.ChangeAt Go.RowKit
set_option linter.unusedVariables false
set_option maxRecDepth 20000

def ownV (o : Option Int) : Value := match o with
  | some v => .tuple #[.int .u32 v, .int .i64 1]
  | none => .tuple #[.int .u32 0, .int .i64 0]
def OwnP (w : World) (o : Option Int) (r : Ending) (w' : World) : Prop := r = .returned (ownV o) ∧ Gr w w'
theorem findR_snoc (addr : Int) (l : List Ent) (x : Ent) : Bf.findR addr (l ++ [x]) = if x.a = addr then some x.v else Bf.findR addr l := by
  rw [Bf.findR_append]
  by_cases h : x.a = addr <;> simp [Bf.findR, h]
set_option maxHeartbeats 1000000 in
theorem own_calls (a : Option Addr) (c : Nat) (l : List Ev) (hn : l.length ≤ 100000) (who addr : Int) (w : World) (h : RowAt w a (flatOf evL l)) :
    Calls Tryd.prog 32 #[.slice a l.length c, .int .i64 who, .int .i64 addr] w (OwnP w (Bf.findR addr ((waitE who l).map entE))) := by
  have HW := hide (waiting_calls a c l hn who w h)
  have hwl : (waitE who l).length ≤ 100000 := by
    have := waitE_len who l []
    simp at this
    unfold waitE
    omega
  clear h
  generalize waitE who l = o at HW hwl ⊢
  generalize hR0 : Bf.findR addr (o.map entE) = R
  have hR := hide hR0
  clear hR0
  go_enter Tryd.func32, Tryd.ntmps32
  go_wp2_with (fail)
  refine HW.out.mono ?_
  rintro r u ⟨v, ⟨rfl, hs⟩, g⟩
  obtain ⟨oa, oc, rfl, hrow⟩ := hs.row
  have HRW := hide hrow
  have HG := hide g
  have hz : ((o.length : Int) - 1 : Int) = (o.length : Int) - 1 := rfl
  clear hs hrow g HW
  go_wp2_with (fail)
  go_loopw [9] (fun v wr => ∃ j : Nat, j ≤ o.length ∧ v = .int .i64 ((j : Int) - 1) ∧ wr = u ∧ Bf.findR addr ((o.take j).map entE) = R) (fun v _ => (intOf v + 1).toNat)
  case atStart => exact ⟨o.length, Nat.le_refl _, rfl, rfl, by rw [List.take_length]; exact hR.out⟩
  case round =>
    obtain ⟨j, hj, rfl, rfl, hr⟩ := hrel
    by_cases h0 : 0 < j
    · obtain ⟨m, rfl⟩ : ∃ m, j = m + 1 := ⟨j - 1, by omega⟩
      have hm : m < o.length := by omega
      obtain ⟨b, off, had, -⟩ := HRW.out.get (by rw [flatOf_length evL_len]; omega)
      subst had
      have c3 := HRW.out.cell evL_len hm ev0 3 (by omega)
      have c4 := HRW.out.cell evL_len hm ev0 4 (by omega)
      have hT := take_snoc' hm ev0
      generalize o.getD m ev0 = x at c3 c4 hT
      rw [hT, List.map_append, List.map_cons, List.map_nil, findR_snoc] at hr
      simp only [evL, List.getElem?_cons_zero, List.getElem?_cons_succ, ← Nat.add_assoc] at c3 c4
      have e1 : (((m + 1 : Nat) : Int) - 1) = (m : Int) := by omega
      have hm' : (m : Int) < o.length := by omega
      rw [e1]
      by_cases hx : x.addr = addr
      · have hx' : (x.addr == addr) = true := by simpa using hx
        have HE := hide (show R = some x.value by rw [← hr]; exact if_pos hx)
        clear hx hr hT
        go_wp2_with (fail)
        rw [HE.out]
        exact bodyPost_ret (results_tmp2 rfl _ _ _) rfl ⟨rfl, HG.out⟩
      · have hx' : (x.addr == addr) = false := by simpa using hx
        have HE := hide (show Bf.findR addr ((o.take m).map entE) = R by rw [← hr]; exact (if_neg hx).symm)
        clear hx hr hT
        go_wp2_with (fail)
        exact ⟨⟨m, by omega, by go_num, trivial, HE.out⟩, by simp [intOf]⟩
    · have h00 : j = 0 := by omega
      subst h00
      have HE := hide (show R = none by rw [← hr]; rfl)
      clear hr
      go_wp2_with (fail)
      rw [HE.out]
      exact bodyPost_ret (results_tmp2 rfl _ _ _) rfl ⟨rfl, HG.out⟩
end Go.Proofs.YthbenfnanhpcoaaDoor.Mc

namespace Go.Proofs.YthbenfnanhpcoaaDoor.Mc
open Go.ChangeShapes Go.WideShapes Go.ChangeAt Go.RowKit
set_option linter.unusedVariables false
set_option maxRecDepth 20000

theorem see_none : ∀ l : List Ev, l.foldl see1 none = none
  | [] => rfl
  | x :: l => see_none l
theorem see1_no {pre : List Ev} {m : List Int} {x : Ev} (h : seeM pre m x = none) : see1 (some (pre, m)) x = none := by
  show (match seeM pre m x with | none => none | some m => some (pre ++ [x], m)) = none
  rw [h]
theorem see1_yes {pre : List Ev} {m m' : List Int} {x : Ev} (h : seeM pre m x = some m') : see1 (some (pre, m)) x = some (pre ++ [x], m') := by
  show (match seeM pre m x with | none => none | some m => some (pre ++ [x], m)) = _
  rw [h]
theorem see_fst : ∀ (l pre : List Ev) (m : List Int) (q : List Ev × List Int), l.foldl see1 (some (pre, m)) = some q → q.1 = pre ++ l
  | [], pre, m, q, h => by cases h; simp
  | x :: l, pre, m, q, h => by
    rw [List.foldl_cons] at h
    cases hs : seeM pre m x with
    | none => rw [see1_no hs, see_none] at h; cases h
    | some m' =>
      rw [see1_yes hs] at h
      have := see_fst l (pre ++ [x]) m' q h
      rw [this]
      simp
/-- each event tells what it has to -/
def SeesOk (first : List Int) (l : List Ev) : Prop := ∃ q, seeL first l = some q
theorem see_pre {first : List Int} {l : List Ev} (h : SeesOk first l) {j : Nat} (hj : j < l.length) : ∃ m m', seeL first (l.take j) = some (l.take j, m) ∧ seeM (l.take j) m (l.getD j ev0) = some m' ∧ seeL first (l.take (j + 1)) = some (l.take (j + 1), m') := by
  obtain ⟨q, hq⟩ := h
  have e : l = l.take (j + 1) ++ l.drop (j + 1) := (List.take_append_drop _ _).symm
  have hT := take_snoc' hj ev0
  have h1 : seeL first l = (l.drop (j + 1)).foldl see1 (seeL first (l.take (j + 1))) := by
    unfold seeL
    rw [← List.foldl_append, ← e]
  rw [hq, hT, seeL_snoc] at h1
  cases hp : seeL first (l.take j) with
  | none =>
    rw [hp] at h1
    rw [show see1 none (l.getD j ev0) = none from rfl, see_none] at h1
    cases h1
  | some p =>
    obtain ⟨p1, m⟩ := p
    have hf := see_fst _ _ _ _ hp
    have hf' : p1 = l.take j := by simpa using hf
    subst hf'
    rw [hp] at h1
    cases hs : seeM (l.take j) m (l.getD j ev0) with
    | none =>
      rw [see1_no hs, see_none] at h1
      cases h1
    | some m' => exact ⟨m, m', rfl, hs, by rw [hT, seeL_snoc, hp]; exact see1_yes hs⟩
theorem seeM_len {pre : List Ev} {m m' : List Int} {x : Ev} (h : seeM pre m x = some m') : m'.length = m.length := by
  unfold seeM at h
  repeat' split at h
  all_goals first
    | (cases h; simp; done)
    | (cases h)
/-- an event of a kind, and what memory says -/
theorem see_flush {pre : List Ev} {m m' : List Int} {x : Ev} (h : seeM pre m x = some m') (hk : x.kind = 3) : inR x.addr m.length = true ∧ m' = m.set x.addr.toNat x.value := by
  unfold seeM at h
  rw [if_pos hk] at h
  split at h
  · rename_i hi; cases h; exact ⟨hi, rfl⟩
  · cases h
theorem see_swap {pre : List Ev} {m m' : List Int} {x : Ev} (h : seeM pre m x = some m') (hk : x.kind = 4) : (inR x.addr m.length = true ∧ m.getD x.addr.toNat 0 = x.old) ∧ m' = m.set x.addr.toNat x.value := by
  unfold seeM at h
  rw [if_neg (by omega), if_pos hk] at h
  split at h
  · rename_i hi
    cases h
    simp only [Bool.and_eq_true, beq_iff_eq] at hi
    exact ⟨hi, rfl⟩
  · cases h
theorem see_wait {pre : List Ev} {m m' : List Int} {x : Ev} (h : seeM pre m x = some m') (hk : x.kind = 8) : (inR x.addr m.length = true ∧ m.getD x.addr.toNat 0 = x.value) ∧ m' = m := by
  unfold seeM at h
  rw [if_neg (by omega), if_neg (by omega), if_pos hk] at h
  split at h
  · rename_i hi
    cases h
    simp only [Bool.and_eq_true, beq_iff_eq] at hi
    exact ⟨hi, rfl⟩
  · cases h
theorem see_load {pre : List Ev} {m m' : List Int} {x : Ev} (h : seeM pre m x = some m') (hk : x.kind = 1) : m' = m ∧ ((Bf.findR x.addr ((waitE x.who pre).map entE) = some x.value) ∨ (Bf.findR x.addr ((waitE x.who pre).map entE) = none ∧ inR x.addr m.length = true ∧ m.getD x.addr.toNat 0 = x.value)) := by
  unfold seeM at h
  rw [if_neg (by omega), if_neg (by omega), if_neg (by omega), if_pos hk] at h
  cases hf : Bf.findR x.addr ((waitE x.who pre).map entE) with
  | some v =>
    rw [hf] at h
    simp only at h
    split at h
    · rename_i hv; cases h; exact ⟨rfl, .inl (by rw [show v = x.value by simpa using hv])⟩
    · cases h
  | none =>
    rw [hf] at h
    simp only at h
    split at h
    · rename_i hi
      cases h
      simp only [Bool.and_eq_true, beq_iff_eq] at hi
      exact ⟨rfl, .inr ⟨rfl, hi.1, hi.2⟩⟩
    · cases h
theorem see_other {pre : List Ev} {m m' : List Int} {x : Ev} (h : seeM pre m x = some m') (h3 : x.kind ≠ 3) (h4 : x.kind ≠ 4) (h8 : x.kind ≠ 8) (h1 : x.kind ≠ 1) : m' = m := by
  unfold seeM at h
  rw [if_neg h3, if_neg h4, if_neg h8, if_neg h1] at h
  cases h
  rfl
theorem inR_is {a : Int} {n : Nat} (h : inR a n = true) : ∃ k : Nat, a = k ∧ k < n := by
  unfold inR at h
  simp only [Bool.and_eq_true, decide_eq_true_eq] at h
  exact ⟨a.toNat, by omega, by omega⟩
end Go.Proofs.YthbenfnanhpcoaaDoor.Mc
