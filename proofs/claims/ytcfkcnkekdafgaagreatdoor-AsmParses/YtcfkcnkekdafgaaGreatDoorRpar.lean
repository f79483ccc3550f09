/-
  For any text of at most 2^31 bytes, in any world: what the reference's Parse answers: the code, the line, what is wrong, as asm.Parse. Memory grows alone. No condition but that.
-/
import Derived.Test.YtcfkcnkekdafgaaGreatDoorRefg
import Derived.Test.YtcfkcnkekdafgaaGreatDoorRefh
import Derived.Test.YtcfkcnkekdafgaaGreatDoorPrse
import Derived.Test.YtcfkcnkekdafgaaGreatDoorLate
import Derived.Deep.QuietTactic
import Derived.BigQuiet
namespace Go.Proofs.YtcfkcnkekdafgaaGreatDoor
open Go.ChangeShapes Go.WideShapes Go.ChangeAt Go.RowKit
set_option linter.unusedVariables false

/-- an instruction is appended -/
theorem app_ins (u : World) (B : Nat) (ty : TypeId) (vo : Value) (out : List Ins) (hown : u.ownsRow B 36 5 vo out.length (codeV out)) (gx : Nat) (i : Ins) (hx : u.heap[gx]? = some (.cells i.vals.toArray 36)) (hn : out.length ≤ 100000) (hb : B ≤ u.heap.size) :
    ∃ v' u', (Builtin.append_ #[23, 23] ty #[vo, .slice (some ⟨gx, 0, none⟩) 1 1]).run Tryz.prog u = .ok v' u' ∧ u'.ownsRow B 36 5 v' (out ++ [i]).length (codeV (out ++ [i])) ∧ u.grownBy u' vo.ownBlock := by
  obtain ⟨inf, h1, h2, h3, h4⟩ := info_parts infoI
  obtain ⟨v', u', hr, ho, hg, _⟩ := run_append_own (P := Tryz.prog) u B 23 ty 36 inf zeroI 5 40 Tryz.underlying23 h1 h2 h3 h4 rfl (by omega) vo out.length (codeV out) hown ⟨gx, 0, none⟩ 1 1 i.vals rfl (by
    intro j x hj
    rw [Addr.add_mid, Nat.zero_add, row_cell hx j]
    simpa using hj) (by
    intro x hx'
    simp only [Ins.vals, List.mem_cons, List.not_mem_nil, or_false] at hx'
    rcases hx' with rfl | rfl | rfl | rfl | rfl <;> rfl) (by unfold maxLen; omega) (by omega) hb
  refine ⟨v', u', hr, ?_, hg⟩
  rw [codeV_snoc, List.length_append]
  exact ho
theorem step_app {ops : Array Oper} {rest : List Oper} {o : Oper} {a : Act} {w : World} {Q : Exit → Act → World → Prop} (hgd : o.guard = none) (d : Option Tmp) (hd : o.dst = d) (s x : Operand) (t : TypeId) (ho : o.op = .call { callee := .builtin .append, args := #[s, x], argTypes := #[t, t] })
    (v u : Value) (hs : a.eval s = v) (hx : a.eval x = u) (v' : Value) (w' : World) (hr : (Builtin.append_ #[t, t] o.type #[v, u]).run Tryz.prog w = .ok v' w') (h : wpList Tryz.prog ops Q rest (a.put d v') w') : wpList Tryz.prog ops Q (o :: rest) a w :=
  wpList_plain hgd fun _ hK => by
    subst hd
    unfold Oper.wp execOp
    simp only [ho, resolve, invoke, builtin, Sem.run_bind, Sem.run_pure, Result.andThen_ok, List.map_toArray, List.map_cons, List.map_nil, hs, hx, hr]
    exact hK _ _ h
theorem own_base {w : World} {B B' sz n : Nat} {t : TypeId} {v : Value} {xs : List Value} (h : w.ownsRow B t sz v n xs) (hb : B' ≤ B) : w.ownsRow B' t sz v n xs := by
  refine ⟨h.1, ?_⟩
  rcases h.2 with h2 | ⟨q, cap, cur, hv, hq, h3⟩
  · exact .inl h2
  · exact .inr ⟨q, cap, cur, hv, Nat.le_trans hb hq, h3⟩
theorem results3 {fn : Func} {p q r : Tmp} (h : fn.results = #[.tmp p, .tmp q, .tmp r]) (tmps : Array Value) (w : World) :
    (results fn tmps).run Tryz.prog w = .ok (.tuple #[tmps.getD p undef, tmps.getD q undef, tmps.getD r undef]) w := by
  simp [results, h]
/-- the first strings of a row -/
theorem WRow.strs {w : World} {b : Nat} {ls : List Bs} (h : WRow w b ls) (n cap : Nat) (hn : n ≤ ls.length) : StrsAt w (.slice (some ⟨b, 0, none⟩) n cap) (ls.take n) := by
  refine ⟨_, cap, by rw [List.length_take, Nat.min_eq_left hn], .inr ⟨b, 0, rfl, fun j s hj => ?_⟩⟩
  rw [Nat.zero_add]
  rw [List.getElem?_take] at hj
  split at hj
  · exact h.cell hj
  · cases hj
theorem take_next (ls : List Bs) (n : Nat) (h : n < ls.length) : ls.take n ++ [ls[n]] = ls.take (n + 1) := (List.take_succ_eq_append_getElem h).symm
theorem dropLast_of (T : ByteArray) : (T.extract 0 (T.size - 1)).data.toList = T.data.toList.dropLast := by
  rw [take_of, List.dropLast_eq_take, size_list T]
theorem fin_err {s : Bs} {w w' : World} {n err : Nat} (h : parseB s = ([], n, err)) (g : Gr w w') (m x : Int) (hm : m = n) (hx : x = err) : ParseP s w (.returned (.tuple #[.slice none 0 0, .int .i64 m, .int .i64 x])) w' := by
  subst hm hx
  unfold ParseP
  rw [h]
  exact ⟨_, rfl, own_nil _ _, g⟩
theorem placeR_le (nm : Bs) : ∀ (l : List Bs) (m p : Nat), placeR l nm m = some p → p ≤ m + l.length
  | [], m, p, h => by simp [placeR] at h
  | t :: ts, m, p, h => by
    simp only [placeR] at h
    split at h
    · have := placeR_le nm ts m p h; simp; omega
    split at h
    · cases h; simp
    split at h
    · have := placeR_le nm ts m p h; simp; omega
    · have := placeR_le nm ts (m + 1) p h; simp; omega
theorem clL_ok : ∀ (ts : List Bs), ∀ i ∈ clL ts, i.ok
  | [], i, h => by simp [clL] at h
  | t :: ts, i, h => by
    simp only [clL] at h
    split at h
    · exact clL_ok ts i h
    split at h
    · exact clL_ok ts i h
    split at h
    · exact clL_ok ts i h
    · rename_i x hx
      rcases List.mem_cons.1 h with rfl | h
      · exact (readL_ok (i := x.1) (to := x.2) hx).1
      · exact clL_ok ts i h
theorem setK_ok {l : List Ins} (h : ∀ i ∈ l, i.ok) (n : Nat) (k : Int) (hk : 0 ≤ k ∧ k < 4294967296) : ∀ i ∈ setK l n k, i.ok := by
  intro i hi
  unfold setK at hi
  rcases List.mem_or_eq_of_mem_set hi with h1 | h1
  · exact h i h1
  · subst h1; exact hk
theorem has_jump_all : ∀ n : Fin 28, hasB ((n : Nat) : Int) 84 = jumpB ((n : Nat) : Int) := by decide +kernel
theorem has_jump (op : Int) : hasB op 84 = jumpB op := by
  cases h : isB op with
  | true =>
    obtain ⟨n, rfl, hn⟩ := isB_nat h
    exact has_jump_all ⟨n, hn⟩
  | false =>
    unfold hasB fB jumpB
    rw [h]
    rfl
theorem drop_next {l : List Ins} {k : Nat} {x : Ins} {r : List Ins} (h : l.drop k = x :: r) : l.drop (k + 1) = r ∧ l[k]? = some x ∧ k < l.length := by
  have hk : k < l.length := by
    rcases Nat.lt_or_ge k l.length with h1 | h1
    · exact h1
    · rw [List.drop_eq_nil_of_le h1] at h; cases h
  rw [List.drop_eq_getElem_cons hk] at h
  obtain ⟨h1, h2⟩ := List.cons.inj h
  exact ⟨h2, by rw [List.getElem?_eq_getElem hk, h1], hk⟩
/-- the relation of the second loop -/
def Inv2 (ls : List Bs) (w1 : World) (vo : Value) (out0 : List Ins) (k n : Nat) (wr : World) : Prop :=
  ∃ out : List Ins, Gr w1 wr ∧ wr.ownsRow w1.heap.size 36 5 vo out.length (codeV out) ∧ out.length = out0.length ∧ okL (ls.drop n) ∧ out.drop k = clL (ls.drop n) ∧ (∀ i ∈ out, i.ok) ∧ ref2 ls ls 0 out0 1 = ref2 ls (ls.drop n) k out (n + 1)
/-- the relation of the first loop -/
def Inv1 (ls : List Bs) (w1 : World) (vo : Value) (n : Nat) (wr : World) : Prop :=
  ∃ out : List Ins, Gr w1 wr ∧ wr.ownsRow w1.heap.size 36 5 vo out.length (codeV out) ∧ out.length ≤ 4000 ∧ ref1 [] ls [] 1 = ref1 (ls.take n) (ls.drop n) out (n + 1)

set_option maxRecDepth 20000 in
set_option maxHeartbeats 4000000 in
theorem rparse_calls (s : Bs) (w : World) (hs : s.length ≤ 2147483648) :
    Calls Tryz.prog 10 #[.string ⟨s.toArray⟩] w (ParseP s w) := by
  have HEQ := hide (rparse_eq s (fun t i h => (readL_ok (i := i.1) (to := i.2) h).1.1))
  by_cases hlong : 20000 < s.length
  · have h1 : (20000 : Int) < ((⟨s.toArray⟩ : ByteArray).size : Int) := by rw [size_mk]; omega
    have HP := hide (parse_long hlong)
    have h2 : (20000 : Int) < (s.length : Int) := by omega
    clear hlong HEQ
    go_enter Tryz.func10, Tryz.ntmps10
    go_wp2_with (fail)
    refine bodyPost_ret (results3 rfl _ _) rfl ?_
    unfold ParseP
    rw [HP.out]
    exact ⟨_, rfl, own_nil _ _, Gr.refl _⟩
  have hsz : (⟨s.toArray⟩ : ByteArray).size = s.length := size_mk s
  have h1 : ((⟨s.toArray⟩ : ByteArray).size : Int) ≤ 20000 := by rw [hsz]; omega
  have HSP := hide (rsplit_calls ⟨s.toArray⟩ 10 w (by rw [hsz]; omega))
  have HPL := hide (parts_len 10 s)
  have HPS := hide (parts_short 10 s)
  have HNE := hide (parts_ne 10 s)
  have HR : Hid (rparse s = if (ref1 [] (parts 10 s) [] 1).1 = 0 then
      if (ref2 (parts 10 s) (parts 10 s) 0 (ref1 [] (parts 10 s) [] 1).2.2 1).1 = 0 then ((ref2 (parts 10 s) (parts 10 s) 0 (ref1 [] (parts 10 s) [] 1).2.2 1).2.2, 0, 0)
      else ([], (ref2 (parts 10 s) (parts 10 s) 0 (ref1 [] (parts 10 s) [] 1).2.2 1).2.1, 5)
    else ([], (ref1 [] (parts 10 s) [] 1).2.1, (ref1 [] (parts 10 s) [] 1).1)) := by
    show rparse s = _
    unfold rparse
    rw [if_neg hlong]
  have HQ : Hid (parseB s = if (ref1 [] (parts 10 s) [] 1).1 = 0 then
      if (ref2 (parts 10 s) (parts 10 s) 0 (ref1 [] (parts 10 s) [] 1).2.2 1).1 = 0 then ((ref2 (parts 10 s) (parts 10 s) 0 (ref1 [] (parts 10 s) [] 1).2.2 1).2.2, 0, 0)
      else ([], (ref2 (parts 10 s) (parts 10 s) 0 (ref1 [] (parts 10 s) [] 1).2.2 1).2.1, 5)
    else ([], (ref1 [] (parts 10 s) [] 1).2.1, (ref1 [] (parts 10 s) [] 1).1)) := HEQ.out.symm.trans HR.out
  have hls : (parts 10 s).length ≤ 20001 := by have := HPL.out; omega
  clear HEQ HR HPL
  generalize hS : (⟨s.toArray⟩ : ByteArray) = T0 at h1 HSP ⊢
  rw [show T0.data.toList = s by rw [← hS]] at HSP
  generalize parts 10 s = ls at HSP HPS HNE HQ hls
  clear hsz hS
  go_enter Tryz.func10, Tryz.ntmps10
  go_wp2_with (fail)
  refine HSP.out.mono ?_
  rintro e w1 ⟨v, rfl, hown, g1⟩
  obtain ⟨b, c, rfl, hb, hrows⟩ := own_rows hown HNE.out
  have hcap : ls.length ≤ c := by
    rcases hown.2 with ⟨h, _⟩ | ⟨q, cap, cur, hv, _, _, hnc, _⟩
    · cases h
    · cases hv; exact hnc
  have HW := hide hrows
  have HG := hide g1
  have hbl : b < w1.heap.size := by obtain ⟨cur, hc, _⟩ := hrows; exact heap_lt hc
  clear hown hrows g1 HSP
  go_wp2_with (fail)
  go_loopw [6, 7] (fun vo i wr => ∃ n : Nat, n ≤ ls.length ∧ i = .int .i64 n ∧ Hid (Inv1 ls w1 vo n wr)) (fun _ i _ => ls.length - (intOf i).toNat)
  case atStart => exact ⟨0, by omega, rfl, [], Gr.refl _, own_nil _ _, by simp, rfl⟩
  case round =>
    obtain ⟨n, hn, rfl, hI⟩ := hrel
    obtain ⟨out, gr, hown, h4, href⟩ := hI.out
    clear hI
    have HOW := hide hown
    have HRF := hide href
    clear hown href
    by_cases hlt : n < ls.length
    · have hlt' : (n : Int) < ls.length := by omega
      have hc := (HW.out.later gr).cell (List.getElem?_eq_getElem hlt)
      have HTS := hide (take_next ls n hlt)
      have hd := HRF.out
      rw [List.drop_eq_getElem_cons hlt] at hd
      have hts : (ByteArray.mk (ls[n]).toArray).size ≤ 2147483648 := by rw [size_mk]; have := HPS.out _ (List.getElem_mem hlt); omega
      have HT : Hid ((ByteArray.mk (ls[n]).toArray).data.toList = ls[n]) := rfl
      change _ = some (Value.string (ByteArray.mk (ls[n]).toArray)) at hc
      generalize ls[n] = t at hc hd HTS HT hts
      generalize ByteArray.mk t.toArray = T at hc HT hts
      have HD := hide hd
      clear hd HRF
      by_cases h0 : t = []
      · have q0 : List.isEmpty T.toList = true := by rw [ByteArray.toList_eq, HT.out, h0]; rfl
        have HN : Hid (Inv1 ls w1 _ (n + 1) wr) := ⟨out, gr, HOW.out, h4, by rw [HD.out, ← HTS.out]; simp only [ref1, if_pos h0]⟩
        clear h0
        go_wp2_with (fail)
        exact ⟨⟨n + 1, by omega, by go_num, HN⟩, by simp [intOf]; omega⟩
      have q0 : List.isEmpty T.toList = false := by rw [ByteArray.toList_eq, HT.out]; simpa using h0
      obtain ⟨hT, hla⟩ := lastB T (by rw [HT.out]; exact h0)
      rw [HT.out] at hla
      have b1 : (T.size : Int) - 1 < T.size := by omega
      have b2 : (0 : Int) ≤ (T.size : Int) - 1 := by omega
      have ew : IntKind.i64.wrap ((T.size : Int) - 1) = ((T.size - 1 : Nat) : Int) := by rw [IntKind.wrap_i64]; omega
      have b3 : ((T.size - 1 : Nat) : Int) < T.size := by omega
      by_cases h2 : T[T.size - 1] = 58
      · have q2 : (((T[T.size - 1]).toNat : Int) == 58) = true := by rw [h2]; rfl
        have hlast : t.getLast? = some 58 := by rw [hla, h2]
        have HDL : Hid ((T.extract 0 (T.size - 1)).data.toList = t.dropLast) := by show _ = _; rw [dropLast_of, HT.out]
        have hxs : (T.extract 0 (T.size - 1)).size ≤ 2147483648 := by rw [ByteArray.size_extract]; omega
        have RN := hide (rname_calls (T.extract 0 (T.size - 1)) wr hxs)
        rw [HDL.out] at RN
        by_cases hnm : isName t.dropLast = true
        · rw [hnm] at RN
          have RP := hide (fun u (hu : StrsAt u (.slice (some ⟨b, 0, none⟩) n c) (ls.take n)) => rplace_calls (.slice (some ⟨b, 0, none⟩) n c) (ls.take n) (T.extract 0 (T.size - 1)) u hxs hu (by rw [List.length_take]; omega) (fun x hx => by have := HPS.out x (List.mem_of_mem_take hx); omega))
          rw [HDL.out] at RP
          have hrow := HW.out.later gr.drew
          have hnc : (n : Int) ≤ (c : Int) := by omega
          go_wp2_with (fail)
          refine RN.out.mono ?_
          rintro e w2 ⟨rfl, rfl⟩
          clear RN
          go_wp2_with (fail)
          refine begin_late 10 [] (fun w' => Gr w1 w') (by kernel_rfl) rfl ?_
          have hH := gr.drew
          refine AnyL.takeP 0 (some 51) (.slice (some ⟨b, 0, none⟩) ls.length c) rfl rfl (by kernel_rfl) (by kernel_rfl) (by kernel_rfl) (by kernel_rfl) (fun _ _ _ h => h) (by kernel_rfl) (fun w' => by go_simp) (fun _ => hH) ?_
          simp only [Act.put, List.setIfInBounds_toArray, List.set_cons_zero, List.set_cons_succ]
          refine AnyL.takeP 1 (some 52) (.int .i64 n) rfl rfl (by kernel_rfl) (by kernel_rfl) (by kernel_rfl) (by kernel_rfl) (fun _ _ _ h => h) (by kernel_rfl) (fun w' => by go_simp) (fun _ => hH) ?_
          simp only [Act.put, List.setIfInBounds_toArray, List.set_cons_zero, List.set_cons_succ]
          refine AnyL.takeP 2 (some 53) (.slice (some ⟨b, 0, none⟩) n c) rfl rfl (by kernel_rfl) (by kernel_rfl) (by kernel_rfl) (by kernel_rfl) (fun _ _ _ h => h) (by kernel_rfl) (fun w' => by go_simp) (fun _ => hH) ?_
          simp only [Act.put, List.setIfInBounds_toArray, List.set_cons_zero, List.set_cons_succ]
          refine AnyL.takeP 3 (some 54) (.string T) rfl rfl (by kernel_rfl) (by kernel_rfl) (by kernel_rfl) (by kernel_rfl) (fun _ _ _ h => h) (by kernel_rfl) (fun w' => by go_simp) (fun _ => hH) ?_
          simp only [Act.put, List.setIfInBounds_toArray, List.set_cons_zero, List.set_cons_succ]
          refine AnyL.takeP 4 (some 55) (.string T) rfl rfl (by kernel_rfl) (by kernel_rfl) (by kernel_rfl) (by kernel_rfl) (fun _ _ _ h => h) (by kernel_rfl) (fun w' => by go_simp) (fun _ => hH) ?_
          simp only [Act.put, List.setIfInBounds_toArray, List.set_cons_zero, List.set_cons_succ]
          refine AnyL.takeP 5 (some 56) (.int .i64 T.size) rfl rfl (by kernel_rfl) (by kernel_rfl) (by kernel_rfl) (by kernel_rfl) (fun _ _ _ h => h) (by kernel_rfl) (fun w' => by go_simp) (fun _ => hH) ?_
          simp only [Act.put, List.setIfInBounds_toArray, List.set_cons_zero, List.set_cons_succ]
          refine AnyL.takeP 6 (some 57) (.int .i64 ((T.size - 1 : Nat) : Int)) rfl rfl (by kernel_rfl) (by kernel_rfl) (by kernel_rfl) (by kernel_rfl) (fun _ _ _ h => h) (by kernel_rfl) (fun w' => by go_simp) (fun _ => hH) ?_
          simp only [Act.put, List.setIfInBounds_toArray, List.set_cons_zero, List.set_cons_succ]
          refine AnyL.takeP 7 (some 58) (.string (T.extract 0 (T.size - 1))) rfl rfl (by kernel_rfl) (by kernel_rfl) (by kernel_rfl) (by kernel_rfl) (fun _ _ _ h => h) (by kernel_rfl) (fun w' => by go_simp) (fun _ => hH) ?_
          simp only [Act.put, List.setIfInBounds_toArray, List.set_cons_zero, List.set_cons_succ]
          refine AnyL.one 8 (by kernel_rfl) rfl (by kernel_rfl) ?_
          refine wp_call (some 59) rfl 29 #[.slice (some ⟨b, 0, none⟩) n c, .string (T.extract 0 (T.size - 1))] (by kernel_rfl) (RP.out _ (hrow.strs n c hn)) ?_
          rintro e w3 ⟨rfl, d, rfl⟩
          refine ⟨_, rfl, fun _ => hH.drewN d, ?_⟩
          simp only [Act.put, List.setIfInBounds_toArray, List.set_cons_zero, List.set_cons_succ]
          replace hH := hH.drewN d
          replace HOW := hide (own_gr HOW.out ((Gr.refl w2).drew.drewN d))
          clear RP hrow
          generalize (w2.drew).drewN d = w4 at hH HOW ⊢
          cases hpl : placeR (ls.take n) t.dropLast 0 with
          | some p =>
            have HE : Hid (parseB s = ([], n + 1, 6)) := by
              have h3 : ref1 [] ls [] 1 = (6, n + 1, out) := by rw [HD.out]; simp [ref1, h0, hlast, hnm, hpl]
              show parseB s = _
              rw [HQ.out, h3]; rfl
            have hp0 : (0 : Int) ≤ (p : Int) := by omega
            refine AnyL.takeP 9 (some 60) (.bool true) rfl rfl (by kernel_rfl) (by kernel_rfl) (by kernel_rfl) (by kernel_rfl) (fun _ _ _ h => h) (by kernel_rfl) (fun w' => by simp only [orNo]; go_simp) (fun _ => hH) ?_
            simp only [Act.put, List.setIfInBounds_toArray, List.set_cons_zero, List.set_cons_succ]
            refine AnyL.done (by kernel_rfl) ?_
            go_wp2_with (fail)
            exact bodyPost_ret (results3 rfl _ _) rfl (fin_err HE.out (HG.out.trans hH) ((n : Int) + 1) 6 (by omega) rfl)
          | none =>
            have HN : Hid (Inv1 ls w1 _ (n + 1) w4) := ⟨out, hH, HOW.out, h4, by rw [HD.out, ← HTS.out]; simp [ref1, h0, hlast, hnm, hpl]⟩
            refine AnyL.takeP 9 (some 60) (.bool false) rfl rfl (by kernel_rfl) (by kernel_rfl) (by kernel_rfl) (by kernel_rfl) (fun _ _ _ h => h) (by kernel_rfl) (fun w' => by simp only [orNo]; go_simp) (fun _ => hH) ?_
            simp only [Act.put, List.setIfInBounds_toArray, List.set_cons_zero, List.set_cons_succ]
            refine AnyL.done (by kernel_rfl) ?_
            go_wp2_with (fail)
            exact ⟨⟨n + 1, by omega, by go_num, HN⟩, by simp [intOf]; omega⟩
        · have hnm' : isName t.dropLast = false := by simpa using hnm
          rw [hnm'] at RN
          have HE : Hid (parseB s = ([], n + 1, 3)) := by
            have h3 : ref1 [] ls [] 1 = (3, n + 1, out) := by rw [HD.out]; simp [ref1, h0, hlast, hnm']
            show parseB s = _
            rw [HQ.out, h3]; rfl
          go_wp2_with (fail)
          refine RN.out.mono ?_
          rintro e w2 ⟨rfl, rfl⟩
          clear RN
          go_wp2_with (fail)
          exact bodyPost_ret (results3 rfl _ _) rfl (fin_err HE.out (HG.out.trans gr) ((n : Int) + 1) 3 (by omega) rfl)
      · have q2 : (((T[T.size - 1]).toNat : Int) == 58) = false := by
          simp only [beq_eq_false_iff_ne, ne_eq]
          intro h
          exact h2 (UInt8.toNat_inj.mp (by simpa using (by omega : (T[T.size - 1]).toNat = 58)))
        have hlast : ¬ t.getLast? = some 58 := by rw [hla]; intro e; exact h2 (Option.some.inj e)
        obtain ⟨ao, co, hvo⟩ := own_shape HOW.out
        subst hvo
        have RR := hide (rread_calls T wr hts)
        rw [HT.out] at RR
        go_wp2_with (fail)
        refine RR.out.mono ?_
        rintro e w2 ⟨g2, hm⟩
        clear RR
        cases hr : readL t with
        | none =>
          rw [hr] at hm
          obtain ⟨x, y, rfl⟩ := hm
          have HE : Hid (parseB s = ([], n + 1, 3)) := by
            have h3 : ref1 [] ls [] 1 = (3, n + 1, out) := by rw [HD.out]; simp [ref1, h0, hlast, hr]
            show parseB s = _
            rw [HQ.out, h3]; rfl
          go_wp2_with (fail)
          exact bodyPost_ret (results3 rfl _ _) rfl (fin_err HE.out ((HG.out.trans (gr.trans g2)).alloc _ _) ((n : Int) + 1) 3 (by omega) rfl)
        | some i =>
          rw [hr] at hm
          obtain rfl := hm
          by_cases h5 : out.length < 4000
          · have h5' : ¬ (4000 : Int) ≤ (out.length : Int) := by omega
            have hu := (Gr.refl w2).alloc i.1.vals.toArray 36
            have hu2 := hu.alloc i.1.vals.toArray 36
            have hX : ((w2.alloc (.cells i.1.vals.toArray 36)).alloc (.cells i.1.vals.toArray 36)).heap[w2.heap.size + 1]? = some (.cells i.1.vals.toArray 36) := by
              have := heap_alloc_new (w2.alloc (.cells i.1.vals.toArray 36)) (.cells i.1.vals.toArray 36)
              simpa using this
            have ho2 := own_gr (own_gr HOW.out g2) hu2
            have gz := (gr.trans g2).trans hu2
            obtain ⟨v', u', hra, hown', hgr'⟩ := app_ins _ w1.heap.size 23 _ out ho2 (w2.heap.size + 1) i.1 hX (by omega) gz.size
            have HRA := hide hra
            have gz' := Gr.own gz ho2 hgr'
            have HN : Hid (Inv1 ls w1 v' (n + 1) u') := ⟨out ++ [i.1], gz', hown', by simp; omega, by rw [HD.out, ← HTS.out]; simp [ref1, h0, hlast, hr, h5]⟩
            clear hra hown' hgr' gz' gz ho2 hu hu2 hX
            go_wp2_with (first
              | (refine step_app rfl (some 81) rfl _ _ 23 rfl _ _ rfl rfl _ _ HRA.out ?_))
            exact ⟨⟨n + 1, by omega, by go_num, HN⟩, by simp [intOf]; omega⟩
          · have h5' : (4000 : Int) ≤ (out.length : Int) := by omega
            have HE : Hid (parseB s = ([], n + 1, 4)) := by
              have h3 : ref1 [] ls [] 1 = (4, n + 1, out) := by rw [HD.out]; simp [ref1, h0, hlast, hr, h5]
              show parseB s = _
              rw [HQ.out, h3]; rfl
            go_wp2_with (fail)
            exact bodyPost_ret (results3 rfl _ _) rfl (fin_err HE.out ((HG.out.trans (gr.trans g2)).alloc _ _) ((n : Int) + 1) 4 (by omega) rfl)
    · obtain rfl : n = ls.length := by omega
      have hd := HRF.out
      rw [List.take_length, List.drop_length] at hd
      have h3 : ref1 [] ls [] 1 = (0, 0, out) := hd
      have hE := ref1_eq ls [] st0 1 gath0
      rw [show st0.code = [] from rfl, h3] at hE
      have hE1 : (linesL st0 ls 1).1 = 0 := (congrArg (fun x => x.1) hE).symm
      have hE2 : (linesL st0 ls 1).2.2.code = out := (congrArg (fun x => x.2.2) hE).symm
      obtain ⟨a1, a2, _, _⟩ := lines_all ls st0 1 hE1
      rw [hE2, show st0.code = [] from rfl, List.nil_append] at a2
      have HQ2 : Hid (parseB s = if (ref2 ls ls 0 out 1).1 = 0 then ((ref2 ls ls 0 out 1).2.2, 0, 0) else ([], (ref2 ls ls 0 out 1).2.1, 5)) := by
        show parseB s = _
        rw [HQ.out, h3]; rfl
      obtain ⟨ao, co, hvo⟩ := own_shape HOW.out
      subst hvo
      have HI2 : Hid (Inv2 ls w1 (.slice ao out.length co) out 0 0 wr) := ⟨out, gr, HOW.out, rfl, a1, a2, by rw [a2]; exact clL_ok ls, rfl⟩
      clear hd h3 hE hE1 hE2 a1 a2 HOW HRF gr hn hlt HQ
      go_wp2_with (fail)
      go_loopw [12, 13] (fun sk sn wr => ∃ k n : Nat, n ≤ ls.length ∧ k ≤ n ∧ sk = .int .i64 k ∧ sn = .int .i64 n ∧ Hid (Inv2 ls w1 (.slice ao out.length co) out k n wr)) (fun _ sn _ => ls.length - (intOf sn).toNat)
      case atStart => exact ⟨0, 0, by omega, by omega, rfl, rfl, HI2⟩
      case round =>
        clear HI2
        obtain ⟨k, n, hn, hkn, rfl, rfl, hI⟩ := hrel
        obtain ⟨cur, gr, hown, hcl, hok, hdr, hoks, href⟩ := hI.out
        clear hI
        have HOW := hide hown
        have HRF := hide href
        have HDR := hide hdr
        have HKS := hide hoks
        have HOK := hide hok
        have HCL := hide hcl
        clear hown href hdr hoks hok hcl
        by_cases hlt : n < ls.length
        · have hlt' : (n : Int) < ls.length := by omega
          have hc := (HW.out.later gr).cell (List.getElem?_eq_getElem hlt)
          have hd := HRF.out
          have hd2 := HDR.out
          have hd3 := HOK.out
          rw [List.drop_eq_getElem_cons hlt] at hd hd2 hd3
          have hts : (ByteArray.mk (ls[n]).toArray).size ≤ 2147483648 := by rw [size_mk]; have := HPS.out _ (List.getElem_mem hlt); omega
          have HT : Hid ((ByteArray.mk (ls[n]).toArray).data.toList = ls[n]) := rfl
          change _ = some (Value.string (ByteArray.mk (ls[n]).toArray)) at hc
          generalize ls[n] = t at hc hd hd2 hd3 HT hts
          generalize ByteArray.mk t.toArray = T at hc HT hts
          have HD := hide hd
          have HD2 := hide hd2
          have HD3 := hide hd3
          clear hd hd2 hd3 HRF HDR HOK
          by_cases h0 : t = []
          · have q0 : List.isEmpty T.toList = true := by rw [ByteArray.toList_eq, HT.out, h0]; rfl
            have HN : Hid (Inv2 ls w1 (.slice ao out.length co) out k (n + 1) wr) := ⟨cur, gr, HOW.out, HCL.out, HD3.out.2, by rw [HD2.out]; simp only [clL, if_pos h0], HKS.out, by rw [HD.out]; simp only [ref2, if_pos h0]⟩
            clear h0
            go_wp2_with (fail)
            exact ⟨⟨k, n + 1, by omega, by omega, rfl, by go_num, HN⟩, by simp [intOf]; omega⟩
          have q0 : List.isEmpty T.toList = false := by rw [ByteArray.toList_eq, HT.out]; simpa using h0
          obtain ⟨hT, hla⟩ := lastB T (by rw [HT.out]; exact h0)
          rw [HT.out] at hla
          have b1 : (T.size : Int) - 1 < T.size := by omega
          have b2 : (0 : Int) ≤ (T.size : Int) - 1 := by omega
          have ew : IntKind.i64.wrap ((T.size : Int) - 1) = ((T.size - 1 : Nat) : Int) := by rw [IntKind.wrap_i64]; omega
          have b3 : ((T.size - 1 : Nat) : Int) < T.size := by omega
          by_cases h2 : T[T.size - 1] = 58
          · have q2 : (((T[T.size - 1]).toNat : Int) == 58) = true := by rw [h2]; rfl
            have hlast : t.getLast? = some 58 := by rw [hla, h2]
            have HN : Hid (Inv2 ls w1 (.slice ao out.length co) out k (n + 1) wr) := ⟨cur, gr, HOW.out, HCL.out, HD3.out.2, by rw [HD2.out]; simp only [clL, if_neg h0, if_pos hlast], HKS.out, by rw [HD.out]; simp only [ref2, if_neg h0, if_pos hlast]⟩
            clear h0 hla h2 hlast
            go_wp2_with (fail)
            exact ⟨⟨k, n + 1, by omega, by omega, rfl, by go_num, HN⟩, by simp [intOf]; omega⟩
          · have q2 : (((T[T.size - 1]).toNat : Int) == 58) = false := by
              simp only [beq_eq_false_iff_ne, ne_eq]
              intro h
              exact h2 (UInt8.toNat_inj.mp (by simpa using (by omega : (T[T.size - 1]).toNat = 58)))
            have hlast : ¬ t.getLast? = some 58 := by rw [hla]; intro e; exact h2 (Option.some.inj e)
            obtain ⟨i, hr⟩ : ∃ i, readL t = some i := by
              rcases HD3.out.1 with h | h | h
              · exact absurd h h0
              · exact absurd h hlast
              · exact Option.isSome_iff_exists.1 h
            obtain ⟨hcl1, hck, hkl⟩ := drop_next (x := i.1) (r := clL (ls.drop (n + 1))) (by rw [HD2.out]; simp only [clL, if_neg h0, if_neg hlast, hr])
            have hgd : cur.getD k ins0 = i.1 := by rw [List.getD_eq_getElem?_getD, hck]; rfl
            have hcl := HCL.out
            obtain ⟨q, cap, hv, hbq, _, ⟨cells, hq⟩, hcc⟩ := own_some HOW.out (by omega)
            have hao : ao = some ⟨q, 0, none⟩ := by injection hv
            subst hao
            have hqc := hcc _ _ (codeV_at cur k 4 i.1 (by omega) hck)
            have hql : q < wr.heap.size := heap_lt hq
            have hqz : wr.frozen? ⟨q, k * 5 + 4, none⟩ = false := row_frozen hq _
            have hkk : (k : Int) < out.length := by omega
            have hik := HKS.out i.1 (List.mem_of_getElem? hck)
            obtain ⟨hik1, hik2⟩ := hik
            have HCK := hide hck
            have HGD := hide hgd
            have HCL1 := hide hcl1
            have HQC := hide hqc
            have HQZ := hide hqz
            clear hck hgd hcl1 hqc hqz hv hcc hq hcl
            have RR := hide (rread_calls T wr hts)
            rw [HT.out] at RR
            go_wp2_with (fail)
            refine RR.out.mono ?_
            rintro e w2 ⟨g2, hm⟩
            rw [hr] at hm
            change e = .returned (.tuple #[.agg i.1.vals.toArray, .string (ByteArray.mk i.2.toArray), .int .i64 1]) at hm
            have hto : i.2.length ≤ 2147483648 := by have := (readL_ok (i := i.1) (to := i.2) hr).2; have := size_list T; rw [HT.out] at this; omega
            have HTO : Hid ((ByteArray.mk i.2.toArray).data.toList = i.2) := rfl
            have hts2 : (ByteArray.mk i.2.toArray).size ≤ 2147483648 := by rw [size_mk]; exact hto
            generalize ByteArray.mk i.2.toArray = TO at hm HTO hts2
            obtain rfl := hm
            clear RR
            go_wp2_with (fail)
            refine (has_calls i.1.op 84 _).mono ?_
            rintro e w3 ⟨rfl, g3⟩
            have g4 : Gr wr w3 := (g2.alloc _ _).trans g3
            have gz := gr.trans g4
            have HOW3 := hide (own_gr HOW.out g4)
            rw [has_jump]
            clear g2 g3 HOW gr
            by_cases hj : jumpB i.1.op = true
            · rw [hj]
              have k1 : w3.cell? ⟨q, k * 5 + 4, none⟩ = some (.int .u32 i.1.k) := (Below.cell g4 (p := ⟨q, k * 5 + 4, none⟩) hql).trans HQC.out
              have k2 : w3.frozen? ⟨q, k * 5 + 4, none⟩ = false := (Below.frozen g4 (p := ⟨q, k * 5 + 4, none⟩) hql).trans HQZ.out
              by_cases h5 : i.2 = []
              · have q5 : List.isEmpty TO.toList = true := by rw [ByteArray.toList_eq, HTO.out, h5]; rfl
                by_cases hle : i.1.k ≤ (out.length : Int)
                · have hle' : ¬ (out.length : Int) < i.1.k := by omega
                  have HN : Hid (Inv2 ls w1 (.slice (some ⟨q, 0, none⟩) out.length co) out (k + 1) (n + 1) w3) := ⟨cur, gz, HOW3.out, HCL.out, HD3.out.2, HCL1.out, HKS.out, by
                    have hcond : (cur.getD k ins0).k ≤ (cur.length : Int) := by rw [HGD.out, HCL.out]; exact hle
                    rw [HD.out]; simp only [ref2, if_neg h0, if_neg hlast, hr, if_pos hj, if_pos h5, if_pos hcond]⟩
                  go_wp2_with (fail)
                  exact ⟨⟨k + 1, n + 1, by omega, by omega, by go_num, by go_num, HN⟩, by simp [intOf]; omega⟩
                · have hle' : (out.length : Int) < i.1.k := by omega
                  have HE : Hid (parseB s = ([], n + 1, 5)) := by
                    have hcond : ¬ (cur.getD k ins0).k ≤ (cur.length : Int) := by rw [HGD.out, HCL.out]; exact hle
                    have h3 : ref2 ls ls 0 out 1 = (5, n + 1, cur) := by rw [HD.out]; simp only [ref2, if_neg h0, if_neg hlast, hr, if_pos hj, if_pos h5, if_neg hcond]
                    show parseB s = _
                    rw [HQ2.out, h3]; rfl
                  go_wp2_with (fail)
                  exact bodyPost_ret (results3 rfl _ _) rfl (fin_err HE.out (HG.out.trans gz) ((n : Int) + 1) 5 (by omega) rfl)
              · have q5 : List.isEmpty TO.toList = false := by rw [ByteArray.toList_eq, HTO.out]; simpa using h5
                have hst : StrsAt w3 (.slice (some ⟨b, 0, none⟩) ls.length c) ls := by
                  have := (HW.out.later gz).strs ls.length c (Nat.le_refl _)
                  rw [List.take_length] at this
                  exact this
                have RP := hide (rplace_calls _ ls TO w3 hts2 hst (by omega) (fun x hx => by have := HPS.out x hx; omega))
                rw [HTO.out] at RP
                go_wp2_with (fail)
                refine RP.out.mono ?_
                rintro e w4 ⟨rfl, d, rfl⟩
                have gz4 := gz.drewN d
                have HOW4 := hide (own_gr HOW3.out ((Gr.refl w3).drewN d))
                have k1' : (w3.drewN d).cell? ⟨q, k * 5 + 4, none⟩ = some (.int .u32 i.1.k) := k1
                have k2' : (w3.drewN d).frozen? ⟨q, k * 5 + 4, none⟩ = false := k2
                clear RP hst k1 k2
                generalize w3.drewN d = w5 at gz4 HOW4 k1' k2' ⊢
                cases hpl : placeR ls i.2 0 with
                | none =>
                  have HE : Hid (parseB s = ([], n + 1, 5)) := by
                    have h3 : ref2 ls ls 0 out 1 = (5, n + 1, cur) := by rw [HD.out]; simp only [ref2, if_neg h0, if_neg hlast, hr, if_pos hj, if_neg h5, hpl]
                    show parseB s = _
                    rw [HQ2.out, h3]; rfl
                  simp only [orNo]
                  go_wp2_with (fail)
                  exact bodyPost_ret (results3 rfl _ _) rfl (fin_err HE.out (HG.out.trans gz4) ((n : Int) + 1) 5 (by omega) rfl)
                | some p =>
                  have hple := placeR_le i.2 ls 0 p hpl
                  have hp1 : (0 : Int) ≤ p := by omega
                  have hp2 : (p : Int) ≤ 20001 := by omega
                  have ho := HOW4.out
                  rw [HCL.out] at ho
                  replace ho := own_set ho (k * 5 + 4) (by rw [codeV_len]; omega) (.int .u32 (p : Int))
                  rw [codeV_set cur k i.1 p HCK.out, ← setK_eq cur k i.1 p HCK.out, ← HCL.out, ← setK_length cur k p] at ho
                  simp only [orNo]
                  by_cases hle : (p : Int) ≤ (out.length : Int)
                  · have hle' : ¬ (out.length : Int) < p := by omega
                    have HN : Hid (Inv2 ls w1 (.slice (some ⟨q, 0, none⟩) out.length co) out (k + 1) (n + 1) (w5.setCell ⟨q, k * 5 + 4, none⟩ (.int .u32 (p : Int)))) := ⟨setK cur k p, gz4.setCell hbq _, by rw [← HCL.out, ← setK_length cur k p]; exact ho, by rw [setK_length]; exact HCL.out, HD3.out.2, by rw [setK_drop]; exact HCL1.out, setK_ok HKS.out k p ⟨hp1, by omega⟩, by
                      have hcond : (p : Int) ≤ (cur.length : Int) := by rw [HCL.out]; exact hle
                      rw [HD.out]; simp only [ref2, if_neg h0, if_neg hlast, hr, if_pos hj, if_neg h5, hpl, if_pos hcond]⟩
                    clear ho
                    go_wp2_with (fail)
                    exact ⟨⟨k + 1, n + 1, by omega, by omega, by go_num, by go_num, HN⟩, by simp [intOf]; omega⟩
                  · have hle' : (out.length : Int) < p := by omega
                    have HE : Hid (parseB s = ([], n + 1, 5)) := by
                      have hcond : ¬ (p : Int) ≤ (cur.length : Int) := by rw [HCL.out]; exact hle
                      have h3 : ref2 ls ls 0 out 1 = (5, n + 1, setK cur k p) := by rw [HD.out]; simp only [ref2, if_neg h0, if_neg hlast, hr, if_pos hj, if_neg h5, hpl, if_neg hcond]
                      show parseB s = _
                      rw [HQ2.out, h3]; rfl
                    clear ho
                    go_wp2_with (fail)
                    exact bodyPost_ret (results3 rfl _ _) rfl (fin_err HE.out (HG.out.trans (gz4.setCell hbq _)) ((n : Int) + 1) 5 (by omega) rfl)
            · have hj' : jumpB i.1.op = false := by simpa using hj
              rw [hj']
              have HN : Hid (Inv2 ls w1 (.slice (some ⟨q, 0, none⟩) out.length co) out (k + 1) (n + 1) w3) := ⟨cur, gz, HOW3.out, HCL.out, HD3.out.2, HCL1.out, HKS.out, by rw [HD.out]; simp [ref2, h0, hlast, hr, hj']⟩
              go_wp2_with (fail)
              exact ⟨⟨k + 1, n + 1, by omega, by omega, by go_num, by go_num, HN⟩, by simp [intOf]; omega⟩
        · obtain rfl : n = ls.length := by omega
          have HE : Hid (parseB s = (cur, 0, 0)) := by
            have h3 := HRF.out
            rw [List.drop_length] at h3
            show parseB s = _
            rw [HQ2.out, h3]; rfl
          have HCL' := HCL.out
          go_wp2_with (fail)
          refine bodyPost_ret (results3 rfl _ _) rfl ?_
          unfold ParseP
          rw [HE.out]
          exact ⟨_, rfl, own_base HOW.out HG.out.size, HG.out.trans gr⟩
end Go.Proofs.YtcfkcnkekdafgaaGreatDoor
