/-
  For any code in memory, any string and any number of 8 bits, in any world in which the program's tables lie: deadlatchlaw04.AsmNames returns true. Conditions: K is from 0 to 2^32 - 1 in each instruction.
-/
import Derived.Test.YtcfkcnkekdafgaaDoorPlc
import Derived.Test.YtcfkcnkekdafgaaDoorNml
import Derived.Test.YtcfkcnkekdafgaaDoorJoi
import Derived.Test.YtcfkcnkekdafgaaDoorRlin
import Derived.Test.YtcfkcnkekdafgaaDoorRrig
import Derived.Test.YtcfkcnkekdafgaaDoorPrse
import Derived.Test.YtcfkcnkekdafgaaDoorAwak
import Derived.Deep.CutBlock
import Derived.Deep.LoopGhost
import Derived.Test.YtcfkcnkekdafgaaDoorLate
namespace Go.Proofs.YtcfkcnkekdafgaaDoor
open Go.ChangeShapes Go.WideShapes Go.ChangeAt Go.RowKit
set_option linter.unusedVariables false

/-- the text, line by line, from the front on -/
def frontN (name : Bs) (bl : Nat) : Nat → List Ins → Bs
  | _, [] => []
  | n, i :: l => headN name bl n ++ lineN name i ++ [10] ++ frontN name bl (n + 1) l
theorem front_snoc (name : Bs) (bl : Nat) (i : Ins) : ∀ (l : List Ins) (n : Nat), frontN name bl n (l ++ [i]) = frontN name bl n l ++ headN name bl (n + l.length) ++ lineN name i ++ [10]
  | [], n => by simp [frontN]
  | j :: l, n => by
    rw [List.cons_append, frontN, frontN, front_snoc name bl i l (n + 1)]
    simp [Nat.add_assoc, Nat.add_comm 1]
theorem text_front (name : Bs) (bl : Nat) : ∀ (l : List Ins) (n : Nat), textN name bl n l = frontN name bl n l ++ headN name bl (n + l.length)
  | [], n => by simp [frontN, textN]
  | i :: l, n => by
    rw [frontN, textN, text_front name bl l (n + 1)]
    simp [Nat.add_assoc, Nat.add_comm 1]
theorem nmP_len {name : Bs} (h : name.length ≤ 10) (n : Nat) : (nmP name n).length ≤ 22 := by
  have := digF_len 11 n
  unfold nmP
  simp
  omega
theorem headN_len {name : Bs} (h : name.length ≤ 10) (bl n : Nat) : (headN name bl n).length ≤ 25 := by
  have := nmP_len h n
  unfold headN
  split <;> simp <;> omega
theorem lineN_len {name : Bs} (h : name.length ≤ 10) {i : Ins} (hi : (lineI i).length ≤ 124) : (lineN name i).length ≤ 146 := by
  have := nmP_len h i.k.toNat
  unfold lineN
  split
  · simp; omega
  · omega
theorem front_len {name : Bs} (h : name.length ≤ 10) (bl : Nat) : ∀ (l : List Ins) (n : Nat), (∀ i ∈ l, (lineI i).length ≤ 124) → (frontN name bl n l).length ≤ 172 * l.length
  | [], n, _ => by simp [frontN]
  | i :: l, n, hi => by
    have h1 := front_len h bl l (n + 1) (fun j hj => hi j (by simp [hj]))
    have h2 := headN_len h bl n
    have h3 := lineN_len h (hi i (by simp))
    rw [frontN]
    simp only [List.length_append, List.length_cons, List.length_nil]
    omega
/-- where the place stands in a line -/
theorem line_at {i : Ins} {n : Nat} (hr : rightsI n i = true) (hk : i.ok) (h : hasB i.op 84 = true) : ∃ X : Bs, lineI i = (X ++ [64]) ++ digF 11 i.k.toNat := by
  obtain ⟨o, p, q, r, m, eo, ea, eb, ec, ek, ho, hp8, hq8, hr8, hm, hTell⟩ := right_tells hr hk.1 hk.2
  obtain ⟨iop, ia, ib, ic, ik⟩ := i
  simp only at eo ea eb ec ek
  subst eo ea eb ec ek
  have ho3 := ((t_kinds ⟨o, ho⟩).1).1 h
  simp only at ho3
  have hli : lineI ⟨(o : Int), p, q, r, m⟩ = Lib.join (toldL o p q r m (wk o)) [32] := by
    rw [← line_eq o p q r m ho]
    rfl
  rw [hli, show ((m : Int)).toNat = m from rfl]
  rcases ho3 with rfl | ho3
  · refine ⟨(nameB ((13 : Nat) : Int)).data.toList ++ [32], ?_⟩
    rw [wk_t.1]
    simp only [toldL, List.map_cons, List.map_nil]
    rw [join_two]
    simp [tellW]
  · have hwk : wk o = [0, 4] := by
      rcases ho3 with rfl | rfl
      · exact wk_t.2.1
      · exact wk_t.2.2
    refine ⟨(nameB (o : Int)).data.toList ++ [32] ++ ([114] ++ digF 11 p) ++ [32], ?_⟩
    rw [hwk]
    simp only [toldL, List.map_cons, List.map_nil]
    rw [join_three]
    simp [tellW]

theorem ext_take (A B : Bs) : (⟨(A ++ B).toArray⟩ : ByteArray).extract 0 A.length = ⟨A.toArray⟩ := by
  apply ByteArray.ext
  simp
/-- what is asked of a code and a name, ahead of the rest -/
structure NamI (name : Bs) (l : List Ins) (w : World) (v : Value) : Prop where
  code : CodeAt w v l
  ok : ∀ i ∈ l, i.ok
  few : l.length ≤ 200
  is : isName name = true
  len : name.length ≤ 10
  laid : Laid w

set_option maxRecDepth 100000 in
set_option maxHeartbeats 8000000 in
theorem names_few (v : Value) (l : List Ins) (name : Bs) (bl : Nat) (hbl : bl < 256) (w : World) (h : NamI name l w v) :
    Calls Tryd.prog 3 #[v, .string ⟨name.toArray⟩, .int .u8 bl] w fun e w' => e = .returned (.bool true) ∧ Gr w w' := by
  have H := hide h
  have AW := hide (awake_calls w h.laid)
  obtain ⟨a0, cap, rfl, hC⟩ := h.code
  have HC := hide h.code
  have hl := h.few
  have hnl := h.len
  have hl' : ¬ (200 : Int) < l.length := by omega
  have hsz : (⟨name.toArray⟩ : ByteArray).size = name.length := size_mk name
  have hsz' : ¬ (10 : Int) < (name.length : Int) := by omega
  have HN : Hid (isName (⟨name.toArray⟩ : ByteArray).data.toList = true) := h.is
  clear h
  go_enter Tryd.func3, Tryd.ntmps3
  go_wp2_with (fail)
  refine AW.out.mono ?_
  rintro e w1 ⟨rfl, g1⟩
  have NC := name_calls ⟨name.toArray⟩ w1
  rw [HN.out] at NC
  have HNC := hide NC
  clear NC
  go_wp2_with (fail)
  refine HNC.out.mono ?_
  rintro e w2 ⟨rfl, g2⟩
  have G2 := hide (g1.trans g2)
  clear AW HNC g1 g2
  go_wp2_with (fail)
  go_loopw [7] (fun i wr => ∃ j : Nat, j ≤ l.length ∧ i = .int .i64 j ∧ Hid (∀ n i, n < j → l[n]? = some i → rightsI l.length i = true) ∧ Hid (Gr w wr)) (fun i _ => l.length - (intOf i).toNat)
  case atStart => exact ⟨0, by omega, rfl, fun n i h => by omega, G2⟩
  case round =>
    clear G2
    obtain ⟨j, hj, rfl, HR, HG⟩ := hrel
    by_cases hlt : j < l.length
    · obtain ⟨i, hi⟩ : ∃ i, l[j]? = some i := ⟨_, List.getElem?_eq_getElem hlt⟩
      rcases hC with h | ⟨b1, o1, ha1, h1⟩
      · rw [h] at hlt; simp at hlt
      obtain ⟨x0, x1, x2, x3, x4⟩ := h1 j i hi
      have x0 := cell_later HG.out x0
      have x1 := cell_later HG.out x1
      have x2 := cell_later HG.out x2
      have x3 := cell_later HG.out x3
      have x4 := cell_later HG.out x4
      have b0 : (j : Int) < l.length := by omega
      obtain ⟨k0, k1⟩ := H.out.ok i (List.mem_of_getElem? hi)
      have HI := hide hi
      clear hi h1
      subst ha1
      have RC := hide (refright_calls i.op i.a i.b i.c i.k l.length k0 k1 wr)
      go_wp2_with (fail)
      refine RC.out.mono ?_
      rintro e w6 ⟨rfl, g6⟩
      clear RC
      cases hr : rightB i.op i.a i.b i.c i.k l.length
      · go_wp2_with (fail)
        go_ret
        exact ⟨rfl, HG.out.trans g6⟩
      · have HR2 : Hid (∀ n i, n < j + 1 → l[n]? = some i → rightsI l.length i = true) := by
          intro n i' hn hi'
          rcases Nat.lt_or_ge n j with h | h
          · exact HR.out n i' h hi'
          · obtain rfl : n = j := by omega
            rw [HI.out] at hi'
            cases hi'
            exact hr
        have G6 := hide (HG.out.trans g6)
        clear HR HI HG g6 hr x0 x1 x2 x3 x4
        go_wp2_with (fail)
        exact ⟨⟨j + 1, by omega, by go_num, HR2, G6⟩, by simp [intOf]; omega⟩
    · obtain rfl : j = l.length := by omega
      have HA : Hid (∀ i ∈ l, rightsI l.length i = true) := by
        intro i hi
        obtain ⟨n, hn, e⟩ := List.getElem_of_mem hi
        exact HR.out n i hn (by rw [List.getElem?_eq_getElem hn, e])
      have HLL : Hid (∀ i ∈ l, (lineI i).length ≤ 124) := fun i hi => lineI_len (HA.out i hi) (H.out.ok i hi)
      clear HR hj hlt
      go_wp2_with (fail)
      go_loopg [8, 9] l.length (fun g s i wr => ∃ j : Nat, j ≤ l.length ∧ g = l.length - j ∧ s = .string ⟨(frontN name bl 0 (l.take j)).toArray⟩ ∧ i = .int .i64 j ∧ Hid (Gr w wr))
      case atStart => exact ⟨0, by omega, rfl, rfl, rfl, HG⟩
      case round =>
        clear HG
        obtain ⟨j, hj, rfl, rfl, rfl, HG⟩ := hrel
        have hj' : (j : Int) ≤ l.length := by omega
        have hfl := front_len hnl bl (l.take j) 0 (fun i hi => HLL.out i (List.mem_of_mem_take hi))
        rw [List.length_take] at hfl
        have hpl := nmP_len hnl j
        have hhl := headN_len hnl bl j
        have HH : Hid (headN name bl j = nmP name j ++ [58, 10] ++ (if bl % 3 = j % 3 then [10] else [])) := by show _ = _; rfl
        have PC := hide (place_calls name (by omega) j (by omega) wr)
        generalize hF : frontN name bl 0 (l.take j) = F at hfl ⊢
        have HF := hide hF
        generalize nmP name j = P at hpl PC HH
        generalize hHd : headN name bl j = Hd at hhl HH
        have HHd := hide hHd
        clear hHd
        have zF : (⟨F.toArray⟩ : ByteArray).size ≤ 34400 := by rw [size_mk]; omega
        have zP : (⟨P.toArray⟩ : ByteArray).size ≤ 22 := by rw [size_mk]; omega
        clear hF
        go_wp2_with (fail)
        refine PC.out.mono ?_
        rintro e w5 ⟨rfl, g5⟩
        have G5 := hide (HG.out.trans g5)
        clear PC g5
        have m1 : ((bl : Int) % 3 == (j : Int) % 3) = decide (bl % 3 = j % 3) := by
          by_cases h : bl % 3 = j % 3
          · simp [h]; omega
          · simp [h]; omega
        go_upto_if 64 with (fail)
        go_cut [8] from 47 to 110 (fun s wx => s = .string ⟨(F ++ Hd).toArray⟩ ∧ wx = w5)
        case first =>
          by_cases hb : bl % 3 = j % 3
          · have m2 : ((bl : Int) % 3 == (j : Int) % 3) = true := by rw [m1]; simp [hb]
            have HB := hide hb
            clear m1 hb
            go_wp2_with (fail)
            go_meet
            refine ⟨congrArg Value.string ?_, rfl⟩
            show (((⟨F.toArray⟩ : ByteArray) ++ ⟨P.toArray⟩) ++ ⟨[58, 10].toArray⟩) ++ ⟨[10].toArray⟩ = _
            rw [cat_mk, cat_mk, cat_mk, HH.out, if_pos HB.out]
            simp
          · have m2 : ((bl : Int) % 3 == (j : Int) % 3) = false := by rw [m1]; simp [hb]
            have HB := hide hb
            clear m1 hb
            go_wp2_with (fail)
            go_meet
            refine ⟨congrArg Value.string ?_, rfl⟩
            show ((⟨F.toArray⟩ : ByteArray) ++ ⟨P.toArray⟩) ++ ⟨[58, 10].toArray⟩ = _
            rw [cat_mk, cat_mk, HH.out, if_neg HB.out]
            simp
        case rest =>
          obtain ⟨rfl, rfl⟩ := hcut
          have zH : (⟨(F ++ Hd).toArray⟩ : ByteArray).size ≤ 34425 := by rw [size_mk, List.length_append]; omega
          clear m1 zF zP
          by_cases hlt : j < l.length
          · obtain ⟨i, hi⟩ : ∃ i, l[j]? = some i := ⟨_, List.getElem?_eq_getElem hlt⟩
            have hmem := List.mem_of_getElem? hi
            have HTT : Hid (frontN name bl 0 (l.take (j + 1)) = F ++ Hd ++ lineN name i ++ [10]) := by
              show _ = _
              rw [List.take_add_one, hi]
              show frontN name bl 0 (l.take j ++ [i]) = _
              rw [front_snoc, HF.out, List.length_take, Nat.min_eq_left hj, Nat.zero_add, HHd.out]
            rcases hC with h | ⟨b1, o1, ha1, h1⟩
            · rw [h] at hlt; simp at hlt
            obtain ⟨x0, x1, x2, x3, x4⟩ := h1 j i hi
            have x0 := cell_later G5.out x0
            have x1 := cell_later G5.out x1
            have x2 := cell_later G5.out x2
            have x3 := cell_later G5.out x3
            have x4 := cell_later G5.out x4
            have b0 : (j : Int) < l.length := by omega
            have b1' : ((j : Int) == (l.length : Int)) = false := by simp; omega
            have hr := HA.out i hmem
            have hk := H.out.ok i hmem
            have hll := HLL.out i hmem
            have HXT := hide (fun h => line_at hr hk h)
            have HKK := hide (fun h => t_le hr hk h)
            obtain ⟨o, p, q, r, m, eo, ea, eb, ec, ek, ho, hp8, hq8, hr8, hm, -⟩ := right_tells hr hk.1 hk.2
            have lc := line_calls o p q r m (by omega) (by omega) (by omega) hm wc
            have hli : lineI i = lineF (fB o).data.toList p q r m (nameB o).data.toList := by
              unfold lineI
              rw [eo, ea, eb, ec, ek]
              rfl
            rw [← hli, ← eo, ← ea, ← eb, ← ec, ← ek] at lc
            have LC := hide lc
            have HKO := hide hk
            subst ha1
            clear lc hli eo ea eb ec ek ho hp8 hq8 hr8 hm hr hk hi h1 hmem
            have HLN : Hid (lineN name i = if hasB i.op 84 = true then (lineI i).take ((lineI i).length - (digF 11 i.k.toNat).length) ++ nmP name i.k.toNat else lineI i) := by show _ = _; rfl
            generalize lineI i = li at LC hll HXT HLN
            generalize lineN name i = ln at HTT HLN
            have zl : (⟨li.toArray⟩ : ByteArray).size = li.length := size_mk li
            go_wp2_with (fail)
            refine LC.out.mono ?_
            rintro e w6 ⟨rfl, g6⟩
            have x0 := cell_later g6 x0
            have x4 := cell_later g6 x4
            have G6 := hide (G5.out.trans g6)
            have HS := hide (has_calls i.op 84 w6)
            clear LC g6
            go_wp2_with (fail)
            refine HS.out.mono ?_
            rintro e w7 ⟨rfl, g7⟩
            have x0 := cell_later g7 x0
            have x4 := cell_later g7 x4
            have G7 := hide (G6.out.trans g7)
            clear HS g7
            cases hT : hasB i.op 84
            · have e1 : Hid (ln = li) := by have := HLN.out; rw [hT, if_neg (by simp)] at this; exact this
              clear HLN HXT HKK
              have zl' : (⟨li.toArray⟩ : ByteArray).size ≤ 124 := by rw [size_mk]; exact hll
              go_wp2_with (fail)
              go_roundg (l.length - (j + 1))
              case measure => omega
              case rel =>
                refine ⟨j + 1, by omega, rfl, congrArg Value.string ?_, by go_num, G7⟩
                show ((⟨(F ++ Hd).toArray⟩ : ByteArray) ++ ⟨li.toArray⟩) ++ ⟨[10].toArray⟩ = _
                rw [cat_mk, cat_mk, HTT.out, e1.out]
            · obtain ⟨X, hX⟩ := HXT.out hT
              have hkl := HKK.out hT
              have e1 : Hid (ln = (X ++ [64]) ++ nmP name i.k.toNat) := by
                have := HLN.out
                rw [hT, if_pos rfl, hX, cut_tail] at this
                exact this
              have hlX : li.length = X.length + 1 + (digF 11 i.k.toNat).length := by rw [hX]; simp; omega
              have HX := hide hX
              clear HLN HXT HKK hX
              go_wp2_with (fail)
              go_loopw [11] (fun c wr => ∃ k : Nat, X.length + 1 ≤ k ∧ k ≤ li.length ∧ c = .int .i64 k ∧ Hid (wr = w7)) (fun c _ => (intOf c).toNat)
              case atStart => exact ⟨li.length, by omega, by omega, by go_num, rfl⟩
              case round =>
                obtain ⟨k, hk1, hk2, rfl, hw7⟩ := hrel
                have ew := hw7.out
                subst ew
                have k0 : (0 : Int) < (k : Int) := by omega
                obtain ⟨c, rfl⟩ : ∃ c, k = c + 1 := ⟨k - 1, by omega⟩
                have hcl : c < li.length := by omega
                have hcl' : c < (⟨li.toArray⟩ : ByteArray).size := by rw [zl]; exact hcl
                have hat : (⟨li.toArray⟩ : ByteArray)[c]'hcl' = li[c] := by
                  show li.toArray[c] = li[c]
                  simp
                have hc1 : ((c + 1 : Nat) : Int) - 1 = (c : Int) := by omega
                by_cases hkX : c = X.length
                · have hc64 : li[c] = 64 := by
                    have h1 : li[c]? = some 64 := by rw [HX.out, hkX]; simp
                    rw [List.getElem?_eq_getElem hcl] at h1
                    exact Option.some.inj h1
                  rw [hc64] at hat
                  have HE : Hid ((⟨li.toArray⟩ : ByteArray).extract 0 (c + 1) = ⟨(X ++ [64]).toArray⟩) := by
                    show _ = _
                    rw [HX.out, show c + 1 = (X ++ [64]).length by simp [hkX]]
                    exact ext_take _ _
                  have hkk : i.k = ((i.k.toNat : Nat) : Int) := by have := HKO.out.1; omega
                  generalize i.k.toNat = kn at hkk hkl e1 HX hlX
                  have PL := hide (fun w' => place_calls name (by omega) kn (by omega) w')
                  have hnl2 := nmP_len hnl kn
                  have e2 : Hid (ln.length ≤ 146) := by show _ ≤ _; rw [e1.out]; simp at hlX ⊢; omega
                  rw [hkk] at x4
                  clear hkX hc64
                  go_wp2_with (fail)
                  have hcl2 : (c : Int) + 1 ≤ (li.length : Int) := by omega
                  clear hlX
                  have hwk : IntKind.i64.wrap (kn : Int) = kn := by rw [IntKind.wrap_i64]; omega
                  have hext := HE.out
                  refine begin_late 13 [] (fun w' => Gr wr.drew w') (by kernel_rfl) rfl ?_
                  have hH := Gr.refl wr.drew
                  refine AnyL.takeP 0 (some 95) (.string ⟨li.toArray⟩) rfl rfl (by kernel_rfl) (by kernel_rfl) (by kernel_rfl) (by kernel_rfl) (fun _ _ _ h => h) (by kernel_rfl) (fun w' => by go_simp) (fun _ => hH) ?_
                  simp only [Act.put, List.setIfInBounds_toArray, List.set_cons_zero, List.set_cons_succ]
                  refine AnyL.takeP 1 (some 96) (.int .i64 ((c : Int) + 1)) rfl rfl (by kernel_rfl) (by kernel_rfl) (by kernel_rfl) (by kernel_rfl) (fun _ _ _ h => h) (by kernel_rfl) (fun w' => by go_simp) (fun _ => hH) ?_
                  simp only [Act.put, List.setIfInBounds_toArray, List.set_cons_zero, List.set_cons_succ]
                  refine AnyL.takeP 2 (some 97) (.string ⟨(X ++ [64]).toArray⟩) rfl rfl (by kernel_rfl) (by kernel_rfl) (by kernel_rfl) (by kernel_rfl) (fun _ _ _ h => h) (by kernel_rfl) (fun w' => by go_simp; intro hneg; omega) (fun _ => hH) ?_
                  simp only [Act.put, List.setIfInBounds_toArray, List.set_cons_zero, List.set_cons_succ]
                  refine AnyL.takeP 3 (some 98) (.string ⟨name.toArray⟩) rfl rfl (by kernel_rfl) (by kernel_rfl) (by kernel_rfl) (by kernel_rfl) (fun _ _ _ h => h) (by kernel_rfl) (fun w' => by go_simp) (fun _ => hH) ?_
                  simp only [Act.put, List.setIfInBounds_toArray, List.set_cons_zero, List.set_cons_succ]
                  refine AnyL.takeP 4 (some 99) (.slice (some ⟨b1, o1, none⟩) l.length cap) rfl rfl (by kernel_rfl) (by kernel_rfl) (by kernel_rfl) (by kernel_rfl) (fun _ _ _ h => h) (by kernel_rfl) (fun w' => by go_simp) (fun _ => hH) ?_
                  simp only [Act.put, List.setIfInBounds_toArray, List.set_cons_zero, List.set_cons_succ]
                  refine AnyL.takeP 5 (some 100) (.int .i64 j) rfl rfl (by kernel_rfl) (by kernel_rfl) (by kernel_rfl) (by kernel_rfl) (fun _ _ _ h => h) (by kernel_rfl) (fun w' => by go_simp) (fun _ => hH) ?_
                  simp only [Act.put, List.setIfInBounds_toArray, List.set_cons_zero, List.set_cons_succ]
                  refine AnyL.takeP 6 (some 101) (.pointer (some ⟨b1, o1 + j * 5, none⟩)) rfl rfl (by kernel_rfl) (by kernel_rfl) (by kernel_rfl) (by kernel_rfl) (fun _ _ _ h => h) (by kernel_rfl) (fun w' => by go_simp) (fun _ => hH) ?_
                  simp only [Act.put, List.setIfInBounds_toArray, List.set_cons_zero, List.set_cons_succ]
                  refine AnyL.takeP 7 (some 102) (.pointer (some ⟨b1, o1 + j * 5 + 4, none⟩)) rfl rfl (by kernel_rfl) (by kernel_rfl) (by kernel_rfl) (by kernel_rfl) (fun _ _ _ h => h) (by kernel_rfl) (fun w' => by go_simp) (fun _ => hH) ?_
                  simp only [Act.put, List.setIfInBounds_toArray, List.set_cons_zero, List.set_cons_succ]
                  refine AnyL.take 8 (some 103) (.int .u32 (kn : Int)) rfl rfl (by kernel_rfl) (by kernel_rfl) (by kernel_rfl) (by kernel_rfl) (fun _ _ _ h => h) (yields_held _ (by kernel_rfl) (fun w' hw' => by have := cell_later (show Gr wr.drew w' from hw') (show wr.drew.cell? ⟨b1, o1 + j * 5 + 4, none⟩ = some (.int .u32 (kn : Int)) from x4); go_simp)) hH ?_
                  simp only [Act.put, List.setIfInBounds_toArray, List.set_cons_zero, List.set_cons_succ]
                  refine AnyL.takeP 9 (some 104) (.int .i64 (kn : Int)) rfl rfl (by kernel_rfl) (by kernel_rfl) (by kernel_rfl) (by kernel_rfl) (fun _ _ _ h => h) (by kernel_rfl) (fun w' => by go_simp) (fun _ => hH) ?_
                  simp only [Act.put, List.setIfInBounds_toArray, List.set_cons_zero, List.set_cons_succ]
                  refine AnyL.one 10 (by kernel_rfl) rfl (by kernel_rfl) ?_
                  refine wp_call (some 105) rfl 8 #[.string ⟨name.toArray⟩, .int .i64 (kn : Int)] (by kernel_rfl) (PL.out _) ?_
                  rintro e w8 ⟨rfl, g8⟩
                  refine ⟨_, rfl, ?_⟩
                  replace hH := hH.trans g8
                  refine ⟨fun _ => hH, ?_⟩
                  simp only [Act.put, List.setIfInBounds_toArray, List.set_cons_zero, List.set_cons_succ]
                  have zX : (⟨(X ++ [64]).toArray⟩ : ByteArray).size ≤ 124 := by rw [size_mk]; have := hk2; simp; omega
                  have zN : (⟨(nmP name kn).toArray⟩ : ByteArray).size ≤ 22 := by rw [size_mk]; exact hnl2
                  refine AnyL.one 11 (by kernel_rfl) rfl (by kernel_rfl) ?_
                  refine wp_value (some 106) rfl (.string ((⟨(X ++ [64]).toArray⟩ : ByteArray) ++ ⟨(nmP name kn).toArray⟩)) (by go_simp; omega) ?_
                  refine ⟨fun _ => hH, ?_⟩
                  simp only [Act.put, List.setIfInBounds_toArray, List.set_cons_zero, List.set_cons_succ]
                  rw [cat_mk, ← e1.out]
                  refine AnyL.one 12 (by kernel_rfl) rfl (by kernel_rfl) ?_
                  refine wp_value (some 10) rfl (.string ⟨ln.toArray⟩) (by go_simp) ?_
                  refine ⟨fun _ => hH, ?_⟩
                  simp only [Act.put, List.setIfInBounds_toArray, List.set_cons_zero, List.set_cons_succ]
                  refine AnyL.done (by kernel_rfl) ?_
                  have G8 := hide (G7.out.drew.trans hH)
                  have zln : (⟨ln.toArray⟩ : ByteArray).size ≤ 146 := by rw [size_mk]; exact e2.out
                  have hln : ln.length ≤ 146 := e2.out
                  clear PL hext HE hat hH g8 x0 x4
                  go_wp2_with (fail)
                  go_roundg (l.length - (j + 1))
                  case measure => omega
                  case rel =>
                    refine ⟨j + 1, by omega, rfl, congrArg Value.string ?_, by go_num, G8⟩
                    show ((⟨(F ++ Hd).toArray⟩ : ByteArray) ++ ⟨ln.toArray⟩) ++ ⟨[10].toArray⟩ = _
                    rw [cat_mk, cat_mk, HTT.out]
                · have hd : digB li[c] = true := by
                    have h1 : li[c]? = (digF 11 i.k.toNat)[c - (X.length + 1)]? := by
                      rw [HX.out, List.getElem?_append_right (by simp; omega)]
                      simp
                    rw [List.getElem?_eq_getElem hcl] at h1
                    exact digF_dig 11 i.k.toNat _ (List.mem_of_getElem? h1.symm)
                  generalize li[c] = d at hat hd
                  have hd2 : ((d.toNat : Int) != 64) = true := by
                    simp [digB] at hd
                    simp
                    omega
                  clear hd
                  go_wp2_with (fail)
                  exact ⟨⟨c, by omega, by omega, by go_num, trivial⟩, by simp [intOf]⟩
          · obtain rfl : j = l.length := by omega
            have HTX : Hid (textN name bl 0 l = F ++ Hd) := by
              have h1 := HF.out
              rw [List.take_length] at h1
              show _ = _
              rw [text_front, h1, Nat.zero_add, HHd.out]
            have PN := hide (parse_named name bl l H.out.is H.out.len H.out.few HA.out H.out.ok)
            rw [HTX.out] at PN
            have hTl : (F ++ Hd).length = F.length + Hd.length := List.length_append
            generalize hT : F ++ Hd = T at *
            have zT : (⟨T.toArray⟩ : ByteArray).size = T.length := size_mk T
            clear hT hfl HH HF zH
            by_cases h2 : 20000 < T.length
            · have h2' : (20000 : Int) < (T.length : Int) := by omega
              go_wp2_with (fail)
              go_ret
              exact ⟨rfl, G5.out⟩
            · have h2' : ¬ (20000 : Int) < (T.length : Int) := by omega
              have PT2 := hide (PN.out (by omega))
              clear PN
              have PA : Hid (Calls Tryd.prog 11 #[.string ⟨T.toArray⟩] wc (ParseP T wc)) := parse_calls T wc (H.out.laid.later G5.out)
              go_wp2_with (fail)
              refine PA.out.mono ?_
              rintro e w6 ⟨v1, rfl, ho1, g6⟩
              rw [PT2.out] at ho1 ⊢
              obtain ⟨a1, c1, rfl⟩ := own_shape ho1
              have SC := hide (same_calls _ _ l w6 (codeAt_own ho1) (HC.out.gr (G5.out.trans g6)) (by omega))
              clear ho1 PA
              go_wp2_with (fail)
              refine SC.out.mono ?_
              rintro e w7 ⟨rfl, g7⟩
              go_wp2_with (fail)
              go_ret
              exact ⟨rfl, G5.out.trans (g6.trans g7)⟩

set_option maxRecDepth 100000 in
set_option maxHeartbeats 2000000 in
theorem names_long (a0 : Option Addr) (n cap : Nat) (hn : 200 < n) (hm : n ≤ 9223372036854775807) (S : ByteArray) (bl : Int) (w : World) (L : Laid w) :
    Calls Tryd.prog 3 #[.slice a0 n cap, .string S, .int .u8 bl] w fun e w' => e = .returned (.bool true) ∧ Gr w w' := by
  have AW := hide (awake_calls w L)
  have HL := hide L
  have hn' : (200 : Int) < n := by omega
  clear L
  go_enter Tryd.func3, Tryd.ntmps3
  go_wp2_with (fail)
  refine AW.out.mono ?_
  rintro e w1 ⟨rfl, g1⟩
  have A1 := hide (awake_calls w1 (HL.out.later g1))
  go_wp2_with (fail)
  refine A1.out.mono ?_
  rintro e w2 ⟨rfl, g2⟩
  go_wp2_with (fail)
  go_ret
  exact ⟨rfl, g1.trans g2⟩

set_option maxRecDepth 100000 in
set_option maxHeartbeats 2000000 in
theorem names_none (a0 : Option Addr) (n cap : Nat) (hn : n ≤ 200) (S : ByteArray) (hS : isName S.data.toList = false) (bl : Int) (w : World) (L : Laid w) :
    Calls Tryd.prog 3 #[.slice a0 n cap, .string S, .int .u8 bl] w fun e w' => e = .returned (.bool true) ∧ Gr w w' := by
  have AW := hide (awake_calls w L)
  have HL := hide L
  have hn' : ¬ (200 : Int) < n := by omega
  have nc := fun u => name_calls S u
  rw [hS] at nc
  have NC := hide nc
  clear L nc
  go_enter Tryd.func3, Tryd.ntmps3
  go_wp2_with (fail)
  refine AW.out.mono ?_
  rintro e w1 ⟨rfl, g1⟩
  go_wp2_with (fail)
  refine (NC.out w1).mono ?_
  rintro e w2 ⟨rfl, g2⟩
  have A1 := hide (awake_calls w2 (HL.out.later (g1.trans g2)))
  go_wp2_with (fail)
  refine A1.out.mono ?_
  rintro e w3 ⟨rfl, g3⟩
  go_wp2_with (fail)
  go_ret
  exact ⟨rfl, (g1.trans g2).trans g3⟩

set_option maxRecDepth 100000 in
set_option maxHeartbeats 2000000 in
theorem names_wide (a0 : Option Addr) (n cap : Nat) (hn : n ≤ 200) (S : ByteArray) (hS : isName S.data.toList = true) (hs : 10 < S.size) (hm : S.size ≤ 9223372036854775807) (bl : Int) (w : World) (L : Laid w) :
    Calls Tryd.prog 3 #[.slice a0 n cap, .string S, .int .u8 bl] w fun e w' => e = .returned (.bool true) ∧ Gr w w' := by
  have AW := hide (awake_calls w L)
  have HL := hide L
  have hn' : ¬ (200 : Int) < n := by omega
  have hs' : (10 : Int) < (S.size : Int) := by omega
  have nc := fun u => name_calls S u
  rw [hS] at nc
  have NC := hide nc
  clear L nc
  go_enter Tryd.func3, Tryd.ntmps3
  go_wp2_with (fail)
  refine AW.out.mono ?_
  rintro e w1 ⟨rfl, g1⟩
  go_wp2_with (fail)
  refine (NC.out w1).mono ?_
  rintro e w2 ⟨rfl, g2⟩
  have A1 := hide (awake_calls w2 (HL.out.later (g1.trans g2)))
  go_wp2_with (fail)
  refine A1.out.mono ?_
  rintro e w3 ⟨rfl, g3⟩
  go_wp2_with (fail)
  go_ret
  exact ⟨rfl, (g1.trans g2).trans g3⟩

theorem names_walk (v : Value) (l : List Ins) (S : ByteArray) (bl : Int) (hb0 : 0 ≤ bl) (hb1 : bl ≤ 255) (w : World) (hC : CodeAt w v l) (hok : ∀ i ∈ l, i.ok) (hl : l.length ≤ 9223372036854775807) (hS : S.size ≤ 9223372036854775807) (L : Laid w) :
    Calls Tryd.prog 3 #[v, .string S, .int .u8 bl] w fun e w' => e = .returned (.bool true) ∧ Gr w w' := by
  obtain ⟨b, rfl⟩ : ∃ b : Nat, bl = b := ⟨bl.toNat, by omega⟩
  by_cases h1 : l.length ≤ 200
  · by_cases h2 : isName S.data.toList = true
    · by_cases h3 : S.size ≤ 10
      · have e : S = ⟨S.data.toList.toArray⟩ := by cases S; simp
        have hsz := size_list S
        have := names_few v l S.data.toList b (by omega) w ⟨hC, hok, h1, h2, by omega, L⟩
        rw [← e] at this
        exact this
      · obtain ⟨a0, cap, rfl, -⟩ := hC
        exact names_wide a0 l.length cap h1 S h2 (by omega) hS b w L
    · obtain ⟨a0, cap, rfl, -⟩ := hC
      exact names_none a0 l.length cap h1 S (by simpa using h2) b w L
  · obtain ⟨a0, cap, rfl, -⟩ := hC
    exact names_long a0 l.length cap (by omega) hl S b w L
end Go.Proofs.YtcfkcnkekdafgaaDoor
