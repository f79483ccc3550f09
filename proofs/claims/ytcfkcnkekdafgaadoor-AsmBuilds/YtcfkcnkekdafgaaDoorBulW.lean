/-
  For any code in memory and any strings, in any world in which the program's tables lie: deadlatchlaw04.AsmBuilds returns true. Conditions: K is from 0 to 2^32 - 1 in each instruction.
-/
import Derived.Test.YtcfkcnkekdafgaaDoorBulI
import Derived.Test.YtcfkcnkekdafgaaDoorAwak
import Derived.Test.YtcfkcnkekdafgaaDoorRefn
import Derived.Test.YtcfkcnkekdafgaaDoorLate
import Derived.Deep.CutBlock
import Derived.Deep.LoopGhost
namespace Go.Proofs.YtcfkcnkekdafgaaDoor
open Go.ChangeShapes Go.WideShapes Go.ChangeAt Go.RowKit
set_option linter.unusedVariables false

/-- strings lie where a slice says -/
def StrA (w : World) (v : Value) (nm : List Bs) : Prop := ∃ a cap, v = .slice a nm.length cap ∧ (nm = [] ∨ ∃ b off, a = some ⟨b, off, none⟩ ∧ ∀ n s, nm[n]? = some s → w.cell? ⟨b, off + n, none⟩ = some (.string ⟨s.toArray⟩))
def stB (nm : List Bs) (l : List Ins) (jn j : Nat) : St := ⟨(l.take j).map (want0 nm), [], (plc nm jn).1, jmps nm l j⟩
/-- what is so ahead of each line -/
def Bu (w : World) (g m : Nat) (nm : List Bs) (l : List Ins) (jn j : Nat) (vw vl : Value) (wr : World) : Prop :=
  ∃ own, BI w g m (stB nm l jn j) (plc nm jn).2 (plc nm jn).1 ((l.take j).map (want0 nm)) ((l.take j).map (lnk nm)) own vw vl wr
theorem Bu.later {w : World} {g m : Nat} {nm : List Bs} {l : List Ins} {jn j : Nat} {vw vl : Value} {wr w' : World} (h : Bu w g m nm l jn j vw vl wr) (k : Gr wr w') : Bu w g m nm l jn j vw vl w' := by
  obtain ⟨own, h⟩ := h
  exact ⟨own, h.later k⟩
theorem Bu.gr {w : World} {g m : Nat} {nm : List Bs} {l : List Ins} {jn j : Nat} {vw vl : Value} {wr : World} (h : Bu w g m nm l jn j vw vl wr) : Gr w wr := by
  obtain ⟨own, h⟩ := h
  exact h.gr
abbrev bld0V : Array Value := #[.slice none 0 0, .map none, .slice none 0 0, .bool false]
theorem bat0 (w : World) : BAt (w.alloc (.cells bld0V 41)) (fun k => k = w.heap.size) w.heap.size st0 false :=
  ⟨_, _, _, heap_alloc_new w _, ⟨rfl, .inl ⟨rfl, rfl⟩⟩, ⟨rfl, .inl ⟨rfl, rfl⟩⟩, .inl ⟨rfl, rfl⟩, rfl, fun k hk => by simp [Value.ownBlock] at hk, fun k hk => by simp [Value.ownBlock] at hk, fun k hk => by subst hk; simp⟩
theorem bu0 {w w1 : World} (nm : List Bs) (l : List Ins) (h : Gr w w1) : Bu w w1.heap.size (w1.heap.size + 1) nm l 0 0 (.slice none 0 0) (.slice none 0 0) ((w1.alloc (.cells bld0V 41)).alloc (.map #[] 0)) := by
  have ga : Gr (w1.alloc (.cells bld0V 41)) ((w1.alloc (.cells bld0V 41)).alloc (.map #[] 0)) := (Gr.refl _).allocO _
  have hm := mapAt_made (w1.alloc (.cells bld0V 41))
  rw [show (w1.alloc (.cells bld0V 41)).heap.size = w1.heap.size + 1 by simp] at hm
  have hsz := h.size
  refine ⟨fun k => k = w1.heap.size, (bat0 w1).gr ga, hm, ⟨rfl, .inl ⟨rfl, rfl⟩⟩, ⟨rfl, .inl ⟨rfl, rfl⟩⟩, (h.alloc _ _).trans ga, fun k hk => by subst hk; exact hsz, by omega, by omega, fun k hk => by simp [Value.ownBlock] at hk, fun k hk => by simp [Value.ownBlock] at hk⟩
def cndB (nm : List Bs) (j : Nat) : Bool := decide (j < nm.length) && !(nm.getD j []).isEmpty

theorem wp_appB {o : Oper} {a : Act} {w : World} {K : Act → World → Prop} {Q : Exit → Act → World → Prop} (d : Option Tmp) (hd : o.dst = d) (s x : Operand) (t : TypeId) (ho : o.op = .call { callee := .builtin .append, args := #[s, x], argTypes := #[t, t] })
    (v u : Value) (hs : a.eval s = v) (hx : a.eval x = u) (v' : Value) (w' : World) (hr : (Builtin.append_ #[t, t] o.type #[v, u]).run Tryd.prog w = .ok v' w') (h : K (a.put d v') w') : o.wp Tryd.prog a w K Q := by
  subst hd
  unfold Oper.wp execOp
  simp only [ho, resolve, invoke, builtin, Sem.run_bind, Sem.run_pure, Result.andThen_ok, List.map_toArray, List.map_cons, List.map_nil, hs, hx, hr]
  exact h
theorem step_appB {ops : Array Oper} {rest : List Oper} {o : Oper} {a : Act} {w : World} {Q : Exit → Act → World → Prop} (hgd : o.guard = none) (d : Option Tmp) (hd : o.dst = d) (s x : Operand) (t : TypeId) (ho : o.op = .call { callee := .builtin .append, args := #[s, x], argTypes := #[t, t] })
    (v u : Value) (hs : a.eval s = v) (hx : a.eval x = u) (v' : Value) (w' : World) (hr : (Builtin.append_ #[t, t] o.type #[v, u]).run Tryd.prog w = .ok v' w') (h : wpList Tryd.prog ops Q rest (a.put d v') w') : wpList Tryd.prog ops Q (o :: rest) a w :=
  wpList_plain hgd fun _ hK => wp_appB d hd s x t ho v u hs hx v' w' hr (hK _ _ h)
/-- what is so behind the instruction, ahead of its name -/
def Bv (w : World) (g m : Nat) (nm : List Bs) (l : List Ins) (j : Nat) (vw vl : Value) (wr : World) : Prop :=
  ∃ own, BI w g m (stB nm l (j + 1) (j + 1)) (plc nm (j + 1)).2 (plc nm (j + 1)).1 ((l.take (j + 1)).map (want0 nm)) ((l.take j).map (lnk nm)) own vw vl wr
theorem has_jump28 : ∀ n : Fin 28, hasB (n.val : Int) 84 = true → jumpB (n.val : Int) = true := by decide +kernel
theorem has_jump {op : Int} (h : hasB op 84 = true) : jumpB op = true := by
  cases hi : isB op
  · unfold hasB fB at h
    rw [hi] at h
    simp [hasF] at h
  · have hr : 0 ≤ op ∧ op < 28 := by simpa [isB] using hi
    have := has_jump28 ⟨op.toNat, by omega⟩
    simp only at this
    rw [show ((op.toNat : Nat) : Int) = op by omega] at this
    exact this h
theorem build_ins {o : Oper} {a : Act} {w : World} (x : Operand) (ho : o.op = .buildSlice 22 1 #[(0, x)]) (i : Ins) (hx : a.eval x = .agg #[.int .i64 i.op, .int .i64 i.a, .int .i64 i.b, .int .i64 i.c, .int .u32 i.k]) :
    (execOp a.eval o).run Tryd.prog w = .ok (.value (.slice (some ⟨w.heap.size, 0, none⟩) 1 1)) (w.alloc (.cells #[.int .i64 i.op, .int .i64 i.a, .int .i64 i.b, .int .i64 i.c, .int .u32 i.k] 28)) := by
  unfold execOp
  simp only [ho, List.map_toArray, List.map_cons, List.map_nil, hx]
  clear hx
  go_simp
theorem plc_skip {nm : List Bs} {j : Nat} (h : cndB nm j = false) : plc nm (j + 1) = plc nm j := by
  have e : nm.getD j [] = [] := by
    unfold cndB at h
    by_cases hj : j < nm.length
    · simp only [hj, decide_true, Bool.true_and, Bool.not_eq_false'] at h
      simpa using h
    · rw [List.getD_eq_getElem?_getD, List.getElem?_eq_none (by omega)]
      rfl
  rw [plc, if_pos e]
theorem plc_step {nm : List Bs} {j : Nat} (h : cndB nm j = true) : plc nm (j + 1) = if (look (plc nm j).1 (nm.getD j [])).isSome = true ∨ isName (nm.getD j []) = false then ((plc nm j).1, true) else ((plc nm j).1 ++ [(nm.getD j [], j)], (plc nm j).2) := by
  have e : ¬ nm.getD j [] = [] := by
    unfold cndB at h
    simp only [Bool.and_eq_true, Bool.not_eq_true', decide_eq_true_eq] at h
    intro q
    rw [q] at h
    simp at h
  rw [plc, if_neg e]
theorem at_plc {nm : List Bs} {l : List Ins} {j : Nat} (h : cndB nm j = true) (hj : j ≤ l.length) : atStep (stB nm l j j) (nm.getD j []) (plc nm j).2 = (stB nm l (j + 1) j, (plc nm (j + 1)).2) := by
  have hlen : ((l.take j).map (want0 nm)).length = j := by rw [List.length_map, List.length_take]; omega
  have e := plc_step h
  have hn : (stB nm l j j).names = (plc nm j).1 := rfl
  have hcd : (stB nm l j j).code.length = j := hlen
  by_cases hc : (look (plc nm j).1 (nm.getD j [])).isSome = true ∨ isName (nm.getD j []) = false
  · rw [if_pos hc] at e
    have e2 : stB nm l (j + 1) j = stB nm l j j := by unfold stB; rw [e]
    unfold atStep
    rw [hn, if_pos hc, e2, e]
  · rw [if_neg hc] at e
    have e2 : stB nm l (j + 1) j = ⟨(stB nm l j j).code, (stB nm l j j).lines, (plc nm j).1 ++ [(nm.getD j [], j)], (stB nm l j j).jumps⟩ := by unfold stB; rw [e]
    unfold atStep
    rw [hn, if_neg hc, hcd, e2, e]
theorem takeMap {α : Type} (f : Ins → α) {l : List Ins} {j : Nat} (h : j < l.length) : (l.take (j + 1)).map f = (l.take j).map f ++ [f (l.getD j ins0)] := by
  rw [List.take_succ_eq_append_getElem h, List.map_append, List.getD_eq_getElem?_getD, List.getElem?_eq_getElem h]
  rfl

set_option maxRecDepth 100000 in
set_option maxHeartbeats 8000000 in
theorem builds_few (v vs : Value) (l : List Ins) (nm : List Bs) (w : World) (hC : CodeAt w v l) (hS : StrA w vs nm) (hok : ∀ i ∈ l, i.ok) (hs : ∀ s ∈ nm, s.length ≤ 9223372036854775807) (hl : l.length ≤ 200) (hn : nm.length ≤ 200) (L : Laid w) :
    Calls Tryd.prog 4 #[v, vs] w fun e w' => e = .returned (.bool true) ∧ Gr w w' := by
  have AW := hide (awake_calls w L)
  have HL := hide L
  have HOK := hide hok
  have HSS := hide hs
  obtain ⟨a0, cap, rfl, hC⟩ := hC
  obtain ⟨b0, cap2, rfl, hS⟩ := hS
  have HC := hide hC
  have HS := hide hS
  have hl' : ¬ (200 : Int) < l.length := by omega
  have hn' : ¬ (200 : Int) < nm.length := by omega
  have hmm := @run_makeMap Tryd.prog
  clear L hok hs hC hS
  go_enter Tryd.func4, Tryd.ntmps4
  go_wp2_with (fail)
  refine AW.out.mono ?_
  rintro e w1 ⟨rfl, g1⟩
  go_wp2_with (fail)
  have B0 := hide (bu0 nm l g1)
  change Code.wp _ _ _ _ ((w1.alloc (.cells bld0V 41)).alloc (.map #[] 0))
  generalize (w1.alloc (.cells bld0V 41)).alloc (.map #[] 0) = w2 at B0 ⊢
  generalize w1.heap.size = g at B0 ⊢
  clear AW hmm g1
  go_loopg [6, 8, 9, 10] l.length (fun gh gd vw vl i wr => ∃ j : Nat, j ≤ l.length ∧ gh = l.length - j ∧ i = .int .i64 j ∧ gd = .bool (!(plc nm j).2) ∧ Hid (Bu w g (g + 1) nm l j j vw vl wr))
  case atStart => exact ⟨0, by omega, rfl, rfl, rfl, B0⟩
  case round =>
    clear B0
    obtain ⟨j, hj, rfl, rfl, rfl, HB⟩ := hrel
    by_cases hlt : j < l.length
    · have hlt' : (j : Int) < l.length := by omega
      go_upto_region 11 with (fail)
      go_cut [49] from 33 to 143 (fun c wx => c = .bool (cndB nm j) ∧ wx = wr)
      case first =>
        by_cases hjn : j < nm.length
        · have hjn' : (j : Int) < nm.length := by omega
          obtain ⟨t, ht⟩ : ∃ t, nm[j]? = some t := ⟨_, List.getElem?_eq_getElem hjn⟩
          have hge : nm.getD j [] = t := by rw [List.getD_eq_getElem?_getD, ht]; rfl
          have HE : Hid (cndB nm j = !t.isEmpty) := by show (decide (j < nm.length) && !(nm.getD j []).isEmpty) = _; rw [hge, decide_eq_true hjn]; rfl
          rcases HS.out with h | ⟨bb, bo, hb, hcell⟩
          · rw [h] at hjn; simp at hjn
          have x0 := cell_later HB.out.gr (hcell j t ht)
          subst hb
          clear hcell hge ht
          cases hse : t.isEmpty
          · go_wp2_with (fail)
            go_meet
            exact ⟨by rw [HE.out, hse]; rfl, rfl⟩
          · go_wp2_with (fail)
            go_meet
            exact ⟨by rw [HE.out, hse]; rfl, rfl⟩
        · have hjn' : ¬ (j : Int) < nm.length := by omega
          have HE : Hid (cndB nm j = false) := by show _ = _; simp [cndB, hjn]
          go_wp2_with (fail)
          go_meet
          exact ⟨by rw [HE.out], rfl⟩
      case rest =>
        obtain ⟨rfl, rfl⟩ := hcut
        go_upto_if 49 with (fail)
        go_cut [6] from 33 to 143 (fun gd wx => gd = .bool (!(plc nm (j + 1)).2) ∧ Hid (Bu w g (g + 1) nm l (j + 1) j u8 u9 wx))
        case first =>
          cases hc : cndB nm j
          · have HP := hide (plc_skip hc)
            go_wp2_with (fail)
            go_meet
            refine ⟨by rw [HP.out], ?_⟩
            have := HB.out
            unfold Bu stB at this
            show Bu _ _ _ _ _ _ _ _ _ _
            unfold Bu stB
            rw [HP.out]
            exact this
          · have hjn : j < nm.length := by unfold cndB at hc; simp only [Bool.and_eq_true, decide_eq_true_eq] at hc; exact hc.1
            have hjn' : (j : Int) < nm.length := by omega
            obtain ⟨t, ht⟩ : ∃ t, nm[j]? = some t := ⟨_, List.getElem?_eq_getElem hjn⟩
            have hge : nm.getD j [] = t := by rw [List.getD_eq_getElem?_getD, ht]; rfl
            have hts := HSS.out t (List.mem_of_getElem? ht)
            have hap := at_plc (l := l) hc (by omega)
            have hps := plc_step hc
            rw [hge] at hap hps
            rcases HS.out with h | ⟨bb, bo, hb, hcell⟩
            · rw [h] at hjn; simp at hjn
            obtain ⟨own, hBI⟩ := HB.out
            have hnl := plc_len nm j
            have hcl : ((l.take j).map (want0 nm)).length = j := by rw [List.length_map, List.length_take]; omega
            have hcellk := hcell j t ht
            have x0 := cell_later hBI.gr hcellk
            have hlk := hBI.mp.look t hts
            subst hb
            have zt : (⟨t.toArray⟩ : ByteArray).size = t.length := size_mk t
            clear hcell hge ht hc
            cases hl : look (plc nm j).1 t with
            | some q =>
              rw [hl] at hlk hps
              simp only [Option.getD_some, Option.isSome_some] at hlk
              rw [if_pos (.inl rfl)] at hps
              have AC := hide (at_calls t own g (stB nm l j j) (plc nm j).2 wc hBI.b hts (by show ((l.take j).map (want0 nm)).length ≤ _; omega) (by show (plc nm j).1.length ≤ _; omega))
              rw [hap] at AC
              have HBI := hide hBI
              have HPS := hide hps
              clear hBI hap hps hl
              go_wp2_with (fail)
              refine AC.out.mono ?_
              intro e w5 hb5
              obtain ⟨rfl, own', h5⟩ := HBI.out.call hb5
              have H5 := hide h5
              clear hb5 h5 AC
              go_wp2_with (fail)
              go_meet
              refine ⟨by rw [HPS.out]; rfl, own', ?_⟩
              have := H5.out
              rw [HPS.out] at this ⊢
              exact this
            | none =>
              rw [hl] at hlk hps
              simp only [Option.getD_none, Option.isSome_none] at hlk
              have RN := rname_calls ⟨t.toArray⟩ wc (by rw [size_mk]; exact hts)
              cases hi : isName t with
              | false =>
                rw [hi, if_pos (.inr rfl)] at hps
                rw [show isName (⟨t.toArray⟩ : ByteArray).data.toList = false from hi] at RN
                have HRN := hide RN
                have AC := hide (at_calls t own g (stB nm l j j) (plc nm j).2 wc hBI.b hts (by show ((l.take j).map (want0 nm)).length ≤ _; omega) (by show (plc nm j).1.length ≤ _; omega))
                rw [hap] at AC
                have HBI := hide hBI
                have HPS := hide hps
                clear hBI hap hps hl RN
                go_wp2_with (fail)
                refine HRN.out.mono ?_
                rintro e w4 ⟨rfl, rfl⟩
                go_wp2_with (fail)
                refine AC.out.mono ?_
                intro e w5 hb5
                obtain ⟨rfl, own', h5⟩ := HBI.out.call hb5
                have H5 := hide h5
                clear hb5 h5 AC
                go_wp2_with (fail)
                go_meet
                refine ⟨by rw [HPS.out]; rfl, own', ?_⟩
                have := H5.out
                rw [HPS.out] at this ⊢
                exact this
              | true =>
                rw [hi, if_neg (by simp)] at hps
                rw [show isName (⟨t.toArray⟩ : ByteArray).data.toList = true from hi] at RN
                have HRN := hide RN
                obtain ⟨w4, hup, hBI4⟩ := hBI.put t hts hl j (by omega) (by omega)
                have x4 := cell_later hBI4.gr (hcellk)
                have AC := hide (at_calls t own g (stB nm l j j) (plc nm j).2 w4 hBI4.b hts (by show ((l.take j).map (want0 nm)).length ≤ _; omega) (by show (plc nm j).1.length ≤ _; omega))
                rw [hap] at AC
                have HBI := hide hBI4
                have HPS := hide hps
                clear hBI hBI4 hap hps hl RN
                go_wp2_with (fail)
                refine HRN.out.mono ?_
                rintro e w4' ⟨rfl, rfl⟩
                go_wp2_with (fail)
                refine AC.out.mono ?_
                intro e w5 hb5
                obtain ⟨rfl, own', h5⟩ := HBI.out.call hb5
                have H5 := hide h5
                clear hb5 h5 AC
                go_wp2_with (fail)
                go_meet
                refine ⟨by rw [HPS.out], own', ?_⟩
                have := H5.out
                rw [HPS.out] at this ⊢
                exact this
        case rest =>
          obtain ⟨rfl, HB2⟩ := hcut
          go_upto_region 18 with (fail)
          obtain ⟨i, hi⟩ : ∃ i, l[j]? = some i := ⟨_, List.getElem?_eq_getElem hlt⟩
          have hge : l.getD j ins0 = i := by rw [List.getD_eq_getElem?_getD, hi]; rfl
          rcases HC.out with h | ⟨b1, o1, ha1, h1⟩
          · rw [h] at hlt; simp at hlt
          obtain ⟨c0, c1, c2, c3, c4⟩ := h1 j i hi
          have C0 := hide c0
          have C1 := hide c1
          have C2 := hide c2
          have C3 := hide c3
          have C4 := hide c4
          obtain ⟨hk0, hk1⟩ := HOK.out i (List.mem_of_getElem? hi)
          subst ha1
          have HW1 := hide (takeMap (want0 nm) hlt)
          have HW2 := hide (takeMap (lnk nm) hlt)
          rw [hge] at HW1 HW2
          have HJM : Hid (jmps nm l (j + 1) = if jmpB nm i = true then jmps nm l j ++ [(j, lnk nm i)] else jmps nm l j) := by show _ = _; rw [jmps, hge]
          clear c0 c1 c2 c3 c4 h1 hge hi HB
          go_cut [89] from 33 to 143 (fun c wx => c = .bool (jmpB nm i) ∧ Hid (Gr wc wx))
          case first =>
            have x0 := cell_later HB2.out.gr C0.out
            have HSC := hide (has_calls i.op 84 wc)
            go_wp2_with (fail)
            refine HSC.out.mono ?_
            rintro e w5 ⟨rfl, g5⟩
            cases hT : hasB i.op 84
            · have HE : Hid (jmpB nm i = false) := by show _ = _; simp [jmpB, hT]
              go_wp2_with (fail)
              go_meet
              exact ⟨by rw [HE.out], g5⟩
            · by_cases h0 : 0 < nm.length
              · have h0' : (0 : Int) < nm.length := by omega
                have HE : Hid (jmpB nm i = true) := by show _ = _; simp [jmpB, hT, h0]
                go_wp2_with (fail)
                go_meet
                exact ⟨by rw [HE.out], g5⟩
              · have h0' : ¬ (0 : Int) < nm.length := by omega
                have HE : Hid (jmpB nm i = false) := by show _ = _; simp [jmpB, h0]
                go_wp2_with (fail)
                go_meet
                exact ⟨by rw [HE.out], g5⟩
          case rest =>
            obtain ⟨rfl, g3⟩ := hcut
            replace HB2 := hide (HB2.out.later g3.out)
            go_upto_if 89 with (fail)
            go_cut [8, 13] from 33 to 143 (fun vw lk wx => lk = .string ⟨(lnk nm i).toArray⟩ ∧ Hid (Bv w g (g + 1) nm l j vw u9 wx))
            case first =>
              have hcl : ((l.take j).map (want0 nm)).length = j := by rw [List.length_map, List.length_take]; omega
              cases hjm : jmpB nm i
              · have HLK : Hid (lnk nm i = []) := by show _ = _; unfold lnk; rw [hjm]; rfl
                have hw0 : want0 nm i = i := by unfold want0; rw [hjm]; rfl
                have hjms := HJM.out
                rw [hjm, if_neg (by simp)] at hjms
                have hw1 := HW1.out
                rw [hw0] at hw1
                have hst : (⟨(stB nm l (j + 1) j).code ++ [i], (stB nm l (j + 1) j).lines, (stB nm l (j + 1) j).names, (stB nm l (j + 1) j).jumps⟩ : St) = stB nm l (j + 1) (j + 1) := by
                  unfold stB
                  rw [hw1, hjms]
                obtain ⟨own, hBI⟩ := HB2.out
                have x0 := cell_later hBI.gr C0.out
                have x1 := cell_later hBI.gr C1.out
                have x2 := cell_later hBI.gr C2.out
                have x3 := cell_later hBI.gr C3.out
                have x4 := cell_later hBI.gr C4.out
                have dc := do_calls i own g (stB nm l (j + 1) j) (plc nm (j + 1)).2 wc hBI.b (by show ((l.take j).map (want0 nm)).length ≤ _; omega)
                rw [hst] at dc
                have DC := hide dc
                have HBI := hide hBI
                have HW9 := hide hw1
                clear dc hBI hst hw0 hjms hw1
                go_wp2_with (fail)
                refine DC.out.mono ?_
                intro e w5 hb5
                obtain ⟨rfl, own', h5⟩ := HBI.out.call hb5
                obtain ⟨v6, w6, r6, h6⟩ := h5.appW i (by omega)
                have x0 := cell_later h5.gr C0.out
                have x1 := cell_later h5.gr C1.out
                have x2 := cell_later h5.gr C2.out
                have x3 := cell_later h5.gr C3.out
                have x4 := cell_later h5.gr C4.out
                have H6 := hide h6
                clear h5 h6 hb5 DC
                go_wp2_with (first
                  | (refine step_appB rfl (some 139) rfl _ _ _ rfl _ _ rfl rfl v6 w6 r6 ?_))
                go_meet
                refine ⟨by rw [HLK.out], own', ?_⟩
                rw [HW9.out]
                exact H6.out
              · have hT : hasB i.op 84 = true := by unfold jmpB at hjm; simp only [Bool.and_eq_true, decide_eq_true_eq] at hjm; exact hjm.1
                have h0 : 0 < nm.length := by unfold jmpB at hjm; simp only [Bool.and_eq_true, decide_eq_true_eq] at hjm; exact hjm.2
                obtain ⟨kn, hkn⟩ : ∃ kn : Nat, i.k = kn := ⟨i.k.toNat, by omega⟩
                have hix : kn % nm.length < nm.length := Nat.mod_lt _ h0
                obtain ⟨t, ht⟩ : ∃ t, nm[kn % nm.length]? = some t := ⟨_, List.getElem?_eq_getElem hix⟩
                have hlk : lnk nm i = t := by
                  unfold lnk
                  rw [if_pos hjm, hkn, show ((kn : Int)).toNat = kn from rfl, List.getD_eq_getElem?_getD, ht]
                  rfl
                have HLK := hide hlk
                have hw0 : want0 nm i = ⟨i.op, i.a, 0, 0, 0⟩ := by unfold want0; rw [if_pos hjm]
                have hjms := HJM.out
                rw [if_pos hjm, hlk] at hjms
                have hw1 := HW1.out
                rw [hw0] at hw1
                have hst : (⟨(stB nm l (j + 1) j).code ++ [⟨i.op, i.a, 0, 0, 0⟩], (stB nm l (j + 1) j).lines, (stB nm l (j + 1) j).names, (stB nm l (j + 1) j).jumps ++ [((stB nm l (j + 1) j).code.length, t)]⟩ : St) = stB nm l (j + 1) (j + 1) := by
                  have e : (stB nm l (j + 1) j).code.length = j := hcl
                  rw [e]
                  unfold stB
                  rw [hw1, hjms]
                rcases HS.out with h | ⟨bb, bo, hb, hcell⟩
                · rw [h] at h0; simp at h0
                obtain ⟨own, hBI⟩ := HB2.out
                have hjl := jmps_len nm l j
                have x0 := cell_later hBI.gr C0.out
                have x1 := cell_later hBI.gr C1.out
                have x4 := cell_later hBI.gr C4.out
                have x5 := cell_later hBI.gr (hcell _ t ht)
                rw [hkn] at x4
                have gc : ∀ W, Gr wc W → Calls Tryd.prog 15 #[.pointer (some ⟨g, 0, none⟩), .int .i64 i.op, .int .i64 i.a, .string ⟨t.toArray⟩] W (BldP own g (stB nm l (j + 1) (j + 1)) (plc nm (j + 1)).2 W) := by
                  intro W kW
                  have gc := go_calls i.op i.a t own g (stB nm l (j + 1) j) (plc nm (j + 1)).2 W (hBI.later kW).b (HL.out.later (hBI.gr.trans kW)) (by show ((l.take j).map (want0 nm)).length ≤ _; omega) (by show (jmps nm l j).length ≤ _; omega)
                  rw [hst, has_jump hT] at gc
                  simp only [Bool.not_true, Bool.or_false] at gc
                  exact gc
                have GC := hide gc
                have HBI := hide hBI
                have HW9 := hide hw1
                have hwk : IntKind.i64.wrap (kn : Int) = kn := by rw [IntKind.wrap_i64]; omega
                have hmd : (kn : Int).tmod (nm.length : Int) = ((kn % nm.length : Nat) : Int) := rfl
                have hmd2 : (kn : Int) % (nm.length : Int) = ((kn % nm.length : Nat) : Int) := by omega
                generalize kn % nm.length = ix at hix x5 hmd hmd2
                have hix' : (ix : Int) < nm.length := by omega
                have hnz : ¬ (nm.length : Int) = 0 := by omega
                subst hb
                clear hBI hst hw0 hjms hw1 hT hcell ht hlk hjm gc
                go_wp2_with (fail)
                refine begin_late 12 [11] (fun w' => Gr wc.drew w') (by kernel_rfl) rfl ?_
                have hH := Gr.refl wc.drew
                refine AnyL.takeP 0 (some 102) (.slice (some ⟨b1, o1, none⟩) l.length cap) rfl rfl (by kernel_rfl) (by kernel_rfl) (by kernel_rfl) (by kernel_rfl) (fun _ _ _ h => h) (by kernel_rfl) (fun w' => by go_simp) (fun _ => hH) ?_
                simp only [Act.put, List.setIfInBounds_toArray, List.set_cons_zero, List.set_cons_succ]
                refine AnyL.takeP 1 (some 103) (.int .i64 j) rfl rfl (by kernel_rfl) (by kernel_rfl) (by kernel_rfl) (by kernel_rfl) (fun _ _ _ h => h) (by kernel_rfl) (fun w' => by go_simp) (fun _ => hH) ?_
                simp only [Act.put, List.setIfInBounds_toArray, List.set_cons_zero, List.set_cons_succ]
                refine AnyL.takeP 2 (some 104) (.pointer (some ⟨b1, o1 + j * 5, none⟩)) rfl rfl (by kernel_rfl) (by kernel_rfl) (by kernel_rfl) (by kernel_rfl) (fun _ _ _ h => h) (by kernel_rfl) (fun w' => by go_simp) (fun _ => hH) ?_
                simp only [Act.put, List.setIfInBounds_toArray, List.set_cons_zero, List.set_cons_succ]
                refine AnyL.takeP 3 (some 105) (.pointer (some ⟨b1, o1 + j * 5, none⟩)) rfl rfl (by kernel_rfl) (by kernel_rfl) (by kernel_rfl) (by kernel_rfl) (fun _ _ _ h => h) (by kernel_rfl) (fun w' => by go_simp) (fun _ => hH) ?_
                simp only [Act.put, List.setIfInBounds_toArray, List.set_cons_zero, List.set_cons_succ]
                refine AnyL.take 4 (some 106) (.int .i64 i.op) rfl rfl (by kernel_rfl) (by kernel_rfl) (by kernel_rfl) (by kernel_rfl) (fun _ _ _ h => h) (yields_held _ (by kernel_rfl) (fun w' hw' => by have := cell_later (show Gr wc.drew w' from hw') (show wc.drew.cell? ⟨b1, o1 + j * 5, none⟩ = some (.int .i64 i.op) from x0); go_simp)) hH ?_
                simp only [Act.put, List.setIfInBounds_toArray, List.set_cons_zero, List.set_cons_succ]
                refine AnyL.takeP 5 (some 107) (.slice (some ⟨b1, o1, none⟩) l.length cap) rfl rfl (by kernel_rfl) (by kernel_rfl) (by kernel_rfl) (by kernel_rfl) (fun _ _ _ h => h) (by kernel_rfl) (fun w' => by go_simp) (fun _ => hH) ?_
                simp only [Act.put, List.setIfInBounds_toArray, List.set_cons_zero, List.set_cons_succ]
                refine AnyL.takeP 6 (some 108) (.int .i64 j) rfl rfl (by kernel_rfl) (by kernel_rfl) (by kernel_rfl) (by kernel_rfl) (fun _ _ _ h => h) (by kernel_rfl) (fun w' => by go_simp) (fun _ => hH) ?_
                simp only [Act.put, List.setIfInBounds_toArray, List.set_cons_zero, List.set_cons_succ]
                refine AnyL.takeP 7 (some 109) (.pointer (some ⟨b1, o1 + j * 5, none⟩)) rfl rfl (by kernel_rfl) (by kernel_rfl) (by kernel_rfl) (by kernel_rfl) (fun _ _ _ h => h) (by kernel_rfl) (fun w' => by go_simp) (fun _ => hH) ?_
                simp only [Act.put, List.setIfInBounds_toArray, List.set_cons_zero, List.set_cons_succ]
                refine AnyL.takeP 8 (some 110) (.pointer (some ⟨b1, o1 + j * 5 + 1, none⟩)) rfl rfl (by kernel_rfl) (by kernel_rfl) (by kernel_rfl) (by kernel_rfl) (fun _ _ _ h => h) (by kernel_rfl) (fun w' => by go_simp) (fun _ => hH) ?_
                simp only [Act.put, List.setIfInBounds_toArray, List.set_cons_zero, List.set_cons_succ]
                refine AnyL.take 9 (some 111) (.int .i64 i.a) rfl rfl (by kernel_rfl) (by kernel_rfl) (by kernel_rfl) (by kernel_rfl) (fun _ _ _ h => h) (yields_held _ (by kernel_rfl) (fun w' hw' => by have := cell_later (show Gr wc.drew w' from hw') (show wc.drew.cell? ⟨b1, o1 + j * 5 + 1, none⟩ = some (.int .i64 i.a) from x1); go_simp)) hH ?_
                simp only [Act.put, List.setIfInBounds_toArray, List.set_cons_zero, List.set_cons_succ]
                refine AnyL.takeP 10 (some 112) (.string ⟨t.toArray⟩) rfl rfl (by kernel_rfl) (by kernel_rfl) (by kernel_rfl) (by kernel_rfl) (fun _ _ _ h => h) (by kernel_rfl) (fun w' => by go_simp) (fun _ => hH) ?_
                simp only [Act.put, List.setIfInBounds_toArray, List.set_cons_zero, List.set_cons_succ]
                refine AnyL.one 11 (by kernel_rfl) rfl (by kernel_rfl) ?_
                refine wp_call (some 113) rfl 15 #[.pointer (some ⟨g, 0, none⟩), .int .i64 i.op, .int .i64 i.a, .string ⟨t.toArray⟩] (by kernel_rfl) (GC.out _ (Gr.refl wc).drew) ?_
                intro e w5 hb5
                obtain ⟨rfl, own', h5⟩ := (HBI.out.later (Gr.refl wc).drew).call hb5
                refine ⟨_, rfl, late (by kernel_rfl), ?_⟩
                simp only [Act.put, List.setIfInBounds_toArray, List.set_cons_zero, List.set_cons_succ]
                refine AnyL.done (by kernel_rfl) ?_
                have H5 := hide h5
                clear h5 hb5 hH GC x0 x1 x4 x5
                go_wp2_with (fail)
                refine begin_late 15 [] (fun w' => w'.cell? ⟨b1, o1 + j * 5, none⟩ = some (.int .i64 i.op) ∧ w'.cell? ⟨b1, o1 + j * 5 + 1, none⟩ = some (.int .i64 i.a)) (by kernel_rfl) rfl ?_
                have h5d := H5.out.later (Gr.refl w5).drew
                obtain ⟨v6, w6, r6, h6⟩ := h5d.appW ⟨i.op, i.a, 0, 0, 0⟩ (by omega)
                have hH := And.intro (cell_later h5d.gr C0.out) (cell_later h5d.gr C1.out)
                have hH6 := And.intro (cell_later h6.gr C0.out) (cell_later h6.gr C1.out)
                have H6 := hide h6
                clear h6
                simp only at r6
                refine AnyL.takeP 0 (some 114) (u8) rfl rfl (by kernel_rfl) (by kernel_rfl) (by kernel_rfl) (by kernel_rfl) (fun _ _ _ h => h) (by kernel_rfl) (fun w' => by go_simp) (fun _ => hH) ?_
                simp only [Act.put, List.setIfInBounds_toArray, List.set_cons_zero, List.set_cons_succ]
                refine AnyL.takeP 1 (some 115) (.slice (some ⟨b1, o1, none⟩) l.length cap) rfl rfl (by kernel_rfl) (by kernel_rfl) (by kernel_rfl) (by kernel_rfl) (fun _ _ _ h => h) (by kernel_rfl) (fun w' => by go_simp) (fun _ => hH) ?_
                simp only [Act.put, List.setIfInBounds_toArray, List.set_cons_zero, List.set_cons_succ]
                refine AnyL.takeP 2 (some 116) (.int .i64 j) rfl rfl (by kernel_rfl) (by kernel_rfl) (by kernel_rfl) (by kernel_rfl) (fun _ _ _ h => h) (by kernel_rfl) (fun w' => by go_simp) (fun _ => hH) ?_
                simp only [Act.put, List.setIfInBounds_toArray, List.set_cons_zero, List.set_cons_succ]
                refine AnyL.takeP 3 (some 117) (.pointer (some ⟨b1, o1 + j * 5, none⟩)) rfl rfl (by kernel_rfl) (by kernel_rfl) (by kernel_rfl) (by kernel_rfl) (fun _ _ _ h => h) (by kernel_rfl) (fun w' => by go_simp) (fun _ => hH) ?_
                simp only [Act.put, List.setIfInBounds_toArray, List.set_cons_zero, List.set_cons_succ]
                refine AnyL.takeP 4 (some 118) (.pointer (some ⟨b1, o1 + j * 5, none⟩)) rfl rfl (by kernel_rfl) (by kernel_rfl) (by kernel_rfl) (by kernel_rfl) (fun _ _ _ h => h) (by kernel_rfl) (fun w' => by go_simp) (fun _ => hH) ?_
                simp only [Act.put, List.setIfInBounds_toArray, List.set_cons_zero, List.set_cons_succ]
                refine AnyL.take 5 (some 119) (.int .i64 i.op) rfl rfl (by kernel_rfl) (by kernel_rfl) (by kernel_rfl) (by kernel_rfl) (fun _ _ _ h => h) (yields_held _ (by kernel_rfl) (fun w' hw' => by have := hw'.1; go_simp)) hH ?_
                simp only [Act.put, List.setIfInBounds_toArray, List.set_cons_zero, List.set_cons_succ]
                refine AnyL.takeP 6 (some 120) (.slice (some ⟨b1, o1, none⟩) l.length cap) rfl rfl (by kernel_rfl) (by kernel_rfl) (by kernel_rfl) (by kernel_rfl) (fun _ _ _ h => h) (by kernel_rfl) (fun w' => by go_simp) (fun _ => hH) ?_
                simp only [Act.put, List.setIfInBounds_toArray, List.set_cons_zero, List.set_cons_succ]
                refine AnyL.takeP 7 (some 121) (.int .i64 j) rfl rfl (by kernel_rfl) (by kernel_rfl) (by kernel_rfl) (by kernel_rfl) (fun _ _ _ h => h) (by kernel_rfl) (fun w' => by go_simp) (fun _ => hH) ?_
                simp only [Act.put, List.setIfInBounds_toArray, List.set_cons_zero, List.set_cons_succ]
                refine AnyL.takeP 8 (some 122) (.pointer (some ⟨b1, o1 + j * 5, none⟩)) rfl rfl (by kernel_rfl) (by kernel_rfl) (by kernel_rfl) (by kernel_rfl) (fun _ _ _ h => h) (by kernel_rfl) (fun w' => by go_simp) (fun _ => hH) ?_
                simp only [Act.put, List.setIfInBounds_toArray, List.set_cons_zero, List.set_cons_succ]
                refine AnyL.takeP 9 (some 123) (.pointer (some ⟨b1, o1 + j * 5 + 1, none⟩)) rfl rfl (by kernel_rfl) (by kernel_rfl) (by kernel_rfl) (by kernel_rfl) (fun _ _ _ h => h) (by kernel_rfl) (fun w' => by go_simp) (fun _ => hH) ?_
                simp only [Act.put, List.setIfInBounds_toArray, List.set_cons_zero, List.set_cons_succ]
                refine AnyL.take 10 (some 124) (.int .i64 i.a) rfl rfl (by kernel_rfl) (by kernel_rfl) (by kernel_rfl) (by kernel_rfl) (fun _ _ _ h => h) (yields_held _ (by kernel_rfl) (fun w' hw' => by have := hw'.2; go_simp)) hH ?_
                simp only [Act.put, List.setIfInBounds_toArray, List.set_cons_zero, List.set_cons_succ]
                refine AnyL.takeP 11 (some 125) (.agg #[.int .i64 i.op, .int .i64 i.a, .int .i64 0, .int .i64 0, .int .u32 0]) rfl rfl (by kernel_rfl) (by kernel_rfl) (by kernel_rfl) (by kernel_rfl) (fun _ _ _ h => h) (by kernel_rfl) (fun w' => by go_simp) (fun _ => hH) ?_
                simp only [Act.put, List.setIfInBounds_toArray, List.set_cons_zero, List.set_cons_succ]
                refine AnyL.one 12 (by kernel_rfl) rfl (by kernel_rfl) ?_
                refine wp_made (some 126) rfl _ _ (build_ins _ rfl ⟨i.op, i.a, 0, 0, 0⟩ rfl) ?_
                refine ⟨fun _ => ⟨cell_later ((Gr.refl w5.drew).alloc _ _) hH.1, cell_later ((Gr.refl w5.drew).alloc _ _) hH.2⟩, ?_⟩
                simp only [Act.put, List.setIfInBounds_toArray, List.set_cons_zero, List.set_cons_succ]
                refine AnyL.one 13 (by kernel_rfl) rfl (by kernel_rfl) ?_
                refine wp_appB (some 127) rfl _ _ _ rfl _ _ rfl rfl v6 w6 r6 ?_
                refine ⟨fun _ => hH6, ?_⟩
                simp only [Act.put, List.setIfInBounds_toArray, List.set_cons_zero, List.set_cons_succ]
                refine AnyL.one 14 (by kernel_rfl) rfl (by kernel_rfl) ?_
                refine wp_value (some 8) rfl v6 (by go_simp) ?_
                refine ⟨fun _ => hH6, ?_⟩
                simp only [Act.put, List.setIfInBounds_toArray, List.set_cons_zero, List.set_cons_succ]
                refine AnyL.done (by kernel_rfl) ?_
                clear r6 hH hH6 h5d
                go_wp2_with (fail)
                go_meet
                refine ⟨by rw [HLK.out], own', ?_⟩
                rw [HW9.out]
                exact H6.out
            case rest =>
              obtain ⟨rfl, HB4⟩ := hcut
              obtain ⟨own, hBI⟩ := HB4.out
              obtain ⟨v7, w7, r7, h7⟩ := hBI.appL (lnk nm i) (by rw [List.length_map, List.length_take]; omega)
              have H7 := hide h7
              clear hBI h7
              go_wp2_with (first
                | (refine step_appB rfl (some 143) rfl _ _ _ rfl _ _ rfl rfl v7 w7 r7 ?_))
              go_roundg (l.length - (j + 1))
              case measure => omega
              case rel =>
                refine ⟨j + 1, by omega, rfl, by go_num, rfl, own, ?_⟩
                rw [HW2.out]
                exact H7.out
    · obtain rfl : j = l.length := by omega
      obtain ⟨own, hBI⟩ := HB.out
      rw [List.take_length] at hBI
      have HBI : Hid (BI w g (g + 1) (stB nm l l.length l.length) (plc nm l.length).2 (plc nm l.length).1 (wnt (plc nm l.length).1 nm l 0).1 (l.map (lnk nm)) own u8 u9 wr) := hBI
      have hnl := plc_le nm l.length
      clear HB hBI hj hlt
      generalize hN : (plc nm l.length).1 = N at HBI hnl
      have HN := hide hN
      generalize hbd : (plc nm l.length).2 = bd at HBI ⊢
      have HBD := hide hbd
      clear hN hbd
      go_wp2_with (fail)
      go_loopg [6, 14] l.length (fun gh gd i wr => ∃ j : Nat, j ≤ l.length ∧ gh = l.length - j ∧ i = .int .i64 j ∧ gd = .bool (!bd && (wnt N nm l j).2) ∧ Hid (BI w g (g + 1) (stB nm l l.length l.length) bd N (wnt N nm l j).1 (l.map (lnk nm)) own u8 u9 wr))
      case atStart => exact ⟨0, by omega, rfl, rfl, by simp [wnt], HBI⟩
      case round =>
        clear HBI
        obtain ⟨j, hj, rfl, rfl, rfl, HB⟩ := hrel
        by_cases hlt : j < l.length
        · have hlt' : (j : Int) < l.length := by omega
          obtain ⟨i, hi⟩ : ∃ i, l[j]? = some i := ⟨_, List.getElem?_eq_getElem hlt⟩
          have hge : l.getD j ins0 = i := by rw [List.getD_eq_getElem?_getD, hi]; rfl
          rcases HC.out with h | ⟨b1, o1, ha1, h1⟩
          · rw [h] at hlt; simp at hlt
          obtain ⟨c0, -, -, -, -⟩ := h1 j i hi
          have C0 := hide c0
          subst ha1
          have HWS : Hid (wnt N nm l (j + 1) = if jmpB nm i = true then (setK (wnt N nm l j).1 j (((look N (lnk nm i)).getD 0 : Nat) : Int), (wnt N nm l j).2 && (look N (lnk nm i)).isSome) else wnt N nm l j) := by show _ = _; rw [wnt, hge]
          have HST : Hid ((strsV (l.map (lnk nm)))[j]? = some (.string ⟨(lnk nm i).toArray⟩)) := by show _ = _; simp [strsV, strV, hi]
          have hwl := wnt_len N nm l j
          clear c0 h1 hge hi
          go_upto_region 28 with (fail)
          go_cut [160] from 144 to 179 (fun c wx => c = .bool (jmpB nm i) ∧ Hid (Gr wr wx))
          case first =>
            have x0 := cell_later HB.out.gr C0.out
            have HSC := hide (has_calls i.op 84 wr)
            go_wp2_with (fail)
            refine HSC.out.mono ?_
            rintro e w5 ⟨rfl, g5⟩
            cases hT : hasB i.op 84
            · have HE : Hid (jmpB nm i = false) := by show _ = _; simp [jmpB, hT]
              go_wp2_with (fail)
              go_meet
              exact ⟨by rw [HE.out], g5⟩
            · by_cases h0 : 0 < nm.length
              · have h0' : (0 : Int) < nm.length := by omega
                have HE : Hid (jmpB nm i = true) := by show _ = _; simp [jmpB, hT, h0]
                go_wp2_with (fail)
                go_meet
                exact ⟨by rw [HE.out], g5⟩
              · have h0' : ¬ (0 : Int) < nm.length := by omega
                have HE : Hid (jmpB nm i = false) := by show _ = _; simp [jmpB, h0]
                go_wp2_with (fail)
                go_meet
                exact ⟨by rw [HE.out], g5⟩
          case rest =>
            obtain ⟨rfl, g3⟩ := hcut
            replace HB := hide (HB.out.later g3.out)
            cases hjm : jmpB nm i
            · have e1 := HWS.out
              rw [hjm, if_neg (by simp)] at e1
              have E1 := hide e1
              clear e1 HWS
              go_wp2_with (fail)
              go_roundg (l.length - (j + 1))
              case measure => omega
              case rel => exact ⟨j + 1, by omega, rfl, by go_num, by rw [E1.out], by rw [E1.out]; exact HB⟩
            · have e1 := HWS.out
              rw [if_pos hjm] at e1
              have hts : (lnk nm i).length ≤ 9223372036854775807 := by
                have h0 : 0 < nm.length := by unfold jmpB at hjm; simp only [Bool.and_eq_true, decide_eq_true_eq] at hjm; exact hjm.2
                refine HSS.out _ ?_
                unfold lnk
                rw [if_pos hjm, List.getD_eq_getElem?_getD, List.getElem?_eq_getElem (Nat.mod_lt _ h0)]
                exact List.getElem_mem _
              have hlk := HB.out.mp.look (lnk nm i) hts
              obtain ⟨lb, lc, hv9, -, hlc, -, hcell9⟩ := own_some HB.out.lk (by rw [List.length_map]; omega)
              rw [List.length_map] at hv9 hlc
              subst hv9
              obtain ⟨cb, cc, hv8, -, hcc, ⟨cur, hcur⟩, hcell8⟩ := own_some HB.out.wn (by omega)
              rw [hwl] at hv8 hcc
              subst hv8
              obtain ⟨i2, hi2⟩ : ∃ i2, (wnt N nm l j).1[j]? = some i2 := ⟨_, List.getElem?_eq_getElem (by omega)⟩
              have x9 := hcell9 j _ HST.out
              have x8 := hcell8 (j * 5 + 4) _ (codeV_at _ j 4 i2 (by omega) hi2)
              have z8 := row_frozen hcur (j * 5 + 4)
              have hb' : BI w g (g + 1) (stB nm l l.length l.length) bd N (wnt N nm l j).1 (l.map (lnk nm)) own (.slice (some ⟨cb, 0, none⟩) (wnt N nm l j).1.length cc) (.slice (some ⟨lb, 0, none⟩) l.length lc) wc := by rw [hwl]; exact HB.out
              have hw := hb'.setW hi2 (((look N (lnk nm i)).getD 0 : Nat) : Int)
              rw [hwl] at hw
              have HW := hide hw
              clear hw hb'
              have hpl : (look N (lnk nm i)).getD 0 ≤ 200 := by
                cases hl : look N (lnk nm i) with
                | none => simp
                | some p => simp; exact look_le (b := 200) (fun x hx => by have := hnl x hx; omega) hl
              generalize hp : (look N (lnk nm i)).getD 0 = pv at hlk HW hpl e1
              generalize hq : (look N (lnk nm i)).isSome = qv at hlk e1
              have hwp : IntKind.u32.wrap (pv : Int) = pv := by rw [IntKind.wrap_u32]; omega
              have E1 := hide e1
              clear e1 HWS hcell8 hcell9 hcur hjm hts hp hq
              cases hgd : (!bd && (wnt N nm l j).2)
              · have HGD := hide hgd
                clear hgd
                go_wp2_with (fail)
                go_roundg (l.length - (j + 1))
                case measure => omega
                case rel =>
                  refine ⟨j + 1, by omega, rfl, by go_num, ?_, by rw [E1.out]; exact HW⟩
                  rw [E1.out]
                  show Value.bool false = Value.bool (!bd && ((wnt N nm l j).2 && qv))
                  rw [← Bool.and_assoc, HGD.out]
                  rfl
              · have HGD := hide hgd
                clear hgd
                go_wp2_with (fail)
                go_roundg (l.length - (j + 1))
                case measure => omega
                case rel =>
                  refine ⟨j + 1, by omega, rfl, by go_num, ?_, by rw [E1.out]; exact HW⟩
                  rw [E1.out]
                  show Value.bool qv = Value.bool (!bd && ((wnt N nm l j).2 && qv))
                  rw [← Bool.and_assoc, HGD.out]
                  rfl
        · obtain rfl : j = l.length := by omega
          clear hj hlt
          have hcode : (stB nm l l.length l.length).code = l.map (want0 nm) := by show (l.take l.length).map _ = _; rw [List.take_length]
          cases bd
          · have cf := code_fill own g (stB nm l l.length l.length) wr HB.out.b (by rw [hcode, List.length_map]; omega) (by have := jmps_len nm l l.length; show (jmps nm l l.length).length ≤ _; omega) (by
              intro x hx
              obtain ⟨h1, h2⟩ := jmps_lt nm l l.length x hx
              refine ⟨by rw [hcode, List.length_map]; exact h1, ?_⟩
              rcases h2 with h2 | h2
              · exact HSS.out _ h2
              · rw [h2]; simp) (by
              intro x hx
              have := hnl x (by rw [← HN.out]; exact hx)
              omega)
            rw [hcode] at cf
            have e1 : (stB nm l l.length l.length).names = N := HN.out
            have e2 : (stB nm l l.length l.length).jumps = jmps nm l l.length := rfl
            rw [e1, e2, fill_wnt] at cf
            have hwl := wnt_len N nm l l.length
            cases hg : (wnt N nm l l.length).2
            · rw [hg, if_neg (by simp)] at cf
              have CF := hide cf
              clear cf e1 e2 hcode
              go_wp2_with (fail)
              refine CF.out.mono ?_
              rintro e w5 ⟨rfl, g5⟩
              go_wp2_with (fail)
              go_ret
              exact ⟨rfl, HB.out.gr.trans g5⟩
            · rw [hg, if_pos rfl] at cf
              have CF := hide cf
              have HG := hide HB.out.gr
              have HWC := hide (Iown.code HB.out.wn)
              obtain ⟨a1, c1, hv, -⟩ := HWC.out
              cases hv
              generalize (wnt N nm l l.length).1 = W at CF HWC hwl
              clear cf e1 e2 hcode HB
              go_wp2_with (fail)
              refine CF.out.mono ?_
              rintro e w5 ⟨v', rfl, ho, g5⟩
              obtain ⟨a2, c2, rfl⟩ := own_shape ho
              have sc := same_calls _ _ W w5 (codeAt_own ho) (HWC.out.gr g5) (by omega)
              rw [hwl] at sc
              have SC := hide sc
              clear ho CF sc
              go_wp2_with (fail)
              refine SC.out.mono ?_
              rintro e w6 ⟨rfl, g6⟩
              go_wp2_with (fail)
              go_ret
              exact ⟨rfl, HG.out.trans (g5.trans g6)⟩
          · have CW := hide (code_wrong own g (stB nm l l.length l.length) wr HB.out.b)
            have HG := hide HB.out.gr
            clear hcode
            go_wp2_with (fail)
            refine CW.out.mono ?_
            rintro e w5 ⟨rfl, rfl⟩
            go_wp2_with (fail)
            go_ret
            exact ⟨rfl, HG.out⟩
end Go.Proofs.YtcfkcnkekdafgaaDoor
