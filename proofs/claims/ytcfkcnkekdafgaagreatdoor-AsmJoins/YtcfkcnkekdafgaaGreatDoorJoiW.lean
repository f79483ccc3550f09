/-
  For any two codes in memory, in any world in which the program's tables lie: deadlatchlaw04.AsmJoins returns true. Conditions: K is from 0 to 2^32 - 1 in each instruction; a code at no address has no room.
-/
import Derived.Test.YtcfkcnkekdafgaaGreatDoorPrnw
import Derived.Test.YtcfkcnkekdafgaaGreatDoorJoi
import Derived.Test.YtcfkcnkekdafgaaGreatDoorAwak
namespace Go.Proofs.YtcfkcnkekdafgaaGreatDoor
open Go.ChangeShapes Go.WideShapes Go.ChangeAt Go.RowKit
set_option linter.unusedVariables false

theorem wp_appI {o : Oper} {a : Act} {w : World} {K : Act → World → Prop} {Q : Exit → Act → World → Prop} (d : Option Tmp) (hd : o.dst = d) (s x : Operand) (t : TypeId) (ho : o.op = .call { callee := .builtin .append, args := #[s, x], argTypes := #[t, t] })
    (v u : Value) (hs : a.eval s = v) (hx : a.eval x = u) (v' : Value) (w' : World) (hr : (Builtin.append_ #[t, t] o.type #[v, u]).run Tryz.prog w = .ok v' w') (h : K (a.put d v') w') : o.wp Tryz.prog a w K Q := by
  subst hd
  unfold Oper.wp execOp
  simp only [ho, resolve, invoke, builtin, Sem.run_bind, Sem.run_pure, Result.andThen_ok, List.map_toArray, List.map_cons, List.map_nil, hs, hx, hr]
  exact h
theorem step_appI {ops : Array Oper} {rest : List Oper} {o : Oper} {a : Act} {w : World} {Q : Exit → Act → World → Prop} (hgd : o.guard = none) (d : Option Tmp) (hd : o.dst = d) (s x : Operand) (t : TypeId) (ho : o.op = .call { callee := .builtin .append, args := #[s, x], argTypes := #[t, t] })
    (v u : Value) (hs : a.eval s = v) (hx : a.eval x = u) (v' : Value) (w' : World) (hr : (Builtin.append_ #[t, t] o.type #[v, u]).run Tryz.prog w = .ok v' w') (h : wpList Tryz.prog ops Q rest (a.put d v') w') : wpList Tryz.prog ops Q (o :: rest) a w :=
  wpList_plain hgd fun _ hK => wp_appI d hd s x t ho v u hs hx v' w' hr (hK _ _ h)

set_option maxRecDepth 100000 in
set_option maxHeartbeats 4000000 in
theorem joins_big (va vb : Value) (a b : List Ins) (w : World) (hA : CodeAt w va a) (hB : CodeAt w vb b) (hla : a.length ≤ 9223372036854775807) (hlb : b.length ≤ 9223372036854775807) (L : Laid w) (hbig : 200 < a.length ∨ 200 < b.length) :
    Calls Tryz.prog 6 #[va, vb] w fun e w' => e = .returned (.bool true) ∧ Gr w w' := by
  have AW := hide (awake_calls w L)
  have HL := hide L
  obtain ⟨aa, ca, rfl, -⟩ := hA
  obtain ⟨ab, cb, rfl, -⟩ := hB
  by_cases h1 : 200 < a.length
  · have h1' : (200 : Int) < a.length := by omega
    clear L hbig
    go_enter Tryz.func6, Tryz.ntmps6
    go_wp2_with (fail)
    refine AW.out.mono ?_
    rintro e w1 ⟨rfl, g1⟩
    have A1 := hide (awake_calls w1 (HL.out.later g1))
    go_wp2_with (fail)
    refine A1.out.mono ?_
    rintro e w2 ⟨rfl, g2⟩
    go_wp2_with (fail)
    go_ret
    exact ⟨rfl, g1.trans g2⟩
  · have h2 : 200 < b.length := by omega
    have h1' : ¬ (200 : Int) < a.length := by omega
    have h2' : (200 : Int) < b.length := by omega
    clear L hbig
    go_enter Tryz.func6, Tryz.ntmps6
    go_wp2_with (fail)
    refine AW.out.mono ?_
    rintro e w1 ⟨rfl, g1⟩
    have A1 := hide (awake_calls w1 (HL.out.later g1))
    go_wp2_with (fail)
    refine A1.out.mono ?_
    rintro e w2 ⟨rfl, g2⟩
    go_wp2_with (fail)
    go_ret
    exact ⟨rfl, g1.trans g2⟩

/-- what Print answers of a code that is not long -/
theorem print_few (l : List Ins) (h : l.length ≤ 4000) : printR l = if l.all (rightsI l.length) then (textL l, 0) else ([], 3) := by
  unfold printR
  rw [if_neg (by omega)]

set_option maxRecDepth 100000 in
set_option maxHeartbeats 4000000 in
theorem joins_few (va vb : Value) (a b : List Ins) (w : World) (hA : CodeAt w va a) (hB : CodeAt w vb b) (na : ∀ n c, va = .slice none n c → c = 0) (nb : ∀ n c, vb = .slice none n c → c = 0) (oka : ∀ i ∈ a, i.ok) (okb : ∀ i ∈ b, i.ok)
    (hla : a.length ≤ 200) (hlb : b.length ≤ 200) (L : Laid w) (hp : Pow w) :
    Calls Tryz.prog 6 #[va, vb] w fun e w' => e = .returned (.bool true) ∧ Gr w w' := by
  have AW := hide (awake_calls w L)
  have HL := hide L
  have HP := hide hp
  have HA := hide hA
  have HB := hide hB
  have NA := hide na
  have NB := hide nb
  have OK : Hid (∀ i ∈ a ++ b, i.ok) := by
    intro i hi
    rcases List.mem_append.1 hi with h | h
    · exact oka i h
    · exact okb i h
  have OA := hide oka
  have OB := hide okb
  obtain ⟨aa, ca, rfl, -⟩ := hA
  obtain ⟨ab, cb, rfl, -⟩ := hB
  have h1' : ¬ (200 : Int) < a.length := by omega
  have h2' : ¬ (200 : Int) < b.length := by omega
  clear L hp na nb oka okb
  go_enter Tryz.func6, Tryz.ntmps6
  go_wp2_with (fail)
  refine AW.out.mono ?_
  rintro e w1 ⟨rfl, g1⟩
  have gA := (Gr.refl w1).alloc #[] 36
  have own0 : Iown (w1.alloc (.cells #[] 36)) w1.heap.size (.slice (some ⟨w1.heap.size, 0, none⟩) 0 0) [] := World.ownsRow_made w1 #[] 0 (Nat.le_refl _) (Nat.zero_le _) rfl
  obtain ⟨v2, w2, r2, o2, q2⟩ := app_code own0 _ a (HA.out.gr (g1.trans gA)) NA.out (by simp; omega) (by simp)
  rw [List.nil_append] at o2
  have g2 : Gr w1 w2 := Below.grown gA q2 gA.size (fun k hk => (World.ownsRow.lt own0 k hk).1)
  obtain ⟨v3, w3, r3, o3, q3⟩ := app_code o2 _ b (HB.out.gr (g1.trans g2)) NB.out (by omega) g2.size
  have g3 : Gr w1 w3 := Below.grown g2 q3 g2.size (fun k hk => (World.ownsRow.lt o2 k hk).1)
  obtain ⟨c, hc⟩ : ∃ c, c = a ++ b := ⟨_, rfl⟩
  rw [← hc] at o3
  have HAB : Hid (a ++ b = c) := hc.symm
  have hcl : c.length ≤ 400 := by rw [hc, List.length_append]; omega
  clear hc
  have HC2 := hide o3.code
  obtain ⟨ac, cc, rfl, hCC⟩ := o3.code
  have G3 := hide (g1.trans g3)
  have R2 := r2
  have R3 := r3
  clear r2 r3 o2 q2 o3 q3 own0 g2 g3 gA
  go_wp2_with (first
    | (refine step_appI rfl (some 28) rfl _ _ _ rfl _ _ rfl rfl v2 w2 R2 ?_)
    | (refine step_appI rfl (some 30) rfl _ _ _ rfl _ _ rfl rfl _ w3 R3 ?_))
  clear R2 R3
  go_loopw [6] (fun i wr => ∃ j : Nat, j ≤ c.length ∧ i = .int .i64 j ∧ Hid (∀ n i, n < j → c[n]? = some i → hasB i.op 84 = false) ∧ Hid (Gr w3 wr)) (fun i _ => c.length - (intOf i).toNat)
  case atStart => exact ⟨0, by omega, rfl, fun n i h => by omega, Gr.refl _⟩
  case round =>
    obtain ⟨j, hj, rfl, HR, HG⟩ := hrel
    by_cases hlt : j < c.length
    · obtain ⟨i, hi⟩ : ∃ i, c[j]? = some i := ⟨_, List.getElem?_eq_getElem hlt⟩
      rcases hCC with h | ⟨b1, o1, ha1, h1⟩
      · rw [h] at hlt; simp at hlt
      obtain ⟨x0, -, -, -, -⟩ := h1 j i hi
      have x0 := cell_later HG.out x0
      have b0 : (j : Int) < c.length := by omega
      have HI := hide hi
      clear hi h1
      subst ha1
      have RC := hide (has_calls i.op 84 wr)
      go_wp2_with (fail)
      refine RC.out.mono ?_
      rintro e w6 ⟨rfl, g6⟩
      clear RC x0
      cases hr : hasB i.op 84
      · have HR2 : Hid (∀ n i, n < j + 1 → c[n]? = some i → hasB i.op 84 = false) := by
          intro n i' hn hi'
          rcases Nat.lt_or_ge n j with h | h
          · exact HR.out n i' h hi'
          · obtain rfl : n = j := by omega
            rw [HI.out] at hi'
            cases hi'
            exact hr
        have G6 := hide (HG.out.trans g6)
        clear HR HI HG g6 hr
        go_wp2_with (fail)
        exact ⟨⟨j + 1, by omega, by go_num, HR2, G6⟩, by simp [intOf]; omega⟩
      · go_wp2_with (fail)
        go_ret
        exact ⟨rfl, (G3.out.trans HG.out).trans g6⟩
    · obtain rfl : j = c.length := by omega
      have NT : Hid (∀ i ∈ a ++ b, hasB i.op 84 = false) := by
        intro i hi
        rw [HAB.out] at hi
        obtain ⟨n, hn, e⟩ := List.getElem_of_mem hi
        exact HR.out n i hn (by rw [List.getElem?_eq_getElem hn, e])
      have JR := hide (join_right a b NT.out)
      have G4 := hide (G3.out.trans HG.out)
      have PA := hide (print_calls _ a wr (HA.out.gr G4.out) OA.out (by omega) (HL.out.later G4.out) (HP.out.later G4.out))
      have pa := print_few a (by omega)
      have pb := print_few b (by omega)
      have pc := print_few c (by omega)
      have jr := JR.out
      rw [HAB.out] at jr
      rw [jr] at pc
      have PFa := hide pa
      have PFb := hide pb
      have PFc := hide pc
      have TJ := hide (text_join a b)
      have TLa := hide (fun h => text_len (n := a.length) a h OA.out)
      have TLb := hide (fun h => text_len (n := b.length) b h OB.out)
      generalize a.all (rightsI a.length) = ra at PFa PFc TLa
      generalize b.all (rightsI b.length) = rb at PFb PFc TLb
      clear hj hlt HR NT JR pa pb pc jr hCC
      go_wp2_with (fail)
      refine PA.out.mono ?_
      rintro e w5 ⟨rfl, g5⟩
      have G5 := hide (G4.out.trans g5)
      have PB := hide (print_calls _ b w5 (HB.out.gr G5.out) OB.out (by omega) (HL.out.later G5.out) (HP.out.later G5.out))
      go_wp2_with (fail)
      refine PB.out.mono ?_
      rintro e w6 ⟨rfl, g6⟩
      have G6 := hide (G5.out.trans g6)
      have okc : ∀ i ∈ c, i.ok := by intro i hi; rw [← HAB.out] at hi; exact OK.out i hi
      have PC := hide (print_calls _ c w6 (HC2.out.gr ((HG.out.trans g5).trans g6)) okc (by omega) (HL.out.later G6.out) (HP.out.later G6.out))
      clear okc
      go_wp2_with (fail)
      refine PC.out.mono ?_
      rintro e w7 ⟨rfl, g7⟩
      have G7 := hide (G6.out.trans g7)
      have ha := PFa.out
      have hb := PFb.out
      have hc := PFc.out
      rw [ha, hb, hc]
      clear ha hb hc PA PB PC g5 g6 g7
      have tj := TJ.out
      rw [HAB.out] at tj
      cases ra
      · cases rb
        · go_wp2_with (fail)
          go_ret
          exact ⟨rfl, G7.out⟩
        · go_wp2_with (fail)
          go_ret
          exact ⟨rfl, G7.out⟩
      · cases rb
        · go_wp2_with (fail)
          go_ret
          exact ⟨rfl, G7.out⟩
        · have l1 := TLa.out rfl
          have l2 := TLb.out rfl
          rw [tj]
          generalize textL a = ta at l1 ⊢
          generalize textL b = tb at l2 ⊢
          have z1 : (⟨ta.toArray⟩ : ByteArray).size ≤ 25000 := by rw [size_mk]; omega
          have z2 : (⟨tb.toArray⟩ : ByteArray).size ≤ 25000 := by rw [size_mk]; omega
          clear tj TJ PFa PFb PFc TLa TLb
          go_wp2_with (fail)
          go_ret
          exact ⟨by simp [cat_mk], G7.out⟩

theorem joins_walk (va vb : Value) (a b : List Ins) (w : World) (hA : CodeAt w va a) (hB : CodeAt w vb b) (na : ∀ n c, va = .slice none n c → c = 0) (nb : ∀ n c, vb = .slice none n c → c = 0) (oka : ∀ i ∈ a, i.ok) (okb : ∀ i ∈ b, i.ok)
    (hla : a.length ≤ 9223372036854775807) (hlb : b.length ≤ 9223372036854775807) (L : Laid w) (hp : Pow w) :
    Calls Tryz.prog 6 #[va, vb] w fun e w' => e = .returned (.bool true) ∧ Gr w w' := by
  by_cases h : 200 < a.length ∨ 200 < b.length
  · exact joins_big va vb a b w hA hB hla hlb L h
  · exact joins_few va vb a b w hA hB na nb oka okb (by omega) (by omega) L hp
end Go.Proofs.YtcfkcnkekdafgaaGreatDoor
