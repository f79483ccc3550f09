/-
  For any numbers, in any world in which the program's tables lie: deadlatchlaw04.AsmAdds returns true. No condition but that.
-/
import Derived.Test.YtcfkcnkekdafgaaGreatDoorAwak
import Derived.Test.YtcfkcnkekdafgaaGreatDoorBld4
import Derived.Test.YtcfkcnkekdafgaaGreatDoorSam
namespace Go.Proofs.YtcfkcnkekdafgaaGreatDoor
open Go.ChangeShapes Go.WideShapes Go.ChangeAt Go.RowKit
set_option linter.unusedVariables false

/-- a builder, with what it may write: new blocks alone -/
structure BNow (w W : World) (g : Nat) (st : St) (wr : Bool) : Prop where
  bat : ∃ own, BAt W own g st wr ∧ ∀ k, own k → w.heap.size ≤ k
  gr : Gr w W
theorem BNow.step {w W W' : World} {g : Nat} {st st' : St} {wr wr' : Bool} (h : BNow w W g st wr) {e : Ending} (hb : ∀ own, BAt W own g st wr → (∀ k, own k → w.heap.size ≤ k) → ∃ own', BAt W' own' g st' wr' ∧ (∀ k, own' k → own k ∨ W.heap.size ≤ k) ∧ Ko own W W') : BNow w W' g st' wr' := by
  obtain ⟨own, hB, ho⟩ := h.bat
  obtain ⟨own', hB', ho', hK⟩ := hb own hB ho
  refine ⟨⟨own', hB', fun k hk => ?_⟩, Ko.gr h.gr ho hK⟩
  rcases ho' k hk with h1 | h1
  · exact ho k h1
  · have := h.gr.size; omega
theorem own_ko {own : Nat → Prop} {w w' : World} {B sz n : Nat} {t : TypeId} {v : Value} {xs : List Value} (h : w.ownsRow B t sz v n xs) (k : Ko own w w') (hn : ∀ i, B ≤ i → i < w.heap.size → ¬ own i) : w'.ownsRow B t sz v n xs := by
  refine ⟨h.1, ?_⟩
  rcases h.2 with h2 | ⟨q, cap, cur, hv, hb, hg, h3⟩
  · exact .inl h2
  · exact .inr ⟨q, cap, cur, hv, hb, (k.block q (heap_lt hg) (hn q hb (heap_lt hg))).trans hg, h3⟩
theorem own_ko2 {own : Nat → Prop} {w w' : World} {B sz n : Nat} {t : TypeId} {v : Value} {xs : List Value} (h : w.ownsRow B t sz v n xs) (k : Ko own w w') (hn : ∀ q, v.ownBlock = some q → ¬ own q) : w'.ownsRow B t sz v n xs := by
  refine ⟨h.1, ?_⟩
  rcases h.2 with h2 | ⟨q, cap, cur, rfl, hb, hg, h3⟩
  · exact .inl h2
  · exact .inr ⟨q, cap, cur, rfl, hb, (k.block q (heap_lt hg) (hn q rfl)).trans hg, h3⟩
theorem atStep_true (st : St) (s : Bs) : (atStep st s true).2 = true := by unfold atStep; split <;> rfl
abbrev bld0V : Array Value := #[.slice none 0 0, .map none, .slice none 0 0, .bool false]
theorem bat0 (w : World) : BAt (w.alloc (.cells bld0V 43)) (fun k => k = w.heap.size) w.heap.size st0 false :=
  ⟨_, _, _, heap_alloc_new w _, ⟨rfl, .inl ⟨rfl, rfl⟩⟩, ⟨rfl, .inl ⟨rfl, rfl⟩⟩, .inl ⟨rfl, rfl⟩, rfl, fun k hk => by simp [Value.ownBlock] at hk, fun k hk => by simp [Value.ownBlock] at hk, fun k hk => by subst hk; simp⟩

set_option maxRecDepth 20000 in
set_option maxHeartbeats 1600000 in
theorem adds_walk (op a x y k : Int) (w : World) (L : Laid w) :
    Calls Tryz.prog 7 #[.int .i64 op, .int .i64 a, .int .i64 x, .int .i64 y, .int .u32 k] w fun e w' => e = .returned (.bool true) ∧ Gr w w' := by
  have HL := hide L
  clear L
  go_enter Tryz.func7, Tryz.ntmps7
  go_wp2_with (fail)
  refine (awake_calls w HL.out).mono ?_
  rintro e w1 ⟨rfl, hg1⟩
  go_wp2_with (fail)
  have G2 := hide (hg1.alloc bld0V 43)
  have B2 := hide (bat0 w1)
  have hs1 := hg1.size
  generalize hb : w1.heap.size = g at B2 hs1 ⊢
  generalize w1.alloc (.cells bld0V 43) = w2 at G2 B2 ⊢
  clear hb hg1
  refine (code_plain _ g st0 w2 B2.out (by decide) rfl).mono ?_
  rintro e w3 ⟨v3, rfl, ho3, hg3⟩
  obtain ⟨a3, c3, rfl⟩ := own_shape ho3
  have B3 := hide (B2.out.gr hg3)
  have G3 := hide (G2.out.trans hg3)
  clear ho3 hg3 B2 G2
  go_wp2_with (fail)
  refine (set_calls a k _ g st0 false w3 B3.out (by decide)).mono ?_
  rintro e w4 ⟨rfl, own4, hB4, ho4, hK4⟩
  have B4 := hide hB4
  have O4 : Hid (∀ i, own4 i → w.heap.size ≤ i) := fun i hi => by rcases ho4 i hi with h | h; subst h; exact hs1; have := G3.out.size; omega
  have G4 := hide (Ko.gr G3.out (fun i hi => by subst hi; exact hs1) hK4)
  clear hB4 ho4 hK4 B3 G3
  go_wp2_with (fail)
  refine (alu_calls op a x y _ g _ false w4 B4.out (by simp [st0])).mono ?_
  rintro e w5 ⟨rfl, own5, hB5, ho5, hK5⟩
  have B5 := hide hB5
  have O5 : Hid (∀ i, own5 i → w.heap.size ≤ i) := fun i hi => by rcases ho5 i hi with h | h; exact O4.out i h; have := G4.out.size; omega
  have G5 := hide (Ko.gr G4.out O4.out hK5)
  clear hB5 ho5 hK5 B4 G4 O4
  go_wp2_with (fail)
  refine (ask_calls op a k _ g _ false w5 B5.out (by simp [st0])).mono ?_
  rintro e w6 ⟨rfl, own6, hB6, ho6, hK6⟩
  have B6 := hide hB6
  have O6 : Hid (∀ i, own6 i → w.heap.size ≤ i) := fun i hi => by rcases ho6 i hi with h | h; exact O5.out i h; have := G5.out.size; omega
  have G6 := hide (Ko.gr G5.out O5.out hK6)
  clear hB6 ho6 hK6 B5 G5 O5
  go_wp2_with (fail)
  refine (cas_calls a x k _ g _ false w6 B6.out (by simp [st0])).mono ?_
  rintro e w7 ⟨rfl, own7, hB7, ho7, hK7⟩
  have B7 := hide hB7
  have O7 : Hid (∀ i, own7 i → w.heap.size ≤ i) := fun i hi => by rcases ho7 i hi with h | h; exact O6.out i h; have := G6.out.size; omega
  have G7 := hide (Ko.gr G6.out O6.out hK7)
  clear hB7 ho7 hK7 B6 G6 O6
  go_wp2_with (fail)
  refine (code_plain _ g _ w7 B7.out (by simp [st0]) rfl).mono ?_
  rintro e w8 ⟨v8, rfl, ho8, hg8⟩
  obtain ⟨a8, c8, rfl⟩ := own_shape ho8
  have HO8 := hide ho8
  have B8 := hide (B7.out.gr hg8)
  have G8 := hide (G7.out.trans hg8)
  have hs8 := hg8.size
  have N8 : Hid (∀ i, own7 i → i < w7.heap.size) := by obtain ⟨_, _, _, h⟩ := B7.out; exact h.lt
  clear ho8 hg8 B7 G7
  go_wp2_with (fail)
  have hl4 : (st0.code ++ [⟨1, a, 0, 0, k⟩] ++ [⟨op, a, x, y, 0⟩] ++ [⟨op, a, 8, 0, k⟩] ++ [⟨21, a, 8, x, k⟩] : List Ins) = [⟨1, a, 0, 0, k⟩, ⟨op, a, x, y, 0⟩, ⟨op, a, 8, 0, k⟩, ⟨21, a, 8, x, k⟩] := rfl
  have g9 : Gr w8 (w8.alloc (.cells #[.int .i64 1, .int .i64 a, .int .i64 0, .int .i64 0, .int .u32 k, .int .i64 op, .int .i64 a, .int .i64 x, .int .i64 y, .int .u32 0, .int .i64 op, .int .i64 a, .int .i64 8, .int .i64 0, .int .u32 k, .int .i64 21, .int .i64 a, .int .i64 8, .int .i64 x, .int .u32 k] 36)) := (Gr.refl w8).alloc _ _
  have W9 : Hid ((w8.alloc (.cells #[.int .i64 1, .int .i64 a, .int .i64 0, .int .i64 0, .int .u32 k, .int .i64 op, .int .i64 a, .int .i64 x, .int .i64 y, .int .u32 0, .int .i64 op, .int .i64 a, .int .i64 8, .int .i64 0, .int .u32 k, .int .i64 21, .int .i64 a, .int .i64 8, .int .i64 x, .int .u32 k] 36)).ownsRow w7.heap.size 36 5 (.slice (some ⟨w8.heap.size, 0, none⟩) 4 4) 4 (codeV [⟨1, a, 0, 0, k⟩, ⟨op, a, x, y, 0⟩, ⟨op, a, 8, 0, k⟩, ⟨21, a, 8, x, k⟩])) :=
    ⟨rfl, .inr ⟨_, 4, _, rfl, hs8, heap_alloc_new w8 _, Nat.le_refl _, by decide, rfl, rfl⟩⟩
  have O9 := hide (own_gr HO8.out g9)
  have B9 := hide (B8.out.gr g9)
  have G9 := hide (G8.out.trans g9)
  have hs9 := g9.size
  clear HO8 B8 G8 g9
  generalize w8.alloc (.cells #[.int .i64 1, .int .i64 a, .int .i64 0, .int .i64 0, .int .u32 k, .int .i64 op, .int .i64 a, .int .i64 x, .int .i64 y, .int .u32 0, .int .i64 op, .int .i64 a, .int .i64 8, .int .i64 0, .int .u32 k, .int .i64 21, .int .i64 a, .int .i64 8, .int .i64 x, .int .u32 k] 36) = w9 at W9 O9 B9 G9 hs9 ⊢
  generalize w8.heap.size = b8 at W9 hs8 hs9 ⊢
  have HJ0 : (false || !jumpB 0) = true := by decide +kernel
  refine Calls.mono (show Calls Tryz.prog 23 _ w9 (BldP own7 g _ (false || !jumpB 0) w9) from go_calls 0 0 [97] own7 g _ false w9 B9.out (HL.out.later G9.out) (by simp [st0]) (by simp [st0])) ?_
  rw [HJ0]
  rintro e w10 ⟨rfl, own10, hB10, ho10, hK10⟩
  have hs10 := hK10.size
  have W10 := hide (own_ko W9.out hK10 (fun i h1 h2 h3 => by have := N8.out i h3; omega))
  have O10 := hide (own_ko O9.out hK10 (fun i h1 h2 h3 => by have := N8.out i h3; omega))
  have G10 := hide (Ko.gr G9.out O7.out hK10)
  have B10 := hide hB10
  have Q10 : Hid (∀ i, own10 i → i < w7.heap.size ∨ w9.heap.size ≤ i) := fun i hi => by rcases ho10 i hi with h | h; exact .inl (N8.out i h); exact .inr h
  have R10 : Hid (∀ i, own10 i → w.heap.size ≤ i) := fun i hi => by rcases ho10 i hi with h | h; exact O7.out i h; have := G9.out.size; omega
  have L9 : Hid (∀ (B : Nat) (v : Value) (n : Nat) (xs : List Value), w9.ownsRow w7.heap.size 36 5 v n xs → ∀ q, v.ownBlock = some q → w7.heap.size ≤ q ∧ q < w9.heap.size) := by
    intro B v n xs h q hq
    rcases h.2 with ⟨rfl, _⟩ | ⟨q', cap, cur, rfl, hb, hg, _⟩
    · simp [Value.ownBlock] at hq
    · simp [Value.ownBlock] at hq
      subst hq
      exact ⟨hb, heap_lt hg⟩
  have LW := hide (L9.out 0 _ _ _ W9.out)
  have LO := hide (L9.out 0 _ _ _ O9.out)
  clear hB10 ho10 hK10 B9 G9 O7 N8 W9 O9 L9
  go_wp2_with (fail)
  refine Calls.mono (show Calls Tryz.prog 24 _ w10 (BldP own10 g _ _ w10) from at_calls [97] own10 g _ true w10 B10.out (by decide) (by simp [st0]) (by simp [st0])) ?_
  rw [atStep_true]
  rintro e w11 ⟨rfl, own11, hB11, ho11, hK11⟩
  have W11 := own_ko2 W10.out hK11 (fun q hq ho => by have h1 := LW.out q hq; rcases Q10.out q ho with h | h <;> omega)
  have O11 := own_ko2 O10.out hK11 (fun q hq ho => by have h1 := LO.out q hq; rcases Q10.out q ho with h | h <;> omega)
  have G11 := hide (Ko.gr G10.out R10.out hK11)
  have B11 := hide hB11
  have HS11 := hide (same_calls _ _ [⟨1, a, 0, 0, k⟩, ⟨op, a, x, y, 0⟩, ⟨op, a, 8, 0, k⟩, ⟨21, a, 8, x, k⟩] w11 (codeAt_own O11) (codeAt_own W11) (by simp))
  have hz0 : ((st0.code.length : Int) == 0) = true := rfl
  clear hB11 ho11 hK11 B10 G10 R10 Q10 W10 O10 LW LO W11 O11 hl4
  go_wp2_with (fail)
  refine (code_wrong own11 g _ w11 B11.out).mono ?_
  rintro e w12 ⟨rfl, rfl⟩
  go_wp2_with (fail)
  refine Calls.mono (show Calls Tryz.prog 11 _ w12 _ from HS11.out) ?_
  rintro e w13 ⟨rfl, hg13⟩
  go_wp2
  go_ret
  exact ⟨rfl, G11.out.trans hg13⟩
end Go.Proofs.YtcfkcnkekdafgaaGreatDoor
