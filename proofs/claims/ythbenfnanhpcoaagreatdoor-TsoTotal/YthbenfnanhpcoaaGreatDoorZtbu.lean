/-
  What a program's bytes tell, by places reckoned from their front; what bytes a program has; that each is the other's way back. Lists and numbers alone: no program runs here.
-/
import Derived.Test.YthbenfnanhpcoaaGreatDoorZtbt
namespace Go.Proofs.YthbenfnanhpcoaaGreatDoor.Cd
open Go.ChangeShapes Go.WideShapes Go.ChangeAt Go.RowKit
set_option linter.unusedVariables false
set_option maxRecDepth 20000

/-- the instruction at a place -/
def insAt (L : List Int) (i : Nat) : Ins := ⟨L.getD i 0, L.getD (i + 1) 0, L.getD (i + 2) 0, L.getD (i + 3) 0, leAt L (i + 4) 4⟩
/-- so many words from a place on; so many instructions -/
def memAt (L : List Int) (i n : Nat) : List Int := (List.range n).map fun j => leAt L (i + 4 * j) 4
def codeAt (L : List Int) (i n : Nat) : List Ins := (List.range n).map fun j => insAt L (i + 8 * j)
theorem memAt_succ (L : List Int) (i n : Nat) : memAt L i (n + 1) = memAt L i n ++ [leAt L (i + 4 * n) 4] := by simp [memAt, List.range_succ]
theorem codeAt_succ (L : List Int) (i n : Nat) : codeAt L i (n + 1) = codeAt L i n ++ [insAt L (i + 8 * n)] := by simp [codeAt, List.range_succ]
theorem memAt_len (L : List Int) (i n : Nat) : (memAt L i n).length = n := by simp [memAt]
theorem codeAt_len (L : List Int) (i n : Nat) : (codeAt L i n).length = n := by simp [codeAt]

/-- how many instructions the code at a place tells -/
def cntAt (L : List Int) (e : Nat) : Nat := (leAt L e 2).toNat
/-- the first t codes from place e on, and the place behind them; nothing, if the bytes end ahead of it -/
def codesTo (L : List Int) (e : Nat) : Nat → Option (List (List Ins) × Nat)
  | 0 => some ([], e)
  | t + 1 => match codesTo L e t with
    | none => none
    | some (cs, q) => if L.length < q + 2 ∨ L.length < q + 2 + 8 * cntAt L q then none else some (cs ++ [codeAt L (q + 2) (cntAt L q)], q + 2 + 8 * cntAt L q)
def words (L : List Int) : Nat := (leAt L 5 2).toNat
def thr (L : List Int) : Nat := (L.getD 3 0).toNat
/-- what bytes tell behind their front of three: the codes, and the place behind them -/
def tell (L : List Int) : Option (List (List Ins) × Nat) :=
  if L.length < 7 then none else if L.length < 7 + 4 * words L then none else codesTo L (7 + 4 * words L) (thr L)

/-- a program, by its numbers -/
structure Pg where
  codes : List (List Ins)
  mem : List Int
  room : Int
def pg0 : Pg := ⟨[], [], 0⟩
def Pg.L (p : Pg) (r : Nat) : Nat := (p.codes.getD r []).length
def Pg.F (p : Pg) (r i : Nat) : Ins := (p.codes.getD r []).getD i ins0
def pgOf (L : List Int) (cs : List (List Ins)) : Pg := ⟨cs, memAt L 7 (words L), L.getD 4 0⟩

/-- the first three bytes are dl1 -/
abbrev isHead (L : List Int) : Prop := L.getD 0 0 = 100 ∧ L.getD 1 0 = 108 ∧ L.getD 2 0 = 49
end Go.Proofs.YthbenfnanhpcoaaGreatDoor.Cd

namespace Go.Proofs.YthbenfnanhpcoaaGreatDoor.Cd
open Go.ChangeShapes Go.WideShapes Go.ChangeAt Go.RowKit
set_option linter.unusedVariables false
set_option maxRecDepth 20000

theorem numS_false {n : Nat} {L : List Int} {s : Bool} (h : numS n L s = false) : s = false ∧ n ≤ L.length ∧ numL n L s = L.drop n ∧ numV n L s = leAt L 0 n := by
  simp [numS] at h
  obtain ⟨rfl, h⟩ := h
  have hn : ¬ (false = true ∨ L.length < n) := by simp; omega
  exact ⟨rfl, h, if_neg hn, if_neg hn⟩
theorem numL_le (n : Nat) (L : List Int) (s : Bool) : (numL n L s).length ≤ L.length := by
  unfold numL
  split
  · exact Nat.le_refl _
  · rw [List.length_drop]; omega
theorem leAt_one (L : List Int) (i : Nat) : leAt L i 1 = L.getD i 0 := by simp [leAt]

/-- what is read of an instruction: the instruction, what is left, whether more was asked for -/
def InstrP (r : Nat) (L : List Int) (s : Bool) (w : World) (e : Ending) (w' : World) : Prop :=
  ∃ op a b c k L' s', e = .returned (insV op a b c k) ∧ Rd w' r L' s' ∧ Wr r w w' ∧ isBytes L' ∧ L'.length ≤ L.length ∧ (0 ≤ k ∧ k < 4294967296) ∧
    (s' = true ∧ (s = true ∨ L.length < 8) ∨ s' = false ∧ s = false ∧ 8 ≤ L.length ∧ L' = L.drop 8 ∧ op = L.getD 0 0 ∧ a = L.getD 1 0 ∧ b = L.getD 2 0 ∧ c = L.getD 3 0 ∧ k = leAt L 4 4)

theorem instr_fin (L : List Int) (s : Bool) :
    let L1 := numL 1 L s; let s1 := numS 1 L s; let L2 := numL 1 L1 s1; let s2 := numS 1 L1 s1; let L3 := numL 1 L2 s2; let s3 := numS 1 L2 s2; let L4 := numL 1 L3 s3; let s4 := numS 1 L3 s3
    (numS 4 L4 s4 = true ∧ (s = true ∨ L.length < 8) ∨ numS 4 L4 s4 = false ∧ s = false ∧ 8 ≤ L.length ∧ numL 4 L4 s4 = L.drop 8 ∧ numV 1 L s = L.getD 0 0 ∧ numV 1 L1 s1 = L.getD 1 0 ∧ numV 1 L2 s2 = L.getD 2 0 ∧ numV 1 L3 s3 = L.getD 3 0 ∧ numV 4 L4 s4 = leAt L 4 4) := by
  intro L1 s1 L2 s2 L3 s3 L4 s4
  cases h5 : numS 4 L4 s4
  · obtain ⟨h4, l5, e5, v5⟩ := numS_false h5
    obtain ⟨h3, l4, e4, v4⟩ := numS_false h4
    obtain ⟨h2, l3, e3, v3⟩ := numS_false h3
    obtain ⟨h1, l2, e2, v2⟩ := numS_false h2
    obtain ⟨h0, l1, e1, v1⟩ := numS_false h1
    have f1 : L1 = L.drop 1 := e1
    have f2 : L2 = L.drop 2 := by show numL 1 L1 s1 = _; rw [e2, f1, List.drop_drop]
    have f3 : L3 = L.drop 3 := by show numL 1 L2 s2 = _; rw [e3, f2, List.drop_drop]
    have f4 : L4 = L.drop 4 := by show numL 1 L3 s3 = _; rw [e4, f3, List.drop_drop]
    right
    rw [f4] at l5 e5 v5
    rw [f3] at v4
    rw [f2] at v3
    rw [f1] at v2
    rw [List.length_drop] at l5
    rw [leAt_drop] at v2 v3 v4 v5
    rw [leAt_one] at v1 v2 v3 v4
    refine ⟨rfl, h0, by omega, ?_, v1, ?_, ?_, ?_, ?_⟩
    · rw [← f4] at e5; rw [e5, f4, List.drop_drop]
    · rw [← f1] at v2; exact v2
    · rw [← f2] at v3; exact v3
    · rw [← f3] at v4; exact v4
    · rw [← f4] at v5; exact v5
  · left
    refine ⟨rfl, ?_⟩
    cases hs : s
    · right
      rcases Nat.lt_or_ge L.length 8 with h | h
      · exact h
      · exfalso
        have nf : ∀ n M, n ≤ M.length → numS n M false = false ∧ numL n M false = M.drop n := by
          intro n M hM
          have hn : ¬ (false = true ∨ M.length < n) := by simp; omega
          exact ⟨by simp [numS]; omega, if_neg hn⟩
        have g1 : s1 = false ∧ L1 = L.drop 1 := by subst hs; exact nf 1 L (by omega)
        have g2 : s2 = false ∧ L2 = L.drop 2 := by
          have := nf 1 L1 (by rw [g1.2, List.length_drop]; omega)
          rw [← g1.1] at this
          exact ⟨this.1.trans g1.1, by rw [show L2 = numL 1 L1 s1 from rfl, this.2, g1.2, List.drop_drop]⟩
        have g3 : s3 = false ∧ L3 = L.drop 3 := by
          have := nf 1 L2 (by rw [g2.2, List.length_drop]; omega)
          rw [← g2.1] at this
          exact ⟨this.1.trans g2.1, by rw [show L3 = numL 1 L2 s2 from rfl, this.2, g2.2, List.drop_drop]⟩
        have g4 : s4 = false ∧ L4 = L.drop 4 := by
          have := nf 1 L3 (by rw [g3.2, List.length_drop]; omega)
          rw [← g3.1] at this
          exact ⟨this.1.trans g3.1, by rw [show L4 = numL 1 L3 s3 from rfl, this.2, g3.2, List.drop_drop]⟩
        have := nf 4 L4 (by rw [g4.2, List.length_drop]; omega)
        rw [← g4.1] at this
        rw [this.1, g4.1] at h5
        cases h5
    · exact .inl rfl

/-- a block of cells that a call has made for itself is still there -/
theorem Wr.row {r g : Nat} {w w' : World} {o : Obj} (h : Wr r w w') (hne : g ≠ r) (hg : w.heap[g]? = some o) : w'.heap[g]? = some o := by
  have hlt : g < w.heap.size := by
    rcases Nat.lt_or_ge g w.heap.size with h' | h'
    · exact h'
    · rw [Array.getElem?_eq_none h'] at hg; cases hg
  rw [h.block g hlt (by simpa using hne)]
  exact hg
abbrev ins0V : Array Value := #[.int .i64 0, .int .i64 0, .int .i64 0, .int .i64 0, .int .u32 0]

set_option maxHeartbeats 2000000 in
theorem instr_calls (r : Nat) (L : List Int) (s : Bool) (w : World) (hr : Rd w r L s) (hb : isBytes L) :
    Calls Tryz.prog 72 #[.pointer (some ⟨r, 0, none⟩)] w (InstrP r L s w) := by
  have hrlt : r < w.heap.size := by obtain ⟨a, cap, h0, _⟩ := hr; exact World.block_lt_of_cell? w _ h0
  have hg0 := (Gr.refl w).alloc ins0V 72
  have HR := hide (hr.later hg0)
  have HB : Hid ((w.alloc (.cells ins0V 72)).heap[w.heap.size]? = some (.cells ins0V 72)) := heap_alloc_new w _
  have HW : Hid (Wr r w (w.alloc (.cells ins0V 72))) := Wr.of_gr hg0
  clear hr hg0
  go_enter Tryz.func72, Tryz.ntmps72
  go_wp2_with (fail)
  generalize w.alloc (.cells ins0V 72) = w1 at HR HB HW ⊢
  refine (field_calls r L s w1 HR.out hb).mono ?_
  rintro e w2 ⟨rfl, R2, W2⟩
  go_wp2_with (fail)
  refine (field_calls r _ _ w2 R2 (numL_bytes hb)).mono ?_
  rintro e w3 ⟨rfl, R3, W3⟩
  go_wp2_with (fail)
  refine (field_calls r _ _ w3 R3 (numL_bytes (numL_bytes hb))).mono ?_
  rintro e w4 ⟨rfl, R4, W4⟩
  go_wp2_with (fail)
  refine (field_calls r _ _ w4 R4 (numL_bytes (numL_bytes (numL_bytes hb)))).mono ?_
  rintro e w5 ⟨rfl, R5, W5⟩
  go_wp2_with (fail)
  refine (word_calls r _ _ w5 R5 (numL_bytes (numL_bytes (numL_bytes (numL_bytes hb))))).mono ?_
  rintro e w6 ⟨rfl, R6, W6⟩
  have W16 : Wr r w1 w6 := W2.trans (W3.trans (W4.trans (W5.trans W6)))
  have row := W16.row (by omega) HB.out
  have q0 := row_cell row 0
  have q1 := row_cell row 1
  have q2 := row_cell row 2
  have q3 := row_cell row 3
  have q4 := row_cell row 4
  have z0 := row_frozen row 0
  have z1 := row_frozen row 1
  have z2 := row_frozen row 2
  have z3 := row_frozen row 3
  have z4 := row_frozen row 4
  have FIN := hide (instr_fin L s)
  have HV : Hid (∀ M t, isBytes M → 0 ≤ numV 4 M t ∧ numV 4 M t < 4294967296) := fun M t hM => numV_bounds 4 M t hM
  have H6 := hide R6
  have HW6 := hide (HW.out.trans W16)
  clear R2 R3 R4 R5 R6 W2 W3 W4 W5 W6 W16 row
  go_wp2_with (fail)
  refine bodyPost_ret (v := insV _ _ _ _ _) (by simp [results, Tryz.results72, go_sem, q0, q1, q2, q3, q4]; exact ⟨rfl, rfl, rfl, rfl, rfl⟩) rfl ?_
  have hN : w.heap.size ≤ w.heap.size := Nat.le_refl _
  exact ⟨_, _, _, _, _, _, _, rfl, ((((H6.out.above hrlt _).above hrlt _).above hrlt _).above hrlt _).above hrlt _, ((((HW6.out.above hN _ _).above hN _ _).above hN _ _).above hN _ _).above hN _ _,
    numL_bytes (numL_bytes (numL_bytes (numL_bytes (numL_bytes hb)))), Nat.le_trans (numL_le _ _ _) (Nat.le_trans (numL_le _ _ _) (Nat.le_trans (numL_le _ _ _) (Nat.le_trans (numL_le _ _ _) (numL_le _ _ _)))), HV.out _ _ (numL_bytes (numL_bytes (numL_bytes (numL_bytes hb)))), FIN.out⟩
end Go.Proofs.YthbenfnanhpcoaaGreatDoor.Cd

namespace Go.Proofs.YthbenfnanhpcoaaGreatDoor.Cd
open Go.ChangeShapes Go.WideShapes Go.ChangeAt Go.RowKit
set_option linter.unusedVariables false
set_option maxRecDepth 20000

theorem rd_made (w : World) (a : Option Addr) (L : List Int) (cap : Nat) (h : BytesAt w a L) (hl : L.length ≤ cap) (hm : cap ≤ maxLen) :
    Rd (w.alloc (.cells #[.slice a L.length cap, .bool false] 75)) w.heap.size L false := by
  have hn : (w.alloc (.cells #[.slice a L.length cap, .bool false] 75)).heap[w.heap.size]? = some (.cells #[.slice a L.length cap, .bool false] 75) := heap_alloc_new w _
  refine ⟨a, cap, row_cell hn 0, row_cell hn 1, row_frozen hn 0, row_frozen hn 1, hl, hm, ?_⟩
  rcases h with h | ⟨b, off, ha, h⟩
  · exact .inl h
  · by_cases h0 : L = []
    · exact .inl h0
    · refine .inr ⟨b, off, ha, ?_, fun j x hx => cell_later ((Gr.refl w).alloc _ _) (h j x hx)⟩
      have hpos : 0 < L.length := List.length_pos_iff.2 h0
      exact World.block_lt_of_cell? w ⟨b, off + 0, none⟩ (h 0 _ (List.getElem?_eq_getElem hpos))
/-- writes to a block that is new leave what was there as it was -/
theorem Wr.gr {r : Nat} {w w1 w2 : World} (h : Gr w w1) (hr : w.heap.size ≤ r) (k : Wr r w1 w2) : Gr w w2 :=
  h.after ⟨k.os, k.tape, k.output, k.size, fun i hi => k.block i (Nat.lt_of_lt_of_le hi h.size) (by simp; omega)⟩
end Go.Proofs.YthbenfnanhpcoaaGreatDoor.Cd
