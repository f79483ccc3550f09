/-
  For any string and any line that lies in memory, in any world in which the program's tables lie: what each of the line's takers makes of it. Conditions: strings of at most 2^31 bytes.
-/
import Derived.Test.YtcfkcnkekdafgaaDoorTake
namespace Go.Proofs.YtcfkcnkekdafgaaDoor
open Go.ChangeShapes Go.WideShapes Go.ChangeAt Go.RowKit
set_option linter.unusedVariables false

theorem size_mk (s : Bs) : (⟨s.toArray⟩ : ByteArray).size = s.length := by
  show s.toArray.size = _
  simp
theorem cell_later {w w' : World} (g : Gr w w') {a : Addr} {v : Value} (h : w.cell? a = some v) : w'.cell? a = some v := (Below.cell g (World.block_lt_of_cell? _ _ h)).trans h
theorem heap_lt {w : World} {g : Nat} {o : Obj} (h : w.heap[g]? = some o) : g < w.heap.size := by
  rcases Nat.lt_or_ge g w.heap.size with h' | h'
  · exact h'
  · rw [Array.getElem?_eq_none h'] at h; cases h
theorem row_cell {w : World} {g : Nat} {cur : Array Value} {t : TypeId} (h : w.heap[g]? = some (.cells cur t)) (o : Nat) : w.cell? ⟨g, o, none⟩ = cur[o]? := by simp [World.cell?, h]
theorem row_frozen {w : World} {g : Nat} {cur : Array Value} {t : TypeId} (h : w.heap[g]? = some (.cells cur t)) (o : Nat) : w.frozen? ⟨g, o, none⟩ = false := by simp [World.frozen?, h]
theorem row_set {w : World} {g : Nat} {cur : Array Value} {t : TypeId} (h : w.heap[g]? = some (.cells cur t)) (o : Nat) (u : Value) : (w.setCell ⟨g, o, none⟩ u).heap[g]? = some (.cells (cur.setIfInBounds o u) t) := by
  simp [World.setCell, Array.getElem?_modify, h]

/-- writes to one block alone -/
def Wr (r : Nat) (w w' : World) : Prop := w.grownBy w' (some r)
theorem Wr.refl (r : Nat) (w : World) : Wr r w w := World.grownBy.refl w _
theorem Wr.trans {r : Nat} {a b c : World} (h : Wr r a b) (k : Wr r b c) : Wr r a c :=
  ⟨k.os.trans h.os, k.tape.trans h.tape, k.output.trans h.output, Nat.le_trans h.size k.size, fun i hi hne => (k.block i (Nat.lt_of_lt_of_le hi h.size) hne).trans (h.block i hi hne)⟩
theorem Wr.of_gr {r : Nat} {w w' : World} (h : Gr w w') : Wr r w w' := ⟨h.os, h.tape, h.output, h.size, fun k hk _ => h.block k hk⟩
theorem Wr.setCell {r : Nat} {a w : World} (h : Wr r a w) (o : Nat) (u : Value) : Wr r a (w.setCell ⟨r, o, none⟩ u) :=
  h.trans ⟨rfl, rfl, rfl, by simp [World.setCell], fun i hi hne => Below.heap_setCell _ _ _ _ (fun e => hne (by rw [e]))⟩
/-- writes to a block that is new leave what was there as it was -/
theorem Wr.gr {r : Nat} {w w1 w2 : World} (h : Gr w w1) (hr : w.heap.size ≤ r) (k : Wr r w1 w2) : Gr w w2 :=
  Below.trans h ⟨k.os, k.tape, k.output, k.size, fun i hi => k.block i (Nat.lt_of_lt_of_le hi h.size) (by simp; omega)⟩
theorem Laid.wr {w w' : World} {g : Nat} (h : Laid w) (k : Wr g w w') (hg : 6 < g) : Laid w' := h.keep fun i hi => k.block i (by have := h.lt; omega) (by simp; omega)

/-- a line lies in a block of its own -/
abbrev lineV (i : Ins) (t : Bs) : Array Value := #[.int .i64 i.op, .int .i64 i.a, .int .i64 i.b, .int .i64 i.c, .int .u32 i.k, .string ⟨t.toArray⟩]
def LBox (g : Nat) (i : Ins) (t : Bs) (w : World) : Prop := w.heap[g]? = some (.cells (lineV i t) 72)
theorem LBox.later {g : Nat} {i : Ins} {t : Bs} {w w' : World} (h : LBox g i t w) (k : Gr w w') : LBox g i t w' := (k.block g (heap_lt h)).trans h
theorem LBox.cells {g : Nat} {i : Ins} {t : Bs} {w : World} (h : LBox g i t w) : w.cell? ⟨g, 0, none⟩ = some (.int .i64 i.op) ∧ w.cell? ⟨g, 1, none⟩ = some (.int .i64 i.a) ∧ w.cell? ⟨g, 2, none⟩ = some (.int .i64 i.b) ∧ w.cell? ⟨g, 3, none⟩ = some (.int .i64 i.c) ∧ w.cell? ⟨g, 4, none⟩ = some (.int .u32 i.k) ∧ w.cell? ⟨g, 5, none⟩ = some (.string ⟨t.toArray⟩) := by
  unfold LBox at h
  simp [World.cell?, h]
theorem LBox.free {g : Nat} {i : Ins} {t : Bs} {w : World} (h : LBox g i t w) (o : Nat) : w.frozen? ⟨g, o, none⟩ = false := row_frozen h o
theorem LBox.setA {g : Nat} {i : Ins} {t : Bs} {w : World} (h : LBox g i t w) (n : Int) : LBox g ⟨i.op, n, i.b, i.c, i.k⟩ t (w.setCell ⟨g, 1, none⟩ (.int .i64 n)) := row_set h 1 _
theorem LBox.setB {g : Nat} {i : Ins} {t : Bs} {w : World} (h : LBox g i t w) (n : Int) : LBox g ⟨i.op, i.a, n, i.c, i.k⟩ t (w.setCell ⟨g, 2, none⟩ (.int .i64 n)) := row_set h 2 _
theorem LBox.setC {g : Nat} {i : Ins} {t : Bs} {w : World} (h : LBox g i t w) (n : Int) : LBox g ⟨i.op, i.a, i.b, n, i.k⟩ t (w.setCell ⟨g, 3, none⟩ (.int .i64 n)) := row_set h 3 _
theorem LBox.setK {g : Nat} {i : Ins} {t : Bs} {w : World} (h : LBox g i t w) (n : Int) : LBox g ⟨i.op, i.a, i.b, i.c, n⟩ t (w.setCell ⟨g, 4, none⟩ (.int .u32 n)) := row_set h 4 _
theorem LBox.setT {g : Nat} {i : Ins} {t : Bs} {w : World} (h : LBox g i t w) (n : Bs) : LBox g i n (w.setCell ⟨g, 5, none⟩ (.string ⟨n.toArray⟩)) := row_set h 5 _

/-- what a taker leaves -/
def TakeP (x : Nat) (s : Bs) (i : Ins) (t : Bs) (g : Nat) (w : World) (e : Ending) (w' : World) : Prop :=
  (match takeW x s (i, t) with | some p => e = .returned (.tuple #[]) ∧ LBox g p.1 p.2 w' | none => e = gone 3) ∧ Wr g w w'

theorem takeA_calls (s : Bs) (i : Ins) (t : Bs) (g : Nat) (w : World) (B : LBox g i t w) :
    Calls Tryd.prog 49 #[.pointer (some ⟨g, 0, none⟩), .string ⟨s.toArray⟩] w (TakeP 0 s i t g w) := by
  have q := B.cells.2.1
  have z := B.free 1
  have HB := hide B
  clear B
  cases h : regOf s with
  | some n =>
    have HT : Hid (takeW 0 s (i, t) = some (⟨i.op, n, i.b, i.c, i.k⟩, t)) := by show _ = _; simp [takeW, h]
    have H := hide (takeReg_ok ⟨s.toArray⟩ n w h)
    clear h
    go_enter Tryd.func49, Tryd.ntmps49
    go_wp2_with (go_at_call 67; refine H.out.mono ?_; rintro e w1 ⟨rfl, rfl⟩)
    go_end0
    unfold TakeP
    rw [HT.out]
    exact ⟨⟨rfl, HB.out.setA n⟩, (Wr.refl _ _).setCell 1 _⟩
  | none =>
    have HT : Hid (takeW 0 s (i, t) = none) := by show _ = _; simp [takeW, h]
    have H := hide (takeReg_no ⟨s.toArray⟩ w h)
    clear h
    go_enter Tryd.func49, Tryd.ntmps49
    go_wp2_with (go_at_call 67; refine H.out.mono ?_; rintro e w1 ⟨rfl, rfl⟩)
    refine ⟨rfl, ?_⟩
    unfold TakeP
    rw [HT.out]
    exact ⟨rfl, Wr.refl _ _⟩
theorem takeB_calls (s : Bs) (i : Ins) (t : Bs) (g : Nat) (w : World) (B : LBox g i t w) :
    Calls Tryd.prog 51 #[.pointer (some ⟨g, 0, none⟩), .string ⟨s.toArray⟩] w (TakeP 1 s i t g w) := by
  have q := B.cells.2.2.1
  have z := B.free 2
  have HB := hide B
  clear B
  cases h : regOf s with
  | some n =>
    have HT : Hid (takeW 1 s (i, t) = some (⟨i.op, i.a, n, i.c, i.k⟩, t)) := by show _ = _; simp [takeW, h]
    have H := hide (takeReg_ok ⟨s.toArray⟩ n w h)
    clear h
    go_enter Tryd.func51, Tryd.ntmps51
    go_wp2_with (go_at_call 67; refine H.out.mono ?_; rintro e w1 ⟨rfl, rfl⟩)
    go_end0
    unfold TakeP
    rw [HT.out]
    exact ⟨⟨rfl, HB.out.setB n⟩, (Wr.refl _ _).setCell 2 _⟩
  | none =>
    have HT : Hid (takeW 1 s (i, t) = none) := by show _ = _; simp [takeW, h]
    have H := hide (takeReg_no ⟨s.toArray⟩ w h)
    clear h
    go_enter Tryd.func51, Tryd.ntmps51
    go_wp2_with (go_at_call 67; refine H.out.mono ?_; rintro e w1 ⟨rfl, rfl⟩)
    refine ⟨rfl, ?_⟩
    unfold TakeP
    rw [HT.out]
    exact ⟨rfl, Wr.refl _ _⟩
theorem takeC_calls (s : Bs) (i : Ins) (t : Bs) (g : Nat) (w : World) (B : LBox g i t w) :
    Calls Tryd.prog 53 #[.pointer (some ⟨g, 0, none⟩), .string ⟨s.toArray⟩] w (TakeP 2 s i t g w) := by
  have q := B.cells.2.2.2.1
  have z := B.free 3
  have HB := hide B
  clear B
  cases h : regOf s with
  | some n =>
    have HT : Hid (takeW 2 s (i, t) = some (⟨i.op, i.a, i.b, n, i.k⟩, t)) := by show _ = _; simp [takeW, h]
    have H := hide (takeReg_ok ⟨s.toArray⟩ n w h)
    clear h
    go_enter Tryd.func53, Tryd.ntmps53
    go_wp2_with (go_at_call 67; refine H.out.mono ?_; rintro e w1 ⟨rfl, rfl⟩)
    go_end0
    unfold TakeP
    rw [HT.out]
    exact ⟨⟨rfl, HB.out.setC n⟩, (Wr.refl _ _).setCell 3 _⟩
  | none =>
    have HT : Hid (takeW 2 s (i, t) = none) := by show _ = _; simp [takeW, h]
    have H := hide (takeReg_no ⟨s.toArray⟩ w h)
    clear h
    go_enter Tryd.func53, Tryd.ntmps53
    go_wp2_with (go_at_call 67; refine H.out.mono ?_; rintro e w1 ⟨rfl, rfl⟩)
    refine ⟨rfl, ?_⟩
    unfold TakeP
    rw [HT.out]
    exact ⟨rfl, Wr.refl _ _⟩

theorem takeK_calls (s : Bs) (i : Ins) (t : Bs) (g : Nat) (w : World) (B : LBox g i t w) (L : Laid w) (hs : s.length ≤ 2147483648) :
    Calls Tryd.prog 55 #[.pointer (some ⟨g, 0, none⟩), .string ⟨s.toArray⟩] w (TakeP 3 s i t g w) := by
  have H := hide (takeNum_calls ⟨s.toArray⟩ w L (by rw [size_mk]; exact hs))
  have HB := hide B
  clear B L
  cases h : numOf s with
  | some n =>
    have HT : Hid (takeW 3 s (i, t) = some (⟨i.op, i.a, i.b, i.c, n⟩, t)) := by show _ = _; simp [takeW, h]
    go_enter Tryd.func55, Tryd.ntmps55
    go_wp2_with (go_at_call 69; refine H.out.mono ?_; simp only [h]; rintro e w1 ⟨rfl, hg⟩; have B1 := HB.out.later hg; have q := B1.cells.2.2.2.2.1; have z := B1.free 4; have HB1 := hide B1; clear B1 h H)
    go_end0
    unfold TakeP
    rw [HT.out]
    exact ⟨⟨rfl, HB1.out.setK n⟩, (Wr.of_gr hg).setCell 4 _⟩
  | none =>
    have HT : Hid (takeW 3 s (i, t) = none) := by show _ = _; simp [takeW, h]
    go_enter Tryd.func55, Tryd.ntmps55
    go_wp2_with (go_at_call 69; refine H.out.mono ?_; simp only [h]; rintro e w1 ⟨rfl, hg⟩)
    refine ⟨rfl, ?_⟩
    unfold TakeP
    rw [HT.out]
    exact ⟨rfl, Wr.of_gr hg⟩

theorem place_of {s : Bs} (h : Lib.hasPrefix s [64] = true) : placeOf s = if isName (Lib.trimPrefix s [64]) = true then some (0, Lib.trimPrefix s [64]) else (numOf (Lib.trimPrefix s [64])).map fun k => (k, []) := by
  unfold placeOf
  rw [if_pos h]
theorem trim_len (s p : Bs) : (Lib.trimPrefix s p).length ≤ s.length := by
  unfold Lib.trimPrefix
  split
  · simp
  · exact Nat.le_refl _
theorem trimS_len (s p : Bs) : (Lib.trimSuffix s p).length ≤ s.length := by
  unfold Lib.trimSuffix
  split
  · simp
  · exact Nat.le_refl _

set_option maxHeartbeats 1000000 in
theorem takePlace_calls (s : Bs) (i : Ins) (t : Bs) (g : Nat) (w : World) (B : LBox g i t w) (L : Laid w) (hs : s.length ≤ 2147483648) :
    Calls Tryd.prog 57 #[.pointer (some ⟨g, 0, none⟩), .string ⟨s.toArray⟩] w (TakeP 4 s i t g w) := by
  have HC := hide (Tryd.strings_CutPrefix ⟨s.toArray⟩ ⟨#[64]⟩ w)
  have HL := hide L
  have HB := hide B
  clear B L
  cases hp : Lib.hasPrefix s [64] with
  | false =>
    have HT : Hid (takeW 4 s (i, t) = none) := by show _ = _; simp [takeW, placeOf, hp]
    go_enter Tryd.func57, Tryd.ntmps57
    go_wp2_with (first | (go_at_call 71; refine HC.out.mono ?_; simp only [hp]; rintro e w1 ⟨rfl, rfl⟩) | (go_at_call 39; refine (insist_no _ _).mono ?_; rintro e w1 ⟨rfl, rfl⟩))
    refine ⟨rfl, ?_⟩
    unfold TakeP
    rw [HT.out]
    exact ⟨rfl, Wr.refl _ _⟩
  | true =>
    have hpo := place_of hp
    have hl := trim_len s [64]
    generalize hr : Lib.trimPrefix s [64] = r at hpo hl
    have HP := hide hpo
    clear hpo
    cases hn : isName r with
    | true =>
      have HT : Hid (takeW 4 s (i, t) = some (i, r)) := by
        show _ = _
        have : r ≠ [] := by rintro rfl; simp [isName] at hn
        simp [takeW, HP.out, hn, this]
      go_enter Tryd.func57, Tryd.ntmps57
      go_wp2_with (first | (go_at_call 71; refine HC.out.mono ?_; simp only [hp, hr]; rintro e w1 ⟨rfl, rfl⟩) | (go_at_call 39; refine (insist_ok _ _).mono ?_; rintro e w1 ⟨rfl, rfl⟩) | (go_at_call 6; refine (name_calls ⟨r.toArray⟩ _).mono ?_; simp only [hn]; rintro e w1 ⟨rfl, hg⟩; have B1 := HB.out.later hg; have q := B1.cells.2.2.2.2.2; have z := B1.free 5; have HB1 := hide B1; clear B1 HC))
      go_end0
      unfold TakeP
      rw [HT.out]
      exact ⟨⟨rfl, HB1.out.setT r⟩, (Wr.of_gr hg).setCell 5 _⟩
    | false =>
      cases h : numOf r with
      | some n =>
        have HT : Hid (takeW 4 s (i, t) = some (⟨i.op, i.a, i.b, i.c, n⟩, t)) := by show _ = _; simp [takeW, HP.out, hn, h]
        go_enter Tryd.func57, Tryd.ntmps57
        go_wp2_with (first | (go_at_call 71; refine HC.out.mono ?_; simp only [hp, hr]; rintro e w1 ⟨rfl, rfl⟩) | (go_at_call 39; refine (insist_ok _ _).mono ?_; rintro e w1 ⟨rfl, rfl⟩) | (go_at_call 6; refine (name_calls ⟨r.toArray⟩ _).mono ?_; simp only [hn]; rintro e w1 ⟨rfl, hg⟩; have HC := hide (takeNum_calls ⟨r.toArray⟩ w1 (HL.out.later hg) (by rw [size_mk]; omega))) | (go_at_call 69; refine HC.out.mono ?_; simp only [h]; rintro e w2 ⟨rfl, hg2⟩; have hg := hg.trans hg2; have B1 := HB.out.later hg; have q := B1.cells.2.2.2.2.1; have z := B1.free 4; have HB1 := hide B1; clear B1 HC))
        go_end0
        unfold TakeP
        rw [HT.out]
        exact ⟨⟨rfl, HB1.out.setK n⟩, (Wr.of_gr hg).setCell 4 _⟩
      | none =>
        have HT : Hid (takeW 4 s (i, t) = none) := by show _ = _; simp [takeW, HP.out, hn, h]
        go_enter Tryd.func57, Tryd.ntmps57
        go_wp2_with (first | (go_at_call 71; refine HC.out.mono ?_; simp only [hp, hr]; rintro e w1 ⟨rfl, rfl⟩) | (go_at_call 39; refine (insist_ok _ _).mono ?_; rintro e w1 ⟨rfl, rfl⟩) | (go_at_call 6; refine (name_calls ⟨r.toArray⟩ _).mono ?_; simp only [hn]; rintro e w1 ⟨rfl, hg⟩; have HC := hide (takeNum_calls ⟨r.toArray⟩ w1 (HL.out.later hg) (by rw [size_mk]; omega))) | (go_at_call 69; refine HC.out.mono ?_; simp only [h]; rintro e w2 ⟨rfl, hg2⟩; have hg := hg.trans hg2))
        refine ⟨rfl, ?_⟩
        unfold TakeP
        rw [HT.out]
        exact ⟨rfl, Wr.of_gr hg⟩

theorem cut_calls (s : Bs) (w : World) (L : Laid w) (hs : s.length ≤ 2147483648) :
    Calls Tryd.prog 72 #[.string ⟨s.toArray⟩, .string ⟨#[43]⟩] w fun e w' => e = .returned (.tuple #[.string ⟨(Lib.cut s [43]).1.toArray⟩, .string ⟨(Lib.cut s [43]).2.1.toArray⟩, .bool (Lib.cut s [43]).2.2]) ∧ Gr w w' := by
  obtain ⟨m, hm⟩ := L.ml
  refine (Tryd.strings_Cut ⟨s.toArray⟩ ⟨#[43]⟩ m w (by rw [size_mk]; omega) hm).mono ?_
  rintro e w' ⟨rfl, n, rfl⟩
  exact ⟨rfl, (Gr.refl w).drewN n⟩
theorem cut_len (s : Bs) : (Lib.cut s [43]).2.1.length ≤ s.length := by
  unfold Lib.cut
  split <;> simp
theorem addr_no {s : Bs} (h : ¬ (Lib.hasPrefix s [91] = true ∧ Lib.hasSuffix (Lib.trimPrefix s [91]) [93] = true)) : addrOf s = none := by
  unfold addrOf
  rw [if_neg h]
theorem addr_yes {s : Bs} (h : Lib.hasPrefix s [91] = true ∧ Lib.hasSuffix (Lib.trimPrefix s [91]) [93] = true) : addrOf s = if (Lib.cut (Lib.trimSuffix (Lib.trimPrefix s [91]) [93]) [43]).2.2 = true then
      match regOf (Lib.cut (Lib.trimSuffix (Lib.trimPrefix s [91]) [93]) [43]).1, numOf (Lib.cut (Lib.trimSuffix (Lib.trimPrefix s [91]) [93]) [43]).2.1 with
      | some b, some k => some (b, k)
      | _, _ => none
    else (numOf (Lib.trimSuffix (Lib.trimPrefix s [91]) [93])).map fun k => (8, k) := by
  unfold addrOf
  rw [if_pos h]
  rfl

set_option maxHeartbeats 1000000 in
theorem takeAddr_shut (s : Bs) (i : Ins) (t : Bs) (g : Nat) (w : World) (hs : s.length ≤ 2147483648) (h : ¬ (Lib.hasPrefix s [91] = true ∧ Lib.hasSuffix (Lib.trimPrefix s [91]) [93] = true)) :
    Calls Tryd.prog 59 #[.pointer (some ⟨g, 0, none⟩), .string ⟨s.toArray⟩] w (TakeP 5 s i t g w) := by
  have HC := hide (Tryd.strings_CutPrefix ⟨s.toArray⟩ ⟨#[91]⟩ w)
  have hl := trim_len s [91]
  have HD := hide (Tryd.strings_CutSuffix ⟨(Lib.trimPrefix s [91]).toArray⟩ ⟨#[93]⟩ w (by rw [size_mk]; omega))
  have HT : Hid (takeW 5 s (i, t) = none) := by show _ = _; simp [takeW, addr_no h]
  generalize hp : Lib.hasPrefix s [91] = o at h
  generalize hc : Lib.hasSuffix (Lib.trimPrefix s [91]) [93] = c at h
  cases o
  · clear h
    go_enter Tryd.func59, Tryd.ntmps59
    go_wp2_with (first | (go_at_call 71; refine HC.out.mono ?_; simp only [hp]; rintro e w1 ⟨rfl, rfl⟩) | (go_at_call 29; refine HD.out.mono ?_; rintro e w1 ⟨rfl, rfl⟩) | (go_at_call 39; refine (insist_no _ _).mono ?_; rintro e w1 ⟨rfl, rfl⟩))
    refine ⟨rfl, ?_⟩
    unfold TakeP
    rw [HT.out]
    exact ⟨rfl, Wr.refl _ _⟩
  · obtain rfl : c = false := by simpa using h
    clear h
    go_enter Tryd.func59, Tryd.ntmps59
    go_wp2_with (first | (go_at_call 71; refine HC.out.mono ?_; simp only [hp]; rintro e w1 ⟨rfl, rfl⟩) | (go_at_call 29; refine HD.out.mono ?_; simp only [hc]; rintro e w1 ⟨rfl, rfl⟩) | (go_at_call 39; refine (insist_no _ _).mono ?_; rintro e w1 ⟨rfl, rfl⟩))
    refine ⟨rfl, ?_⟩
    unfold TakeP
    rw [HT.out]
    exact ⟨rfl, Wr.refl _ _⟩

set_option maxHeartbeats 1000000 in
theorem takeAddr_calls (s : Bs) (i : Ins) (t : Bs) (g : Nat) (w : World) (B : LBox g i t w) (L : Laid w) (hs : s.length ≤ 2147483648) (h6 : 6 < g) :
    Calls Tryd.prog 59 #[.pointer (some ⟨g, 0, none⟩), .string ⟨s.toArray⟩] w (TakeP 5 s i t g w) := by
  by_cases h : Lib.hasPrefix s [91] = true ∧ Lib.hasSuffix (Lib.trimPrefix s [91]) [93] = true
  · have HC := hide (Tryd.strings_CutPrefix ⟨s.toArray⟩ ⟨#[91]⟩ w)
    have hl := trim_len s [91]
    have HD := hide (Tryd.strings_CutSuffix ⟨(Lib.trimPrefix s [91]).toArray⟩ ⟨#[93]⟩ w (by rw [size_mk]; omega))
    have HA := hide (addr_yes h)
    obtain ⟨hp, hc⟩ := h
    have hl2 := trimS_len (Lib.trimPrefix s [91]) [93]
    have q0 := B.cells.2.2.1
    have z0 := B.free 2
    have HB := hide (B.setB 8)
    have W1 : Wr g w (w.setCell ⟨g, 2, none⟩ (.int .i64 8)) := (Wr.refl g w).setCell 2 _
    have HL := hide (L.wr W1 h6)
    clear B L
    generalize hr : Lib.trimSuffix (Lib.trimPrefix s [91]) [93] = r at HA hl2
    have HK := hide (cut_calls r (w.setCell ⟨g, 2, none⟩ (.int .i64 8)) HL.out (by omega))
    have hl3 := cut_len r
    generalize hd : Lib.cut r [43] = d at HA HK hl3
    obtain ⟨d1, d2, d3⟩ := d
    simp only at HA HK hl3
    cases d3 with
    | true =>
      simp only [if_true] at HA
      cases hb : regOf d1 with
      | none =>
        have HT : Hid (takeW 5 s (i, t) = none) := by show _ = _; simp [takeW, HA.out, hb]
        go_enter Tryd.func59, Tryd.ntmps59
        go_wp2_with (first | (go_at_call 71; refine HC.out.mono ?_; simp only [hp]; rintro e w1 ⟨rfl, rfl⟩) | (go_at_call 29; refine HD.out.mono ?_; simp only [hc, hr]; rintro e w1 ⟨rfl, rfl⟩) | (go_at_call 39; refine (insist_ok _ _).mono ?_; rintro e w1 ⟨rfl, rfl⟩) | (go_at_call 72; refine HK.out.mono ?_; rintro e w2 ⟨rfl, hg⟩; have W2 := W1.trans (Wr.of_gr hg); clear W1 HK q0 z0) | (go_at_call 67; refine (takeReg_no ⟨d1.toArray⟩ _ hb).mono ?_; rintro e w3 ⟨rfl, rfl⟩))
        refine ⟨rfl, ?_⟩
        unfold TakeP
        rw [HT.out]
        exact ⟨rfl, W2⟩
      | some b =>
        cases hn : numOf d2 with
        | none =>
          have HT : Hid (takeW 5 s (i, t) = none) := by show _ = _; simp [takeW, HA.out, hb, hn]
          go_enter Tryd.func59, Tryd.ntmps59
          go_wp2_with (first | (go_at_call 71; refine HC.out.mono ?_; simp only [hp]; rintro e w1 ⟨rfl, rfl⟩) | (go_at_call 29; refine HD.out.mono ?_; simp only [hc, hr]; rintro e w1 ⟨rfl, rfl⟩) | (go_at_call 39; refine (insist_ok _ _).mono ?_; rintro e w1 ⟨rfl, rfl⟩) | (go_at_call 72; refine HK.out.mono ?_; rintro e w2 ⟨rfl, hg⟩; have W2 := W1.trans (Wr.of_gr hg); have B2 := HB.out.later hg; have L2 := hide (HL.out.later hg); have q := B2.cells.2.2.1; have z := B2.free 2; have HB2 := hide B2; clear B2 W1 HK q0 z0) | (go_at_call 67; refine (takeReg_ok ⟨d1.toArray⟩ b _ hb).mono ?_; rintro e w3 ⟨rfl, rfl⟩) | (go_at_call 69; refine (takeNum_calls ⟨d2.toArray⟩ _ (L2.out.wr ((Wr.refl g _).setCell 2 _) h6) (by rw [size_mk]; omega)).mono ?_; simp only [hn]; rintro e w4 ⟨rfl, hg4⟩))
          refine ⟨rfl, ?_⟩
          unfold TakeP
          rw [HT.out]
          exact ⟨rfl, (W2.setCell 2 _).trans (Wr.of_gr hg4)⟩
        | some k =>
          have HT : Hid (takeW 5 s (i, t) = some (⟨i.op, i.a, b, i.c, k⟩, t)) := by show _ = _; simp [takeW, HA.out, hb, hn]
          go_enter Tryd.func59, Tryd.ntmps59
          go_wp2_with (first | (go_at_call 71; refine HC.out.mono ?_; simp only [hp]; rintro e w1 ⟨rfl, rfl⟩) | (go_at_call 29; refine HD.out.mono ?_; simp only [hc, hr]; rintro e w1 ⟨rfl, rfl⟩) | (go_at_call 39; refine (insist_ok _ _).mono ?_; rintro e w1 ⟨rfl, rfl⟩) | (go_at_call 72; refine HK.out.mono ?_; rintro e w2 ⟨rfl, hg⟩; have W2 := W1.trans (Wr.of_gr hg); have B2 := HB.out.later hg; have L2 := hide (HL.out.later hg); have q := B2.cells.2.2.1; have z := B2.free 2; have HB2 := hide B2; clear B2 W1 HK q0 z0) | (go_at_call 67; refine (takeReg_ok ⟨d1.toArray⟩ b _ hb).mono ?_; rintro e w3 ⟨rfl, rfl⟩) | (go_at_call 69; refine (takeNum_calls ⟨d2.toArray⟩ _ (L2.out.wr ((Wr.refl g _).setCell 2 _) h6) (by rw [size_mk]; omega)).mono ?_; simp only [hn]; rintro e w4 ⟨rfl, hg4⟩; have B4 := (HB2.out.setB b).later hg4; have q4 := B4.cells.2.2.2.2.1; have z4 := B4.free 4; have HB4 := hide B4; clear B4 q z))
          go_end0
          unfold TakeP
          rw [HT.out]
          exact ⟨⟨rfl, HB4.out.setK k⟩, ((W2.setCell 2 _).trans (Wr.of_gr hg4)).setCell 4 _⟩
    | false =>
      simp only [Bool.false_eq_true, if_false] at HA
      cases hn : numOf r with
      | none =>
        have HT : Hid (takeW 5 s (i, t) = none) := by show _ = _; simp [takeW, HA.out, hn]
        go_enter Tryd.func59, Tryd.ntmps59
        go_wp2_with (first | (go_at_call 71; refine HC.out.mono ?_; simp only [hp]; rintro e w1 ⟨rfl, rfl⟩) | (go_at_call 29; refine HD.out.mono ?_; simp only [hc, hr]; rintro e w1 ⟨rfl, rfl⟩) | (go_at_call 39; refine (insist_ok _ _).mono ?_; rintro e w1 ⟨rfl, rfl⟩) | (go_at_call 72; refine HK.out.mono ?_; rintro e w2 ⟨rfl, hg⟩; have W2 := W1.trans (Wr.of_gr hg); have L2 := hide (HL.out.later hg); clear W1 HK q0 z0) | (go_at_call 69; refine (takeNum_calls ⟨r.toArray⟩ _ L2.out (by rw [size_mk]; omega)).mono ?_; simp only [hn]; rintro e w4 ⟨rfl, hg4⟩))
        refine ⟨rfl, ?_⟩
        unfold TakeP
        rw [HT.out]
        exact ⟨rfl, W2.trans (Wr.of_gr hg4)⟩
      | some k =>
        have HT : Hid (takeW 5 s (i, t) = some (⟨i.op, i.a, 8, i.c, k⟩, t)) := by show _ = _; simp [takeW, HA.out, hn]
        go_enter Tryd.func59, Tryd.ntmps59
        go_wp2_with (first | (go_at_call 71; refine HC.out.mono ?_; simp only [hp]; rintro e w1 ⟨rfl, rfl⟩) | (go_at_call 29; refine HD.out.mono ?_; simp only [hc, hr]; rintro e w1 ⟨rfl, rfl⟩) | (go_at_call 39; refine (insist_ok _ _).mono ?_; rintro e w1 ⟨rfl, rfl⟩) | (go_at_call 72; refine HK.out.mono ?_; rintro e w2 ⟨rfl, hg⟩; have W2 := W1.trans (Wr.of_gr hg); have L2 := hide (HL.out.later hg); have HB2 := hide (HB.out.later hg); clear W1 HK q0 z0) | (go_at_call 69; refine (takeNum_calls ⟨r.toArray⟩ _ L2.out (by rw [size_mk]; omega)).mono ?_; simp only [hn]; rintro e w4 ⟨rfl, hg4⟩; have B4 := HB2.out.later hg4; have q4 := B4.cells.2.2.2.2.1; have z4 := B4.free 4; have HB4 := hide B4; clear B4))
        go_end0
        unfold TakeP
        rw [HT.out]
        exact ⟨⟨rfl, HB4.out.setK k⟩, (W2.trans (Wr.of_gr hg4)).setCell 4 _⟩
  · exact takeAddr_shut s i t g w hs h
end Go.Proofs.YtcfkcnkekdafgaaDoor
