/-
  A row of bytes; the end of a law that answers true. No program, no condition.
-/
import Derived.Test.YthbenfnanhpcoaaGreatDoorZtacMem
import Derived.Test.YthbenfnanhpcoaaGreatDoorZtbp
import Derived.Test.YthbenfnanhpcoaaGreatDoorZtaeIsa
import Derived.Test.YthbenfnanhpcoaaGreatDoorZtag
import Derived.Deep.Slices
import Derived.Deep.MidRow
import Derived.OwnWalk
import Derived.ArgAppend
import Derived.Laws.BytesArg
import Derived.BigQuiet
import Derived.Deep.QuietTactic
namespace Go.Proofs.YthbenfnanhpcoaaGreatDoor.Mc
open Go.ChangeShapes Go.WideShapes Go.ChangeAt Go.RowKit
set_option linter.unusedVariables false

def byteL (x : Int) : List Value := [.int .u8 x]
theorem byteL_len (x : Int) : (byteL x).length = 1 := rfl
theorem wrap_id (n : Int) (h0 : 0 ≤ n) (h1 : n < 4611686018427387904) : IntKind.i64.wrap n = n := by
  rw [IntKind.wrap_i64]
  omega
theorem wrap_few (n : Nat) (h : n < 256) : IntKind.i64.wrap (n : Int) = n := wrap_id _ (by omega) (by omega)
/-- an end: the law answers true -/
def AloEnd (W : World) (r : Ending) (w' : World) : Prop := r = .returned (.bool true) ∧ Gr W w'
end Go.Proofs.YthbenfnanhpcoaaGreatDoor.Mc

namespace Go.Proofs.YthbenfnanhpcoaaGreatDoor.Mc
open Go.ChangeShapes Go.WideShapes Go.ChangeAt Go.RowKit
set_option linter.unusedVariables false
set_option maxRecDepth 20000

theorem infoPk : (Tryz.prog.info? 48).map (fun i => (i.zero, i.size, i.bytes)) = some (some (.agg (slpL ent0).toArray), 2, 16) := by kernel_rfl
theorem make_pk (n : Nat) (h : n ≤ 10000) (w : World) : (Instr.makeSlice 35 (.int .i64 n) (.int .i64 n)).run Tryz.prog w = .ok (.slice (some ⟨w.heap.size, 0, none⟩) n n) (w.alloc (.cells (flatOf slpL (List.replicate n ent0)).toArray 48)) := by
  obtain ⟨i, h1, h2, h3, h4⟩ := info_parts infoPk
  have := run_make (P := Tryz.prog) w 35 48 i (.agg (slpL ent0).toArray) Tryz.underlying35 h1 h2 .i64 .i64 n n (by omega) (Int.le_refl _) (by rw [h4]; omega) (by omega)
  rw [h3] at this
  rw [← made_flat slpL_len (by omega) (.agg (slpL ent0).toArray) ent0 rfl n]
  simpa using this
theorem slp_set (x : Ent) : ∀ (l : List Ent) (k : Nat), k < l.length → ((flatOf slpL l).set (k * 2) (.int .i64 x.a)).set (k * 2 + 1) (.int .i64 x.v) = flatOf slpL (l.set k x)
  | [], k, h => absurd h (by simp)
  | y :: l, 0, h => by simp [flatOf, slpL]
  | y :: l, k + 1, h => by
    rw [flatOf_cons, List.set_cons_succ, flatOf_cons, List.set_append_right _ _ (by simp [slpL]; omega), List.set_append_right _ _ (by simp [slpL]; omega), ← slp_set x l k (by simpa using h)]
    congr 1
    simp only [slpL_len]
    rw [show (k + 1) * 2 - 2 = k * 2 by omega, show (k + 1) * 2 + 1 - 2 = k * 2 + 1 by omega]
theorem has_slp {w : World} {g : Nat} {t : TypeId} {l : List Ent} (h : Has w g (flatOf slpL l).toArray t) {k : Nat} (hk : k < l.length) (x : Ent) :
    Has ((w.setCell ⟨g, k * 2, none⟩ (.int .i64 x.a)).setCell ⟨g, k * 2 + 1, none⟩ (.int .i64 x.v)) g (flatOf slpL (l.set k x)).toArray t := by
  have := (h.set (k * 2) (.int .i64 x.a)).set (k * 2 + 1) (.int .i64 x.v)
  rw [List.setIfInBounds_toArray, List.setIfInBounds_toArray, slp_set x l k hk] at this
  exact this
set_option maxHeartbeats 400000 in
theorem of_calls (b : Nat) (hb : b < 256) (w : World) :
    Calls Tryz.prog 34 #[.int .u8 b] w fun e w' => (∃ x y : Int, e = .returned (.agg #[.int .i64 x, .int .i64 y])) ∧ Gr w w' := by
  have hb' : (b : Int) < 256 := by omega
  go_enter Tryz.func34, Tryz.ntmps34
  go_wp2_with (fail)
  refine bodyPost_ret (v := .agg #[.int .i64 ((b : Int) / 8 % 3), .int .i64 ((b : Int) % 8)]) (by simp [results, Tryz.results34, go_sem]) rfl ?_
  exact ⟨⟨_, _, rfl⟩, (Gr.refl w).alloc _ _⟩
/-- as many picks as there are bytes -/
def PksP (n : Nat) (w : World) (e : Ending) (w' : World) : Prop := ∃ (G : Nat) (l : List Ent), l.length = n ∧ (e = .returned (.slice (some ⟨G, 0, none⟩) l.length n) ∧ w.heap.size ≤ G) ∧ Gr w w' ∧ Has w' G (flatOf slpL l).toArray 48
set_option maxHeartbeats 1000000 in
theorem pickRead_calls (a : Option Addr) (ca : Nat) (l : List Int) (hb : ∀ i ∈ l, 0 ≤ i ∧ i < 256) (hl : l.length ≤ 10000) (w : World) (ha : RowAt w a (flatOf byteL l)) :
    Calls Tryz.prog 11 #[.slice a l.length ca] w (PksP l.length w) := by
  have HA := hide ha
  have HBB := hide hb
  have mk := make_pk l.length (by omega)
  have hli : (l.length : Int) ≤ 10000 := by omega
  have g1 := (Gr.refl w).alloc (flatOf slpL (List.replicate l.length ent0)).toArray 48
  have h1 := Has.new w (flatOf slpL (List.replicate l.length ent0)).toArray 48
  clear ha hb
  go_enter Tryz.func11, Tryz.ntmps11
  go_wp2_with (fail)
  go_loopw [11] (fun s11 wr => ∃ (k : Nat) (L : List Ent), (k ≤ l.length ∧ L.length = l.length) ∧ s11 = .int .i64 k ∧ Gr w wr ∧ Hid (Has wr w.heap.size (flatOf slpL L).toArray 48)) (fun s11 _ => l.length - (intOf s11).toNat)
  case atStart => exact ⟨0, _, ⟨by omega, by simp⟩, rfl, g1, h1⟩
  case round =>
    clear g1 h1 mk
    obtain ⟨k, L, ⟨hk, hLL⟩, rfl, gr, hh⟩ := hrel
    by_cases hlt : k < l.length
    · have hlt' : (k : Int) < l.length := by omega
      have q := HA.out.later gr
      obtain ⟨b, o, rfl, -⟩ := q.get (by rw [flatOf_length byteL_len]; omega)
      have c1 := q.cell byteL_len hlt 0 0 (by omega)
      have hx := HBB.out (l.getD k 0) (by rw [List.getD_eq_getElem?_getD, List.getElem?_eq_getElem hlt]; exact List.getElem_mem hlt)
      generalize l.getD k 0 = x at c1 hx
      obtain ⟨n, rfl⟩ := nat_of hx.1
      simp only [byteL, List.getElem?_cons_zero, Nat.add_zero, Nat.mul_one] at c1
      have hn : n < 256 := by omega
      clear q
      go_wp2_with (fail)
      refine (of_calls n hn _).mono ?_
      rintro e w1 ⟨⟨p, r, rfl⟩, g1⟩
      have h1 := hh.out.later g1
      have rw1 := h1.rowAt
      have k1 := rw1.cell slpL_len (i := k) (by omega) ent0 0 (by omega)
      have k2 := rw1.cell slpL_len (i := k) (by omega) ent0 1 (by omega)
      have z1 := h1.free (k * 2)
      have z2 := h1.free (k * 2 + 1)
      have H2 := hide (has_slp h1 (k := k) (by omega) ⟨p, r⟩)
      generalize L.getD k ent0 = old at k1 k2
      simp only [slpL, List.getElem?_cons_zero, List.getElem?_cons_succ, Nat.zero_add, Nat.add_zero] at k1 k2
      have HLL := hide hLL
      have gg := gr.trans g1
      clear h1 hh c1 rw1 hLL
      go_wp2_with (fail)
      exact ⟨⟨k + 1, _, ⟨by omega, by rw [List.length_set]; exact HLL.out⟩, by go_num, (gg.setCell (by simp) _).setCell (by simp) _, H2.out⟩, by simp [intOf]; omega⟩
    · obtain rfl : k = l.length := by omega
      have HLL := hide hLL
      clear hLL
      go_wp2_with (fail)
      go_ret
      exact ⟨w.heap.size, L, HLL.out, ⟨by rw [HLL.out]; rfl, Nat.le_refl _⟩, gr, hh.out⟩
end Go.Proofs.YthbenfnanhpcoaaGreatDoor.Mc

namespace Go.Proofs.YthbenfnanhpcoaaGreatDoor
open Go.ChangeShapes Go.WideShapes Go.ChangeAt Go.RowKit
set_option linter.unusedVariables false

theorem Gr.drewNs {w w' : World} (h : Gr w w') (n : Nat) : Gr w (w'.drewN n) := ⟨h.os, h.tape, h.output, h.size, h.block⟩
theorem Gr.after {w w1 w2 : World} (h : Gr w w1) (k : Below w.heap.size w1 w2) : Gr w w2 := Below.trans h k
def Ins.ok (i : Ins) : Prop := 0 ≤ i.k ∧ i.k < 4294967296
abbrev Ins.vals (i : Ins) : List Value := [.int .i64 i.op, .int .i64 i.a, .int .i64 i.b, .int .i64 i.c, .int .u32 i.k]
end Go.Proofs.YthbenfnanhpcoaaGreatDoor

namespace Go.Proofs.YthbenfnanhpcoaaGreatDoor.Cd
open Go.ChangeShapes Go.WideShapes Go.ChangeAt Go.RowKit
set_option linter.unusedVariables false
set_option maxRecDepth 20000

/-- the lowest k bytes of a number -/
def leB : Int → Nat → List Int
  | _, 0 => []
  | n, k + 1 => (n % 256) :: leB (n / 256) k
theorem leB_len (n : Int) (k : Nat) : (leB n k).length = k := by
  induction k generalizing n with
  | zero => rfl
  | succ k ih => simp [leB, ih]
theorem leB_snoc (n : Int) (k : Nat) : leB n (k + 1) = leB n k ++ [n / 256 ^ k % 256] := by
  induction k generalizing n with
  | zero => simp [leB]
  | succ k ih =>
    rw [show leB n (k + 1 + 1) = (n % 256) :: leB (n / 256) (k + 1) from rfl, ih, show leB n (k + 1) = (n % 256) :: leB (n / 256) k from rfl]
    simp only [List.cons_append, List.cons.injEq, true_and, List.append_cancel_left_eq, and_true]
    rw [Int.ediv_ediv_of_nonneg (by omega), Int.pow_succ, Int.mul_comm]
theorem div_pow (n : Int) (k : Nat) : n / 256 ^ (k + 1) = n / 256 ^ k / 256 := by
  rw [Int.ediv_ediv_of_nonneg (by exact Int.pow_nonneg (by omega)), Int.pow_succ]
theorem div_pow_bounds (n : Int) (k : Nat) (h : 0 ≤ n) (h' : n < 4294967296) : 0 ≤ n / 256 ^ k ∧ n / 256 ^ k < 4294967296 := by
  induction k with
  | zero => simp; omega
  | succ k ih => rw [div_pow]; omega

/-- a slice value owns bytes -/
def Own (w : World) (B : Nat) (v : Value) (xs : List Int) : Prop := w.ownsRow B 5 1 v xs.length (xs.map (Value.int .u8))

/-- all blocks below B, and all that are no rows of the kind e, are as they were -/
structure Kept (e : TypeId) (B : Nat) (w w' : World) : Prop where
  os : w'.os = w.os
  tape : w'.tape = w.tape
  output : w'.output = w.output
  size : w.heap.size ≤ w'.heap.size
  block : ∀ k, k < w.heap.size → (k < B ∨ ∀ cur fr, w.heap[k]? ≠ some (.cells cur e fr)) → w'.heap[k]? = w.heap[k]?
theorem Kept.refl (e : TypeId) (B : Nat) (w : World) : Kept e B w w := ⟨rfl, rfl, rfl, Nat.le_refl _, fun _ _ _ => rfl⟩
theorem Kept.trans {e : TypeId} {B : Nat} {a b c : World} (h : Kept e B a b) (k : Kept e B b c) : Kept e B a c :=
  ⟨k.os.trans h.os, k.tape.trans h.tape, k.output.trans h.output, Nat.le_trans h.size k.size, fun i hi hc =>
    (k.block i (Nat.lt_of_lt_of_le hi h.size) (by rw [h.block i hi hc]; exact hc)).trans (h.block i hi hc)⟩
theorem Kept.of_gr {e : TypeId} {B : Nat} {w w' : World} (h : Gr w w') : Kept e B w w' := ⟨h.os, h.tape, h.output, h.size, fun k hk _ => h.block k hk⟩
theorem Kept.grown {e : TypeId} {B size n : Nat} {w w' : World} {v : Value} {xs : List Value} (h : w.ownsRow B e size v n xs) (g : w.grownBy w' v.ownBlock) : Kept e B w w' := by
  refine ⟨g.os, g.tape, g.output, g.size, fun k hk hc => g.block k hk fun he => ?_⟩
  rcases h.2 with ⟨rfl, _⟩ | ⟨q, cap, cur, rfl, hb, hq, _⟩
  · simp [Value.ownBlock] at he
  · simp [Value.ownBlock] at he
    subst he
    rcases hc with hc | hc
    · omega
    · exact hc _ _ hq
theorem Kept.below {e : TypeId} {B : Nat} {w w' : World} (h : Kept e B w w') (hB : B ≤ w.heap.size) : Below B w w' := ⟨h.os, h.tape, h.output, h.size, fun k hk => h.block k (by omega) (.inl hk)⟩
theorem Own.lift {w w' : World} {B : Nat} {v : Value} {xs : List Int} (h : Own w B v xs) (g : Gr w w') : Own w' B v xs := by
  refine World.ownsRow.kept (row := none) h ⟨g.os, g.tape, g.output, g.size, fun k hk _ => g.block k hk⟩ ?_
  cases hv : v.ownBlock
  · exact .inl rfl
  · right; simp

theorem infoU8 : (Tryz.prog.info? 5).map (fun i => (i.zero, i.size, i.bytes)) = some (some (.int .u8 0), 1, 1) := by kernel_rfl
theorem own_lit (w : World) (B : Nat) (xs : List Int) (h : B ≤ w.heap.size) (hl : xs.length ≤ maxLen) : Own (w.alloc (.cells (xs.map (Value.int .u8)).toArray 5)) B (.slice (some ⟨w.heap.size, 0, none⟩) xs.length xs.length) xs :=
  ⟨by simp, .inr ⟨w.heap.size, xs.length, _, rfl, h, heap_alloc_new w _, Nat.le_refl _, hl, by simp, by simp [List.take_of_length_le]⟩⟩

theorem row_cell {w : World} {g : Nat} {cur : Array Value} {t : TypeId} (h : w.heap[g]? = some (.cells cur t)) (o : Nat) : w.cell? ⟨g, o, none⟩ = cur[o]? := by simp [World.cell?, h]
theorem row_frozen {w : World} {g : Nat} {cur : Array Value} {t : TypeId} (h : w.heap[g]? = some (.cells cur t)) (o : Nat) : w.frozen? ⟨g, o, none⟩ = false := by simp [World.frozen?, h]

/-- a slice's bytes lie where its address says -/
def BytesAt (w : World) (a : Option Addr) (L : List Int) : Prop := L = [] ∨ ∃ b off, a = some ⟨b, off, none⟩ ∧ ∀ j x, L[j]? = some x → w.cell? ⟨b, off + j, none⟩ = some (.int .u8 x)
theorem BytesAt.later {w w' : World} {a : Option Addr} {L : List Int} (h : BytesAt w a L) (g : Gr w w') : BytesAt w' a L := by
  rcases h with h | ⟨b, off, ha, h⟩
  · exact .inl h
  · exact .inr ⟨b, off, ha, fun j x hx => cell_later g (h j x hx)⟩
theorem Own.bytes {w : World} {B : Nat} {v : Value} {xs : List Int} (h : Own w B v xs) : ∃ a cap, v = .slice a xs.length cap ∧ xs.length ≤ cap ∧ cap ≤ maxLen ∧ BytesAt w a xs := by
  rcases h.2 with ⟨rfl, h0⟩ | ⟨g, cap, cur, rfl, _, hg, h1, h2, _, _⟩
  · exact ⟨none, 0, by rw [h0], by omega, Nat.zero_le _, .inl (List.eq_nil_of_length_eq_zero h0)⟩
  · refine ⟨_, cap, rfl, h1, h2, .inr ⟨g, 0, rfl, fun j x hx => ?_⟩⟩
    have := World.ownsRow.cells h (g := g) rfl j (.int .u8 x) (by rw [List.getElem?_map, hx]; rfl)
    rw [Addr.add_mid] at this
    exact this

theorem conv_bytes {w : World} {a : Option Addr} {L : List Int} (cap : Nat) (h : BytesAt w a L) : (convert 22 9 (.slice a L.length cap)).run Tryz.prog w = .ok (.string (strOfNums L)) w := by
  rcases h with rfl | ⟨b, off, rfl, h⟩
  · cases a with
    | none => exact run_convert_bytes_nil w 22 5 Tryz.underlying22 Tryz.underlying5 0 cap 9 Tryz.underlying9
    | some a =>
      show (convert 22 9 (.slice (some a) 0 cap)).run Tryz.prog w = _
      rw [run_convert_bytes_string w 22 9 5 _ 0 cap Tryz.underlying22 Tryz.underlying5 Tryz.underlying9, run_bytesToString w a 0 cap [] (by simp [loadCells, loadCellsFrom])]
      rfl
  · exact run_convert_bytes_arg w 22 5 Tryz.underlying22 Tryz.underlying5 b off L.length cap L rfl (fun i hi => h i _ (by rw [List.getD_eq_getElem?_getD, List.getElem?_eq_getElem hi]; rfl)) 9 Tryz.underlying9

theorem bytes_one (xs : List Int) : ∀ u ∈ xs.map (Value.int .u8), u.oneCell' = true := by
  intro u hu
  simp at hu
  obtain ⟨x, _, rfl⟩ := hu
  rfl
end Go.Proofs.YthbenfnanhpcoaaGreatDoor.Cd
