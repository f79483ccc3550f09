/-
  What it is that a slice value owns bytes, and what lists of bytes a number is, the lowest first; a world that keeps all blocks but rows of one kind. Lists, numbers and worlds alone: no condition on inputs.
-/
import Derived.Test.YthooopcoemdphaaDoorBase
import Derived.Test.YthooopcoemdphaaDoorRight
import Derived.Test.YthooopcoemdphaaDoorOpen
import Derived.Deep.Slices
import Derived.Deep.MidRow
import Derived.OwnWalk
import Derived.ArgAppend
import Derived.Laws.BytesArg
import Derived.BigQuiet
import Derived.Deep.QuietTactic
namespace Go.Proofs.YthooopcoemdphaaDoor
open Go.ChangeShapes Go.WideShapes Go.ChangeAt Go.RowKit
set_option linter.unusedVariables false


/-- the lowest k bytes of a number -/
def leB : Int → Nat → List Int
  | _, 0 => []
  | n, k + 1 => (n % 256) :: leB (n / 256) k
theorem leB_len (n : Int) (k : Nat) : (leB n k).length = k := by
  induction k generalizing n with
  | zero => rfl
  | succ k ih => simp [leB, ih]
theorem leB_snoc (n : Int) (k : Nat) : leB n (k + 1) = leB n k ++ [n / 256 ^ k % 256] := by
  induction k generalizing n with
  | zero => simp [leB]
  | succ k ih =>
    rw [show leB n (k + 1 + 1) = (n % 256) :: leB (n / 256) (k + 1) from rfl, ih, show leB n (k + 1) = (n % 256) :: leB (n / 256) k from rfl]
    simp only [List.cons_append, List.cons.injEq, true_and, List.append_cancel_left_eq, and_true]
    rw [Int.ediv_ediv_of_nonneg (by omega), Int.pow_succ, Int.mul_comm]
theorem div_pow (n : Int) (k : Nat) : n / 256 ^ (k + 1) = n / 256 ^ k / 256 := by
  rw [Int.ediv_ediv_of_nonneg (by exact Int.pow_nonneg (by omega)), Int.pow_succ]
theorem div_pow_bounds (n : Int) (k : Nat) (h : 0 ≤ n) (h' : n < 4294967296) : 0 ≤ n / 256 ^ k ∧ n / 256 ^ k < 4294967296 := by
  induction k with
  | zero => simp; omega
  | succ k ih => rw [div_pow]; omega

/-- a slice value owns bytes -/
def Own (w : World) (B : Nat) (v : Value) (xs : List Int) : Prop := w.ownsRow B 5 1 v xs.length (xs.map (Value.int .u8))

/-- all blocks below B, and all that are no rows of the kind e, are as they were -/
structure Kept (e : TypeId) (B : Nat) (w w' : World) : Prop where
  os : w'.os = w.os
  tape : w'.tape = w.tape
  output : w'.output = w.output
  size : w.heap.size ≤ w'.heap.size
  block : ∀ k, k < w.heap.size → (k < B ∨ ∀ cur fr, w.heap[k]? ≠ some (.cells cur e fr)) → w'.heap[k]? = w.heap[k]?
theorem Kept.refl (e : TypeId) (B : Nat) (w : World) : Kept e B w w := ⟨rfl, rfl, rfl, Nat.le_refl _, fun _ _ _ => rfl⟩
theorem Kept.trans {e : TypeId} {B : Nat} {a b c : World} (h : Kept e B a b) (k : Kept e B b c) : Kept e B a c :=
  ⟨k.os.trans h.os, k.tape.trans h.tape, k.output.trans h.output, Nat.le_trans h.size k.size, fun i hi hc =>
    (k.block i (Nat.lt_of_lt_of_le hi h.size) (by rw [h.block i hi hc]; exact hc)).trans (h.block i hi hc)⟩
theorem Kept.of_gr {e : TypeId} {B : Nat} {w w' : World} (h : Gr w w') : Kept e B w w' := ⟨h.os, h.tape, h.output, h.size, fun k hk _ => h.block k hk⟩
theorem Kept.grown {e : TypeId} {B size n : Nat} {w w' : World} {v : Value} {xs : List Value} (h : w.ownsRow B e size v n xs) (g : w.grownBy w' v.ownBlock) : Kept e B w w' := by
  refine ⟨g.os, g.tape, g.output, g.size, fun k hk hc => g.block k hk fun he => ?_⟩
  rcases h.2 with ⟨rfl, _⟩ | ⟨q, cap, cur, rfl, hb, hq, _⟩
  · simp [Value.ownBlock] at he
  · simp [Value.ownBlock] at he
    subst he
    rcases hc with hc | hc
    · omega
    · exact hc _ _ hq
theorem Kept.below {e : TypeId} {B : Nat} {w w' : World} (h : Kept e B w w') (hB : B ≤ w.heap.size) : Below B w w' := ⟨h.os, h.tape, h.output, h.size, fun k hk => h.block k (by omega) (.inl hk)⟩
theorem Gr.drewNs {w w' : World} (h : Gr w w') (n : Nat) : Gr w (w'.drewN n) := ⟨h.os, h.tape, h.output, h.size, h.block⟩
theorem Gr.after {w w1 w2 : World} (h : Gr w w1) (k : Below w.heap.size w1 w2) : Gr w w2 := Below.trans h k
theorem Own.lift {w w' : World} {B : Nat} {v : Value} {xs : List Int} (h : Own w B v xs) (g : Gr w w') : Own w' B v xs := by
  refine World.ownsRow.kept (row := none) h ⟨g.os, g.tape, g.output, g.size, fun k hk _ => g.block k hk⟩ ?_
  cases hv : v.ownBlock
  · exact .inl rfl
  · right; simp

theorem info5 : (Tryd.prog.info? 5).map (fun i => (i.zero, i.size, i.bytes)) = some (some (.int .u8 0), 1, 1) := by kernel_rfl
theorem own_lit (w : World) (B : Nat) (xs : List Int) (h : B ≤ w.heap.size) (hl : xs.length ≤ maxLen) : Own (w.alloc (.cells (xs.map (Value.int .u8)).toArray 5)) B (.slice (some ⟨w.heap.size, 0, none⟩) xs.length xs.length) xs :=
  ⟨by simp, .inr ⟨w.heap.size, xs.length, _, rfl, h, heap_alloc_new w _, Nat.le_refl _, hl, by simp, by simp [List.take_of_length_le]⟩⟩

theorem row_cell {w : World} {g : Nat} {cur : Array Value} {t : TypeId} (h : w.heap[g]? = some (.cells cur t)) (o : Nat) : w.cell? ⟨g, o, none⟩ = cur[o]? := by simp [World.cell?, h]
theorem row_frozen {w : World} {g : Nat} {cur : Array Value} {t : TypeId} (h : w.heap[g]? = some (.cells cur t)) (o : Nat) : w.frozen? ⟨g, o, none⟩ = false := by simp [World.frozen?, h]

/-- a slice's bytes lie where its address says -/
def BytesAt (w : World) (a : Option Addr) (L : List Int) : Prop := L = [] ∨ ∃ b off, a = some ⟨b, off, none⟩ ∧ ∀ j x, L[j]? = some x → w.cell? ⟨b, off + j, none⟩ = some (.int .u8 x)
theorem BytesAt.later {w w' : World} {a : Option Addr} {L : List Int} (h : BytesAt w a L) (g : Gr w w') : BytesAt w' a L := by
  rcases h with h | ⟨b, off, ha, h⟩
  · exact .inl h
  · exact .inr ⟨b, off, ha, fun j x hx => cell_later g (h j x hx)⟩
theorem Own.bytes {w : World} {B : Nat} {v : Value} {xs : List Int} (h : Own w B v xs) : ∃ a cap, v = .slice a xs.length cap ∧ xs.length ≤ cap ∧ cap ≤ maxLen ∧ BytesAt w a xs := by
  rcases h.2 with ⟨rfl, h0⟩ | ⟨g, cap, cur, rfl, _, hg, h1, h2, _, _⟩
  · exact ⟨none, 0, by rw [h0], by omega, Nat.zero_le _, .inl (List.eq_nil_of_length_eq_zero h0)⟩
  · refine ⟨_, cap, rfl, h1, h2, .inr ⟨g, 0, rfl, fun j x hx => ?_⟩⟩
    have := World.ownsRow.cells h (g := g) rfl j (.int .u8 x) (by rw [List.getElem?_map, hx]; rfl)
    rw [Addr.add_mid] at this
    exact this

theorem conv_bytes {w : World} {a : Option Addr} {L : List Int} (cap : Nat) (h : BytesAt w a L) : (convert 22 9 (.slice a L.length cap)).run Tryd.prog w = .ok (.string (strOfNums L)) w := by
  rcases h with rfl | ⟨b, off, rfl, h⟩
  · cases a with
    | none => exact run_convert_bytes_nil w 22 5 Tryd.underlying22 Tryd.underlying5 0 cap 9 Tryd.underlying9
    | some a =>
      show (convert 22 9 (.slice (some a) 0 cap)).run Tryd.prog w = _
      rw [run_convert_bytes_string w 22 9 5 _ 0 cap Tryd.underlying22 Tryd.underlying5 Tryd.underlying9, run_bytesToString w a 0 cap [] (by simp [loadCells, loadCellsFrom])]
      rfl
  · exact run_convert_bytes_arg w 22 5 Tryd.underlying22 Tryd.underlying5 b off L.length cap L rfl (fun i hi => h i _ (by rw [List.getD_eq_getElem?_getD, List.getElem?_eq_getElem hi]; rfl)) 9 Tryd.underlying9

theorem bytes_one (xs : List Int) : ∀ u ∈ xs.map (Value.int .u8), u.oneCell' = true := by
  intro u hu
  simp at hu
  obtain ⟨x, _, rfl⟩ := hu
  rfl
end Go.Proofs.YthooopcoemdphaaDoor
