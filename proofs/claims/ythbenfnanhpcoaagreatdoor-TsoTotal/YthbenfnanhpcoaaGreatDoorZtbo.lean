/-
  Slices of entries in a world, and what Entries answers of any cells that are a buffer. No condition but that.
-/
import Derived.Test.YthbenfnanhpcoaaGreatDoorZtahBfStep
namespace Go.Proofs.YthbenfnanhpcoaaGreatDoor.Bf
open Go.ChangeShapes Go.WideShapes Go.ChangeAt Go.RowKit
set_option linter.unusedVariables false
set_option maxRecDepth 20000

/-- a slice of entries: none, or their cells from an address on -/
def EntsAt (w : World) (a : Option Addr) (l : List Ent) : Prop :=
  l = [] ∨ ∃ b off, a = some ⟨b, off, none⟩ ∧ ∀ i, i < l.length → w.cell? ⟨b, off + i * 2, none⟩ = some (.int .i64 (l.getD i ent0).a) ∧ w.cell? ⟨b, off + i * 2 + 1, none⟩ = some (.int .u32 (l.getD i ent0).v)
theorem EntsAt.later {w w' : World} {a : Option Addr} {l : List Ent} (h : EntsAt w a l) (g : Gr w w') : EntsAt w' a l := by
  rcases h with h | ⟨b, off, ha, h⟩
  · exact .inl h
  · refine .inr ⟨b, off, ha, fun i hi => ?_⟩
    obtain ⟨h1, h2⟩ := h i hi
    exact ⟨(Below.cell g (p := ⟨b, _, none⟩) (block_lt_of_cell h1)).trans h1, (Below.cell g (p := ⟨b, _, none⟩) (block_lt_of_cell h2)).trans h2⟩
theorem EntsAt.get {w : World} {a : Option Addr} {l : List Ent} (h : EntsAt w a l) {i : Nat} (hi : i < l.length) :
    ∃ b off, a = some ⟨b, off, none⟩ ∧ w.cell? ⟨b, off + i * 2, none⟩ = some (.int .i64 (l.getD i ent0).a) ∧ w.cell? ⟨b, off + i * 2 + 1, none⟩ = some (.int .u32 (l.getD i ent0).v) := by
  rcases h with h | ⟨b, off, ha, h⟩
  · subst h; simp at hi
  · exact ⟨b, off, ha, h i hi⟩

theorem flatC_a (l : List Ent) (i : Nat) (hi : i < l.length) : (flat l).toArray[i * 2]? = some (.int .i64 (l.getD i ent0).a) := by
  rw [List.getElem?_toArray, flat_a, List.getD_eq_getElem?_getD, List.getElem?_eq_getElem hi]; rfl
theorem flatC_v (l : List Ent) (i : Nat) (hi : i < l.length) : (flat l).toArray[i * 2 + 1]? = some (.int .u32 (l.getD i ent0).v) := by
  rw [List.getElem?_toArray, flat_v, List.getD_eq_getElem?_getD, List.getElem?_eq_getElem hi]; rfl
theorem flatC_size (l : List Ent) : (flat l).toArray.size = l.length * 2 := by simp [flat_length]
end Go.Proofs.YthbenfnanhpcoaaGreatDoor.Bf
namespace Go.Proofs.YthbenfnanhpcoaaGreatDoor
open Go.ChangeShapes Go.WideShapes Go.ChangeAt Go.RowKit
set_option linter.unusedVariables false
set_option maxRecDepth 20000
open Go.Proofs.YthbenfnanhpcoaaGreatDoor.Bf
theorem Has.entsB {w : World} {g : Nat} {l : List Ent} {t : TypeId} (h : Has w g (flat l).toArray t) : EntsAt w (some ⟨g, 0, none⟩) l :=
  .inr ⟨g, 0, rfl, fun i hi => by rw [Nat.zero_add]; exact ⟨h.cell (flatC_a l i hi), h.cell (flatC_v l i hi)⟩⟩
end Go.Proofs.YthbenfnanhpcoaaGreatDoor
namespace Go.Proofs.YthbenfnanhpcoaaGreatDoor.Bf
open Go.ChangeShapes Go.WideShapes Go.ChangeAt Go.RowKit
set_option linter.unusedVariables false
set_option maxRecDepth 20000
end Go.Proofs.YthbenfnanhpcoaaGreatDoor.Bf
namespace Go.Proofs.YthbenfnanhpcoaaGreatDoor
open Go.ChangeShapes Go.WideShapes Go.ChangeAt Go.RowKit
set_option linter.unusedVariables false
set_option maxRecDepth 20000
open Go.Proofs.YthbenfnanhpcoaaGreatDoor.Bf
theorem Has.setFlat {w : World} {g : Nat} {t : TypeId} {l : List Ent} (h : Has w g (flat l).toArray t) (i : Nat) (x : Ent) :
    Has (w.setCells g (i * 2) [.int .i64 x.a, .int .u32 x.v]) g (flat (l.set i x)).toArray t := by
  have := (h.set (i * 2) (.int .i64 x.a)).set (i * 2 + 1) (.int .u32 x.v)
  rw [List.setIfInBounds_toArray, List.setIfInBounds_toArray, ← flat_set] at this
  exact this
end Go.Proofs.YthbenfnanhpcoaaGreatDoor
namespace Go.Proofs.YthbenfnanhpcoaaGreatDoor.Bf
open Go.ChangeShapes Go.WideShapes Go.ChangeAt Go.RowKit
set_option linter.unusedVariables false
set_option maxRecDepth 20000
abbrev zeroE : Value := .agg #[.int .i64 0, .int .u32 0]
theorem infoE3 : (Tryz.prog.info? 93).map (fun i => (i.zero, i.size, i.bytes)) = some (some zeroE, 2, 16) := by kernel_rfl
theorem flat_rep : ∀ n : Nat, (madeCells zeroE.cells (n * 2)) = (flat (List.replicate n ent0)).toArray := by
  intro n
  apply Array.ext_getElem?
  intro i
  rcases Nat.lt_or_ge i (n * 2) with h | h
  · have e : i = i / 2 * 2 + i % 2 := by omega
    have hi : i / 2 < n := by omega
    rcases (by omega : i % 2 = 0 ∨ i % 2 = 1) with h2 | h2
    · have e2 : i = i / 2 * 2 := by omega
      rw [e2, flatC_a _ _ (by simpa using hi)]
      have e3 : (List.replicate n ent0).getD (i / 2) ent0 = ent0 := by simp [List.getD_eq_getElem?_getD, hi]
      rw [e3]
      have : i / 2 * 2 < n * 2 := by omega
      simp [madeCells, this, Value.cells, ent0]
    · have e2 : i = i / 2 * 2 + 1 := by omega
      rw [e2, flatC_v _ _ (by simpa using hi)]
      have e3 : (List.replicate n ent0).getD (i / 2) ent0 = ent0 := by simp [List.getD_eq_getElem?_getD, hi]
      rw [e3]
      have : i / 2 * 2 + 1 < n * 2 := by omega
      have m : (i / 2 * 2 + 1) % 2 = 1 := by omega
      simp [madeCells, this, Value.cells, ent0, m]
  · rw [Array.getElem?_eq_none (by simpa [size_madeCells] using h), Array.getElem?_eq_none (by simpa [flat_length] using h)]
theorem make_ents (n : Nat) (h : n ≤ 5000) (w : World) : (Instr.makeSlice 43 (.int .i64 n) (.int .i64 n)).run Tryz.prog w = .ok (.slice (some ⟨w.heap.size, 0, none⟩) n n) (w.alloc (.cells (flat (List.replicate n ent0)).toArray 93)) := by
  obtain ⟨i, h1, h2, h3, h4⟩ := info_parts infoE3
  have := run_make (P := Tryz.prog) w 43 93 i zeroE Tryz.underlying43 h1 h2 .i64 .i64 n n (by omega) (Int.le_refl _) (by rw [h4]; omega) (by omega)
  rw [h3] at this
  rw [← flat_rep]
  simpa using this
end Go.Proofs.YthbenfnanhpcoaaGreatDoor.Bf

namespace Go.Proofs.YthbenfnanhpcoaaGreatDoor.Bf
open Go.ChangeShapes Go.WideShapes Go.ChangeAt Go.RowKit
set_option linter.unusedVariables false
set_option maxRecDepth 20000

/-- the first k are laid -/
def part (l : List Ent) (k : Nat) : List Ent := l.take k ++ List.replicate (l.length - k) ent0
theorem part_zero (l : List Ent) : part l 0 = List.replicate l.length ent0 := by simp [part]
theorem part_all (l : List Ent) : part l l.length = l := by simp [part]
theorem part_length (l : List Ent) (k : Nat) (h : k ≤ l.length) : (part l k).length = l.length := by simp [part]; omega
theorem part_succ (l : List Ent) (k : Nat) (h : k < l.length) : (part l k).set k (l.getD k ent0) = part l (k + 1) := by
  unfold part
  have e : l.length - k = (l.length - (k + 1)) + 1 := by omega
  have hk : (l.take k).length = k := by simp; omega
  rw [List.set_append_right _ _ (by omega), hk, Nat.sub_self, e, List.replicate_succ, List.set_cons_zero, List.take_succ_eq_append_getElem h, List.append_assoc]
  congr 2
  rw [List.getD_eq_getElem?_getD, List.getElem?_eq_getElem h]
  rfl

set_option maxHeartbeats 400000 in
theorem entries_calls {C : Array Value} {room : Nat} {l : List Ent} (h : IsB C room l) (w : World) :
    Calls Tryz.prog 36 #[.agg C] w fun e w' => e = .returned (.slice (some ⟨w.heap.size + 1, 0, none⟩) l.length l.length) ∧ Gr w w' ∧ Has w' (w.heap.size + 1) (flat l).toArray 93 := by
  obtain ⟨r, first, hi⟩ := h
  have HB := hide hi
  have HI : Hid (IsB C room l) := ⟨r, first, hi⟩
  have hf := hi.fst
  have hm := hi.most
  have hlen := hi.len
  have c33 : C[33]? = some (.int .i64 first) := by rw [hi.cells]; exact bufC_first hi.ring _ _ _
  have C33 := hide c33
  have c34 : C[34]? = some (.int .i64 l.length) := by rw [hi.cells]; exact bufC_count hi.ring _ _ _
  have HS := hide HI.out.size
  have hmk := make_ents l.length (by omega)
  have b0 := (Has.new w C 96).alloc (flat (List.replicate l.length ent0)).toArray 93
  have b1 := Has.new (w.alloc (.cells C 96)) (flat (List.replicate l.length ent0)).toArray 93
  rw [show (w.alloc (.cells C 96)).heap.size = w.heap.size + 1 by simp] at b1
  have bg := ((Gr.refl w).alloc C 96).alloc (flat (List.replicate l.length ent0)).toArray 93
  clear hi c33
  go_enter Tryz.func36, Tryz.ntmps36
  go_wp2_with (fail)
  go_loopw [10] (fun i wr => ∃ k : Nat, k ≤ l.length ∧ i = .int .i64 k ∧ Has wr w.heap.size C 96 ∧ Gr w wr ∧ Has wr (w.heap.size + 1) (flat (part l k)).toArray 93) (fun i _ => l.length - (intOf i).toNat)
  case atStart => exact ⟨0, by omega, rfl, b0, bg, by rw [part_zero]; exact b1⟩
  case round =>
    clear b0 b1 bg c34 hmk
    obtain ⟨k, hk, rfl, b0, bg, b1⟩ := hrel
    by_cases hlt : k < l.length
    · obtain ⟨ca, cv⟩ := HB.out.ent k hlt
      have HP := hide (part_succ l k hlt)
      have hps : k * 2 + 2 ≤ (flat (part l k)).toArray.size := by rw [flatC_size, part_length l k hk]; omega
      have HPS := hide hps
      clear hps
      generalize l.getD k ent0 = x at ca cv HP
      have CA := hide ca
      have CV := hide cv
      clear ca cv
      go_wp2_with (first | (refine load_buf rfl _ rfl w.heap.size rfl C b0 HS.out ?_))
      refine (place_calls C33.out hf k (by omega) _).mono ?_
      rintro e w1 ⟨rfl, g1⟩
      replace b0 := b0.later g1
      replace b1 := b1.later g1
      replace bg := bg.trans g1
      clear g1
      have ca := b0.cell CA.out
      have cv := b0.cell CV.out
      generalize hpp : (first + k) % 16 = p at ca cv ⊢
      have hp : p < 16 := by omega
      have hp' : (p : Int) < 16 := by omega
      clear CA CV hpp
      go_wp2_with (first | (refine store_ent rfl rfl _ _ rfl (w.heap.size + 1) (k * 2) rfl x rfl _ 93 b1 HPS.out ?_))
      exact ⟨⟨k + 1, by omega, by go_num, b0.setCells (by omega) _ _ _, bg.setCells (by omega) _ _ _, (b1.setFlat k x).of (by rw [HP.out])⟩, by simp [intOf]; omega⟩
    · obtain rfl : k = l.length := by omega
      rw [part_all] at b1
      go_wp2_with (fail)
      go_ret
      exact ⟨rfl, bg, b1⟩
end Go.Proofs.YthbenfnanhpcoaaGreatDoor.Bf
