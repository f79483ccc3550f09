/-
  Slices of entries in a world, and what Entries answers of any cells that are a buffer. No condition but that.
-/
import Derived.Test.YthbenfnanhpcoaaDoorZzaf
import Derived.Test.YthbenfnanhpcoaaDoorZzbp
import Derived.Test.YthbenfnanhpcoaaDoorZzbjChk
import Derived.Test.YthbenfnanhpcoaaDoorZzaw
import Derived.Laws.MakeOwn
namespace Go.Proofs.YthbenfnanhpcoaaDoor.Bf
open Go.ChangeShapes Go.WideShapes Go.ChangeAt Go.RowKit
set_option linter.unusedVariables false
set_option maxRecDepth 20000

/-- a slice of entries: none, or their cells from an address on -/
def EntsAt (w : World) (a : Option Addr) (l : List Ent) : Prop :=
  l = [] ∨ ∃ b off, a = some ⟨b, off, none⟩ ∧ ∀ i, i < l.length → w.cell? ⟨b, off + i * 2, none⟩ = some (.int .i64 (l.getD i ent0).a) ∧ w.cell? ⟨b, off + i * 2 + 1, none⟩ = some (.int .u32 (l.getD i ent0).v)
theorem EntsAt.later {w w' : World} {a : Option Addr} {l : List Ent} (h : EntsAt w a l) (g : Gr w w') : EntsAt w' a l := by
  rcases h with h | ⟨b, off, ha, h⟩
  · exact .inl h
  · refine .inr ⟨b, off, ha, fun i hi => ?_⟩
    obtain ⟨h1, h2⟩ := h i hi
    exact ⟨(Below.cell g (p := ⟨b, _, none⟩) (block_lt_of_cell h1)).trans h1, (Below.cell g (p := ⟨b, _, none⟩) (block_lt_of_cell h2)).trans h2⟩
theorem EntsAt.get {w : World} {a : Option Addr} {l : List Ent} (h : EntsAt w a l) {i : Nat} (hi : i < l.length) :
    ∃ b off, a = some ⟨b, off, none⟩ ∧ w.cell? ⟨b, off + i * 2, none⟩ = some (.int .i64 (l.getD i ent0).a) ∧ w.cell? ⟨b, off + i * 2 + 1, none⟩ = some (.int .u32 (l.getD i ent0).v) := by
  rcases h with h | ⟨b, off, ha, h⟩
  · subst h; simp at hi
  · exact ⟨b, off, ha, h i hi⟩

theorem flatC_a (l : List Ent) (i : Nat) (hi : i < l.length) : (flat l).toArray[i * 2]? = some (.int .i64 (l.getD i ent0).a) := by
  rw [List.getElem?_toArray, flat_a, List.getD_eq_getElem?_getD, List.getElem?_eq_getElem hi]; rfl
theorem flatC_v (l : List Ent) (i : Nat) (hi : i < l.length) : (flat l).toArray[i * 2 + 1]? = some (.int .u32 (l.getD i ent0).v) := by
  rw [List.getElem?_toArray, flat_v, List.getD_eq_getElem?_getD, List.getElem?_eq_getElem hi]; rfl
theorem flatC_size (l : List Ent) : (flat l).toArray.size = l.length * 2 := by simp [flat_length]
end Go.Proofs.YthbenfnanhpcoaaDoor.Bf
namespace Go.Proofs.YthbenfnanhpcoaaDoor
open Go.ChangeShapes Go.WideShapes Go.ChangeAt Go.RowKit
set_option linter.unusedVariables false
set_option maxRecDepth 20000
open Go.Proofs.YthbenfnanhpcoaaDoor.Bf
theorem Has.entsB {w : World} {g : Nat} {l : List Ent} {t : TypeId} (h : Has w g (flat l).toArray t) : EntsAt w (some ⟨g, 0, none⟩) l :=
  .inr ⟨g, 0, rfl, fun i hi => by rw [Nat.zero_add]; exact ⟨h.cell (flatC_a l i hi), h.cell (flatC_v l i hi)⟩⟩
end Go.Proofs.YthbenfnanhpcoaaDoor
namespace Go.Proofs.YthbenfnanhpcoaaDoor.Bf
open Go.ChangeShapes Go.WideShapes Go.ChangeAt Go.RowKit
set_option linter.unusedVariables false
set_option maxRecDepth 20000
end Go.Proofs.YthbenfnanhpcoaaDoor.Bf
namespace Go.Proofs.YthbenfnanhpcoaaDoor
open Go.ChangeShapes Go.WideShapes Go.ChangeAt Go.RowKit
set_option linter.unusedVariables false
set_option maxRecDepth 20000
open Go.Proofs.YthbenfnanhpcoaaDoor.Bf
theorem Has.setFlat {w : World} {g : Nat} {t : TypeId} {l : List Ent} (h : Has w g (flat l).toArray t) (i : Nat) (x : Ent) :
    Has (w.setCells g (i * 2) [.int .i64 x.a, .int .u32 x.v]) g (flat (l.set i x)).toArray t := by
  have := (h.set (i * 2) (.int .i64 x.a)).set (i * 2 + 1) (.int .u32 x.v)
  rw [List.setIfInBounds_toArray, List.setIfInBounds_toArray, ← flat_set] at this
  exact this
end Go.Proofs.YthbenfnanhpcoaaDoor
namespace Go.Proofs.YthbenfnanhpcoaaDoor.Bf
open Go.ChangeShapes Go.WideShapes Go.ChangeAt Go.RowKit
set_option linter.unusedVariables false
set_option maxRecDepth 20000
abbrev zeroE : Value := .agg #[.int .i64 0, .int .u32 0]
theorem infoE3 : (Tryd.prog.info? 87).map (fun i => (i.zero, i.size, i.bytes)) = some (some zeroE, 2, 16) := by kernel_rfl
theorem flat_rep : ∀ n : Nat, (madeCells zeroE.cells (n * 2)) = (flat (List.replicate n ent0)).toArray := by
  intro n
  apply Array.ext_getElem?
  intro i
  rcases Nat.lt_or_ge i (n * 2) with h | h
  · have e : i = i / 2 * 2 + i % 2 := by omega
    have hi : i / 2 < n := by omega
    rcases (by omega : i % 2 = 0 ∨ i % 2 = 1) with h2 | h2
    · have e2 : i = i / 2 * 2 := by omega
      rw [e2, flatC_a _ _ (by simpa using hi)]
      have e3 : (List.replicate n ent0).getD (i / 2) ent0 = ent0 := by simp [List.getD_eq_getElem?_getD, hi]
      rw [e3]
      have : i / 2 * 2 < n * 2 := by omega
      simp [madeCells, this, Value.cells, ent0]
    · have e2 : i = i / 2 * 2 + 1 := by omega
      rw [e2, flatC_v _ _ (by simpa using hi)]
      have e3 : (List.replicate n ent0).getD (i / 2) ent0 = ent0 := by simp [List.getD_eq_getElem?_getD, hi]
      rw [e3]
      have : i / 2 * 2 + 1 < n * 2 := by omega
      have m : (i / 2 * 2 + 1) % 2 = 1 := by omega
      simp [madeCells, this, Value.cells, ent0, m]
  · rw [Array.getElem?_eq_none (by simpa [size_madeCells] using h), Array.getElem?_eq_none (by simpa [flat_length] using h)]
theorem make_ents (n : Nat) (h : n ≤ 5000) (w : World) : (Instr.makeSlice 53 (.int .i64 n) (.int .i64 n)).run Tryd.prog w = .ok (.slice (some ⟨w.heap.size, 0, none⟩) n n) (w.alloc (.cells (flat (List.replicate n ent0)).toArray 87)) := by
  obtain ⟨i, h1, h2, h3, h4⟩ := info_parts infoE3
  have := run_make (P := Tryd.prog) w 53 87 i zeroE Tryd.underlying53 h1 h2 .i64 .i64 n n (by omega) (Int.le_refl _) (by rw [h4]; omega) (by omega)
  rw [h3] at this
  rw [← flat_rep]
  simpa using this
end Go.Proofs.YthbenfnanhpcoaaDoor.Bf

namespace Go.Proofs.YthbenfnanhpcoaaDoor.Bf
open Go.ChangeShapes Go.WideShapes Go.ChangeAt Go.RowKit
set_option linter.unusedVariables false
set_option maxRecDepth 20000

/-- the first k are laid -/
def part (l : List Ent) (k : Nat) : List Ent := l.take k ++ List.replicate (l.length - k) ent0
theorem part_zero (l : List Ent) : part l 0 = List.replicate l.length ent0 := by simp [part]
theorem part_all (l : List Ent) : part l l.length = l := by simp [part]
theorem part_length (l : List Ent) (k : Nat) (h : k ≤ l.length) : (part l k).length = l.length := by simp [part]; omega
theorem part_succ (l : List Ent) (k : Nat) (h : k < l.length) : (part l k).set k (l.getD k ent0) = part l (k + 1) := by
  unfold part
  have e : l.length - k = (l.length - (k + 1)) + 1 := by omega
  have hk : (l.take k).length = k := by simp; omega
  rw [List.set_append_right _ _ (by omega), hk, Nat.sub_self, e, List.replicate_succ, List.set_cons_zero, List.take_succ_eq_append_getElem h, List.append_assoc]
  congr 2
  rw [List.getD_eq_getElem?_getD, List.getElem?_eq_getElem h]
  rfl

set_option maxHeartbeats 400000 in
theorem entries_calls {C : Array Value} {room : Nat} {l : List Ent} (h : IsB C room l) (w : World) :
    Calls Tryd.prog 40 #[.agg C] w fun e w' => e = .returned (.slice (some ⟨w.heap.size + 1, 0, none⟩) l.length l.length) ∧ Gr w w' ∧ Has w' (w.heap.size + 1) (flat l).toArray 87 := by
  obtain ⟨r, first, hi⟩ := h
  have HB := hide hi
  have HI : Hid (IsB C room l) := ⟨r, first, hi⟩
  have hf := hi.fst
  have hm := hi.most
  have hlen := hi.len
  have c33 : C[33]? = some (.int .i64 first) := by rw [hi.cells]; exact bufC_first hi.ring _ _ _
  have C33 := hide c33
  have c34 : C[34]? = some (.int .i64 l.length) := by rw [hi.cells]; exact bufC_count hi.ring _ _ _
  have HS := hide HI.out.size
  have hmk := make_ents l.length (by omega)
  have b0 := (Has.new w C 90).alloc (flat (List.replicate l.length ent0)).toArray 87
  have b1 := Has.new (w.alloc (.cells C 90)) (flat (List.replicate l.length ent0)).toArray 87
  rw [show (w.alloc (.cells C 90)).heap.size = w.heap.size + 1 by simp] at b1
  have bg := ((Gr.refl w).alloc C 90).alloc (flat (List.replicate l.length ent0)).toArray 87
  clear hi c33
  go_enter Tryd.func40, Tryd.ntmps40
  go_wp2_with (fail)
  go_loopw [10] (fun i wr => ∃ k : Nat, k ≤ l.length ∧ i = .int .i64 k ∧ Has wr w.heap.size C 90 ∧ Gr w wr ∧ Has wr (w.heap.size + 1) (flat (part l k)).toArray 87) (fun i _ => l.length - (intOf i).toNat)
  case atStart => exact ⟨0, by omega, rfl, b0, bg, by rw [part_zero]; exact b1⟩
  case round =>
    clear b0 b1 bg c34 hmk
    obtain ⟨k, hk, rfl, b0, bg, b1⟩ := hrel
    by_cases hlt : k < l.length
    · obtain ⟨ca, cv⟩ := HB.out.ent k hlt
      have HP := hide (part_succ l k hlt)
      have hps : k * 2 + 2 ≤ (flat (part l k)).toArray.size := by rw [flatC_size, part_length l k hk]; omega
      have HPS := hide hps
      clear hps
      generalize l.getD k ent0 = x at ca cv HP
      have CA := hide ca
      have CV := hide cv
      clear ca cv
      go_wp2_with (first | (refine load_buf rfl _ rfl w.heap.size rfl C b0 HS.out ?_))
      refine (place_calls C33.out hf k (by omega) _).mono ?_
      rintro e w1 ⟨rfl, g1⟩
      replace b0 := b0.later g1
      replace b1 := b1.later g1
      replace bg := bg.trans g1
      clear g1
      have ca := b0.cell CA.out
      have cv := b0.cell CV.out
      generalize hpp : (first + k) % 16 = p at ca cv ⊢
      have hp : p < 16 := by omega
      have hp' : (p : Int) < 16 := by omega
      clear CA CV hpp
      go_wp2_with (first | (refine store_ent rfl rfl _ _ rfl (w.heap.size + 1) (k * 2) rfl x rfl _ 87 b1 HPS.out ?_))
      exact ⟨⟨k + 1, by omega, by go_num, b0.setCells (by omega) _ _ _, bg.setCells (by omega) _ _ _, (b1.setFlat k x).of (by rw [HP.out])⟩, by simp [intOf]; omega⟩
    · obtain rfl : k = l.length := by omega
      rw [part_all] at b1
      go_wp2_with (fail)
      go_ret
      exact ⟨rfl, bg, b1⟩
end Go.Proofs.YthbenfnanhpcoaaDoor.Bf

namespace Go.Proofs.YthbenfnanhpcoaaDoor.Mc
open Go.ChangeShapes Go.WideShapes Go.ChangeAt Go.RowKit
set_option linter.unusedVariables false
set_option maxRecDepth 20000

theorem own_src {w : World} {base sz : Nat} {t : TypeId} {v : Value} {α : Type} {f : α → List Value} {l : List α} (h : w.ownsRow base t sz v l.length (flatOf f l)) : ∃ a c, v = .slice a l.length c ∧ RowAt w a (flatOf f l) ∧ (a = none → c = 0 ∧ l = []) := by
  obtain ⟨a, c, hv, hr, hn, hc, -⟩ := own_at h
  exact ⟨a, c, hv, hr, fun e => ⟨hn e, List.eq_nil_of_length_eq_zero (by have := hn e; omega)⟩⟩
theorem mem_calls {k : Mk} {s : Ms} {e : Value} {w : World} (h : Mw k s e w) : Calls Tryd.prog 18 #[.pointer (some ⟨k.mb, 0, none⟩)] w (CloneP w 41 1 s.mem.length (flatOf wordL s.mem)) := by
  obtain ⟨a, c, hv, hr, hn⟩ := own_src h.mem
  have c0 := h.mach.1
  rw [hv] at c0
  have hm := h.most
  have hnum := h.num
  have HC := hide (cloneW_calls a c s.mem w hr hn (by omega))
  clear h hr hn hv hm hnum
  go_enter Tryd.func18, Tryd.ntmps18
  go_wp2_with (fail)
  refine HC.out.mono ?_
  rintro r u ⟨v, rfl, ho, g⟩
  have HO := hide ho
  clear c0 ho
  go_wp2_with (fail)
  go_ret
  exact ⟨v, rfl, HO.out, g⟩
theorem events_calls {k : Mk} {s : Ms} {e : Value} {w : World} (h : Mw k s e w) (hl : s.evs.length ≤ 100000) : Calls Tryd.prog 13 #[.pointer (some ⟨k.mb, 0, none⟩)] w (CloneP w 78 8 s.evs.length (flatOf evL s.evs)) := by
  obtain ⟨a, c, hv, hr, hn⟩ := own_src h.evs
  have c0 := h.mach.2.2.1
  rw [hv] at c0
  have HC := hide (cloneE_calls a c s.evs w hr hn hl)
  clear h hr hn hv
  go_enter Tryd.func13, Tryd.ntmps13
  go_wp2_with (fail)
  refine HC.out.mono ?_
  rintro r u ⟨v, rfl, ho, g⟩
  have HO := hide ho
  clear c0 ho
  go_wp2_with (fail)
  go_ret
  exact ⟨v, rfl, HO.out, g⟩
def BufferP (w : World) (l : List Ent) (r : Ending) (w' : World) : Prop := ∃ a c, (r = .returned (.slice a l.length c) ∧ RowAt w' a (Bf.flat l)) ∧ Gr w w'
set_option maxHeartbeats 400000 in
theorem buffer_calls {k : Mk} {s : Ms} {e : Value} {w : World} (h : Mw k s e w) (who : Nat) (hw : who < s.sides.length) : Calls Tryd.prog 19 #[.pointer (some ⟨k.mb, 0, none⟩), .int .i64 who] w (BufferP w (s.side who).buf) := by
  obtain ⟨y, hy⟩ : ∃ y, k.ss[who]? = some y := ⟨_, List.getElem?_eq_getElem (by rw [h.len]; omega)⟩
  have HB := hide (show hasB s who = true by simp [hasB, hw])
  have HHAS := hide (has_calls h who)
  rw [HB.out] at HHAS
  have HH := hide h
  have hn1 : (who : Int) < k.ss.length := by rw [h.len]; omega
  clear h
  go_enter Tryd.func19, Tryd.ntmps19
  go_wp2_with (fail)
  refine HHAS.out.mono ?_
  rintro r u ⟨rfl, g⟩
  have h1 := HH.out.later g
  obtain ⟨B, sr, iB⟩ := h1.sr hy
  obtain ⟨bs, cs, hsv, hcs⟩ := h1.sideAt hy
  have cm := h1.mach.2.1
  rw [hsv] at cm
  have rB := sr.rB
  have ib := infoBl sr.sz
  have HE := hide (Bf.entries_calls iB u)
  have GG := hide g
  clear h1 sr hsv g HHAS
  go_wp2_with (first
    | (refine wpList_load_mid rfl 90 _ rfl y.g 13 rfl B.toList _ rB Tryd.underlying90 rfl ib ?_))
  have HE2 : Hid (Calls Tryd.prog 40 #[.agg B.toList.toArray] u fun r w' => r = .returned (.slice (some ⟨u.heap.size + 1, 0, none⟩) (s.side who).buf.length (s.side who).buf.length) ∧ Gr u w' ∧ Has w' (u.heap.size + 1) (Bf.flat (s.side who).buf).toArray 87) := by
    show Calls _ _ _ _ _
    rw [Array.toArray_toList]
    exact HE.out
  refine HE2.out.mono ?_
  rintro r u2 ⟨rfl, g2, hf⟩
  have HR := hide hf.rowAt
  have GF := hide (GG.out.trans g2)
  clear rB ib cm hcs HE HE2 hf g2
  go_wp2_with (fail)
  go_ret
  exact ⟨_, _, ⟨rfl, HR.out⟩, GF.out⟩

/-- rows of records, of which the first ones are laid -/
def partF {α : Type} (d : α) (l : List α) (k : Nat) : List α := l.take k ++ List.replicate (l.length - k) d
theorem partF_zero {α : Type} (d : α) (l : List α) : partF d l 0 = List.replicate l.length d := by simp [partF]
theorem partF_all {α : Type} (d : α) (l : List α) : partF d l l.length = l := by simp [partF]
theorem partF_seg {α : Type} {f : α → List Value} {sz : Nat} (hf : ∀ x, (f x).length = sz) (d : α) (l : List α) (k : Nat) (h : k < l.length) :
    Kq.setA (flatOf f (partF d l k)).toArray (k * sz) (f (l.getD k d)) = (flatOf f (partF d l (k + 1))).toArray := by
  have e : l.length - k = (l.length - (k + 1)) + 1 := by omega
  have hk : (l.take k).length = k := by simp; omega
  have e1 : flatOf f (partF d l k) = flatOf f (l.take k) ++ (f d ++ flatOf f (List.replicate (l.length - (k + 1)) d)) := by
    unfold partF
    rw [e, List.replicate_succ, flatOf_append, flatOf_cons]
  have e2 : flatOf f (partF d l (k + 1)) = flatOf f (l.take k) ++ (f (l.getD k d) ++ flatOf f (List.replicate (l.length - (k + 1)) d)) := by
    unfold partF
    rw [List.take_succ_eq_append_getElem h, flatOf_append, flatOf_append, List.getD_eq_getElem?_getD, List.getElem?_eq_getElem h]
    simp [flatOf]
  have q := Kq.setA_seg (f (l.getD k d)) (flatOf f (l.take k)) (f d) (flatOf f (List.replicate (l.length - (k + 1)) d)) (by rw [hf, hf])
  rw [flatOf_length hf, hk] at q
  rw [e1, e2, q]
theorem made_flat {α : Type} {f : α → List Value} {sz : Nat} (hf : ∀ x, (f x).length = sz) (hsz : 0 < sz) (z : Value) (d : α) (hz : z.cells = (f d).toArray) (n : Nat) : madeCells z.cells (n * sz) = (flatOf f (List.replicate n d)).toArray := by
  apply Array.ext_getElem?
  intro i
  have hzs : z.cells.size = sz := by rw [hz]; simp [hf]
  rcases Nat.lt_or_ge i (n * sz) with h | h
  · obtain ⟨j, r, rfl, hj, hr⟩ : ∃ j r, i = j * sz + r ∧ j < n ∧ r < sz :=
      ⟨i / sz, i % sz, (Nat.div_add_mod' i sz).symm, Nat.div_lt_of_lt_mul (by rw [Nat.mul_comm]; exact h), Nat.mod_lt _ hsz⟩
    have e1 : (flatOf f (List.replicate n d)).toArray[j * sz + r]? = (f d)[r]? := by
      rw [List.getElem?_toArray, flatOf_get hf _ j r d (by simpa using hj) hr]
      congr 2
      simp [List.getD_eq_getElem?_getD, hj]
    have e2 : (j * sz + r) % sz = r := by
      rw [Nat.mul_comm, Nat.mul_add_mod, Nat.mod_eq_of_lt hr]
    rw [e1]
    unfold madeCells
    rw [hzs]
    simp only [Array.getElem?_map, Array.getElem?_range]
    rw [if_pos h]
    simp only [Option.map_some, e2, hz]
    have hr' : r < (f d).length := by rw [hf]; exact hr
    simp [hr']
  · rw [Array.getElem?_eq_none (by simpa [size_madeCells] using h), Array.getElem?_eq_none (by simpa [flatOf_length hf] using h)]
end Go.Proofs.YthbenfnanhpcoaaDoor.Mc

namespace Go.Proofs.YthbenfnanhpcoaaDoor.Mc
open Go.ChangeShapes Go.WideShapes Go.ChangeAt Go.RowKit
set_option linter.unusedVariables false
set_option maxRecDepth 20000

abbrev thZ : Th := ⟨0, List.replicate 8 0, 0⟩
/-- a thread's ten cells, whatever its registers are -/
def thR (t : Th) : List Value := .int .i64 t.pc :: ((List.range 8).map (fun k => Value.int .u32 (t.r.getD k 0)) ++ [.int .i64 t.st])
theorem thR_len (t : Th) : (thR t).length = 10 := by simp [thR]
theorem thR_is {t : Th} (h : ThOk t) : thR t = thL t := by
  unfold thR thL
  congr 2
  apply List.ext_getElem?
  intro i
  have hl := h.len
  by_cases hi : i < 8
  · simp [hi, List.getD_eq_getElem?_getD, hl]
  · rw [List.getElem?_eq_none (by simp; omega), List.getElem?_eq_none (by simp; omega)]
theorem infoTz : (Tryd.prog.info? 52).map (fun i => (i.zero, i.size, i.bytes)) = some (some (.agg (thR thZ).toArray), 10, 48) := by kernel_rfl
theorem make_ths (n : Nat) (h : n ≤ 8) (w : World) : (Instr.makeSlice 47 (.int .i64 n) (.int .i64 n)).run Tryd.prog w = .ok (.slice (some ⟨w.heap.size, 0, none⟩) n n) (w.alloc (.cells (flatOf thR (List.replicate n thZ)).toArray 52)) := by
  obtain ⟨i, h1, h2, h3, h4⟩ := info_parts infoTz
  have := run_make (P := Tryd.prog) w 47 52 i (.agg (thR thZ).toArray) Tryd.underlying47 h1 h2 .i64 .i64 n n (by omega) (Int.le_refl _) (by rw [h4]; omega) (by omega)
  rw [h3] at this
  rw [← made_flat thR_len (by omega) (.agg (thR thZ).toArray) thZ rfl n]
  simpa using this
def Ms.ths (s : Ms) : List Th := s.sides.map Sd.t
theorem ths_len (s : Ms) : s.ths.length = s.sides.length := by simp [Ms.ths]
theorem ths_at (s : Ms) {j : Nat} (h : j < s.sides.length) : s.ths.getD j thZ = (s.side j).t := by
  unfold Ms.ths Ms.side
  simp [List.getD_eq_getElem?_getD, h]
def ThreadsP (w : World) (l : List Th) (r : Ending) (w' : World) : Prop := (r = .returned (.slice (some ⟨w.heap.size, 0, none⟩) l.length l.length) ∧ Has w' w.heap.size (flatOf thR l).toArray 52) ∧ Gr w w'

set_option maxHeartbeats 1000000 in
theorem threads_calls {k : Mk} {s : Ms} {e : Value} {w : World} (h : Mw k s e w) : Calls Tryd.prog 17 #[.pointer (some ⟨k.mb, 0, none⟩)] w (ThreadsP w s.ths) := by
  obtain ⟨a, c, hsv⟩ := h.svAt
  have c0 := h.mach.2.1
  rw [hsv] at c0
  have h8 : s.sides.length ≤ 8 := (ok_room h.ok).2
  have hmk := make_ths s.sides.length h8
  have b1 := Has.new w (flatOf thR (List.replicate s.sides.length thZ)).toArray 52
  have bg := (Gr.refl w).alloc (flatOf thR (List.replicate s.sides.length thZ)).toArray 52
  have hlt0 : k.mb < w.heap.size := h.q.lt
  have c0' : (w.alloc (.cells (flatOf thR (List.replicate s.sides.length thZ)).toArray 52)).cell? ⟨k.mb, 0, none⟩ = some (.slice a s.sides.length c) := (cell_same 0 (bg.block k.mb hlt0)).trans c0
  have HH := hide h
  have HL := hide (ths_len s)
  have HS := hide hsv
  clear h hsv
  unfold ThreadsP
  rw [HL.out]
  go_enter Tryd.func17, Tryd.ntmps17
  go_upto_region 2 with (fail)
  change Code.wp _ _ _ _ (w.alloc (.cells (flatOf thR (List.replicate s.sides.length thZ)).toArray 52))
  generalize w.alloc (.cells (flatOf thR (List.replicate s.sides.length thZ)).toArray 52) = w1 at b1 bg c0' ⊢
  have HB1 := hide b1
  have HBG := hide bg
  clear b1 bg c0 hmk
  go_wp2_with (fail)
  go_loopw [17] (fun v wr => ∃ j : Nat, j ≤ s.sides.length ∧ v = .int .i64 j ∧ Gr w wr ∧ Has wr w.heap.size (flatOf thR (partF thZ s.ths j)).toArray 52) (fun v _ => s.sides.length - (intOf v).toNat)
  case atStart => exact ⟨0, by omega, rfl, HBG.out, by rw [partF_zero, HL.out]; exact HB1.out⟩
  case round =>
    clear c0'
    obtain ⟨j, hj, rfl, g, hb⟩ := hrel
    by_cases hlt : j < s.sides.length
    · have hlt' : (j : Int) < s.sides.length := by omega
      have h1 := HH.out.later g
      obtain ⟨y, hy⟩ : ∃ y, k.ss[j]? = some y := ⟨_, List.getElem?_eq_getElem (by rw [HH.out.len]; omega)⟩
      obtain ⟨B, sr, -⟩ := h1.sr hy
      obtain ⟨bs, cs, hsv, hcs⟩ := h1.sideAt hy
      rw [HS.out, HH.out.len] at hsv
      cases hsv
      have rT := sr.rT
      have iT := infoT10 sr.th
      have hseg := partF_seg thR_len thZ s.ths j (by rw [HL.out]; exact hlt)
      rw [ths_at s hlt, thR_is sr.th] at hseg
      have thr := hb.there (j * 10) (thC (s.side j).t).size (by
        rw [thC_size sr.th, List.size_toArray, flatOf_length thR_len]
        unfold partF
        have := HL.out
        simp
        omega)
      have i2 : (Tryd.prog.info? 52).map (·.size) = some (thC (s.side j).t).size := infoT_of sr.th
      have one := thC_one (s.side j).t
      have HSG := hide hseg
      have HB := hide hb
      have GG := hide g
      have hj10 : (j : Int) < s.sides.length := hlt'
      clear h1 sr hb g hseg
      go_wp2_with (first
        | (refine wpList_load_mid rfl 52 _ rfl y.g 3 rfl (thL (s.side j).t) _ rT Tryd.underlying52 rfl iT ?_)
        | (refine wpList_store_mid rfl 52 _ _ rfl w.heap.size (j * 10) (thC (s.side j).t) rfl rfl thr i2 one ?_))
      have e1 := Kq.setCells_has (thC (s.side j).t).toList (j * 10) wr _ HB.out
      have e2 : (thC (s.side j).t).toList = thL (s.side j).t := rfl
      rw [e2, HSG.out] at e1
      exact ⟨⟨j + 1, by omega, by go_num, Kp.gr GG.out (Kq.kp_setCells (b := w.heap.size) _ _ wr) (by simp), e1⟩, by simp [intOf]; omega⟩
    · have hj' : j = s.sides.length := by omega
      subst hj'
      have hb2 : Has wr w.heap.size (flatOf thR s.ths).toArray 52 := by
        have := partF_all thZ s.ths
        rw [HL.out] at this
        rw [this] at hb
        exact hb
      have HB := hide hb2
      have GG := hide g
      clear hb hb2 g
      go_wp2_with (fail)
      go_ret
      exact ⟨⟨rfl, HB.out⟩, GG.out⟩
end Go.Proofs.YthbenfnanhpcoaaDoor.Mc

namespace Go.Proofs.YthbenfnanhpcoaaDoor.Sc
open Go.Proofs.YthbenfnanhpcoaaDoor.Mc Go.ChangeShapes Go.WideShapes Go.ChangeAt Go.RowKit
set_option linter.unusedVariables false
set_option maxRecDepth 20000

theorem events_calls {k : Mk} {s : Ms} {e : Value} {w : World} (h : Mw k s e w) (hl : s.evs.length ≤ 100000) : Calls Tryd.prog 24 #[.pointer (some ⟨k.mb, 0, none⟩)] w (CloneP w 78 8 s.evs.length (flatOf evL s.evs)) := by
  obtain ⟨a, c, hv, hr, hn⟩ := own_src h.evs
  have c0 := h.mach.2.2.1
  rw [hv] at c0
  have HC := hide (cloneE_calls a c s.evs w hr hn hl)
  clear h hr hn hv
  go_enter Tryd.func24, Tryd.ntmps24
  go_wp2_with (fail)
  refine HC.out.mono ?_
  rintro r u ⟨v, rfl, ho, g⟩
  have HO := hide ho
  clear c0 ho
  go_wp2_with (fail)
  go_ret
  exact ⟨v, rfl, HO.out, g⟩
theorem count_calls {k : Mk} {s : Ms} {e : Value} {w : World} (h : Mw k s e w) : Calls Tryd.prog 41 #[.pointer (some ⟨k.mb, 0, none⟩)] w fun r w' => r = .returned (.int .i64 s.evs.length) ∧ Gr w w' := by
  obtain ⟨a, c, hv, hr, hn⟩ := own_src h.evs
  have c0 := h.mach.2.2.1
  rw [hv] at c0
  have g := Gr.refl w
  clear h hr hn hv
  go_enter Tryd.func41, Tryd.ntmps41
  go_wp2_with (fail)
  go_ret
  exact ⟨rfl, g⟩
set_option maxHeartbeats 400000 in
theorem thread_calls {k : Mk} {s : Ms} {e : Value} {w : World} (h : Mw k s e w) (who : Nat) (hw : who < s.sides.length) : Calls Tryd.prog 27 #[.pointer (some ⟨k.mb, 0, none⟩), .int .i64 who] w fun r w' => r = .returned (.agg (thC (s.side who).t)) ∧ Gr w w' := by
  obtain ⟨y, hy⟩ : ∃ y, k.ss[who]? = some y := ⟨_, List.getElem?_eq_getElem (by rw [h.len]; omega)⟩
  have HB := hide (show hasB s who = true by simp [hasB, hw])
  have g0 := (Gr.refl w).alloc (thC thZ) 52
  have k0 := Has.new w (thC thZ) 52
  have HHAS := hide (has_calls (h.later g0) who)
  rw [HB.out] at HHAS
  have HH := hide (h.later g0)
  have hn1 : (who : Int) < k.ss.length := by rw [h.len]; omega
  clear h
  go_enter Tryd.func27, Tryd.ntmps27
  go_wp2_with (fail)
  change Calls _ _ _ (w.alloc (.cells (thC thZ) 52)) _
  generalize w.alloc (.cells (thC thZ) 52) = w1 at g0 k0 HHAS HH ⊢
  generalize hq : w.heap.size = q at k0 ⊢
  refine HHAS.out.mono ?_
  rintro r u ⟨rfl, g⟩
  have h1 := HH.out.later g
  obtain ⟨B, sr, -⟩ := h1.sr hy
  obtain ⟨bs, cs, hsv, hcs⟩ := h1.sideAt hy
  have cm := h1.mach.2.1
  rw [hsv] at cm
  have rT := sr.rT
  have hth := (h1.side who y hy).th
  have iT := infoT10 hth
  have GG := hide (g0.trans g)
  have kq := k0.later g
  have hzs : (thC thZ).size = 10 := rfl
  have hts : (thC (s.side who).t).size = 10 := thC_size hth
  have thr : u.there q 0 (thC (s.side who).t).size := kq.there 0 _ (by rw [hts, hzs]; omega)
  have i2 : (Tryd.prog.info? 52).map (·.size) = some (thC (s.side who).t).size := infoT_of hth
  have one := thC_one (s.side who).t
  have KQ := hide kq
  have hz : Hid (Kq.setA (thC thZ) 0 (thC (s.side who).t).toList = thC (s.side who).t) := by
    show _ = _
    have := Kq.setA_seg (thC (s.side who).t).toList [] (thC thZ).toList [] (by rw [Array.length_toList, Array.length_toList, hts, hzs])
    simpa using this
  have hqq := hide hq
  clear h1 sr hsv kq g0 k0 g HHAS HH hq
  go_wp2_with (first
    | (refine wpList_load_mid rfl 52 _ rfl y.g 3 rfl (thL (s.side who).t) _ rT Tryd.underlying52 rfl iT ?_)
    | (refine wpList_store_mid rfl 52 _ _ rfl q 0 (thC (s.side who).t) rfl rfl thr i2 one ?_))
  have e1 := Kq.setCells_has (thC (s.side who).t).toList 0 u _ KQ.out
  rw [hz.out] at e1
  have kp := Kq.kp_setCells (b := q) (thC (s.side who).t).toList 0 u
  have gf := Kp.gr GG.out kp (by intro x hx; rw [show x = q by simpa using hx, ← hqq.out]; exact Nat.le_refl _)
  have E1 := hide e1
  have GF := hide gf
  clear e1 kp gf rT iT thr one hcs cm
  generalize u.setCells q 0 (thC (s.side who).t).toList = u2 at E1 GF ⊢
  go_wp2_with (fail)
  exact bodyPost_ret (results_cell_row rfl _ _ q 52 (thC (s.side who).t) (0, 0) _ rfl E1.out Tryd.underlying52 rfl i2) rfl ⟨rfl, GF.out⟩
end Go.Proofs.YthbenfnanhpcoaaDoor.Sc
