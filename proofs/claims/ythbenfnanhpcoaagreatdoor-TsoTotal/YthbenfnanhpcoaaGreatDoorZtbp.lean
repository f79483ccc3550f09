/-
  What Mem, Events, Buffer and Threads of a machine answer. No condition but what each law names.
-/
import Derived.Test.YthbenfnanhpcoaaGreatDoorZtbl
import Derived.Test.YthbenfnanhpcoaaGreatDoorZtbhChk
import Derived.Test.YthbenfnanhpcoaaGreatDoorZtbo
import Derived.Test.YthbenfnanhpcoaaGreatDoorZtbg
import Derived.Laws.MakeOwn
namespace Go.Proofs.YthbenfnanhpcoaaGreatDoor.Mc
open Go.ChangeShapes Go.WideShapes Go.ChangeAt Go.RowKit
set_option linter.unusedVariables false
set_option maxRecDepth 20000

theorem own_src {w : World} {base sz : Nat} {t : TypeId} {v : Value} {α : Type} {f : α → List Value} {l : List α} (h : w.ownsRow base t sz v l.length (flatOf f l)) : ∃ a c, v = .slice a l.length c ∧ RowAt w a (flatOf f l) ∧ (a = none → c = 0 ∧ l = []) := by
  obtain ⟨a, c, hv, hr, hn, hc, -⟩ := own_at h
  exact ⟨a, c, hv, hr, fun e => ⟨hn e, List.eq_nil_of_length_eq_zero (by have := hn e; omega)⟩⟩
theorem mem_calls {k : Mk} {s : Ms} {e : Value} {w : World} (h : Mw k s e w) : Calls Tryz.prog 14 #[.pointer (some ⟨k.mb, 0, none⟩)] w (CloneP w 39 1 s.mem.length (flatOf wordL s.mem)) := by
  obtain ⟨a, c, hv, hr, hn⟩ := own_src h.mem
  have c0 := h.mach.1
  rw [hv] at c0
  have hm := h.most
  have hnum := h.num
  have HC := hide (cloneW_calls a c s.mem w hr hn (by omega))
  clear h hr hn hv hm hnum
  go_enter Tryz.func14, Tryz.ntmps14
  go_wp2_with (fail)
  refine HC.out.mono ?_
  rintro r u ⟨v, rfl, ho, g⟩
  have HO := hide ho
  clear c0 ho
  go_wp2_with (fail)
  go_ret
  exact ⟨v, rfl, HO.out, g⟩
theorem events_calls {k : Mk} {s : Ms} {e : Value} {w : World} (h : Mw k s e w) (hl : s.evs.length ≤ 100000) : Calls Tryz.prog 26 #[.pointer (some ⟨k.mb, 0, none⟩)] w (CloneP w 68 8 s.evs.length (flatOf evL s.evs)) := by
  obtain ⟨a, c, hv, hr, hn⟩ := own_src h.evs
  have c0 := h.mach.2.2.1
  rw [hv] at c0
  have HC := hide (cloneE_calls a c s.evs w hr hn hl)
  clear h hr hn hv
  go_enter Tryz.func26, Tryz.ntmps26
  go_wp2_with (fail)
  refine HC.out.mono ?_
  rintro r u ⟨v, rfl, ho, g⟩
  have HO := hide ho
  clear c0 ho
  go_wp2_with (fail)
  go_ret
  exact ⟨v, rfl, HO.out, g⟩
def BufferP (w : World) (l : List Ent) (r : Ending) (w' : World) : Prop := ∃ a c, (r = .returned (.slice a l.length c) ∧ RowAt w' a (Bf.flat l)) ∧ Gr w w'
set_option maxHeartbeats 400000 in
theorem buffer_calls {k : Mk} {s : Ms} {e : Value} {w : World} (h : Mw k s e w) (who : Nat) (hw : who < s.sides.length) : Calls Tryz.prog 13 #[.pointer (some ⟨k.mb, 0, none⟩), .int .i64 who] w (BufferP w (s.side who).buf) := by
  obtain ⟨y, hy⟩ : ∃ y, k.ss[who]? = some y := ⟨_, List.getElem?_eq_getElem (by rw [h.len]; omega)⟩
  have HB := hide (show hasB s who = true by simp [hasB, hw])
  have HHAS := hide (has_calls h who)
  rw [HB.out] at HHAS
  have HH := hide h
  have hn1 : (who : Int) < k.ss.length := by rw [h.len]; omega
  clear h
  go_enter Tryz.func13, Tryz.ntmps13
  go_wp2_with (fail)
  refine HHAS.out.mono ?_
  rintro r u ⟨rfl, g⟩
  have h1 := HH.out.later g
  obtain ⟨B, sr, iB⟩ := h1.sr hy
  obtain ⟨bs, cs, hsv, hcs⟩ := h1.sideAt hy
  have cm := h1.mach.2.1
  rw [hsv] at cm
  have rB := sr.rB
  have ib := infoBl sr.sz
  have HE := hide (Bf.entries_calls iB u)
  have GG := hide g
  clear h1 sr hsv g HHAS
  go_wp2_with (first
    | (refine wpList_load_mid rfl 96 _ rfl y.g 13 rfl B.toList _ rB Tryz.underlying96 rfl ib ?_))
  have HE2 : Hid (Calls Tryz.prog 36 #[.agg B.toList.toArray] u fun r w' => r = .returned (.slice (some ⟨u.heap.size + 1, 0, none⟩) (s.side who).buf.length (s.side who).buf.length) ∧ Gr u w' ∧ Has w' (u.heap.size + 1) (Bf.flat (s.side who).buf).toArray 93) := by
    show Calls _ _ _ _ _
    rw [Array.toArray_toList]
    exact HE.out
  refine HE2.out.mono ?_
  rintro r u2 ⟨rfl, g2, hf⟩
  have HR := hide hf.rowAt
  have GF := hide (GG.out.trans g2)
  clear rB ib cm hcs HE HE2 hf g2
  go_wp2_with (fail)
  go_ret
  exact ⟨_, _, ⟨rfl, HR.out⟩, GF.out⟩

/-- rows of records, of which the first ones are laid -/
def partF {α : Type} (d : α) (l : List α) (k : Nat) : List α := l.take k ++ List.replicate (l.length - k) d
theorem partF_zero {α : Type} (d : α) (l : List α) : partF d l 0 = List.replicate l.length d := by simp [partF]
theorem partF_all {α : Type} (d : α) (l : List α) : partF d l l.length = l := by simp [partF]
theorem partF_seg {α : Type} {f : α → List Value} {sz : Nat} (hf : ∀ x, (f x).length = sz) (d : α) (l : List α) (k : Nat) (h : k < l.length) :
    Kq.setA (flatOf f (partF d l k)).toArray (k * sz) (f (l.getD k d)) = (flatOf f (partF d l (k + 1))).toArray := by
  have e : l.length - k = (l.length - (k + 1)) + 1 := by omega
  have hk : (l.take k).length = k := by simp; omega
  have e1 : flatOf f (partF d l k) = flatOf f (l.take k) ++ (f d ++ flatOf f (List.replicate (l.length - (k + 1)) d)) := by
    unfold partF
    rw [e, List.replicate_succ, flatOf_append, flatOf_cons]
  have e2 : flatOf f (partF d l (k + 1)) = flatOf f (l.take k) ++ (f (l.getD k d) ++ flatOf f (List.replicate (l.length - (k + 1)) d)) := by
    unfold partF
    rw [List.take_succ_eq_append_getElem h, flatOf_append, flatOf_append, List.getD_eq_getElem?_getD, List.getElem?_eq_getElem h]
    simp [flatOf]
  have q := Kq.setA_seg (f (l.getD k d)) (flatOf f (l.take k)) (f d) (flatOf f (List.replicate (l.length - (k + 1)) d)) (by rw [hf, hf])
  rw [flatOf_length hf, hk] at q
  rw [e1, e2, q]
theorem made_flat {α : Type} {f : α → List Value} {sz : Nat} (hf : ∀ x, (f x).length = sz) (hsz : 0 < sz) (z : Value) (d : α) (hz : z.cells = (f d).toArray) (n : Nat) : madeCells z.cells (n * sz) = (flatOf f (List.replicate n d)).toArray := by
  apply Array.ext_getElem?
  intro i
  have hzs : z.cells.size = sz := by rw [hz]; simp [hf]
  rcases Nat.lt_or_ge i (n * sz) with h | h
  · obtain ⟨j, r, rfl, hj, hr⟩ : ∃ j r, i = j * sz + r ∧ j < n ∧ r < sz :=
      ⟨i / sz, i % sz, (Nat.div_add_mod' i sz).symm, Nat.div_lt_of_lt_mul (by rw [Nat.mul_comm]; exact h), Nat.mod_lt _ hsz⟩
    have e1 : (flatOf f (List.replicate n d)).toArray[j * sz + r]? = (f d)[r]? := by
      rw [List.getElem?_toArray, flatOf_get hf _ j r d (by simpa using hj) hr]
      congr 2
      simp [List.getD_eq_getElem?_getD, hj]
    have e2 : (j * sz + r) % sz = r := by
      rw [Nat.mul_comm, Nat.mul_add_mod, Nat.mod_eq_of_lt hr]
    rw [e1]
    unfold madeCells
    rw [hzs]
    simp only [Array.getElem?_map, Array.getElem?_range]
    rw [if_pos h]
    simp only [Option.map_some, e2, hz]
    have hr' : r < (f d).length := by rw [hf]; exact hr
    simp [hr']
  · rw [Array.getElem?_eq_none (by simpa [size_madeCells] using h), Array.getElem?_eq_none (by simpa [flatOf_length hf] using h)]
end Go.Proofs.YthbenfnanhpcoaaGreatDoor.Mc

namespace Go.Proofs.YthbenfnanhpcoaaGreatDoor.Mc
open Go.ChangeShapes Go.WideShapes Go.ChangeAt Go.RowKit
set_option linter.unusedVariables false
set_option maxRecDepth 20000

abbrev thZ : Th := ⟨0, List.replicate 8 0, 0⟩
/-- a thread's ten cells, whatever its registers are -/
def thR (t : Th) : List Value := .int .i64 t.pc :: ((List.range 8).map (fun k => Value.int .u32 (t.r.getD k 0)) ++ [.int .i64 t.st])
theorem thR_len (t : Th) : (thR t).length = 10 := by simp [thR]
theorem thR_is {t : Th} (h : ThOk t) : thR t = thL t := by
  unfold thR thL
  congr 2
  apply List.ext_getElem?
  intro i
  have hl := h.len
  by_cases hi : i < 8
  · simp [hi, List.getD_eq_getElem?_getD, hl]
  · rw [List.getElem?_eq_none (by simp; omega), List.getElem?_eq_none (by simp; omega)]
theorem infoTz : (Tryz.prog.info? 42).map (fun i => (i.zero, i.size, i.bytes)) = some (some (.agg (thR thZ).toArray), 10, 48) := by kernel_rfl
theorem make_ths (n : Nat) (h : n ≤ 8) (w : World) : (Instr.makeSlice 37 (.int .i64 n) (.int .i64 n)).run Tryz.prog w = .ok (.slice (some ⟨w.heap.size, 0, none⟩) n n) (w.alloc (.cells (flatOf thR (List.replicate n thZ)).toArray 42)) := by
  obtain ⟨i, h1, h2, h3, h4⟩ := info_parts infoTz
  have := run_make (P := Tryz.prog) w 37 42 i (.agg (thR thZ).toArray) Tryz.underlying37 h1 h2 .i64 .i64 n n (by omega) (Int.le_refl _) (by rw [h4]; omega) (by omega)
  rw [h3] at this
  rw [← made_flat thR_len (by omega) (.agg (thR thZ).toArray) thZ rfl n]
  simpa using this
def Ms.ths (s : Ms) : List Th := s.sides.map Sd.t
theorem ths_len (s : Ms) : s.ths.length = s.sides.length := by simp [Ms.ths]
theorem ths_at (s : Ms) {j : Nat} (h : j < s.sides.length) : s.ths.getD j thZ = (s.side j).t := by
  unfold Ms.ths Ms.side
  simp [List.getD_eq_getElem?_getD, h]
def ThreadsP (w : World) (l : List Th) (r : Ending) (w' : World) : Prop := (r = .returned (.slice (some ⟨w.heap.size, 0, none⟩) l.length l.length) ∧ Has w' w.heap.size (flatOf thR l).toArray 42) ∧ Gr w w'

set_option maxHeartbeats 1000000 in
theorem threads_calls {k : Mk} {s : Ms} {e : Value} {w : World} (h : Mw k s e w) : Calls Tryz.prog 12 #[.pointer (some ⟨k.mb, 0, none⟩)] w (ThreadsP w s.ths) := by
  obtain ⟨a, c, hsv⟩ := h.svAt
  have c0 := h.mach.2.1
  rw [hsv] at c0
  have h8 : s.sides.length ≤ 8 := (ok_room h.ok).2
  have hmk := make_ths s.sides.length h8
  have b1 := Has.new w (flatOf thR (List.replicate s.sides.length thZ)).toArray 42
  have bg := (Gr.refl w).alloc (flatOf thR (List.replicate s.sides.length thZ)).toArray 42
  have hlt0 : k.mb < w.heap.size := h.q.lt
  have c0' : (w.alloc (.cells (flatOf thR (List.replicate s.sides.length thZ)).toArray 42)).cell? ⟨k.mb, 0, none⟩ = some (.slice a s.sides.length c) := (cell_same 0 (bg.block k.mb hlt0)).trans c0
  have HH := hide h
  have HL := hide (ths_len s)
  have HS := hide hsv
  clear h hsv
  unfold ThreadsP
  rw [HL.out]
  go_enter Tryz.func12, Tryz.ntmps12
  go_upto_region 2 with (fail)
  change Code.wp _ _ _ _ (w.alloc (.cells (flatOf thR (List.replicate s.sides.length thZ)).toArray 42))
  generalize w.alloc (.cells (flatOf thR (List.replicate s.sides.length thZ)).toArray 42) = w1 at b1 bg c0' ⊢
  have HB1 := hide b1
  have HBG := hide bg
  clear b1 bg c0 hmk
  go_wp2_with (fail)
  go_loopw [17] (fun v wr => ∃ j : Nat, j ≤ s.sides.length ∧ v = .int .i64 j ∧ Gr w wr ∧ Has wr w.heap.size (flatOf thR (partF thZ s.ths j)).toArray 42) (fun v _ => s.sides.length - (intOf v).toNat)
  case atStart => exact ⟨0, by omega, rfl, HBG.out, by rw [partF_zero, HL.out]; exact HB1.out⟩
  case round =>
    clear c0'
    obtain ⟨j, hj, rfl, g, hb⟩ := hrel
    by_cases hlt : j < s.sides.length
    · have hlt' : (j : Int) < s.sides.length := by omega
      have h1 := HH.out.later g
      obtain ⟨y, hy⟩ : ∃ y, k.ss[j]? = some y := ⟨_, List.getElem?_eq_getElem (by rw [HH.out.len]; omega)⟩
      obtain ⟨B, sr, -⟩ := h1.sr hy
      obtain ⟨bs, cs, hsv, hcs⟩ := h1.sideAt hy
      rw [HS.out, HH.out.len] at hsv
      cases hsv
      have rT := sr.rT
      have iT := infoT10 sr.th
      have hseg := partF_seg thR_len thZ s.ths j (by rw [HL.out]; exact hlt)
      rw [ths_at s hlt, thR_is sr.th] at hseg
      have thr := hb.there (j * 10) (thC (s.side j).t).size (by
        rw [thC_size sr.th, List.size_toArray, flatOf_length thR_len]
        unfold partF
        have := HL.out
        simp
        omega)
      have i2 : (Tryz.prog.info? 42).map (·.size) = some (thC (s.side j).t).size := infoT_of sr.th
      have one := thC_one (s.side j).t
      have HSG := hide hseg
      have HB := hide hb
      have GG := hide g
      have hj10 : (j : Int) < s.sides.length := hlt'
      clear h1 sr hb g hseg
      go_wp2_with (first
        | (refine wpList_load_mid rfl 42 _ rfl y.g 3 rfl (thL (s.side j).t) _ rT Tryz.underlying42 rfl iT ?_)
        | (refine wpList_store_mid rfl 42 _ _ rfl w.heap.size (j * 10) (thC (s.side j).t) rfl rfl thr i2 one ?_))
      have e1 := Kq.setCells_has (thC (s.side j).t).toList (j * 10) wr _ HB.out
      have e2 : (thC (s.side j).t).toList = thL (s.side j).t := rfl
      rw [e2, HSG.out] at e1
      exact ⟨⟨j + 1, by omega, by go_num, Kp.gr GG.out (Kq.kp_setCells (b := w.heap.size) _ _ wr) (by simp), e1⟩, by simp [intOf]; omega⟩
    · have hj' : j = s.sides.length := by omega
      subst hj'
      have hb2 : Has wr w.heap.size (flatOf thR s.ths).toArray 42 := by
        have := partF_all thZ s.ths
        rw [HL.out] at this
        rw [this] at hb
        exact hb
      have HB := hide hb2
      have GG := hide g
      clear hb hb2 g
      go_wp2_with (fail)
      go_ret
      exact ⟨⟨rfl, HB.out⟩, GG.out⟩
end Go.Proofs.YthbenfnanhpcoaaGreatDoor.Mc
