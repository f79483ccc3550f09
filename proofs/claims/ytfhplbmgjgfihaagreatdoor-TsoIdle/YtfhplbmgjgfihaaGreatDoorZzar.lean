/-
  What Mem, Events, Buffer and Threads of a machine answer. No condition but what each law names.
-/
import Derived.Test.YtfhplbmgjgfihaaGreatDoorZzap
import Derived.Test.YtfhplbmgjgfihaaGreatDoorZzaq
import Derived.Laws.MakeOwn
import Derived.Test.YtfhplbmgjgfihaaGreatDoorZzaa
import Derived.Test.YtfhplbmgjgfihaaGreatDoorZzac
import Derived.Laws.StructEq
import Derived.Deep.MidRow
namespace Go.Proofs.YtfhplbmgjgfihaaGreatDoor.Mc
open Go.ChangeShapes Go.WideShapes Go.ChangeAt Go.RowKit
set_option linter.unusedVariables false
set_option maxRecDepth 20000
theorem own_src {w : World} {base sz : Nat} {t : TypeId} {v : Value} {α : Type} {f : α → List Value} {l : List α} (h : w.ownsRow base t sz v l.length (flatOf f l)) : ∃ a c, v = .slice a l.length c ∧ RowAt w a (flatOf f l) ∧ (a = none → c = 0 ∧ l = []) := by
  obtain ⟨a, c, hv, hr, hn, hc, -⟩ := own_at h
  exact ⟨a, c, hv, hr, fun e => ⟨hn e, List.eq_nil_of_length_eq_zero (by have := hn e; omega)⟩⟩
theorem mem_calls {k : Mk} {s : Ms} {e : Value} {w : World} (h : Mw k s e w) : Calls Tryz.prog 22 #[.pointer (some ⟨k.mb, 0, none⟩)] w (CloneP w 43 1 s.mem.length (flatOf wordL s.mem)) := by
  obtain ⟨a, c, hv, hr, hn⟩ := own_src h.mem
  have c0 := h.mach.1
  rw [hv] at c0
  have hm := h.most
  have hnum := h.num
  have HC := hide (cloneW_calls a c s.mem w hr hn (by omega))
  clear h hr hn hv hm hnum
  go_enter Tryz.func22, Tryz.ntmps22
  go_wp2_with (fail)
  refine HC.out.mono ?_
  rintro r u ⟨v, rfl, ho, g⟩
  have HO := hide ho
  clear c0 ho
  go_wp2_with (fail)
  go_ret
  exact ⟨v, rfl, HO.out, g⟩
theorem events_calls {k : Mk} {s : Ms} {e : Value} {w : World} (h : Mw k s e w) (hl : s.evs.length ≤ 100000) : Calls Tryz.prog 23 #[.pointer (some ⟨k.mb, 0, none⟩)] w (CloneP w 79 8 s.evs.length (flatOf evL s.evs)) := by
  obtain ⟨a, c, hv, hr, hn⟩ := own_src h.evs
  have c0 := h.mach.2.2.1
  rw [hv] at c0
  have HC := hide (cloneE_calls a c s.evs w hr hn hl)
  clear h hr hn hv
  go_enter Tryz.func23, Tryz.ntmps23
  go_wp2_with (fail)
  refine HC.out.mono ?_
  rintro r u ⟨v, rfl, ho, g⟩
  have HO := hide ho
  clear c0 ho
  go_wp2_with (fail)
  go_ret
  exact ⟨v, rfl, HO.out, g⟩
def BufferP (w : World) (l : List Ent) (r : Ending) (w' : World) : Prop := ∃ a c, (r = .returned (.slice a l.length c) ∧ RowAt w' a (Bf.flat l)) ∧ Gr w w'
set_option maxHeartbeats 400000 in
theorem buffer_calls {k : Mk} {s : Ms} {e : Value} {w : World} (h : Mw k s e w) (who : Nat) (hw : who < s.sides.length) : Calls Tryz.prog 25 #[.pointer (some ⟨k.mb, 0, none⟩), .int .i64 who] w (BufferP w (s.side who).buf) := by
  obtain ⟨y, hy⟩ : ∃ y, k.ss[who]? = some y := ⟨_, List.getElem?_eq_getElem (by rw [h.len]; omega)⟩
  have HB := hide (show hasB s who = true by simp [hasB, hw])
  have HHAS := hide (has_calls h who)
  rw [HB.out] at HHAS
  have HH := hide h
  have hn1 : (who : Int) < k.ss.length := by rw [h.len]; omega
  clear h
  go_enter Tryz.func25, Tryz.ntmps25
  go_wp2_with (fail)
  refine HHAS.out.mono ?_
  rintro r u ⟨rfl, g⟩
  have h1 := HH.out.later g
  obtain ⟨B, sr, iB⟩ := h1.sr hy
  obtain ⟨bs, cs, hsv, hcs⟩ := h1.sideAt hy
  have cm := h1.mach.2.1
  rw [hsv] at cm
  have rB := sr.rB
  have ib := infoBl sr.sz
  have HE := hide (Bf.entries_calls iB u)
  have GG := hide g
  clear h1 sr hsv g HHAS
  go_wp2_with (first
    | (refine wpList_load_mid rfl 83 _ rfl y.g 13 rfl B.toList _ rB Tryz.underlying83 rfl ib ?_))
  have HE2 : Hid (Calls Tryz.prog 40 #[.agg B.toList.toArray] u fun r w' => r = .returned (.slice (some ⟨u.heap.size + 1, 0, none⟩) (s.side who).buf.length (s.side who).buf.length) ∧ Gr u w' ∧ Has w' (u.heap.size + 1) (Bf.flat (s.side who).buf).toArray 77) := by
    show Calls _ _ _ _ _
    rw [Array.toArray_toList]
    exact HE.out
  refine HE2.out.mono ?_
  rintro r u2 ⟨rfl, g2, hf⟩
  have HR := hide hf.rowAt
  have GF := hide (GG.out.trans g2)
  clear rB ib cm hcs HE HE2 hf g2
  go_wp2_with (fail)
  go_ret
  exact ⟨_, _, ⟨rfl, HR.out⟩, GF.out⟩

/-- rows of records, of which the first ones are laid -/
def partF {α : Type} (d : α) (l : List α) (k : Nat) : List α := l.take k ++ List.replicate (l.length - k) d
theorem partF_zero {α : Type} (d : α) (l : List α) : partF d l 0 = List.replicate l.length d := by simp [partF]
theorem partF_all {α : Type} (d : α) (l : List α) : partF d l l.length = l := by simp [partF]
theorem partF_seg {α : Type} {f : α → List Value} {sz : Nat} (hf : ∀ x, (f x).length = sz) (d : α) (l : List α) (k : Nat) (h : k < l.length) :
    Kq.setA (flatOf f (partF d l k)).toArray (k * sz) (f (l.getD k d)) = (flatOf f (partF d l (k + 1))).toArray := by
  have e : l.length - k = (l.length - (k + 1)) + 1 := by omega
  have hk : (l.take k).length = k := by simp; omega
  have e1 : flatOf f (partF d l k) = flatOf f (l.take k) ++ (f d ++ flatOf f (List.replicate (l.length - (k + 1)) d)) := by
    unfold partF
    rw [e, List.replicate_succ, flatOf_append, flatOf_cons]
  have e2 : flatOf f (partF d l (k + 1)) = flatOf f (l.take k) ++ (f (l.getD k d) ++ flatOf f (List.replicate (l.length - (k + 1)) d)) := by
    unfold partF
    rw [List.take_succ_eq_append_getElem h, flatOf_append, flatOf_append, List.getD_eq_getElem?_getD, List.getElem?_eq_getElem h]
    simp [flatOf]
  have q := Kq.setA_seg (f (l.getD k d)) (flatOf f (l.take k)) (f d) (flatOf f (List.replicate (l.length - (k + 1)) d)) (by rw [hf, hf])
  rw [flatOf_length hf, hk] at q
  rw [e1, e2, q]
theorem made_flat {α : Type} {f : α → List Value} {sz : Nat} (hf : ∀ x, (f x).length = sz) (hsz : 0 < sz) (z : Value) (d : α) (hz : z.cells = (f d).toArray) (n : Nat) : madeCells z.cells (n * sz) = (flatOf f (List.replicate n d)).toArray := by
  apply Array.ext_getElem?
  intro i
  have hzs : z.cells.size = sz := by rw [hz]; simp [hf]
  rcases Nat.lt_or_ge i (n * sz) with h | h
  · obtain ⟨j, r, rfl, hj, hr⟩ : ∃ j r, i = j * sz + r ∧ j < n ∧ r < sz :=
      ⟨i / sz, i % sz, (Nat.div_add_mod' i sz).symm, Nat.div_lt_of_lt_mul (by rw [Nat.mul_comm]; exact h), Nat.mod_lt _ hsz⟩
    have e1 : (flatOf f (List.replicate n d)).toArray[j * sz + r]? = (f d)[r]? := by
      rw [List.getElem?_toArray, flatOf_get hf _ j r d (by simpa using hj) hr]
      congr 2
      simp [List.getD_eq_getElem?_getD, hj]
    have e2 : (j * sz + r) % sz = r := by
      rw [Nat.mul_comm, Nat.mul_add_mod, Nat.mod_eq_of_lt hr]
    rw [e1]
    unfold madeCells
    rw [hzs]
    simp only [Array.getElem?_map, Array.getElem?_range]
    rw [if_pos h]
    simp only [Option.map_some, e2, hz]
    have hr' : r < (f d).length := by rw [hf]; exact hr
    simp [hr']
  · rw [Array.getElem?_eq_none (by simpa [size_madeCells] using h), Array.getElem?_eq_none (by simpa [flatOf_length hf] using h)]
abbrev thZ : Th := ⟨0, List.replicate 8 0, 0⟩
/-- a thread's ten cells, whatever its registers are -/
def thR (t : Th) : List Value := .int .i64 t.pc :: ((List.range 8).map (fun k => Value.int .u32 (t.r.getD k 0)) ++ [.int .i64 t.st])
theorem thR_len (t : Th) : (thR t).length = 10 := by simp [thR]
theorem thR_is {t : Th} (h : ThOk t) : thR t = thL t := by
  unfold thR thL
  congr 2
  apply List.ext_getElem?
  intro i
  have hl := h.len
  by_cases hi : i < 8
  · simp [hi, List.getD_eq_getElem?_getD, hl]
  · rw [List.getElem?_eq_none (by simp; omega), List.getElem?_eq_none (by simp; omega)]
theorem infoTz : (Tryz.prog.info? 46).map (fun i => (i.zero, i.size, i.bytes)) = some (some (.agg (thR thZ).toArray), 10, 48) := by kernel_rfl
theorem make_ths (n : Nat) (h : n ≤ 8) (w : World) : (Instr.makeSlice 36 (.int .i64 n) (.int .i64 n)).run Tryz.prog w = .ok (.slice (some ⟨w.heap.size, 0, none⟩) n n) (w.alloc (.cells (flatOf thR (List.replicate n thZ)).toArray 46)) := by
  obtain ⟨i, h1, h2, h3, h4⟩ := info_parts infoTz
  have := run_make (P := Tryz.prog) w 36 46 i (.agg (thR thZ).toArray) Tryz.underlying36 h1 h2 .i64 .i64 n n (by omega) (Int.le_refl _) (by rw [h4]; omega) (by omega)
  rw [h3] at this
  rw [← made_flat thR_len (by omega) (.agg (thR thZ).toArray) thZ rfl n]
  simpa using this
def Ms.ths (s : Ms) : List Th := s.sides.map Sd.t
theorem ths_len (s : Ms) : s.ths.length = s.sides.length := by simp [Ms.ths]
theorem ths_at (s : Ms) {j : Nat} (h : j < s.sides.length) : s.ths.getD j thZ = (s.side j).t := by
  unfold Ms.ths Ms.side
  simp [List.getD_eq_getElem?_getD, h]
def ThreadsP (w : World) (l : List Th) (r : Ending) (w' : World) : Prop := (r = .returned (.slice (some ⟨w.heap.size, 0, none⟩) l.length l.length) ∧ Has w' w.heap.size (flatOf thR l).toArray 46) ∧ Gr w w'

set_option maxHeartbeats 1000000 in
theorem threads_calls {k : Mk} {s : Ms} {e : Value} {w : World} (h : Mw k s e w) : Calls Tryz.prog 12 #[.pointer (some ⟨k.mb, 0, none⟩)] w (ThreadsP w s.ths) := by
  obtain ⟨a, c, hsv⟩ := h.svAt
  have c0 := h.mach.2.1
  rw [hsv] at c0
  have h8 : s.sides.length ≤ 8 := (ok_room h.ok).2
  have hmk := make_ths s.sides.length h8
  have b1 := Has.new w (flatOf thR (List.replicate s.sides.length thZ)).toArray 46
  have bg := (Gr.refl w).alloc (flatOf thR (List.replicate s.sides.length thZ)).toArray 46
  have hlt0 : k.mb < w.heap.size := h.q.lt
  have c0' : (w.alloc (.cells (flatOf thR (List.replicate s.sides.length thZ)).toArray 46)).cell? ⟨k.mb, 0, none⟩ = some (.slice a s.sides.length c) := (cell_same 0 (bg.block k.mb hlt0)).trans c0
  have HH := hide h
  have HL := hide (ths_len s)
  have HS := hide hsv
  clear h hsv
  unfold ThreadsP
  rw [HL.out]
  go_enter Tryz.func12, Tryz.ntmps12
  go_upto_region 2 with (fail)
  change Code.wp _ _ _ _ (w.alloc (.cells (flatOf thR (List.replicate s.sides.length thZ)).toArray 46))
  generalize w.alloc (.cells (flatOf thR (List.replicate s.sides.length thZ)).toArray 46) = w1 at b1 bg c0' ⊢
  have HB1 := hide b1
  have HBG := hide bg
  clear b1 bg c0 hmk
  go_wp2_with (fail)
  go_loopw [17] (fun v wr => ∃ j : Nat, j ≤ s.sides.length ∧ v = .int .i64 j ∧ Gr w wr ∧ Has wr w.heap.size (flatOf thR (partF thZ s.ths j)).toArray 46) (fun v _ => s.sides.length - (intOf v).toNat)
  case atStart => exact ⟨0, by omega, rfl, HBG.out, by rw [partF_zero, HL.out]; exact HB1.out⟩
  case round =>
    clear c0'
    obtain ⟨j, hj, rfl, g, hb⟩ := hrel
    by_cases hlt : j < s.sides.length
    · have hlt' : (j : Int) < s.sides.length := by omega
      have h1 := HH.out.later g
      obtain ⟨y, hy⟩ : ∃ y, k.ss[j]? = some y := ⟨_, List.getElem?_eq_getElem (by rw [HH.out.len]; omega)⟩
      obtain ⟨B, sr, -⟩ := h1.sr hy
      obtain ⟨bs, cs, hsv, hcs⟩ := h1.sideAt hy
      rw [HS.out, HH.out.len] at hsv
      cases hsv
      have rT := sr.rT
      have iT := infoT10 sr.th
      have hseg := partF_seg thR_len thZ s.ths j (by rw [HL.out]; exact hlt)
      rw [ths_at s hlt, thR_is sr.th] at hseg
      have thr := hb.there (j * 10) (thC (s.side j).t).size (by
        rw [thC_size sr.th, List.size_toArray, flatOf_length thR_len]
        unfold partF
        have := HL.out
        simp
        omega)
      have i2 : (Tryz.prog.info? 46).map (·.size) = some (thC (s.side j).t).size := infoT_of sr.th
      have one := thC_one (s.side j).t
      have HSG := hide hseg
      have HB := hide hb
      have GG := hide g
      have hj10 : (j : Int) < s.sides.length := hlt'
      clear h1 sr hb g hseg
      go_wp2_with (first
        | (refine wpList_load_mid rfl 46 _ rfl y.g 3 rfl (thL (s.side j).t) _ rT Tryz.underlying46 rfl iT ?_)
        | (refine wpList_store_mid rfl 46 _ _ rfl w.heap.size (j * 10) (thC (s.side j).t) rfl rfl thr i2 one ?_))
      have e1 := Kq.setCells_has (thC (s.side j).t).toList (j * 10) wr _ HB.out
      have e2 : (thC (s.side j).t).toList = thL (s.side j).t := rfl
      rw [e2, HSG.out] at e1
      exact ⟨⟨j + 1, by omega, by go_num, Kp.gr GG.out (Kq.kp_setCells (b := w.heap.size) _ _ wr) (by simp), e1⟩, by simp [intOf]; omega⟩
    · have hj' : j = s.sides.length := by omega
      subst hj'
      have hb2 : Has wr w.heap.size (flatOf thR s.ths).toArray 46 := by
        have := partF_all thZ s.ths
        rw [HL.out] at this
        rw [this] at hb
        exact hb
      have HB := hide hb2
      have GG := hide g
      clear hb hb2 g
      go_wp2_with (fail)
      go_ret
      exact ⟨⟨rfl, HB.out⟩, GG.out⟩
end Go.Proofs.YtfhplbmgjgfihaaGreatDoor.Mc
namespace Go.Proofs.YtfhplbmgjgfihaaGreatDoor
open Go.ChangeShapes Go.WideShapes Go.ChangeAt Go.RowKit
set_option linter.unusedVariables false
set_option maxRecDepth 20000
def thEq (t u : Th) : Bool := t.pc == u.pc && (t.r == u.r && t.st == u.st)
theorem thEq_refl (t : Th) : thEq t t = true := by simp [thEq]

theorem eq_arr8 (d : Nat) (w : World) (a b c e f g h i a' b' c' e' f' g' h' i' : Int) :
    (Op.equalIn (d + 1 + 1) 44 (.agg #[.int .u32 a, .int .u32 b, .int .u32 c, .int .u32 e, .int .u32 f, .int .u32 g, .int .u32 h, .int .u32 i]) (.agg #[.int .u32 a', .int .u32 b', .int .u32 c', .int .u32 e', .int .u32 f', .int .u32 g', .int .u32 h', .int .u32 i'])).run Tryz.prog w =
    .ok (a == a' && (b == b' && (c == c' && (e == e' && (f == f' && (g == g' && (h == h' && i == i'))))))) w := by
  unfold Op.equalIn
  go_simp
  simp only [show List.range' 0 8 = [0, 1, 2, 3, 4, 5, 6, 7] from rfl, List.forIn_cons, List.forIn_nil]
  go_simp
  repeat' split
  all_goals simp_all

theorem arr8_ok {r : List Int} (h : r.length = 8) : ∃ a b c e f g i k, r = [a, b, c, e, f, g, i, k] := by
  match r, h with
  | [a, b, c, e, f, g, i, k], _ => exact ⟨a, b, c, e, f, g, i, k, rfl⟩
theorem eq_th (w : World) {t u : Th} (ht : ThOk t) (hu : ThOk u) : (Op.equalIn 10000 46 (.agg (thC t)) (.agg (thC u))).run Tryz.prog w = .ok (thEq t u) w := by
  obtain ⟨p, r, s⟩ := t
  obtain ⟨p', r', s'⟩ := u
  obtain ⟨a, b, c, e, f, g, i, k, rfl⟩ := arr8_ok ht.len
  obtain ⟨a', b', c', e', f', g', i', k', rfl⟩ := arr8_ok hu.len
  have h8 := eq_arr8 9997 w a b c e f g i k a' b' c' e' f' g' i' k'
  rw [run_equalIn_agg w 9999 _ _ _ (by kernel_rfl) (by kernel_rfl)]
  simp only [thC, thL, List.map_cons, List.map_nil, List.cons_append, List.nil_append]
  go_simp
  have eL : (([a, b, c, e, f, g, i, k] : List Int) == [a', b', c', e', f', g', i', k']) = (a == a' && (b == b' && (c == c' && (e == e' && (f == f' && (g == g' && (i == i' && k == k'))))))) := by
    show (a == a' && (b == b' && (c == c' && (e == e' && (f == f' && (g == g' && (i == i' && (k == k' && true)))))))) = _
    rw [Bool.and_true]
  show _ = Result.ok (p == p' && (([a, b, c, e, f, g, i, k] : List Int) == [a', b', c', e', f', g', i', k'] && s == s')) w
  rw [eL]
  generalize (a == a' && (b == b' && (c == c' && (e == e' && (f == f' && (g == g' && (i == i' && k == k'))))))) = q
  cases q <;> repeat' split
  all_goals simp_all
theorem guard_th (op : BinOp) (x y : Operand) (xs ys : Array Value) (w : World) : (eqGuard op 46 x y (.agg xs) (.agg ys)).run Tryz.prog w = .ok () w :=
  run_eqGuard_agg w op _ x y xs ys (by kernel_rfl)
end Go.Proofs.YtfhplbmgjgfihaaGreatDoor
namespace Go.Proofs.YtfhplbmgjgfihaaGreatDoor.Mc
open Go.ChangeShapes Go.WideShapes Go.ChangeAt Go.RowKit
set_option linter.unusedVariables false
set_option maxRecDepth 20000
theorem neq_th (w : World) {t u : Th} (ht : ThOk t) (hu : ThOk u) : (binOp .neq 46 (.agg (thC t)) (.agg (thC u))).run Tryz.prog w = .ok (.bool (!(thEq t u))) w := by
  rw [run_neq_struct, eq_th w ht hu]
  rfl
end Go.Proofs.YtfhplbmgjgfihaaGreatDoor.Mc
namespace Go.Proofs.YtfhplbmgjgfihaaGreatDoor.Mc
set_option linter.unusedVariables false
def entE (x : Ev) : Ent := ⟨x.addr, x.value⟩
/-- a thread's stores that wait, behind one more event -/
def wait1 (who : Int) (out : List Ev) (x : Ev) : List Ev := if x.who = who then (if x.kind = 2 then out ++ [x] else if x.kind = 3 then out.tail else out) else out
def waitE (who : Int) (l : List Ev) : List Ev := l.foldl (wait1 who) []
theorem waitE_snoc (who : Int) (l : List Ev) (x : Ev) : waitE who (l ++ [x]) = wait1 who (waitE who l) x := by simp [waitE]
def inR (a : Int) (n : Nat) : Bool := decide (0 ≤ a) && decide (a < n)
/-- memory behind an event, if it tells what it has to -/
def seeM (pre : List Ev) (mem : List Int) (x : Ev) : Option (List Int) :=
  if x.kind = 3 then (if inR x.addr mem.length then some (mem.set x.addr.toNat x.value) else none)
  else if x.kind = 4 then (if inR x.addr mem.length && mem.getD x.addr.toNat 0 == x.old then some (mem.set x.addr.toNat x.value) else none)
  else if x.kind = 8 then (if inR x.addr mem.length && mem.getD x.addr.toNat 0 == x.value then some mem else none)
  else if x.kind = 1 then (match Bf.findR x.addr ((waitE x.who pre).map entE) with
    | some v => if v == x.value then some mem else none
    | none => if inR x.addr mem.length && mem.getD x.addr.toNat 0 == x.value then some mem else none)
  else some mem
def see1 (p : Option (List Ev × List Int)) (x : Ev) : Option (List Ev × List Int) := match p with
  | none => none
  | some q => match seeM q.1 q.2 x with
    | none => none
    | some m => some (q.1 ++ [x], m)
def seeL (first : List Int) (l : List Ev) : Option (List Ev × List Int) := l.foldl see1 (some ([], first))
theorem seeL_snoc (first : List Int) (l : List Ev) (x : Ev) : seeL first (l ++ [x]) = see1 (seeL first l) x := by simp [seeL]
/-- is an event in its order? -/
def ordB (pre : List Ev) (x : Ev) : Bool :=
  if x.kind = 3 then (match waitE x.who pre with
    | [] => false
    | y :: _ => y.addr == x.addr && y.value == x.value)
  else if x.kind = 4 ∨ x.kind = 5 ∨ x.kind = 8 ∨ x.kind = 9 ∨ x.kind = 10 then (waitE x.who pre).isEmpty else true
def ord1 (p : List Ev × Bool) (x : Ev) : List Ev × Bool := (p.1 ++ [x], p.2 && ordB p.1 x)
def ordL (l : List Ev) : List Ev × Bool := l.foldl ord1 ([], true)
theorem ordL_snoc (l : List Ev) (x : Ev) : ordL (l ++ [x]) = ord1 (ordL l) x := by simp [ordL]

structure Good (first : List Int) (s : Ms) : Prop where
  see : seeL first s.evs = some (s.evs, s.mem)
  ord : ordL s.evs = (s.evs, true)
  buf : ∀ i : Nat, i < s.sides.length → (waitE i s.evs).map entE = (s.side i).buf
  rng : ∀ i : Nat, i < s.sides.length → ∀ c ∈ (s.side i).buf, 0 ≤ c.a ∧ c.a < s.mem.length

theorem Good.same {first : List Int} {s s' : Ms} (h : Good first s) (he : s'.evs = s.evs) (hm : s'.mem = s.mem) (hl : s'.sides.length = s.sides.length) (hb : ∀ j, j < s.sides.length → (s'.side j).buf = (s.side j).buf) : Good first s' := by
  refine ⟨by rw [he, hm]; exact h.see, by rw [he]; exact h.ord, fun i hi => ?_, fun i hi => ?_⟩
  · rw [hl] at hi
    rw [he, hb i hi]; exact h.buf i hi
  · rw [hl] at hi
    rw [hm, hb i hi]; exact h.rng i hi
def wentB (b : List Ent) (x : Ev) : List Ent := if x.kind = 2 then b ++ [entE x] else if x.kind = 3 then b.tail else b
theorem wait1_own {who : Int} {x : Ev} (h : x.who = who) (out : List Ev) : (wait1 who out x).map entE = wentB (out.map entE) x := by
  unfold wait1 wentB
  rw [if_pos h]
  split
  · simp
  · split
    · simp [List.map_tail]
    · rfl
theorem Good.add {first : List Int} {s s' : Ms} {x : Ev} {i : Nat} (h : Good first s) (hx : x.who = i) (he : s'.evs = s.evs ++ [x]) (hl : s'.sides.length = s.sides.length) (hm : seeM s.evs s.mem x = some s'.mem) (ho : ordB s.evs x = true)
    (hml : s'.mem.length = s.mem.length) (hr : x.kind = 2 → 0 ≤ x.addr ∧ x.addr < s.mem.length)
    (hb : ∀ j, j < s.sides.length → (s'.side j).buf = if j = i then wentB (s.side j).buf x else (s.side j).buf) : Good first s' := by
  refine ⟨?_, ?_, fun j hj => ?_, fun j hj => ?_⟩
  · rw [he, seeL_snoc, h.see]
    show (match seeM s.evs s.mem x with | none => none | some m => some (s.evs ++ [x], m)) = _
    rw [hm]
  · rw [he, ordL_snoc, h.ord]
    show (s.evs ++ [x], true && ordB s.evs x) = _
    rw [ho]; rfl
  · rw [hl] at hj
    rw [he, waitE_snoc, hb j hj]
    by_cases hji : j = i
    · subst hji
      rw [if_pos rfl, wait1_own hx, h.buf j hj]
    · rw [if_neg hji]
      unfold wait1
      rw [if_neg (by rw [hx]; omega)]
      exact h.buf j hj
  · rw [hl] at hj
    rw [hb j hj, hml]
    intro c hc
    by_cases hji : j = i
    · rw [if_pos hji] at hc
      unfold wentB at hc
      split at hc
      · rename_i hk
        rcases List.mem_append.1 hc with hc | hc
        · exact h.rng j hj c hc
        · rw [show c = entE x by simpa using hc]
          exact hr hk
      · split at hc
        · exact h.rng j hj c (List.mem_of_mem_tail hc)
        · exact h.rng j hj c hc
    · rw [if_neg hji] at hc
      exact h.rng j hj c hc
theorem Good.noWait {first : List Int} {s : Ms} (h : Good first s) {i : Nat} (hi : i < s.sides.length) (hb : (s.side i).buf = []) : waitE i s.evs = [] := by
  have := h.buf i hi
  rw [hb] at this
  simpa using this
theorem Good.note {first : List Int} {s : Ms} (h : Good first s) {i : Nat} (hi : i < s.sides.length) (x : Ev) (h2 : x.kind ≠ 2) (h3 : x.kind ≠ 3) (hs : seeM s.evs s.mem (evOf x i) = some s.mem) (ho : ordB s.evs (evOf x i) = true) : Good first (s.note i x) := by
  refine h.add (i := i) (x := evOf x i) rfl rfl rfl hs ho rfl (fun e => absurd e h2) fun j hj => ?_
  show (s.side j).buf = _
  split
  · unfold wentB
    rw [if_neg (show (evOf x i).kind ≠ 2 from h2), if_neg (show (evOf x i).kind ≠ 3 from h3)]
  · rfl
/-- an event that finds the buffer empty -/
theorem Good.clear {first : List Int} {s : Ms} (h : Good first s) {i : Nat} (hi : i < s.sides.length) (hb : (s.side i).buf = []) (x : Ev) (hk : x.kind = 5 ∨ x.kind = 9 ∨ x.kind = 10) : Good first (s.note i x) := by
  refine h.note hi x (by omega) (by omega) ?_ ?_
  · show (if x.kind = 3 then _ else if x.kind = 4 then _ else if x.kind = 8 then _ else if x.kind = 1 then _ else _) = _
    rw [if_neg (by omega), if_neg (by omega), if_neg (by omega), if_neg (by omega)]
  · show (if x.kind = 3 then _ else if x.kind = 4 ∨ x.kind = 5 ∨ x.kind = 8 ∨ x.kind = 9 ∨ x.kind = 10 then (waitE (i : Int) s.evs).isEmpty else _) = _
    rw [if_neg (by omega), if_pos (by omega), h.noWait hi hb]; rfl

theorem setS_len (s : Ms) (i : Nat) (d : Sd) : (s.setS i d).sides.length = s.sides.length := by simp [Ms.setS]
theorem flush_len (s : Ms) (i : Nat) : (s.flush i).sides.length = s.sides.length := by
  unfold Ms.flush
  cases (s.side i).buf with
  | nil => rfl
  | cons x l => exact setS_len s i _
theorem flush_bufs {s : Ms} {i : Nat} (hi : i < s.sides.length) (j : Nat) : ((s.flush i).side j).buf = if j = i then (s.side j).buf.tail else (s.side j).buf := by
  unfold Ms.flush
  cases hb : (s.side i).buf with
  | nil =>
    show (s.side j).buf = _
    split
    · rename_i e; rw [e, hb]; rfl
    · rfl
  | cons x l =>
    show ((s.setB i l).side j).buf = _
    unfold Ms.setB
    rw [side_set hi]
    split
    · rename_i e; rw [e, hb]; rfl
    · rfl
theorem inR_of {a : Int} {n : Nat} (h : 0 ≤ a ∧ a < n) : inR a n = true := by simp [inR, h]
theorem Good.flush {first : List Int} {s : Ms} (h : Good first s) {i : Nat} (hi : i < s.sides.length) : Good first (s.flush i) := by
  have hbs := fun j => flush_bufs hi j
  have hfl := flush_len s i
  cases hb : (s.side i).buf with
  | nil =>
    have : s.flush i = s := by unfold Ms.flush; rw [hb]
    rw [this]; exact h
  | cons y l =>
    have e : s.flush i = ((s.setB i l).setM y.a y.v).note i ⟨3, 0, 0, y.a, y.v, 0, 0, false⟩ := by unfold Ms.flush; rw [hb]
    have hr := h.rng i hi y (by rw [hb]; exact List.mem_cons_self)
    have hw := h.buf i hi
    rw [hb] at hw
    rw [e] at hbs hfl ⊢
    refine h.add (i := i) (x := evOf ⟨3, 0, 0, y.a, y.v, 0, 0, false⟩ i) rfl rfl hfl ?_ ?_ (by show (s.mem.set _ _).length = _; simp) (fun e => by cases e) fun j hj => ?_
    · show (if inR y.a s.mem.length then some (s.mem.set y.a.toNat y.v) else none) = some (s.mem.set y.a.toNat y.v)
      rw [if_pos (inR_of hr)]
    · show (match waitE (i : Int) s.evs with | [] => false | z :: _ => z.addr == y.a && z.value == y.v) = true
      cases hz : waitE (i : Int) s.evs with
      | nil => rw [hz] at hw; cases hw
      | cons z r =>
        rw [hz] at hw
        have hzy : entE z = y := (List.cons.inj hw).1
        rw [← hzy]
        simp [entE]
    · rw [hbs j]; rfl
theorem drain_len (i : Nat) : ∀ (n : Nat) (s : Ms), (s.drain i n).sides.length = s.sides.length
  | 0, s => rfl
  | n + 1, s => (drain_len i n (s.flush i)).trans (flush_len s i)
theorem drain_bufs {i : Nat} (j : Nat) : ∀ (n : Nat) {s : Ms}, i < s.sides.length → ((s.drain i n).side j).buf = if j = i then (s.side j).buf.drop n else (s.side j).buf
  | 0, s, hi => by split <;> rfl
  | n + 1, s, hi => by
    show (((s.flush i).drain i n).side j).buf = _
    rw [drain_bufs j n (by rw [flush_len]; exact hi), flush_bufs hi]
    split
    · simp
    · rfl
theorem Good.drain {first : List Int} {i : Nat} : ∀ (n : Nat) {s : Ms}, Good first s → i < s.sides.length → Good first (s.drain i n)
  | 0, s, h, hi => h
  | n + 1, s, h, hi => (Good.drain n (h.flush hi) (by rw [flush_len]; exact hi) : Good first ((s.flush i).drain i n))
theorem Good.remF {first : List Int} : ∀ (l : List Nat) {s : Ms}, Good first s → (∀ i ∈ l, i < s.sides.length) →
    (Good first (l.foldl (fun s i => s.drain i (s.side i).buf.length) s) ∧ (l.foldl (fun s i => s.drain i (s.side i).buf.length) s).sides.length = s.sides.length)
      ∧ ∀ j, j < s.sides.length → ((s.side j).buf = [] ∨ j ∈ l) → ((l.foldl (fun s i => s.drain i (s.side i).buf.length) s).side j).buf = []
  | [], s, h, hl => ⟨⟨h, rfl⟩, fun j hj hb => by
    rcases hb with hb | hb
    · exact hb
    · cases hb⟩
  | i :: l, s, h, hl => by
    have hi := hl i List.mem_cons_self
    obtain ⟨⟨h1, h2⟩, h3⟩ := Good.remF l (h.drain (s.side i).buf.length hi) (fun j hj => by rw [drain_len]; exact hl j (List.mem_cons_of_mem _ hj))
    refine ⟨⟨h1, h2.trans (drain_len _ _ _)⟩, fun j hj hb => h3 j (by rw [drain_len]; exact hj) ?_⟩
    rw [drain_bufs j _ hi]
    by_cases hji : j = i
    · subst hji
      left; simp
    · rw [if_neg hji]
      rcases hb with hb | hb
      · exact .inl hb
      · exact .inr (by simpa [hji] using hb)
theorem Good.remote {first : List Int} {s : Ms} (h : Good first s) : (Good first s.remote ∧ s.remote.sides.length = s.sides.length) ∧ ∀ j, j < s.sides.length → (s.remote.side j).buf = [] := by
  obtain ⟨h1, h2⟩ := Good.remF (List.range s.sides.length) h (fun i hi => List.mem_range.1 hi)
  exact ⟨h1, fun j hj => h2 j hj (.inr (List.mem_range.2 hj))⟩
theorem rises {s : Ms} : ∀ (l : List Int) (s : Ms), (l.foldl Ms.rise s).evs = s.evs ∧ (l.foldl Ms.rise s).mem = s.mem ∧ (l.foldl Ms.rise s).sides.length = s.sides.length ∧ ∀ j, ((l.foldl Ms.rise s).side j).buf = (s.side j).buf
  | [], s => ⟨rfl, rfl, rfl, fun _ => rfl⟩
  | x :: l, s => by
    obtain ⟨h1, h2, h3, h4⟩ := rises (s := s) l (s.rise x)
    refine ⟨h1, h2, h3.trans (setS_len _ _ _), fun j => (h4 j).trans ?_⟩
    show ((s.setT x.toNat _).side j).buf = _
    unfold Ms.setT
    by_cases hx : x.toNat < s.sides.length
    · rw [side_set hx]
      split
      · rename_i e; rw [e]
      · rfl
    · unfold Ms.side Ms.setS
      rw [List.set_eq_of_length_le (by omega)]
theorem Good.setT {first : List Int} {s : Ms} (h : Good first s) {i : Nat} (hi : i < s.sides.length) (t : Th) : Good first (s.setT i t) := by
  refine h.same rfl rfl (setS_len _ _ _) fun j hj => ?_
  unfold Ms.setT
  rw [side_set hi]
  split
  · rename_i e; rw [e]
  · rfl
theorem Good.setQ {first : List Int} {s : Ms} (h : Good first s) (l : List Ent) : Good first (s.setQ l) := h.same rfl rfl rfl fun _ _ => rfl

section
variable {first : List Int} {s : Ms} {i : Nat} {n : Int} {t : Th} {c : Ins}

end
section
variable {s : Ms} {i : Nat} {n : Int} {t : Th} {c : Ins}
theorem evs_note (s : Ms) (i : Nat) (x : Ev) : (s.note i x).evs.length = s.evs.length + 1 := by simp [Ms.note]
theorem evs_remote (h : s.okB = true) : s.remote.evs.length ≤ s.evs.length + 128 := by
  have h1 := (remote_fold (List.range s.sides.length) s h).2
  have h2 := (ok_room h).2
  rw [List.length_range] at h1
  unfold Ms.remote
  omega
theorem evs_wake (s : Ms) (m v : Int) : (s.wake m v).evs = s.evs := (rises (s := s) (s.sift m v.toNat).out (s.setQ (s.sift m v.toNat).left)).1
theorem evs_end (st ev : Int) : (endM (port n i) t s st ev).2.evs.length ≤ s.evs.length + 130 := by
  show (s.note i _).evs.length ≤ _
  rw [evs_note]; omega
theorem evs_asked : (askedM (port n i) t c s).2.evs.length ≤ s.evs.length + 130 := by
  unfold askedM
  split
  · show (s.note i _).evs.length ≤ _
    rw [evs_note]; omega
  · split
    · show ((s.store i _ _).note i _).evs.length ≤ _
      rw [evs_note]
      show s.evs.length + 1 ≤ _
      omega
    · split
      · unfold waitedM
        split
        · show (s.note i _).evs.length ≤ _
          rw [evs_note]; omega
        · show (s.note i _).evs.length ≤ _
          rw [evs_note]; omega
      · split
        · show ((s.wake _ _).note i _).evs.length ≤ _
          rw [evs_note, evs_wake]; omega
        · show ((swapM (port n i) t c s _).note i _).evs.length ≤ _
          rw [evs_note]
          have : (swapM (port n i) t c s (addrM t c)).evs = s.evs := by
            unfold swapM
            split <;> rfl
          rw [this]; omega
theorem evs_alone (h : s.okB = true) : (aloneM (port n i) t c s).2.evs.length ≤ s.evs.length + 130 := by
  unfold aloneM
  split
  · exact Nat.le_add_right _ _
  · split
    · exact Nat.le_add_right _ _
    · split
      · show (s.note i _).evs.length ≤ _
        rw [evs_note]; omega
      · split
        · show (s.note i _).evs.length ≤ _
          rw [evs_note]; omega
        · split
          · show (s.remote.note i _).evs.length ≤ _
            have := evs_remote h
            rw [evs_note]; omega
          · split
            · show (s.note i _).evs.length ≤ _
              rw [evs_note]; omega
            · exact Nat.le_add_right _ _
theorem evs_stepM (h : s.okB = true) (code : List Ins) : (stepM (port n i) t code s).2.evs.length ≤ s.evs.length + 130 := by
  unfold stepM
  split
  · exact Nat.le_add_right _ _
  · split
    · exact evs_end 2 12
    · unfold atM
      split
      · exact evs_end 3 13
      · split
        · have := evs_flush s i
          show (s.flush i).evs.length ≤ _
          omega
        · unfold doneM
          split
          · exact evs_end 2 12
          · split
            · exact Nat.le_add_right _ _
            · show (if _ then _ else _ : Th × Ms).2.evs.length ≤ _
              split
              · exact evs_asked
              · split
                · exact Nat.le_add_right _ _
                · exact evs_alone h
theorem evs_pick (h : s.okB = true) (kind who : Int) : (s.pick n kind who).evs.length ≤ s.evs.length + 130 := by
  unfold Ms.pick
  split
  · split
    · exact evs_stepM h _
    · split
      · have := evs_flush s who.toNat
        omega
      · split
        · unfold Ms.rouse
          split
          · rw [evs_note]
            show s.evs.length + 1 ≤ _
            omega
          · exact Nat.le_add_right _ _
        · exact Nat.le_add_right _ _
  · exact Nat.le_add_right _ _
end
/-- what picks do, one behind the other -/
def Ms.run (s : Ms) (n : Int) (l : List Ent) : Ms := l.foldl (fun s x => s.pick n x.a x.v) s
theorem run_snoc (s : Ms) (n : Int) (l : List Ent) (j : Nat) (h : j < l.length) : s.run n (l.take (j + 1)) = (s.run n (l.take j)).pick n (l.getD j ent0).a (l.getD j ent0).v := by
  have e : l.take (j + 1) = l.take j ++ [l.getD j ent0] := by
    rw [List.take_add_one, List.getElem?_eq_getElem h, List.getD_eq_getElem?_getD, List.getElem?_eq_getElem h]
    rfl
  rw [e]
  unfold Ms.run
  rw [List.foldl_append]
  rfl
def Ms.codes (s : Ms) : List (List Ins) := s.sides.map Sd.code
theorem codes_get (s : Ms) (i : Nat) : (s.side i).code = s.codes.getD i [] := by
  unfold Ms.side Ms.codes
  simp only [List.getD_eq_getElem?_getD, List.getElem?_map]
  cases s.sides[i]? <;> rfl
theorem codes_setS {s : Ms} {i : Nat} {d : Sd} (h : d.code = (s.side i).code) : (s.setS i d).codes = s.codes := by
  unfold Ms.codes Ms.setS
  show (s.sides.set i d).map Sd.code = _
  apply List.ext_getElem?
  intro j
  simp only [List.getElem?_map, List.getElem?_set]
  split
  · rename_i e; subst e
    split
    · rename_i hi
      have : s.side i = s.sides[i] := by
        unfold Ms.side
        rw [List.getD_eq_getElem?_getD, List.getElem?_eq_getElem hi]; rfl
      rw [this] at h
      simp [h, hi]
    · rename_i hi; simp [List.getElem?_eq_none (Nat.le_of_not_lt hi)]
  · rfl
theorem codes_setT (s : Ms) (i : Nat) (t : Th) : (s.setT i t).codes = s.codes := codes_setS rfl
theorem codes_setB (s : Ms) (i : Nat) (l : List Ent) : (s.setB i l).codes = s.codes := codes_setS rfl
theorem codes_flush (s : Ms) (i : Nat) : (s.flush i).codes = s.codes := by
  unfold Ms.flush
  cases (s.side i).buf with
  | nil => rfl
  | cons x l => exact codes_setB s i l
theorem codes_drain (i : Nat) : ∀ (n : Nat) (s : Ms), (s.drain i n).codes = s.codes
  | 0, s => rfl
  | n + 1, s => (codes_drain i n (s.flush i)).trans (codes_flush s i)
theorem codes_remF : ∀ (l : List Nat) (s : Ms), (l.foldl (fun s i => s.drain i (s.side i).buf.length) s).codes = s.codes
  | [], s => rfl
  | i :: l, s => (codes_remF l _).trans (codes_drain i _ s)
theorem codes_rises : ∀ (l : List Int) (s : Ms), (l.foldl Ms.rise s).codes = s.codes
  | [], s => rfl
  | x :: l, s => (codes_rises l (s.rise x)).trans (codes_setT _ _ _)
theorem codes_wake (s : Ms) (m v : Int) : (s.wake m v).codes = s.codes := codes_rises _ _
/-- a port that leaves what is asked of its states as it is -/
structure Rest {S A : Type} (M : Prt S) (f : S → A) : Prop where
  loadS : ∀ s m, f (M.loadS s m) = f s
  store : ∀ s m v, f (M.store s m v) = f s
  flush : ∀ s, f (M.flush s) = f s
  swapS : ∀ s m v, f (M.swapS s m v) = f s
  sleep : ∀ s m, f (M.sleep s m) = f s
  wakeS : ∀ s m v, f (M.wakeS s m v) = f s
  remote : ∀ s, f (M.remote s) = f s
  note : ∀ s x, f (M.note s x) = f s
theorem rest_stepM {S A : Type} {M : Prt S} {f : S → A} (H : Rest M f) (t : Th) (code : List Ins) (s : S) : f (stepM M t code s).2 = f s := by
  unfold stepM
  split
  · rfl
  · split
    · exact H.note _ _
    · unfold atM
      split
      · exact H.note _ _
      · split
        · exact H.flush _
        · unfold doneM
          split
          · exact H.note _ _
          · split
            · rfl
            · show f (if _ then _ else _ : Th × S).2 = _
              split
              · unfold askedM
                split
                · exact (H.note _ _).trans (H.loadS _ _)
                · split
                  · exact (H.note _ _).trans (H.store _ _ _)
                  · split
                    · unfold waitedM
                      split
                      · exact (H.sleep _ _).trans ((H.note _ _).trans (H.loadS _ _))
                      · exact (H.note _ _).trans (H.loadS _ _)
                    · split
                      · exact (H.note _ _).trans (H.wakeS _ _ _)
                      · refine (H.note _ _).trans ?_
                        unfold swapM
                        split
                        · exact (H.swapS _ _ _).trans (H.loadS _ _)
                        · exact H.loadS _ _
              · split
                · rfl
                · unfold aloneM
                  split
                  · rfl
                  · split
                    · rfl
                    · split
                      · exact H.note _ _
                      · split
                        · exact H.note _ _
                        · split
                          · exact (H.note _ _).trans (H.remote _)
                          · split
                            · exact H.note _ _
                            · rfl
theorem rest_codes (n : Int) (i : Nat) : Rest (port n i) Ms.codes where
  loadS _ _ := rfl
  store _ _ _ := codes_setB _ _ _
  flush _ := codes_flush _ _
  swapS _ _ _ := rfl
  sleep _ _ := rfl
  wakeS _ _ _ := codes_wake _ _ _
  remote _ := codes_remF _ _
  note _ _ := rfl
theorem codes_pick (s : Ms) (n kind who : Int) : (s.pick n kind who).codes = s.codes := by
  unfold Ms.pick
  split
  · split
    · exact (codes_setT _ _ _).trans (rest_stepM (rest_codes _ _) _ _ _)
    · split
      · exact codes_flush _ _
      · split
        · unfold Ms.rouse
          split
          · exact codes_setT _ _ _
          · rfl
        · rfl
  · rfl
theorem codes_run (n : Int) : ∀ (l : List Ent) (s : Ms), (s.run n l).codes = s.codes
  | [], s => rfl
  | x :: l, s => (codes_run n l (s.pick n x.a x.v)).trans (codes_pick s n x.a x.v)
/-- no code is longer than may be -/
def Short (s : Ms) : Prop := ∀ i, (s.side i).code.length ≤ 100000
theorem short_pick {s : Ms} (h : Short s) (n kind who : Int) : Short (s.pick n kind who) := fun i => by
  rw [codes_get, codes_pick, ← codes_get]
  exact h i
end Go.Proofs.YtfhplbmgjgfihaaGreatDoor.Mc
