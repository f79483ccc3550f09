/-
  What Sleepers of a machine answers, and Buffer of any number. No condition but what each law names.
-/
import Derived.Test.YthbenfnanhpcoaaGreatDoorZzbr
import Derived.Test.YthbenfnanhpcoaaGreatDoorZzbv
import Derived.Test.YthbenfnanhpcoaaGreatDoorZzbq
import Derived.Test.YthbenfnanhpcoaaGreatDoorZzaa
import Derived.Test.YthbenfnanhpcoaaGreatDoorZzad
import Derived.Laws.StructEq
import Derived.Deep.MidRow
namespace Go.Proofs.YthbenfnanhpcoaaGreatDoor.Mc
open Go.ChangeShapes Go.WideShapes Go.ChangeAt Go.RowKit
set_option linter.unusedVariables false
set_option maxRecDepth 20000

theorem sleepers_calls {k : Mk} {s : Ms} {e : Value} {w : World} (h : Mw k s e w) : Calls Tryz.prog 25 #[.pointer (some ⟨k.mb, 0, none⟩)] w (Kq.AllP s.slp w) := by
  obtain ⟨C, h0, hi⟩ := h.q
  have HA := hide (Kq.all_calls h0 hi)
  clear h h0 hi
  go_enter Tryz.func25, Tryz.ntmps25
  go_wp2_with (fail)
  refine HA.out.mono ?_
  rintro r u ⟨⟨rfl, g⟩, hb⟩
  have HG := hide g
  have HB := hide hb
  clear HA g hb
  go_wp2_with (fail)
  go_ret
  exact ⟨⟨rfl, HG.out⟩, HB.out⟩
/-- the entries of a thread; none, if there is no such thread -/
def Ms.bufOf (s : Ms) (who : Int) : List Ent := if hasB s who then (s.side who.toNat).buf else []
set_option maxHeartbeats 400000 in
theorem buffer_any {k : Mk} {s : Ms} {e : Value} {w : World} (h : Mw k s e w) (who : Int) : Calls Tryz.prog 13 #[.pointer (some ⟨k.mb, 0, none⟩), .int .i64 who] w (BufferP w (s.bufOf who)) := by
  unfold Ms.bufOf
  cases hh : hasB s who with
  | true =>
    have hw : 0 ≤ who ∧ who < s.sides.length := by simpa [hasB] using hh
    obtain ⟨n, rfl⟩ := nat_of hw.1
    exact buffer_calls h n (by omega)
  | false =>
    have HHAS := hide (has_calls h who)
    rw [hh] at HHAS
    clear h hh
    go_enter Tryz.func13, Tryz.ntmps13
    go_wp2_with (fail)
    refine HHAS.out.mono ?_
    rintro r u ⟨rfl, g⟩
    have GG := hide g
    clear HHAS g
    go_wp2_with (fail)
    go_ret
    exact ⟨none, 0, ⟨rfl, RowAt.nil _ _⟩, GG.out⟩
end Go.Proofs.YthbenfnanhpcoaaGreatDoor.Mc

namespace Go.Proofs.YthbenfnanhpcoaaGreatDoor.Sc
open Go.Proofs.YthbenfnanhpcoaaGreatDoor.Mc Go.ChangeShapes Go.WideShapes Go.ChangeAt Go.RowKit
set_option linter.unusedVariables false
set_option maxRecDepth 20000

theorem mem_calls {k : Mk} {s : Ms} {e : Value} {w : World} (h : Mw k s e w) : Calls Tryz.prog 23 #[.pointer (some ⟨k.mb, 0, none⟩)] w (CloneP w 39 1 s.mem.length (flatOf wordL s.mem)) := by
  obtain ⟨a, c, hv, hr, hn⟩ := own_src h.mem
  have c0 := h.mach.1
  rw [hv] at c0
  have hm := h.most
  have hnum := h.num
  have HC := hide (cloneW_calls a c s.mem w hr hn (by omega))
  clear h hr hn hv hm hnum
  go_enter Tryz.func23, Tryz.ntmps23
  go_wp2_with (fail)
  refine HC.out.mono ?_
  rintro r u ⟨v, rfl, ho, g⟩
  have HO := hide ho
  clear c0 ho
  go_wp2_with (fail)
  go_ret
  exact ⟨v, rfl, HO.out, g⟩
theorem sleepers_calls {k : Mk} {s : Ms} {e : Value} {w : World} (h : Mw k s e w) : Calls Tryz.prog 24 #[.pointer (some ⟨k.mb, 0, none⟩)] w (Kq.AllP s.slp w) := by
  obtain ⟨C, h0, hi⟩ := h.q
  have HA := hide (Kq.all_calls h0 hi)
  clear h h0 hi
  go_enter Tryz.func24, Tryz.ntmps24
  go_wp2_with (fail)
  refine HA.out.mono ?_
  rintro r u ⟨⟨rfl, g⟩, hb⟩
  have HG := hide g
  have HB := hide hb
  clear HA g hb
  go_wp2_with (fail)
  go_ret
  exact ⟨⟨rfl, HG.out⟩, HB.out⟩
set_option maxHeartbeats 1000000 in
theorem threads_calls {k : Mk} {s : Ms} {e : Value} {w : World} (h : Mw k s e w) : Calls Tryz.prog 22 #[.pointer (some ⟨k.mb, 0, none⟩)] w (ThreadsP w s.ths) := by
  obtain ⟨a, c, hsv⟩ := h.svAt
  have c0 := h.mach.2.1
  rw [hsv] at c0
  have h8 : s.sides.length ≤ 8 := (ok_room h.ok).2
  have hmk := make_ths s.sides.length h8
  have b1 := Has.new w (flatOf thR (List.replicate s.sides.length thZ)).toArray 42
  have bg := (Gr.refl w).alloc (flatOf thR (List.replicate s.sides.length thZ)).toArray 42
  have hlt0 : k.mb < w.heap.size := h.q.lt
  have c0' : (w.alloc (.cells (flatOf thR (List.replicate s.sides.length thZ)).toArray 42)).cell? ⟨k.mb, 0, none⟩ = some (.slice a s.sides.length c) := (cell_same 0 (bg.block k.mb hlt0)).trans c0
  have HH := hide h
  have HL := hide (ths_len s)
  have HS := hide hsv
  clear h hsv
  unfold ThreadsP
  rw [HL.out]
  go_enter Tryz.func22, Tryz.ntmps22
  go_upto_region 2 with (fail)
  change Code.wp _ _ _ _ (w.alloc (.cells (flatOf thR (List.replicate s.sides.length thZ)).toArray 42))
  generalize w.alloc (.cells (flatOf thR (List.replicate s.sides.length thZ)).toArray 42) = w1 at b1 bg c0' ⊢
  have HB1 := hide b1
  have HBG := hide bg
  clear b1 bg c0 hmk
  go_wp2_with (fail)
  go_loopw [17] (fun v wr => ∃ j : Nat, j ≤ s.sides.length ∧ v = .int .i64 j ∧ Gr w wr ∧ Has wr w.heap.size (flatOf thR (partF thZ s.ths j)).toArray 42) (fun v _ => s.sides.length - (intOf v).toNat)
  case atStart => exact ⟨0, by omega, rfl, HBG.out, by rw [partF_zero, HL.out]; exact HB1.out⟩
  case round =>
    clear c0'
    obtain ⟨j, hj, rfl, g, hb⟩ := hrel
    by_cases hlt : j < s.sides.length
    · have hlt' : (j : Int) < s.sides.length := by omega
      have h1 := HH.out.later g
      obtain ⟨y, hy⟩ : ∃ y, k.ss[j]? = some y := ⟨_, List.getElem?_eq_getElem (by rw [HH.out.len]; omega)⟩
      obtain ⟨B, sr, -⟩ := h1.sr hy
      obtain ⟨bs, cs, hsv, hcs⟩ := h1.sideAt hy
      rw [HS.out, HH.out.len] at hsv
      cases hsv
      have rT := sr.rT
      have hth := (h1.side j y hy).th
      have iT := infoT10 hth
      have hseg := partF_seg thR_len thZ s.ths j (by rw [HL.out]; exact hlt)
      rw [ths_at s hlt, thR_is hth] at hseg
      have thr := hb.there (j * 10) (thC (s.side j).t).size (by
        rw [thC_size hth, List.size_toArray, flatOf_length thR_len]
        unfold partF
        have := HL.out
        simp
        omega)
      have i2 : (Tryz.prog.info? 42).map (·.size) = some (thC (s.side j).t).size := infoT_of hth
      have one := thC_one (s.side j).t
      have HSG := hide hseg
      have HB := hide hb
      have GG := hide g
      have hj10 : (j : Int) < s.sides.length := hlt'
      clear h1 sr hb g hseg
      go_wp2_with (first
        | (refine wpList_load_mid rfl 42 _ rfl y.g 3 rfl (thL (s.side j).t) _ rT Tryz.underlying42 rfl iT ?_)
        | (refine wpList_store_mid rfl 42 _ _ rfl w.heap.size (j * 10) (thC (s.side j).t) rfl rfl thr i2 one ?_))
      have e1 := Kq.setCells_has (thC (s.side j).t).toList (j * 10) wr _ HB.out
      have e2 : (thC (s.side j).t).toList = thL (s.side j).t := rfl
      rw [e2, HSG.out] at e1
      exact ⟨⟨j + 1, by omega, by go_num, Kp.gr GG.out (Kq.kp_setCells (b := w.heap.size) _ _ wr) (by simp), e1⟩, by simp [intOf]; omega⟩
    · have hj' : j = s.sides.length := by omega
      subst hj'
      have hb2 : Has wr w.heap.size (flatOf thR s.ths).toArray 42 := by
        have := partF_all thZ s.ths
        rw [HL.out] at this
        rw [this] at hb
        exact hb
      have HB := hide hb2
      have GG := hide g
      clear hb hb2 g
      go_wp2_with (fail)
      go_ret
      exact ⟨⟨rfl, HB.out⟩, GG.out⟩
end Go.Proofs.YthbenfnanhpcoaaGreatDoor.Sc

namespace Go.Proofs.YthbenfnanhpcoaaGreatDoor.Mc
open Go.ChangeShapes Go.WideShapes Go.ChangeAt Go.RowKit
set_option linter.unusedVariables false
set_option maxRecDepth 20000

/-- two machines beside each other, in blocks that are new since W -/
def Two (W : World) (k1 k2 : Mk) (s q : Ms) (w : World) : Prop :=
  ∃ e1 e2, (Sc.Mw k1 s e1 w ∧ Mw k2 q e2 w) ∧ (∀ z ∈ k1.foot e1, z ∉ k2.foot e2) ∧ ((∀ z ∈ k1.foot e1, W.heap.size ≤ z) ∧ ∀ z ∈ k2.foot e2, W.heap.size ≤ z) ∧ Gr W w ∧ 0 < W.heap.size
section
variable {W w w' : World} {k1 k2 : Mk} {s q s' : Ms}
theorem Two.gr (h : Two W k1 k2 s q w) : Gr W w := by
  obtain ⟨e1, e2, -, -, -, g, -⟩ := h
  exact g
theorem Two.later (h : Two W k1 k2 s q w) (g : Gr w w') : Two W k1 k2 s q w' := by
  obtain ⟨e1, e2, ⟨h1, h2⟩, hd, hb, gw, hp⟩ := h
  exact ⟨e1, e2, ⟨h1.later g, h2.later g⟩, hd, hb, gw.trans g, hp⟩
theorem Two.fst (h : Two W k1 k2 s q w) : ∃ e, Sc.Mw k1 s e w := by
  obtain ⟨e1, e2, ⟨h1, h2⟩, -⟩ := h
  exact ⟨e1, h1⟩
theorem Two.snd (h : Two W k1 k2 s q w) : ∃ e, Mw k2 q e w := by
  obtain ⟨e1, e2, ⟨h1, h2⟩, -⟩ := h
  exact ⟨e2, h2⟩
theorem Two.does1 (h : Two W k1 k2 s q w) {G : FuncId} {args : Array Value} {v : Value} (hd : Does (Sc.MI k1) s w G args v s') : Calls Tryz.prog G args w fun e w' => e = .returned v ∧ Two W k1 k2 s' q w' := by
  obtain ⟨e1, e2, ⟨h1, h2⟩, ha, ⟨b1, b2⟩, g, hp⟩ := h
  refine (hd _ ⟨e1, h1, rfl⟩).mono ?_
  rintro e w' ⟨rfl, F', ⟨e1', h1', rfl⟩, kp, nn, -, -⟩
  refine ⟨rfl, e1', e2, ⟨h1', h2.kept kp fun z hz => ⟨ha z hz, by have := b1 z hz; omega⟩⟩, fun z hz h => ?_, ⟨fun z hz => ?_, b2⟩, Kp.gr g kp b1, hp⟩
  · rcases (nn z hz).1 with h3 | h3
    · exact ha z h3 h
    · have := h2.bnd z h
      omega
  · rcases (nn z hz).1 with h3 | h3
    · exact b1 z h3
    · exact Nat.le_trans g.size h3
theorem Two.does2 (h : Two W k1 k2 s q w) {G : FuncId} {args : Array Value} {v : Value} (hd : Does (MI k2) q w G args v s') : Calls Tryz.prog G args w fun e w' => e = .returned v ∧ Two W k1 k2 s s' w' := by
  obtain ⟨e1, e2, ⟨h1, h2⟩, ha, ⟨b1, b2⟩, g, hp⟩ := h
  refine (hd _ ⟨e2, h2, rfl⟩).mono ?_
  rintro e w' ⟨rfl, F', ⟨e2', h2', rfl⟩, kp, nn, -, -⟩
  refine ⟨rfl, e1, e2', ⟨h1.kept kp fun z hz => ⟨fun h => ha z h hz, by have := b2 z hz; omega⟩, h2'⟩, fun z hz h => ?_, ⟨b1, fun z hz => ?_⟩, Kp.gr g kp b2, hp⟩
  · rcases (nn z h).1 with h3 | h3
    · exact ha z hz h3
    · have := h1.bnd z hz
      omega
  · rcases (nn z hz).1 with h3 | h3
    · exact b2 z h3
    · exact Nat.le_trans g.size h3
end

/-- what holds behind each round: the same machine, not too much befell -/
structure Egr (j : Nat) (s q : Ms) : Prop where
  eag : Eag q s
  ea : s.evs.length ≤ j
  eb : q.evs.length ≤ 131 * j
  sa : Short s
  sb : Short q
/-- behind a pick of both: the buffers are empty, or one flush makes them so -/
structure Egm (j m : Nat) (n who : Int) (s q : Ms) : Prop where
  ea : s.evs.length ≤ j + 1
  eb : q.evs.length ≤ 131 * j + 130 + m
  sa : Short s
  sb : Short q
  le : m ≤ 1
  or : Eag q s ∨ (m = 0 ∧ (q.bufOf who).length = 1 ∧ Eag (q.pick n 1 who) s)
theorem evs_pick1 (s : Ms) (n who : Int) : (s.pick n 1 who).evs.length ≤ s.evs.length + 1 := by
  unfold Ms.pick
  split
  · rw [if_neg (by decide), if_pos rfl]
    exact evs_flush s _
  · omega
theorem bufOf_none {s : Ms} (h : ∀ j, (s.side j).buf = []) (who : Int) : s.bufOf who = [] := by
  unfold Ms.bufOf
  split
  · exact h _
  · rfl
theorem egr_pick {j : Nat} {s q : Ms} (h : Egr j s q) (hq : q.okB = true) (n kind who : Int) : Egm j 0 n who (s.pickS n kind who) (q.pick n kind who) := by
  have h1 := evs_pick (n := n) hq kind who
  have h2 := evs_pickS (s := s) (n := n) kind who
  have h3 := h.ea
  have h4 := h.eb
  refine ⟨by omega, by omega, short_pickS h.sa n kind who, short_pick h.sb n kind who, by omega, ?_⟩
  rcases eag_pick h.eag n kind who with e | ⟨e1, ⟨e2, e3⟩, e4⟩
  · exact .inl e
  · refine .inr ⟨rfl, ?_, e4⟩
    unfold Ms.bufOf
    rw [if_pos]
    · exact e2
    · unfold hasB
      rw [e3]
      simp [e1.1, e1.2]
theorem Egm.empty {j m : Nat} {n who : Int} {s q : Ms} (h : Egm j m n who s q) (hb : (q.bufOf who).length = 0) : Egr (j + 1) s q := by
  rcases h.or with e | ⟨-, e, -⟩
  · have h1 := h.eb
    have h2 := h.le
    exact ⟨e, h.ea, by omega, h.sa, h.sb⟩
  · omega
theorem Egm.full {j m : Nat} {n who : Int} {s q : Ms} (h : Egm j m n who s q) (hb : (q.bufOf who).length ≠ 0) : m = 0 ∧ Egm j 1 n who s (q.pick n 1 who) := by
  rcases h.or with e | ⟨e1, -, e3⟩
  · exact absurd (by rw [bufOf_none e.buf who]; rfl) hb
  · subst e1
    have h1 := h.eb
    have h2 := evs_pick1 q n who
    exact ⟨rfl, h.ea, by omega, h.sa, short_pick h.sb n 1 who, Nat.le_refl _, .inl e3⟩
end Go.Proofs.YthbenfnanhpcoaaGreatDoor.Mc

namespace Go.Proofs.YthbenfnanhpcoaaGreatDoor
open Go.ChangeShapes Go.WideShapes Go.ChangeAt Go.RowKit
set_option linter.unusedVariables false
set_option maxRecDepth 20000

def thEq (t u : Th) : Bool := t.pc == u.pc && (t.r == u.r && t.st == u.st)
theorem thEq_refl (t : Th) : thEq t t = true := by simp [thEq]

theorem eq_arr8 (d : Nat) (w : World) (a b c e f g h i a' b' c' e' f' g' h' i' : Int) :
    (Op.equalIn (d + 1 + 1) 40 (.agg #[.int .u32 a, .int .u32 b, .int .u32 c, .int .u32 e, .int .u32 f, .int .u32 g, .int .u32 h, .int .u32 i]) (.agg #[.int .u32 a', .int .u32 b', .int .u32 c', .int .u32 e', .int .u32 f', .int .u32 g', .int .u32 h', .int .u32 i'])).run Tryz.prog w =
    .ok (a == a' && (b == b' && (c == c' && (e == e' && (f == f' && (g == g' && (h == h' && i == i'))))))) w := by
  unfold Op.equalIn
  go_simp
  simp only [show List.range' 0 8 = [0, 1, 2, 3, 4, 5, 6, 7] from rfl, List.forIn_cons, List.forIn_nil]
  go_simp
  repeat' split
  all_goals simp_all

theorem arr8_ok {r : List Int} (h : r.length = 8) : ∃ a b c e f g i k, r = [a, b, c, e, f, g, i, k] := by
  match r, h with
  | [a, b, c, e, f, g, i, k], _ => exact ⟨a, b, c, e, f, g, i, k, rfl⟩
theorem eq_th (w : World) {t u : Th} (ht : ThOk t) (hu : ThOk u) : (Op.equalIn 10000 42 (.agg (thC t)) (.agg (thC u))).run Tryz.prog w = .ok (thEq t u) w := by
  obtain ⟨p, r, s⟩ := t
  obtain ⟨p', r', s'⟩ := u
  obtain ⟨a, b, c, e, f, g, i, k, rfl⟩ := arr8_ok ht.len
  obtain ⟨a', b', c', e', f', g', i', k', rfl⟩ := arr8_ok hu.len
  have h8 := eq_arr8 9997 w a b c e f g i k a' b' c' e' f' g' i' k'
  rw [run_equalIn_agg w 9999 _ _ _ (by kernel_rfl) (by kernel_rfl)]
  simp only [thC, thL, List.map_cons, List.map_nil, List.cons_append, List.nil_append]
  go_simp
  have eL : (([a, b, c, e, f, g, i, k] : List Int) == [a', b', c', e', f', g', i', k']) = (a == a' && (b == b' && (c == c' && (e == e' && (f == f' && (g == g' && (i == i' && k == k'))))))) := by
    show (a == a' && (b == b' && (c == c' && (e == e' && (f == f' && (g == g' && (i == i' && (k == k' && true)))))))) = _
    rw [Bool.and_true]
  show _ = Result.ok (p == p' && (([a, b, c, e, f, g, i, k] : List Int) == [a', b', c', e', f', g', i', k'] && s == s')) w
  rw [eL]
  generalize (a == a' && (b == b' && (c == c' && (e == e' && (f == f' && (g == g' && (i == i' && k == k'))))))) = q
  cases q <;> repeat' split
  all_goals simp_all
theorem eql_th (w : World) {t u : Th} (ht : ThOk t) (hu : ThOk u) : (binOp .eql 42 (.agg (thC t)) (.agg (thC u))).run Tryz.prog w = .ok (.bool (thEq t u)) w := by
  rw [run_eql_struct, eq_th w ht hu]
  rfl
theorem guard_th (op : BinOp) (x y : Operand) (xs ys : Array Value) (w : World) : (eqGuard op 42 x y (.agg xs) (.agg ys)).run Tryz.prog w = .ok () w :=
  run_eqGuard_agg w op _ x y xs ys (by kernel_rfl)
theorem wpList_wants {P : Program} {ops : Array Oper} {Q : Exit → Act → World → Prop} {a : Act} {w : World} {rest : List Oper} {o : Oper} (hw : Region.wanted o (yielded ops a.tmps) = true)
    (h : ∀ K : Act → World → Prop, (∀ a w, wpList P ops Q rest a w → K a w) → o.wp P a w K Q) : wpList P ops Q (o :: rest) a w :=
  wpList_step fun K hK => by simp only [hw, if_true]; exact h K hK
/-- two threads are compared -/
theorem step_eqth {ops : Array Oper} {rest : List Oper} {op : Oper} {a : Act} {w : World} {Q : Exit → Act → World → Prop} (x y : Operand) (ho : op.op = .binOp .eql 42 x y 42) (hw : Region.wanted op (yielded ops a.tmps) = true) (t u : Th) (ht : ThOk t) (hu : ThOk u)
    (hx : a.eval x = .agg (thC t)) (hy : a.eval y = .agg (thC u)) (h : wpList Tryz.prog ops Q rest (a.put op.dst (.bool (thEq t u))) w) : wpList Tryz.prog ops Q (op :: rest) a w :=
  wpList_wants hw fun K hK => by
    unfold Oper.wp execOp
    simp only [ho, hx, hy, Sem.run_bind, guard_th, eql_th w ht hu, Result.andThen_ok]
    exact hK _ _ h
theorem load_th_g {ops : Array Oper} {rest : List Oper} {op : Oper} {a : Act} {w : World} {Q : Exit → Act → World → Prop} (x : Operand) (ho : op.op = .load 42 x) (hw : Region.wanted op (yielded ops a.tmps) = true)
    (g : Nat) (hx : a.eval x = .pointer (some ⟨g, 0, none⟩)) (t : Th) (hg : Has w g (thC t) 42) (hs : ThOk t) (h : wpList Tryz.prog ops Q rest (a.put op.dst (.agg (thC t))) w) : wpList Tryz.prog ops Q (op :: rest) a w :=
  wpList_wants hw fun _ hK => wp_load_row 42 x ho g hx 42 (thC t) (0, 0) _ hg Tryz.underlying42 rfl (infoT_of hs) (hK _ _ h)
theorem load_mid_g {ops : Array Oper} {rest : List Oper} {op : Oper} {a : Act} {w : World} {Q : Exit → Act → World → Prop} (x : Operand) (ho : op.op = .load 42 x) (hw : Region.wanted op (yielded ops a.tmps) = true)
    (g o : Nat) (hx : a.eval x = .pointer (some ⟨g, o, none⟩)) (t : Th) (hg : w.rangeAt g o (thL t)) (hs : ThOk t) (h : wpList Tryz.prog ops Q rest (a.put op.dst (.agg (thC t))) w) : wpList Tryz.prog ops Q (op :: rest) a w :=
  wpList_wants hw fun _ hK => wp_load_mid 42 x ho g o hx (thL t) _ hg Tryz.underlying42 rfl (by have := infoT_of hs; rw [thC_size hs] at this; rw [this]; simp [thL, hs.len]) (hK _ _ h)
end Go.Proofs.YthbenfnanhpcoaaGreatDoor

namespace Go.Proofs.YthbenfnanhpcoaaGreatDoor.Mc
open Go.ChangeShapes Go.WideShapes Go.ChangeAt Go.RowKit
set_option linter.unusedVariables false
set_option maxRecDepth 20000

theorem th_rangeI {w : World} {g : Nat} {l : List Th} (h : Has w g (flatOf thR l).toArray 42) {i : Nat} (hl : i < l.length) (hok : ThOk (l.getD i thZ)) : w.rangeAt g (i * 10) (thL (l.getD i thZ)) := fun j v hv => by
  rw [← thR_is hok] at hv
  have hj : j < 10 := by have := (List.getElem?_eq_some_iff.1 hv).1; rwa [thR_len] at this
  have q := h.rowAt.cell thR_len hl thZ j hj
  rw [Nat.zero_add] at q
  exact q.trans hv
theorem neq_th (w : World) {t u : Th} (ht : ThOk t) (hu : ThOk u) : (binOp .neq 42 (.agg (thC t)) (.agg (thC u))).run Tryz.prog w = .ok (.bool (!(thEq t u))) w := by
  rw [run_neq_struct, eq_th w ht hu]
  rfl
theorem wp_neth {op : Oper} {a : Act} {w : World} {K : Act → World → Prop} {Q : Exit → Act → World → Prop} (d : Option Tmp) (hd : op.dst = d) (x y : Operand) (ho : op.op = .binOp .neq 42 x y 42) (t : Th) (ht : ThOk t)
    (hx : a.eval x = .agg (thC t)) (hy : a.eval y = .agg (thC t)) (h : K (a.put d (.bool false)) w) : op.wp Tryz.prog a w K Q := by
  subst hd
  unfold Oper.wp execOp
  simp only [ho, hx, hy, Sem.run_bind, guard_th, neq_th w ht ht, Result.andThen_ok, thEq_refl]
  exact h
theorem step_neth {ops : Array Oper} {rest : List Oper} {op : Oper} {a : Act} {w : World} {Q : Exit → Act → World → Prop} (x y : Operand) (ho : op.op = .binOp .neq 42 x y 42) (hw : Region.wanted op (yielded ops a.tmps) = true) (t : Th) (ht : ThOk t)
    (hx : a.eval x = .agg (thC t)) (hy : a.eval y = .agg (thC t)) (h : wpList Tryz.prog ops Q rest (a.put op.dst (.bool false)) w) : wpList Tryz.prog ops Q (op :: rest) a w :=
  wpList_wants hw fun K hK => wp_neth op.dst rfl x y ho t ht hx hy (hK _ _ h)
end Go.Proofs.YthbenfnanhpcoaaGreatDoor.Mc
