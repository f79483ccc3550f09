/-
  The document's world in memory: where it lies, and what holds there; what a write to one of its rows leaves. No condition but what each law names.
-/
import Derived.Test.YtfhplbmgjgfihaaGreatDoorZzar
import Derived.Test.YtfhplbmgjgfihaaGreatDoorZzaq
import Derived.Test.YtfhplbmgjgfihaaGreatDoorZzaf
import Derived.Test.YtfhplbmgjgfihaaGreatDoorZzad
import Derived.Test.YtfhplbmgjgfihaaGreatDoorZzaa
import Derived.Test.YtfhplbmgjgfihaaGreatDoorZzac
namespace Go.Proofs.YtfhplbmgjgfihaaGreatDoor.Wl
open Go.Proofs.YtfhplbmgjgfihaaGreatDoor.Mc Go.ChangeShapes Go.WideShapes Go.ChangeAt Go.RowKit
set_option linter.unusedVariables false
set_option maxRecDepth 20000
/-- where the document's world lies; what was there when it began; of which program it is -/
structure Wk where
  g : Nat
  w0 : World
  p : Pgm
/-- its slices; its buffers' -/
structure Wv where
  tv : Value
  bv : Value
  mv : Value
  sv : Value
  ev : Value
  bl : List Value
abbrev wldA (p : Pgm) (v : Wv) (room : Int) : Array Value := #[.slice p.ca p.codes.length p.cc, v.tv, v.bv, v.mv, .int .i64 room, v.sv, v.ev, .bool false]
/-- the document's world lies there -/
structure Ws (k : Wk) (v : Wv) (s : Ms) (w : World) : Prop where
  box : Has w k.g (wldA k.p v s.room) 41
  lo : k.w0.heap.size ≤ k.g
  gr : Gr k.w0 w
  pg : PgAt k.p k.w0
  th : w.ownsRow k.w0.heap.size 46 10 v.tv s.ths.length (flatOf thR s.ths)
  bf : w.ownsRow k.w0.heap.size 47 1 v.bv v.bl.length v.bl
  bn : v.bl.length = s.sides.length
  each : ∀ i x, v.bl[i]? = some x → w.ownsRow k.w0.heap.size 77 2 x (s.side i).buf.length (Bf.flat (s.side i).buf)
  mem : w.ownsRow k.w0.heap.size 43 1 v.mv s.mem.length (flatOf wordL s.mem)
  slp : w.ownsRow k.w0.heap.size 80 2 v.sv s.slp.length (Kn.flat s.slp)
  evs : w.ownsRow k.w0.heap.size 79 8 v.ev s.evs.length (flatOf evL s.evs)
theorem Ws.at (k : Wk) {v : Wv} {s : Ms} {w : World} (h : Ws k v s w) : PgAt k.p w := h.pg.later h.gr
theorem own_kt {w w' : World} {B sz n : Nat} {t u : TypeId} {v : Value} {xs : List Value} {x : Nat} {C : Array Value} (h : w.ownsRow B t sz v n xs) (hx : Has w x C u) (hne : t ≠ u) (q : Kp [x] w w') : w'.ownsRow B t sz v n xs :=
  own_kept h q fun g hg hm => by
    obtain rfl : g = x := by simpa using hm
    exact own_aside h hx hne (mem_ob.2 hg)
/-- a write into one block leaves all rows of other types -/
structure Rest (k : Wk) (v : Wv) (s : Ms) (w : World) (u : TypeId) : Prop where
  box : 41 ≠ u → Has w k.g (wldA k.p v s.room) 41
  lo : k.w0.heap.size ≤ k.g
  gr : Gr k.w0 w
  pg : PgAt k.p k.w0
  th : 46 ≠ u → w.ownsRow k.w0.heap.size 46 10 v.tv s.ths.length (flatOf thR s.ths)
  bf : 47 ≠ u → w.ownsRow k.w0.heap.size 47 1 v.bv v.bl.length v.bl
  bn : v.bl.length = s.sides.length
  each : 77 ≠ u → ∀ i x, v.bl[i]? = some x → w.ownsRow k.w0.heap.size 77 2 x (s.side i).buf.length (Bf.flat (s.side i).buf)
  mem : 43 ≠ u → w.ownsRow k.w0.heap.size 43 1 v.mv s.mem.length (flatOf wordL s.mem)
  slp : 80 ≠ u → w.ownsRow k.w0.heap.size 80 2 v.sv s.slp.length (Kn.flat s.slp)
  evs : 79 ≠ u → w.ownsRow k.w0.heap.size 79 8 v.ev s.evs.length (flatOf evL s.evs)
section
variable {k : Wk} {v : Wv} {s : Ms} {w w' : World}
theorem Ws.rest (h : Ws k v s w) {x : Nat} {C : Array Value} {u : TypeId} (hx : Has w x C u) (hB : k.w0.heap.size ≤ x) (q : Kp [x] w w') : Rest k v s w' u :=
  ⟨fun hne => h.box.kept q fun hm => (h.box.apart hx hne) (by simpa using hm), h.lo, Kp.gr h.gr q (by simpa using hB), h.pg, fun e => own_kt h.th hx e q, fun e => own_kt h.bf hx e q, h.bn, fun e i y hy => own_kt (h.each i y hy) hx e q, fun e => own_kt h.mem hx e q, fun e => own_kt h.slp hx e q, fun e => own_kt h.evs hx e q⟩
theorem Ws.later (h : Ws k v s w) (g : Gr w w') : Ws k v s w' :=
  ⟨h.box.later g, h.lo, h.gr.trans g, h.pg, own_later h.th g, own_later h.bf g, h.bn, fun i y hy => own_later (h.each i y hy) g, own_later h.mem g, own_later h.slp g, own_later h.evs g⟩
/-- where a row of one's own that isn't empty lies -/
theorem own_cell {B sz n : Nat} {t : TypeId} {x : Value} {xs : List Value} (h : w.ownsRow B t sz x n xs) (hn : 0 < xs.length) : ∃ b c C, x = .slice (some ⟨b, 0, none⟩) n c ∧ B ≤ b ∧ Has w b C t ∧ RowAt w (some ⟨b, 0, none⟩) xs := by
  obtain ⟨a, c, e, hr, -, -, hy⟩ := own_at h
  obtain ⟨b, off, ha, -⟩ := hr.get hn
  obtain ⟨h1, h2, h3⟩ := hy _ ha
  obtain ⟨C, hC⟩ := own_has h (k := b) (mem_ob.2 (by rw [h3]))
  have h0 : off = 0 := by simpa using h2
  rw [ha, h0] at e hr
  exact ⟨b, c, C, e, h1, hC, hr⟩
/-- a field of the world's own block is stored -/
theorem Ws.field (h : Ws k v s w) (o : Nat) (x : Value) (v' : Wv) (s' : Ms) (hv : (wldA k.p v s.room).setIfInBounds o x = wldA k.p v' s'.room) : Has (w.setCell ⟨k.g, o, none⟩ x) k.g (wldA k.p v' s'.room) 41 ∧ Rest k v s (w.setCell ⟨k.g, o, none⟩ x) 41 := by
  have := h.box.set o x
  rw [hv] at this
  exact ⟨this, h.rest h.box h.lo (Kp.setCell w k.g o x)⟩
/-- what befell is longer by one -/
theorem Ws.note (h : Ws k v s w) {w1 : World} {ev' : Value} (s' : Ms) (hs : s'.sides = s.sides ∧ s'.mem = s.mem ∧ s'.slp = s.slp ∧ s'.room = s.room) (ho : w1.ownsRow k.w0.heap.size 79 8 ev' s'.evs.length (flatOf evL s'.evs)) (q : w.grownBy w1 v.ev.ownBlock) :
    Ws k ⟨v.tv, v.bv, v.mv, v.sv, ev', v.bl⟩ s' (w1.setCell ⟨k.g, 6, none⟩ ev') := by
  obtain ⟨e1, e2, e3, e4⟩ := hs
  have eth : s'.ths = s.ths := by unfold Ms.ths; rw [e1]
  have esd : ∀ i, s'.side i = s.side i := fun i => by unfold Ms.side; rw [e1]
  have qk : Kp (ob v.ev) w w1 := Kp.grown q
  have qB : ∀ x ∈ ob v.ev, k.w0.heap.size ≤ x := fun x hx => (h.evs.lt x (mem_ob.1 hx)).1
  have kp : ∀ {B sz n : Nat} {t : TypeId} {x : Value} {xs : List Value}, w.ownsRow B t sz x n xs → t ≠ 79 → w1.ownsRow B t sz x n xs := fun ho hne => own_kept ho qk fun g hg hm => own_apart ho h.evs hne (mem_ob.2 hg) hm
  have hb1 : Has w1 k.g (wldA k.p v s.room) 41 := h.box.kept qk fun hm => by
    obtain ⟨C, hC⟩ := own_has h.evs hm
    exact h.box.apart hC (by decide) rfl
  have qs : Kp [k.g] w1 (w1.setCell ⟨k.g, 6, none⟩ ev') := Kp.setCell w1 k.g 6 ev'
  have hb2 : Has (w1.setCell ⟨k.g, 6, none⟩ ev') k.g (wldA k.p ⟨v.tv, v.bv, v.mv, v.sv, ev', v.bl⟩ s'.room) 41 := by
    have := hb1.set 6 ev'
    rw [e4]
    exact this
  exact ⟨hb2, h.lo, Kp.gr (Kp.gr h.gr qk qB) qs (by simpa using h.lo), h.pg, by rw [eth]; exact own_kt (kp h.th (by decide)) hb1 (by decide) qs, own_kt (kp h.bf (by decide)) hb1 (by decide) qs, by rw [h.bn, e1], fun i x hx => by rw [esd]; exact own_kt (kp (h.each i x hx) (by decide)) hb1 (by decide) qs,
    by rw [e2]; exact own_kt (kp h.mem (by decide)) hb1 (by decide) qs, by rw [e3]; exact own_kt (kp h.slp (by decide)) hb1 (by decide) qs, own_kt ho hb1 (by decide) qs⟩
end
/-- cells of a row of one's own are set -/
theorem own_sets {B sz n : Nat} {t : TypeId} {b c : Nat} : ∀ (ys : List Value) (o : Nat) (w : World) (xs : List Value), w.ownsRow B t sz (.slice (some ⟨b, 0, none⟩) n c) n xs → o + ys.length ≤ n * sz → (w.setCells b o ys).ownsRow B t sz (.slice (some ⟨b, 0, none⟩) n c) n (xs.take o ++ ys ++ xs.drop (o + ys.length))
  | [], o, w, xs, h, hl => by simpa [World.setCells] using h
  | y :: ys, o, w, xs, h, hl => by
    have hlen := h.1
    have ho : o < xs.length := by simp at hl; omega
    have := own_sets ys (o + 1) _ _ (own_set h o y (by simp at hl; omega)) (by simp at hl; omega)
    have e : (xs.set o y).take (o + 1) ++ ys ++ (xs.set o y).drop (o + 1 + ys.length) = xs.take o ++ (y :: ys) ++ xs.drop (o + (y :: ys).length) := by
      rw [List.take_set, List.drop_set, if_pos (by omega), List.length_cons, show o + 1 + ys.length = o + (ys.length + 1) by omega]
      have h2 : (xs.take (o + 1)).set o y = xs.take o ++ [y] := by
        rw [List.take_succ_eq_append_getElem ho, List.set_append_right _ _ (by simp; omega), List.length_take, Nat.min_eq_left (by omega), Nat.sub_self]
        rfl
      rw [h2]
      simp
    rw [e] at this
    exact this
theorem flat_sets {α : Type} {f : α → List Value} {sz : Nat} (hf : ∀ x, (f x).length = sz) (l : List α) (i : Nat) (hi : i < l.length) (x : α) : (flatOf f l).take (i * sz) ++ f x ++ (flatOf f l).drop (i * sz + (f x).length) = flatOf f (l.set i x) := by
  rw [hf x, show i * sz + sz = (i + 1) * sz by rw [Nat.add_mul, Nat.one_mul], ← flatOf_take hf, ← flatOf_drop hf, List.set_eq_take_append_cons_drop, if_pos hi, flatOf_append, flatOf_cons]
  simp
end Go.Proofs.YtfhplbmgjgfihaaGreatDoor.Wl
namespace Go.Proofs.YtfhplbmgjgfihaaGreatDoor.Mc
open Go.ChangeShapes Go.WideShapes Go.ChangeAt Go.RowKit
set_option linter.unusedVariables false
set_option maxRecDepth 20000
theorem row_range {α : Type} {f : α → List Value} {sz : Nat} (hf : ∀ x, (f x).length = sz) {w : World} {b o : Nat} {l : List α} (h : RowAt w (some ⟨b, o, none⟩) (flatOf f l)) {i : Nat} (hi : i < l.length) (d : α) : w.rangeAt b (o + i * sz) (f (l.getD i d)) := fun j v hv => by
  have hj : j < sz := by have := (List.getElem?_eq_some_iff.1 hv).1; rwa [hf] at this
  rw [Nat.add_assoc]
  exact (h.cell hf hi d j hj).trans hv
theorem eqs_ev (w : World) (x : Ev) : (Op.equalIn 10000 79 (.agg (evA x)) (.agg (evA x))).run Tryz.prog w = .ok true w := by
  rw [run_equalIn_agg w 9999 _ _ _ (by kernel_rfl) (by kernel_rfl)]
  go_simp
theorem guard_ev (op : BinOp) (x y : Operand) (xs ys : Array Value) (w : World) : (eqGuard op 79 x y (.agg xs) (.agg ys)).run Tryz.prog w = .ok () w :=
  run_eqGuard_agg w op _ x y xs ys (by kernel_rfl)
abbrev enA (x : Ent) : Array Value := #[.int .i64 x.a, .int .u32 x.v]
theorem eqs_en (w : World) (x : Ent) : (Op.equalIn 10000 77 (.agg (enA x)) (.agg (enA x))).run Tryz.prog w = .ok true w := by
  rw [run_equalIn_agg w 9999 _ _ _ (by kernel_rfl) (by kernel_rfl)]
  go_simp
theorem guard_en (op : BinOp) (x y : Operand) (xs ys : Array Value) (w : World) : (eqGuard op 77 x y (.agg xs) (.agg ys)).run Tryz.prog w = .ok () w :=
  run_eqGuard_agg w op _ x y xs ys (by kernel_rfl)
theorem bf_flat (l : List Ent) : Bf.flat l = flatOf Bf.entC l := rfl
theorem bf_len (x : Ent) : (Bf.entC x).length = 2 := rfl
theorem kn_flat (l : List Ent) : Kn.flat l = flatOf Kn.entC l := rfl
theorem kn_len (x : Ent) : (Kn.entC x).length = 2 := rfl
end Go.Proofs.YtfhplbmgjgfihaaGreatDoor.Mc
namespace Go.Proofs.YtfhplbmgjgfihaaGreatDoor.Wl
open Go.Proofs.YtfhplbmgjgfihaaGreatDoor.Mc Go.ChangeShapes Go.WideShapes Go.ChangeAt Go.RowKit
set_option linter.unusedVariables false
set_option maxRecDepth 20000
theorem bl_at {w : World} {b o : Nat} {l : List Value} (h : RowAt w (some ⟨b, o, none⟩) l) {i : Nat} {x : Value} (hx : l[i]? = some x) : w.cell? ⟨b, o + i, none⟩ = some x := by
  have hi : i < l.length := (List.getElem?_eq_some_iff.1 hx).1
  rcases h with h | ⟨b', o', ha, h⟩
  · subst h; simp at hi
  · cases ha
    exact (h i hi).trans hx

theorem eq_ev2 (w : World) (x y : Ev) : ∃ d, (Op.equalIn 10000 79 (.agg (evA x)) (.agg (evA y))).run Tryz.prog w = .ok d w ∧ (x = y → d = true) := by
  by_cases h : x = y
  · subst h
    exact ⟨true, eqs_ev w x, fun _ => rfl⟩
  · have key : (Op.equalIn 10000 79 (.agg (evA x)) (.agg (evA y))).run Tryz.prog w = .ok true w ∨ (Op.equalIn 10000 79 (.agg (evA x)) (.agg (evA y))).run Tryz.prog w = .ok false w := by
      rw [run_equalIn_agg w 9999 _ _ _ (by kernel_rfl) (by kernel_rfl)]
      go_simp
      repeat' split
      all_goals simp_all
    rcases key with k | k
    · exact ⟨true, k, fun _ => rfl⟩
    · exact ⟨false, k, fun e => absurd e h⟩
theorem wp_neev2 {op : Oper} {a : Act} {w : World} {K : Act → World → Prop} {Q : Exit → Act → World → Prop} (d : Option Tmp) (hd : op.dst = d) (x y : Operand) (ho : op.op = .binOp .neq 79 x y 79) (t u : Ev)
    (hx : a.eval x = .agg (evA t)) (hy : a.eval y = .agg (evA u)) (h : ∀ q, (t = u → q = false) → K (a.put d (.bool q)) w) : op.wp Tryz.prog a w K Q := by
  subst hd
  obtain ⟨q, hq, hr⟩ := eq_ev2 w t u
  have hn : (binOp .neq 79 (.agg (evA t)) (.agg (evA u))).run Tryz.prog w = .ok (.bool (!q)) w := by
    rw [run_neq_struct, hq]
    rfl
  unfold Oper.wp execOp
  simp only [ho, hx, hy, Sem.run_bind, guard_ev, hn, Result.andThen_ok]
  exact h _ fun e => by rw [hr e]; rfl
theorem eq_en2 (w : World) (x y : Ent) : ∃ d, (Op.equalIn 10000 77 (.agg (enA x)) (.agg (enA y))).run Tryz.prog w = .ok d w ∧ (x = y → d = true) := by
  by_cases h : x = y
  · subst h
    exact ⟨true, eqs_en w x, fun _ => rfl⟩
  · have key : (Op.equalIn 10000 77 (.agg (enA x)) (.agg (enA y))).run Tryz.prog w = .ok true w ∨ (Op.equalIn 10000 77 (.agg (enA x)) (.agg (enA y))).run Tryz.prog w = .ok false w := by
      rw [run_equalIn_agg w 9999 _ _ _ (by kernel_rfl) (by kernel_rfl)]
      go_simp
      repeat' split
      all_goals simp_all
    rcases key with k | k
    · exact ⟨true, k, fun _ => rfl⟩
    · exact ⟨false, k, fun e => absurd e h⟩
theorem wp_neen2 {op : Oper} {a : Act} {w : World} {K : Act → World → Prop} {Q : Exit → Act → World → Prop} (d : Option Tmp) (hd : op.dst = d) (x y : Operand) (ho : op.op = .binOp .neq 77 x y 77) (t u : Ent)
    (hx : a.eval x = .agg (enA t)) (hy : a.eval y = .agg (enA u)) (h : ∀ q, (t = u → q = false) → K (a.put d (.bool q)) w) : op.wp Tryz.prog a w K Q := by
  subst hd
  obtain ⟨q, hq, hr⟩ := eq_en2 w t u
  have hn : (binOp .neq 77 (.agg (enA t)) (.agg (enA u))).run Tryz.prog w = .ok (.bool (!q)) w := by
    rw [run_neq_struct, hq]
    rfl
  unfold Oper.wp execOp
  simp only [ho, hx, hy, Sem.run_bind, guard_en, hn, Result.andThen_ok]
  exact h _ fun e => by rw [hr e]; rfl
theorem wp_neth2 {op : Oper} {a : Act} {w : World} {K : Act → World → Prop} {Q : Exit → Act → World → Prop} (d : Option Tmp) (hd : op.dst = d) (x y : Operand) (ho : op.op = .binOp .neq 46 x y 46) (t u : Th) (ht : ThOk t) (hu : ThOk u)
    (hx : a.eval x = .agg (thC t)) (hy : a.eval y = .agg (thC u)) (h : ∀ q, (t = u → q = false) → K (a.put d (.bool q)) w) : op.wp Tryz.prog a w K Q := by
  subst hd
  unfold Oper.wp execOp
  simp only [ho, hx, hy, Sem.run_bind, guard_th, neq_th w ht hu, Result.andThen_ok]
  exact h _ fun e => by rw [e, thEq_refl]; rfl
def evD : Ev := ⟨0, 0, 0, 0, 0, 0, 0, false⟩
/-- some answer, and yes if so -/
def SameP (E : Prop) (w : World) (r : Ending) (w' : World) : Prop := ∃ b, r = .returned (.bool b) ∧ (E → b = true) ∧ Gr w w'
theorem SameP.of {E : Prop} {w w' : World} (b : Bool) (h : E → b = true) (g : Gr w w') : SameP E w (.returned (.bool b)) w' := ⟨b, rfl, h, g⟩
end Go.Proofs.YtfhplbmgjgfihaaGreatDoor.Wl
namespace Go.Proofs.YtfhplbmgjgfihaaGreatDoor.Kq
open Go.ChangeShapes Go.WideShapes Go.ChangeAt Go.RowKit
open Go.Proofs.YtfhplbmgjgfihaaGreatDoor.Kn
set_option linter.unusedVariables false
set_option maxRecDepth 20000
/-- the queue's sleepers, where they lie -/
theorem q_row {w : World} {g : Nat} {a b e : Value} {C : Array Value} {t : TypeId} {l : List Ent} (h : Has w g (machC a b C e) t) (hi : IsB C l) : RowAt w (some ⟨g, 2, none⟩) (flat l) := by
  have hs := hi.size
  have hlen := hi.len
  refine .inr ⟨g, 2, rfl, fun j hj => ?_⟩
  rw [flat_length] at hj
  obtain ⟨c0, c1⟩ := hi.ent (j / 2) (by omega)
  rcases (by omega : j % 2 = 0 ∨ j % 2 = 1) with h2 | h2
  · have e1 : j = j / 2 * 2 := by omega
    have q := flatC_a l (j / 2) (by omega)
    rw [List.getElem?_toArray, ← e1] at q
    rw [q]
    rw [← e1] at c0
    exact h.cell (by rw [mach_q (by omega)]; exact c0)
  · have e1 : j = j / 2 * 2 + 1 := by omega
    have q := flatC_v l (j / 2) (by omega)
    rw [List.getElem?_toArray, ← e1] at q
    rw [q]
    rw [← e1] at c1
    exact h.cell (by rw [mach_q (by omega)]; exact c1)
theorem copy_ents (w : World) (ty : TypeId) (g : Nat) (D : Array Value) (t : TypeId) (hg : Has w g D t) (s o cap : Nat) (l : List Ent) (hD : D.size = l.length * 2) (he : RowAt w (some ⟨s, o, none⟩) (flat l)) :
    (Builtin.copy_ #[73, 73] ty #[.slice (some ⟨g, 0, none⟩) l.length l.length, .slice (some ⟨s, o, none⟩) l.length cap]).run Tryz.prog w = .ok (goInt l.length) (w.setRow g (flat l).toArray) := by
  have hsrc : ∀ j v, (flat l)[j]? = some v → w.cell? ((⟨s, o, none⟩ : Addr).add j) = some v := by
    intro j u hj
    have hj' : j < (flat l).length := (List.getElem?_eq_some_iff.1 hj).1
    obtain ⟨b, off, h, hcc⟩ := he.get (by omega)
    cases h
    rw [Addr.add_mid, hcc j hj', hj]
  have hl := run_loadCells_list (P := Tryz.prog) w ⟨s, o, none⟩ (flat l) hsrc
  have hst := run_storeCells_at Tryz.prog g 0 t (flat l) 0 D w hg (by rw [flat_length, hD]; omega) (flat_one l)
  rw [flat_length] at hl
  have e : (D.toList.take (0 + 0) ++ flat l ++ D.toList.drop (0 + 0 + (flat l).length)).toArray = (flat l).toArray := by
    have : D.toList.drop (0 + 0 + (flat l).length) = [] := by
      apply List.drop_eq_nil_of_le
      rw [flat_length]
      simp [hD]
    rw [this]
    simp
  rw [e] at hst
  obtain ⟨i, h1, h2, h3, h4⟩ := info_parts infoE3
  simp [Builtin.copy_, run_underlying Tryz.underlying73, Builtin.lenOf, Builtin.firstCells, sizeOf, typeInfo, h1, h3, hl, hst]

/-- a copy whose run is known -/
theorem wp_cp {o : Oper} {a : Act} {w : World} {K : Act → World → Prop} {Q : Exit → Act → World → Prop} (d : Option Tmp) (hd : o.dst = d) (s x : Operand) (t : TypeId) (ho : o.op = .call { callee := .builtin .copy, args := #[s, x], argTypes := #[t, t] })
    (v u : Value) (hs : a.eval s = v) (hx : a.eval x = u) (v' : Value) (w' : World) (hr : (Builtin.copy_ #[t, t] o.type #[v, u]).run Tryz.prog w = .ok v' w') (h : K (a.put d v') w') : o.wp Tryz.prog a w K Q := by
  subst hd
  unfold Oper.wp execOp
  simp only [ho, resolve, invoke, builtin, Sem.run_bind, Sem.run_pure, Result.andThen_ok, List.map_toArray, List.map_cons, List.map_nil, hs, hx, hr]
  exact h
/-- a new slice of these sleepers -/
def AllP (l : List Ent) (w : World) (e : Ending) (w' : World) : Prop := (e = .returned (.slice (some ⟨w.heap.size, 0, none⟩) l.length l.length) ∧ Gr w w') ∧ Has w' w.heap.size (flat l).toArray 61

set_option maxHeartbeats 1000000 in
theorem all_calls {g : Nat} {a b e : Value} {C : Array Value} {t : TypeId} {l : List Ent} {w : World} (h0 : Has w g (machC a b C e) t) (hi : IsB C l) :
    Calls Tryz.prog 39 #[.pointer (some ⟨g, 2, none⟩)] w (AllP l w) := by
  have HB := hide hi
  have hs := hi.size
  have c16 : (machC a b C e)[18]? = some (.int .i64 l.length) := by
    rw [show 18 = 2 + 16 from rfl, mach_q (by omega)]
    exact hi.count
  have d16 := h0.cell c16
  have hlen := hi.len
  have hll : (l.length : Int) ≤ 8 := by omega
  have hmk := make_ents l.length (by omega)
  have hgs := h0.lt
  have a0 := h0.alloc (flat (List.replicate l.length ent0)).toArray 61
  have a1 := Has.new w (flat (List.replicate l.length ent0)).toArray 61
  have ag := (Gr.refl w).alloc (flat (List.replicate l.length ent0)).toArray 61
  clear hi h0
  go_enter Tryz.func39, Tryz.ntmps39
  go_wp2_with (fail)
  generalize hw1 : w.alloc (.cells (flat (List.replicate l.length ent0)).toArray 61) = w1 at a0 a1 ag
  refine begin_late 10 [] (fun w' => Has w' g (machC a b C e) t) (by kernel_rfl) rfl ?_
  have hH := a0.drew
  refine AnyL.pp 0 9 (.slice (some ⟨w.heap.size, 0, none⟩) l.length l.length) rfl rfl (by kernel_rfl) (fun _ _ _ h => h) (fun _ => by go_simp) hH ?_
  simp only [pz, pz0, pzs]
  refine AnyL.pp 1 10 (.pointer (some ⟨g, 2, none⟩)) rfl rfl (by kernel_rfl) (fun _ _ _ h => h) (fun _ => by go_simp) hH ?_
  simp only [pz, pz0, pzs]
  refine AnyL.pp 2 11 (.pointer (some ⟨g, 2, none⟩)) rfl rfl (by kernel_rfl) (fun _ _ _ h => h) (fun _ => by go_simp) hH ?_
  simp only [pz, pz0, pzs]
  refine AnyL.pp 3 12 (.pointer (some ⟨g, 2, none⟩)) rfl rfl (by kernel_rfl) (fun _ _ _ h => h) (fun _ => by go_simp) hH ?_
  simp only [pz, pz0, pzs]
  refine AnyL.pp 4 13 (.pointer (some ⟨g, 2, none⟩)) rfl rfl (by kernel_rfl) (fun _ _ _ h => h) (fun _ => by go_simp) hH ?_
  simp only [pz, pz0, pzs]
  refine AnyL.pp 5 14 (.pointer (some ⟨g, 2, none⟩)) rfl rfl (by kernel_rfl) (fun _ _ _ h => h) (fun _ => by go_simp) hH ?_
  simp only [pz, pz0, pzs]
  refine AnyL.pp 6 15 (.pointer (some ⟨g, 18, none⟩)) rfl rfl (by kernel_rfl) (fun _ _ _ h => h) (fun _ => by go_simp) hH ?_
  simp only [pz, pz0, pzs]
  refine AnyL.tt 7 16 (.int .i64 l.length) rfl rfl (by kernel_rfl) (fun _ _ _ h => h) (fun w' hw' => by have := hw'.cell c16; go_simp) hH ?_
  simp only [pz, pz0, pzs]
  refine AnyL.pp 8 17 (.slice (some ⟨g, 2, none⟩) l.length 8) rfl rfl (by kernel_rfl) (fun _ _ _ h => h) (fun _ => by go_simp) hH ?_
  simp only [pz, pz0, pzs]
  refine AnyL.one 9 (by kernel_rfl) rfl (by kernel_rfl) ?_
  have hcp := fun ty => copy_ents w1.drew ty w.heap.size _ _ a1.drew g 2 8 l (by rw [flatC_size]; simp) (q_row a0.drew HB.out)
  refine wp_cp (some 18) rfl (.tmp 9) (.tmp 17) 73 rfl _ _ rfl rfl _ _ (hcp _) ?_
  refine ⟨fun _ => a0.drew.rowAside (by omega) _, ?_⟩
  refine AnyL.done (by kernel_rfl) ?_
  replace a1 := a1.drew.row (flat l).toArray
  replace ag := ag.drew.setRow (Nat.le_refl _) (flat l).toArray
  generalize w1.drew.setRow w.heap.size (flat l).toArray = w2 at a1 ag ⊢
  clear a0 hH hcp hmk hw1 c16 d16
  simp only [pz, pz0, pzs]
  go_wp2_with (fail)
  go_ret
  exact ⟨⟨rfl, ag⟩, a1⟩
end Go.Proofs.YtfhplbmgjgfihaaGreatDoor.Kq
namespace Go.Proofs.YtfhplbmgjgfihaaGreatDoor.Mc
open Go.ChangeShapes Go.WideShapes Go.ChangeAt Go.RowKit
set_option linter.unusedVariables false
set_option maxRecDepth 20000
theorem sleepers_calls {k : Mk} {s : Ms} {e : Value} {w : World} (h : Mw k s e w) : Calls Tryz.prog 24 #[.pointer (some ⟨k.mb, 0, none⟩)] w (Kq.AllP s.slp w) := by
  obtain ⟨C, h0, hi⟩ := h.q
  have HA := hide (Kq.all_calls h0 hi)
  clear h h0 hi
  go_enter Tryz.func24, Tryz.ntmps24
  go_wp2_with (fail)
  refine HA.out.mono ?_
  rintro r u ⟨⟨rfl, g⟩, hb⟩
  have HG := hide g
  have HB := hide hb
  clear HA g hb
  go_wp2_with (fail)
  go_ret
  exact ⟨⟨rfl, HG.out⟩, HB.out⟩
end Go.Proofs.YtfhplbmgjgfihaaGreatDoor.Mc
namespace Go.Proofs.YtfhplbmgjgfihaaGreatDoor.Mc
set_option linter.unusedVariables false
section
variable {s : Ms} {i : Nat} {n : Int} {t : Th} {c : Ins}
end
section
variable {S T : Type} {M : Prt S} {N : Prt T} {R : S → T → Prop}
end
end Go.Proofs.YtfhplbmgjgfihaaGreatDoor.Mc
namespace Go.Proofs.YtfhplbmgjgfihaaGreatDoor.Mc
open Go.ChangeShapes Go.WideShapes Go.ChangeAt Go.RowKit
set_option linter.unusedVariables false
set_option maxRecDepth 20000
def ChkP (p : Pgm) (w : World) (r : Ending) (w' : World) : Prop := r = .returned (.tuple #[.int .i64 (chkM p).1, .int .i64 (chkM p).2.1, .int .i64 (chkM p).2.2]) ∧ Gr w w'
theorem results_tmp3' {fn : Func} {t u v : Tmp} (h : fn.results = #[.tmp t, .tmp u, .tmp v]) (tmps : Array Value) (w : World) :
    (results fn tmps).run Tryz.prog w = .ok (.tuple #[tmps.getD t undef, tmps.getD u undef, tmps.getD v undef]) w := by
  simp [results, h]
theorem chk_arg {p : Pgm} (h : (p.codes.length < 1 ∨ 8 < p.codes.length) ∨ (p.room < 1 ∨ 16 < p.room)) : chkM p = (-1, -1, 1) := by unfold chkM; rw [if_pos h]
theorem chk_long {p : Pgm} (h : ¬ ((p.codes.length < 1 ∨ 8 < p.codes.length) ∨ (p.room < 1 ∨ 16 < p.room))) (h2 : 1024 < p.mem.length) : chkM p = (-1, -1, 4) := by unfold chkM; rw [if_neg h, if_pos h2]
theorem chk_rest {p : Pgm} (h : ¬ ((p.codes.length < 1 ∨ 8 < p.codes.length) ∨ (p.room < 1 ∨ 16 < p.room))) (h2 : ¬ 1024 < p.mem.length) : chkM p = chkP 0 (p.codes.drop 0) := by unfold chkM; rw [if_neg h, if_neg h2]; rfl

set_option maxHeartbeats 1000000 in
theorem check_calls (p : Pgm) (w : World) (L : Laid w) (h : PgAt p w) : Calls Tryz.prog 13 #[.agg (pgA p)] w (ChkP p w) := by
  have g0 := (Gr.refl w).alloc (pgA p) 25
  have hb := Has.new w (pgA p) 25
  have d0 := hb.cell (o := 0) (v := .slice p.ca p.codes.length p.cc) rfl
  have d1 := hb.cell (o := 1) (v := .slice p.ma p.mem.length p.mc) rfl
  have d2 := hb.cell (o := 2) (v := .int .i64 p.room) rfl
  by_cases ha : (p.codes.length < 1 ∨ 8 < p.codes.length) ∨ (p.room < 1 ∨ 16 < p.room)
  · have e := hide (chk_arg ha)
    have HG := hide g0
    clear h hb L g0
    unfold ChkP
    rw [e.out]
    clear e
    by_cases h1 : p.codes.length < 1
    · have h1' : (p.codes.length : Int) < 1 := by omega
      clear ha h1
      go_enter Tryz.func13, Tryz.ntmps13
      go_wp2_with (fail)
      exact bodyPost_ret (results_tmp3' rfl _ _) rfl ⟨rfl, HG.out⟩
    · have h1' : ¬ (p.codes.length : Int) < 1 := by omega
      by_cases h2 : 8 < p.codes.length
      · have h2' : (8 : Int) < p.codes.length := by omega
        clear ha h1 h2
        go_enter Tryz.func13, Tryz.ntmps13
        go_wp2_with (fail)
        exact bodyPost_ret (results_tmp3' rfl _ _) rfl ⟨rfl, HG.out⟩
      · have h2' : ¬ (8 : Int) < p.codes.length := by omega
        by_cases h3 : p.room < 1
        · clear ha h1 h2
          go_enter Tryz.func13, Tryz.ntmps13
          go_wp2_with (fail)
          exact bodyPost_ret (results_tmp3' rfl _ _) rfl ⟨rfl, HG.out⟩
        · have h4 : 16 < p.room := by omega
          clear ha h1 h2
          go_enter Tryz.func13, Tryz.ntmps13
          go_wp2_with (fail)
          exact bodyPost_ret (results_tmp3' rfl _ _) rfl ⟨rfl, HG.out⟩
  · have n1 : ¬ (p.codes.length : Int) < 1 := by omega
    have n2 : ¬ (8 : Int) < p.codes.length := by omega
    have n3 : ¬ p.room < 1 := by omega
    have n4 : ¬ 16 < p.room := by omega
    by_cases h5 : 1024 < p.mem.length
    · have e := hide (chk_long ha h5)
      have HG := hide g0
      have h5' : (1024 : Int) < p.mem.length := by omega
      clear h hb L g0 ha h5
      unfold ChkP
      rw [e.out]
      clear e
      go_enter Tryz.func13, Tryz.ntmps13
      go_wp2_with (fail)
      exact bodyPost_ret (results_tmp3' rfl _ _) rfl ⟨rfl, HG.out⟩
    · have e := hide (chk_rest ha h5)
      have h5' : ¬ (1024 : Int) < p.mem.length := by omega
      unfold ChkP
      rw [e.out]
      generalize hR : chkP 0 (p.codes.drop 0) = R
      have HR := hide hR
      have HH := hide h
      have HL := hide L
      clear hR h L ha e hb h5
      go_enter Tryz.func13, Tryz.ntmps13
      go_wp2_with (fail)
      change Code.wp _ _ _ _ (w.alloc (.cells (pgA p) 25))
      generalize w.alloc (.cells (pgA p) 25) = w1 at g0 d0 d1 d2 ⊢
      go_loopw [36] (fun v wr => ∃ j : Nat, j ≤ p.codes.length ∧ v = .int .i64 j ∧ Gr w wr ∧ chkP j (p.codes.drop j) = R) (fun v _ => p.codes.length - (intOf v).toNat)
      case atStart => exact ⟨0, by omega, rfl, g0, HR.out⟩
      case round =>
        clear g0 d0 d1 d2
        obtain ⟨j, hj, rfl, g, hr⟩ := hrel
        by_cases hlt : j < p.codes.length
        · have hlt' : (j : Int) < p.codes.length := by omega
          have q1 := HH.out.later g
          have rw1 := q1.row
          obtain ⟨b, off, had, -⟩ := rw1.get (by rw [flatOf_length codeV_len]; omega)
          rw [had] at rw1
          have c0 := rw1.cell codeV_len hlt cd0 0 (by omega)
          have hd := chkP_drop hlt
          have hx := q1.each _ (cd_mem hlt)
          generalize p.codes.getD j cd0 = x at c0 hd hx
          rw [hd] at hr
          have HK := hide hr
          have HC := hide (checkCode_calls x.a x.c x.l hx.ins wr (HL.out.later g) hx.row)
          clear hd hr rw1 q1 hx
          simp only [codeV, List.getElem?_cons_zero, Nat.add_zero, Nat.mul_one] at c0
          generalize p.ca = pa at had
          subst had
          go_wp2_with (fail)
          refine HC.out.mono ?_
          rintro r u ⟨rfl, g2⟩
          have GG := hide (g.trans g2)
          clear c0 g g2 HC
          by_cases hb : (chkC x.l).2 = 0
          · have HK2 := hide (show chkP (j + 1) (p.codes.drop (j + 1)) = R by have := HK.out; rwa [if_pos hb] at this)
            generalize chkC x.l = q at hb
            obtain ⟨q1, q2⟩ := q
            have hb' : q2 = 0 := hb
            subst hb'
            clear HK hb
            go_wp2_with (fail)
            exact ⟨⟨j + 1, by omega, by go_num, GG.out, HK2.out⟩, by simp [intOf]; omega⟩
          · have HK2 := hide (show (((j : Int), (chkC x.l).1, (chkC x.l).2) : Int × Int × Int) = R by have := HK.out; rwa [if_neg hb] at this)
            generalize chkC x.l = q at hb HK2
            obtain ⟨q1, q2⟩ := q
            have hb' : (q2 == 0) = false := by simpa using hb
            have hb2 : q2 ≠ 0 := hb
            clear HK hb
            go_wp2_with (fail)
            rw [← HK2.out]
            exact bodyPost_ret (results_tmp3' rfl _ _) rfl ⟨rfl, GG.out⟩
        · have hj' : j = p.codes.length := by omega
          subst hj'
          have e0 : R = (0, 0, 0) := by rw [← hr, List.drop_length]; rfl
          have HE := hide e0
          have GG := hide g
          clear hr HR e0 g
          go_wp2_with (fail)
          rw [HE.out]
          exact bodyPost_ret (results_tmp3' rfl _ _) rfl ⟨rfl, GG.out⟩
end Go.Proofs.YtfhplbmgjgfihaaGreatDoor.Mc
namespace Go.Proofs.YtfhplbmgjgfihaaGreatDoor.Bf
open Go.ChangeShapes Go.WideShapes Go.ChangeAt Go.RowKit
set_option linter.unusedVariables false
set_option maxRecDepth 20000
def newC (room : Int) : Array Value := bufC (List.replicate 16 ent0) room 0 0
theorem newC_size (room : Int) : (newC room).size = 35 := rfl
theorem newC_one (room : Int) : (newC room).all (·.oneCell') = true := bufC_one _ _ _ _

set_option maxHeartbeats 400000 in
theorem new_yes (room : Int) (h1 : 1 ≤ room) (h2 : room ≤ 16) (w : World) :
    Calls Tryz.prog 28 #[.int .i64 room] w fun e w' => e = .returned (.tuple #[.agg (newC room), .int .i64 0]) ∧ Gr w w' := by
  have a0 := Has.new w zeroC 83
  have hd1 : ¬ room < 1 := by omega
  have hd2 : ¬ 16 < room := by omega
  go_enter Tryz.func28, Tryz.ntmps28
  go_wp2_with (first
    | (refine store_buf rfl _ _ rfl w.heap.size rfl (newC room) rfl zeroC a0 (newC_size _) zeroC_size (newC_one _) ?_))
  exact bodyPost_ret (results_buf rfl _ _ w.heap.size _ rfl (a0.row _) (newC_size _)) rfl ⟨rfl, ((Gr.refl w).alloc _ _).setRow (by omega) _⟩

theorem is_newC (room : Nat) (h : room ≤ 16) : IsB (newC room) room [] := is_new room h
theorem is_zeroC : IsB zeroC 0 [] := is_new 0 (by omega)
end Go.Proofs.YtfhplbmgjgfihaaGreatDoor.Bf
