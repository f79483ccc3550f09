/-
  What a call owns stays owned behind writes to rows of other kinds; a step 'append' and a step 'call' of a region that draws its order. Worlds alone: no condition on inputs.
-/
import Derived.Test.YthbenfnanhpcoaaGreatDoorZtbv
import Derived.Deep.RegionLaw
namespace Go.Proofs.YthbenfnanhpcoaaGreatDoor.Cd
open Go.ChangeShapes Go.WideShapes Go.ChangeAt Go.RowKit
set_option linter.unusedVariables false
set_option maxRecDepth 20000

theorem heap_lt {w : World} {g : Nat} {o : Obj} (h : w.heap[g]? = some o) : g < w.heap.size := by
  rcases Nat.lt_or_ge g w.heap.size with h' | h'
  · exact h'
  · rw [Array.getElem?_eq_none h'] at h; cases h
theorem Kept.row {e t : TypeId} {B g : Nat} {w w' : World} {cur : Array Value} (k : Kept e B w w') (hne : t ≠ e) (h : w.heap[g]? = some (.cells cur t)) : w'.heap[g]? = some (.cells cur t) := by
  rw [k.block g (heap_lt h) (.inr (fun c f q => hne (by rw [h] at q; cases q; rfl)))]
  exact h
theorem Kept.own {e t : TypeId} {B B' sz n : Nat} {w w' : World} {v : Value} {xs : List Value} (k : Kept e B w w') (hne : t ≠ e) (h : w.ownsRow B' t sz v n xs) : w'.ownsRow B' t sz v n xs := by
  refine ⟨h.1, ?_⟩
  rcases h.2 with h2 | ⟨g, cap, cur, hv, hb, hg, h3⟩
  · exact .inl h2
  · exact .inr ⟨g, cap, cur, hv, hb, k.row hne hg, h3⟩
theorem Kept.setCell {t : TypeId} {g o : Nat} {w : World} {cur : Array Value} (B : Nat) (h : w.heap[g]? = some (.cells cur t)) (hB : B ≤ g) (u : Value) : Kept t B w (w.setCell ⟨g, o, none⟩ u) := by
  refine ⟨rfl, rfl, rfl, by simp [World.setCell], fun k hk hc => Below.heap_setCell _ _ _ _ ?_⟩
  show k ≠ g
  rintro rfl
  rcases hc with hc | hc
  · omega
  · exact hc _ _ h
theorem own_mono {w : World} {B B' sz n : Nat} {t : TypeId} {v : Value} {xs : List Value} (h : w.ownsRow B' t sz v n xs) (hB : B ≤ B') : w.ownsRow B t sz v n xs := by
  refine ⟨h.1, ?_⟩
  rcases h.2 with h2 | ⟨g, cap, cur, hv, hb, h3⟩
  · exact .inl h2
  · exact .inr ⟨g, cap, cur, hv, Nat.le_trans hB hb, h3⟩
theorem own_gr {w w' : World} {B sz n : Nat} {t : TypeId} {v : Value} {xs : List Value} (h : w.ownsRow B t sz v n xs) (g : Gr w w') : w'.ownsRow B t sz v n xs := by
  refine ⟨h.1, ?_⟩
  rcases h.2 with h2 | ⟨q, cap, cur, hv, hb, hg, h3⟩
  · exact .inl h2
  · exact .inr ⟨q, cap, cur, hv, hb, (g.block q (heap_lt hg)).trans hg, h3⟩
theorem row_set {w : World} {g : Nat} {cur : Array Value} {t : TypeId} (h : w.heap[g]? = some (.cells cur t)) (o : Nat) (u : Value) (ho : o < cur.size) : (w.setCell ⟨g, o, none⟩ u).heap[g]? = some (.cells (cur.setIfInBounds o u) t) := by
  simp [World.setCell, Array.getElem?_modify, h]

section
variable {P : Program} {ops : Array Oper} {o : Oper} {a : Act} {w : World} {K : Act → World → Prop} {Q : Exit → Act → World → Prop} {E : Prop}
/-- append onto what the call made, as one step of a region that draws -/
theorem step_append_own (hg : o.guard = none) (s x : Operand) (t : TypeId) (ho : o.op = .call { callee := .builtin .append, args := #[s, x], argTypes := #[t, t] })
    (base : Nat) (e : TypeId) (i : TypeInfo) (z : Value) (size bytes : Nat) (ht : P.underlying t = some (.slice e)) (hi : P.info? e = some i) (hz : i.zero = some z)
    (hsize : i.size = size) (hby : i.bytes = bytes) (hzs : z.cells.size = size) (hsz : 0 < size)
    (v : Value) (n : Nat) (xs : List Value) (hs : a.eval s = v) (hown : w.ownsRow base e size v n xs)
    (ad : Addr) (m c : Nat) (news : List Value) (hx : a.eval x = .slice (some ad) m c) (hl : news.length = m * size) (hnews : ∀ j u, news[j]? = some u → w.cell? (ad.add j) = some u) (h1 : ∀ u ∈ news, u.oneCell' = true)
    (h63 : n + m ≤ maxLen) (hbytes : (n + m) * bytes ≤ 140737488355328) (hbase : base ≤ w.heap.size)
    (h : ∀ v' w', w'.ownsRow base e size v' (n + m) (xs ++ news) → w.grownBy w' v.ownBlock → K (a.put o.dst v') w') :
    if Region.wanted o (yielded ops a.tmps) = true then Oper.wp P o a w K Q else E := by
  have hw : Region.wanted o (yielded ops a.tmps) = true := by simp [Region.wanted, hg]
  rw [if_pos hw]
  exact wp_append_own w s x t ho base e i z size bytes ht hi hz hsize hby hzs hsz v n xs hs hown ad m c news hx hl hnews h1 h63 hbytes hbase fun v' w' h2 h3 _ => h v' w' h2 h3
/-- a call by its contract, as one step of a region that draws -/
theorem step_call (hg : o.guard = none) (f : FuncId) (args : Array Value) (hrun : (execOp a.eval o).run P w = .ok (.enter f args) w) (R : Value → World → Prop)
    (hc : Calls P f args w fun e w' => ∃ v, e = .returned v ∧ R v w') (h : ∀ v w', R v w' → K (a.put o.dst v) w') :
    if Region.wanted o (yielded ops a.tmps) = true then Oper.wp P o a w K Q else E := by
  have hw : Region.wanted o (yielded ops a.tmps) = true := by simp [Region.wanted, hg]
  rw [if_pos hw]
  unfold Oper.wp
  rw [hrun, Oper.upon_enter]
  refine hc.mono fun e w'' hh => ?_
  obtain ⟨v, rfl, hR⟩ := hh
  exact h v w'' hR
end
end Go.Proofs.YthbenfnanhpcoaaGreatDoor.Cd

namespace Go.Proofs.YthbenfnanhpcoaaGreatDoor.Cd
open Go.ChangeShapes Go.WideShapes Go.ChangeAt Go.RowKit Go.Deep
set_option linter.unusedVariables false
set_option maxRecDepth 20000

theorem codesTo_none (L : List Int) (e k t : Nat) (hk : k ≤ t) (h : codesTo L e k = none) : codesTo L e t = none := by
  induction t with
  | zero =>
    obtain rfl : k = 0 := by omega
    exact h
  | succ t ih =>
    by_cases hkt : k = t + 1
    · subst hkt; exact h
    · have := ih (by omega)
      simp [codesTo, this]
theorem codesTo_le (L : List Int) (e t : Nat) (he : e ≤ L.length) (cs : List (List Ins)) (q : Nat) (h : codesTo L e t = some (cs, q)) : q ≤ L.length ∧ cs.length = t := by
  induction t generalizing cs q with
  | zero => simp [codesTo] at h; obtain ⟨rfl, rfl⟩ := h; exact ⟨he, rfl⟩
  | succ t ih =>
    simp only [codesTo] at h
    cases hc : codesTo L e t with
    | none => rw [hc] at h; simp at h
    | some x =>
      obtain ⟨cs', q'⟩ := x
      rw [hc] at h
      have := ih cs' q' hc
      simp only at h
      split at h
      · cases h
      · rename_i hn
        simp only [Option.some.injEq, Prod.mk.injEq] at h
        obtain ⟨rfl, rfl⟩ := h
        refine ⟨by omega, ?_⟩
        rw [List.length_append, this.2]
        rfl

/-- codes lie in rows of their own -/
def CRows (w : World) (B : Nat) (vs : List Value) (cs : List (List Ins)) : Prop :=
  vs.length = cs.length ∧ ∀ (t : Nat) (v : Value) (c : List Ins), vs[t]? = some v → cs[t]? = some c → w.ownsRow B 72 5 v c.length (c.flatMap Ins.vals) ∧ (∀ i ∈ c, i.ok) ∧ c.length ≤ 65536

/-- what is read of a program -/
def ProgP (r : Nat) (L0 : List Int) (s : Bool) (w : World) (e : Ending) (w' : World) : Prop :=
  ∃ vC vM room vs L' s', e = .returned (.agg #[vC, vM, .int .i64 room]) ∧ (∃ a n c, vC = .slice a n c) ∧ (∃ a n c, vM = .slice a n c) ∧ Rd w' r L' s' ∧ Wr r w w' ∧ w'.ownsRow w.heap.size 65 1 vC vs.length vs ∧ vs.length ≤ 255 ∧
    (s' = true ∧ (s = true ∨ tell L0 = none) ∨
     s' = false ∧ s = false ∧ ∃ cs q, tell L0 = some (cs, q) ∧ L' = L0.drop q ∧ q ≤ L0.length ∧ CRows w' w.heap.size vs cs ∧ w'.ownsRow w.heap.size 39 1 vM (words L0) ((memAt L0 7 (words L0)).map (Value.int .u32)) ∧ room = L0.getD 4 0)

theorem infoC__api_Instr : (Tryz.prog.info? 65).map (fun i => (i.zero, i.size, i.bytes)) = some (some (.slice none 0 0), 1, 24) := by kernel_rfl

abbrev prog0V : Array Value := #[.slice none 0 0, .slice none 0 0, .int .i64 0]

theorem CRows.kept {e : TypeId} {B B' : Nat} {w w' : World} {vs : List Value} {cs : List (List Ins)} (h : CRows w B vs cs) (k : Kept e B' w w') (hne : 72 ≠ e) : CRows w' B vs cs :=
  ⟨h.1, fun t v c hv hc => ⟨k.own hne (h.2 t v c hv hc).1, (h.2 t v c hv hc).2⟩⟩
theorem CRows.wr {r B : Nat} {w w' : World} {vs : List Value} {cs : List (List Ins)} (h : CRows w B vs cs) (k : Wr r w w') (hr : r < B) : CRows w' B vs cs :=
  ⟨h.1, fun t v c hv hc => ⟨own_kept (h.2 t v c hv hc).1 hr k, (h.2 t v c hv hc).2⟩⟩
theorem CRows.snoc {B : Nat} {w : World} {vs : List Value} {cs : List (List Ins)} (h : CRows w B vs cs) {v : Value} {c : List Ins} (hv : w.ownsRow B 72 5 v c.length (c.flatMap Ins.vals)) (ho : ∀ i ∈ c, i.ok) (hl : c.length ≤ 65536) : CRows w B (vs ++ [v]) (cs ++ [c]) := by
  refine ⟨by simp [h.1], fun t v' c' h1 h2 => ?_⟩
  by_cases ht : t < vs.length
  · rw [List.getElem?_append_left ht] at h1
    rw [List.getElem?_append_left (by rw [← h.1]; exact ht)] at h2
    exact h.2 t v' c' h1 h2
  · have hlt : t < (vs ++ [v]).length := (List.getElem?_eq_some_iff.1 h1).1
    obtain rfl : t = vs.length := by simp at hlt; omega
    rw [List.getElem?_append_right (Nat.le_refl _)] at h1
    rw [h.1, List.getElem?_append_right (Nat.le_refl _)] at h2
    simp at h1 h2
    subst h1 h2
    exact ⟨hv, ho, hl⟩

/-- the state of the loop over the threads, behind k of them -/
def PInv (r : Nat) (L0 : List Int) (s : Bool) (w : World) (pb T : Nat) (room : Int) (k : Nat) (wr : World) : Prop :=
  ∃ vC vM vs M t, (∃ a n c, vM = .slice a n c) ∧ wr.heap[pb]? = some (.cells #[vC, vM, .int .i64 room] 27) ∧ wr.ownsRow w.heap.size 65 1 vC k vs ∧ vs.length = k ∧ Rd wr r M t ∧ Wr r w wr ∧ isBytes M ∧ M.length ≤ 1099511627776 ∧
    (t = true ∧ (s = true ∨ tell L0 = none) ∨
     t = false ∧ s = false ∧ ∃ cs q, 7 + 4 * words L0 ≤ L0.length ∧ codesTo L0 (7 + 4 * words L0) k = some (cs, q) ∧ M = L0.drop q ∧ CRows wr w.heap.size vs cs ∧ wr.ownsRow w.heap.size 39 1 vM (words L0) ((memAt L0 7 (words L0)).map (Value.int .u32)) ∧ room = L0.getD 4 0 ∧ T = thr L0)

theorem cntAt_drop (L : List Int) (q i : Nat) : cntAt (L.drop q) i = cntAt L (q + i) := by unfold cntAt; rw [leAt_drop]
theorem codeAt_drop (L : List Int) (q i n : Nat) : codeAt (L.drop q) i n = codeAt L (q + i) n := by
  unfold codeAt
  congr 1
  funext j
  rw [insAt_drop, Nat.add_assoc]
theorem memAt_drop (L : List Int) (q i n : Nat) : memAt (L.drop q) i n = memAt L (q + i) n := by
  unfold memAt
  congr 1
  funext j
  rw [leAt_drop, Nat.add_assoc]

/-- one thread's code is read and gathered -/
theorem pinv_step {r : Nat} {L0 : List Int} {s : Bool} {w wr w2 : World} {pb T : Nat} {room : Int} {k : Nat} {vC vM : Value} {vs : List Value} {M : List Int} {t : Bool} (hrB : r < w.heap.size) (hpb : w.heap.size ≤ pb) (hk : k < T) (hvm : ∃ a n c, vM = .slice a n c)
    (h1 : wr.heap[pb]? = some (.cells #[vC, vM, .int .i64 room] 27)) (h2 : wr.ownsRow w.heap.size 65 1 vC k vs) (h3 : vs.length = k) (h5 : Wr r w wr)
    (h8 : t = true ∧ (s = true ∨ tell L0 = none) ∨ t = false ∧ s = false ∧ ∃ cs q, 7 + 4 * words L0 ≤ L0.length ∧ codesTo L0 (7 + 4 * words L0) k = some (cs, q) ∧ M = L0.drop q ∧ CRows wr w.heap.size vs cs ∧ wr.ownsRow w.heap.size 39 1 vM (words L0) ((memAt L0 7 (words L0)).map (Value.int .u32)) ∧ room = L0.getD 4 0 ∧ T = thr L0)
    (hM : M.length ≤ 1099511627776) {v : Value} (hc : CodeP r M t wr (.returned v) w2) {v' : Value} {w3 : World} (hk3 : Kept 65 w.heap.size w2 w3) (ho3 : w3.ownsRow w.heap.size 65 1 v' (k + 1) (vs ++ [v])) :
    PInv r L0 s w pb T room (k + 1) (w3.setCell ⟨pb, 0, none⟩ v') := by
  obtain ⟨v0, n, xs, M', t', hv, R2, W2, hb2, hle2, hn, hO, hok, hxl, hF⟩ := hc
  obtain rfl : v0 = v := by cases hv; rfl
  have hsz := h5.size
  have hsz2 := W2.size
  have bel3 : Below w.heap.size w2 w3 := hk3.below (by omega)
  have row2 := W2.row (show pb ≠ r by omega) h1
  have row3 := hk3.row (show 27 ≠ 65 by decide) row2
  have row4 := row_set row3 0 v' (by simp)
  have k4 : Kept 27 w.heap.size w3 (w3.setCell ⟨pb, 0, none⟩ v') := Kept.setCell (o := 0) w.heap.size row3 hpb v'
  have bel4 : Below w.heap.size w3 (w3.setCell ⟨pb, 0, none⟩ v') := k4.below (by have := hk3.size; omega)
  refine ⟨v', vM, vs ++ [v0], M', t', hvm, by simpa using row4, k4.own (by decide) ho3, by simp [h3], (R2.below hrB bel3).below hrB bel4, ((h5.trans W2).below bel3).below bel4, hb2, Nat.le_trans hle2 hM, ?_⟩
  have hnone : tell L0 = none ∨ 7 + 4 * words L0 ≤ L0.length → codesTo L0 (7 + 4 * words L0) (k + 1) = none → T = thr L0 → tell L0 = none := by
    intro _ hno hT
    unfold tell
    split
    · rfl
    · split
      · rfl
      · exact codesTo_none L0 _ (k + 1) _ (by omega) hno
  rcases h8 with ⟨rfl, hs⟩ | ⟨rfl, rfl, cs, q, hw, hcs, rfl, hR, hMem, hroom, hT⟩
  · rcases hF with ⟨h, _⟩ | ⟨_, h, _⟩
    · exact .inl ⟨h, hs⟩
    · cases h
  · have hq := codesTo_le L0 _ k hw cs q hcs
    rcases hF with ⟨h, hsh⟩ | ⟨h, _, _, hle, hM', hnn, hxs⟩
    · refine .inl ⟨h, .inr (hnone (.inr hw) ?_ hT)⟩
      simp only [codesTo, hcs]
      rw [cntAt_drop, List.length_drop] at hsh
      rw [if_pos]
      rcases hsh with hsh | hsh | hsh
      · cases hsh
      · left; omega
      · right
        rw [Nat.add_zero] at hsh
        omega
    · rw [cntAt_drop, List.length_drop, Nat.add_zero] at hle
      rw [cntAt_drop, Nat.add_zero] at hM' hnn hxs
      rw [codeAt_drop] at hxs
      refine .inr ⟨h, rfl, cs ++ [codeAt L0 (q + 2) (cntAt L0 q)], q + 2 + 8 * cntAt L0 q, hw, ?_, ?_, ?_, ?_, hroom, hT⟩
      · simp only [codesTo, hcs]
        rw [if_neg (by omega)]
      · rw [hM', List.drop_drop]
        congr 1
        omega
      · subst hxs
        have hR2 := hR.wr W2 hrB
        have hO2 : w2.ownsRow w.heap.size 72 5 v0 (codeAt L0 (q + 2) (cntAt L0 q)).length ((codeAt L0 (q + 2) (cntAt L0 q)).flatMap Ins.vals) := by
          rw [hxl]
          exact own_mono hO hsz
        exact ((hR2.snoc hO2 hok (by omega)).kept hk3 (by decide)).kept k4 (by decide)
      · exact k4.own (by decide) (hk3.own (by decide) (own_kept hMem hrB W2))
end Go.Proofs.YthbenfnanhpcoaaGreatDoor.Cd
