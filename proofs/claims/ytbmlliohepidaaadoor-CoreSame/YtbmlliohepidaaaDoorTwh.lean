/-
  What the walk of CoreSame takes: an input read whole, a yard's box, instructions made, a step beside another yard, where a thread is behind a step. No condition but what each law names.
-/
import Derived.Test.YtbmlliohepidaaaDoorTwo
import Derived.Test.YtbmlliohepidaaaDoorSame
import Derived.Laws.MakeOwn
namespace Go.Proofs.YtbmlliohepidaaaDoor
open Go.ChangeShapes Go.WideShapes Go.ChangeAt Go.RowKit
set_option linter.unusedVariables false
set_option maxRecDepth 20000

theorem take_inp {ops : Array Oper} {S : World → Prop} {op : Oper} {a : Act} (hw : Region.wanted op (yielded ops a.tmps) = true) (x : Operand) (ho : op.op = .load 31 x)
    (g : Nat) (hx : a.eval x = .pointer (some ⟨g, 0, none⟩)) (d : InD) (hS : ∀ w, S w → Has w g (inC d) 31) (hs : ThOk d.t) : YieldsIf Tryd.prog ops S op (.agg (inC d)) a :=
  .inl ⟨hw, fun w hw' => by
    unfold execOp
    simp only [ho, hx, Instr.loadAt, Instr.sureAddr, Sem.run_bind, Sem.run_pure, Result.andThen_ok, run_load_inp hs (hS w hw')]⟩
theorem box_yard {o : Oper} {a : Act} {w : World} (p : Yg) (d : InD) (x : Operand) (ho : o.op = .box 43 x) (hx : a.eval x = .agg (p.A d)) :
    (execOp a.eval o).run Tryd.prog w = .ok (.value (.pointer (some ⟨w.heap.size, 0, none⟩))) (w.alloc (.cells (p.A d) 43)) := by
  unfold execOp
  simp only [ho, hx]
  go_simp

theorem made_ins (n : Nat) : madeCells (Value.cells (.agg #[.int .i64 0, .int .i64 0, .int .i64 0, .int .i64 0, .int .u32 0])) (n * 5) = (flatOf insL (List.replicate n ins0)).toArray := by
  have hl : (flatOf insL (List.replicate n ins0)).length = n * 5 := by rw [flatOf_length insL_len, List.length_replicate]
  refine Array.ext (by rw [size_madeCells, List.size_toArray, hl]) fun i h1 h2 => ?_
  rw [size_madeCells] at h1
  obtain ⟨q, r, rfl, hq, hr⟩ : ∃ q r, i = q * 5 + r ∧ q < n ∧ r < 5 := ⟨i / 5, i % 5, (Nat.div_add_mod' i 5).symm, by omega, Nat.mod_lt _ (by omega)⟩
  have h3 := flatOf_get insL_len (List.replicate n ins0) q r ins0 (by simpa using hq) hr
  have e : (List.replicate n ins0).getD q ins0 = ins0 := by simp [List.getD_eq_getElem?_getD, hq]
  rw [e] at h3
  have h4 : (flatOf insL (List.replicate n ins0))[q * 5 + r]? = some ((flatOf insL (List.replicate n ins0)).toArray[q * 5 + r]) := by
    simp only [List.getElem_toArray]
    exact List.getElem?_eq_getElem _
  rw [h4] at h3
  have hm : (q * 5 + r) % 5 = r := by omega
  have h5 : (madeCells (Value.cells (.agg #[.int .i64 0, .int .i64 0, .int .i64 0, .int .i64 0, .int .u32 0])) (n * 5))[q * 5 + r]'(by rw [size_madeCells]; exact h1) = (Value.cells (.agg #[.int .i64 0, .int .i64 0, .int .i64 0, .int .i64 0, .int .u32 0]))[r]! := by
    simp only [madeCells, Array.getElem_map, Array.getElem_range]
    show _[(q * 5 + r) % 5]! = _
    rw [hm]
  rw [h5]
  have : r = 0 ∨ r = 1 ∨ r = 2 ∨ r = 3 ∨ r = 4 := by omega
  rcases this with rfl | rfl | rfl | rfl | rfl
  all_goals
    have h6 := Option.some.inj h3
    rw [h6]
    rfl
theorem make_ins (w : World) (n : Nat) (hn : n ≤ 300) : (Instr.makeSlice 26 (.int .i64 n) (.int .i64 n)).run Tryd.prog w = .ok (.slice (some ⟨w.heap.size, 0, none⟩) n n) (w.alloc (.cells (flatOf insL (List.replicate n ins0)).toArray 54)) := by
  obtain ⟨i, h1, h2, h3, h4⟩ := info_parts infoIns
  have := run_make (P := Tryd.prog) w 26 54 i (.agg #[.int .i64 0, .int .i64 0, .int .i64 0, .int .i64 0, .int .u32 0]) Tryd.underlying26 h1 h2 .i64 .i64 n n (by omega) (Int.le_refl _) (by rw [h4]; omega) (by omega)
  rw [h3] at this
  rw [Int.toNat_natCast, made_ins] at this
  exact this
theorem own_ins (w : World) (n : Nat) (hn : n ≤ 300) : InssO (w.alloc (.cells (flatOf insL (List.replicate n ins0)).toArray 54)) w.heap.size (.slice (some ⟨w.heap.size, 0, none⟩) n n) (List.replicate n ins0) := by
  have hl : (flatOf insL (List.replicate n ins0)).length = n * 5 := by rw [flatOf_length insL_len, List.length_replicate]
  refine ⟨by rw [List.length_replicate]; exact hl, .inr ⟨w.heap.size, n, _, by simp, Nat.le_refl _, Has.new w _ _, by simp, by unfold maxLen; omega, by simp [hl], ?_⟩⟩
  rw [List.length_replicate, ← hl, List.take_length]

/-- a step beside another yard, which is still ahead of its port -/
theorem step_two {d : InD} {w : World} {p q : Yg} {y z n : Nat} {u x6 : World} {k : Yc} {v1 v2 v3 : Value} (YD : Yd ((p.k d y).boxes n) (ys0 d) p.vbuf p.vs (.slice none 0 0) p.B u) (y2 : Y1 d q z u)
    (hn : ∀ x ∈ z :: q.pt, x < n) (hnu : n ≤ u.heap.size) (ap : ∀ x ∈ y :: p.pt, x ∉ z :: q.pt) (lo : ∀ x ∈ y :: p.pt, w.heap.size ≤ x) (hnw : w.heap.size ≤ n) (K : Kp (foot ((p.k d y).boxes n) p.vbuf p.vs (.slice none 0 0)) u x6) (G : Gr w u)
    (sub : ∀ x ∈ foot k v1 v2 v3, x ∈ foot ((p.k d y).boxes n) p.vbuf p.vs (.slice none 0 0) ∨ u.heap.size ≤ x) : Gr w x6 ∧ Y1 d q z x6 ∧ ∀ x ∈ foot k v1 v2 v3, x ∉ z :: q.pt := by
  have f1 : ∀ x ∈ foot ((p.k d y).boxes n) p.vbuf p.vs (.slice none 0 0), x ∉ z :: q.pt := by
    intro x hx hz
    rcases foot_of hx with h | h
    · exact ap x h hz
    · have := hn x hz
      omega
  refine ⟨K.gr G fun x hx => ?_, Y1.kept y2 K YD.pos (fun x hx h => f1 x h hx), fun x hx hz => ?_⟩
  · rcases foot_of hx with h | h
    · exact lo x h
    · omega
  · rcases sub x hx with h | h
    · exact f1 x h hz
    · have := hn x hz
      omega

/-- where a thread is behind a step that is no jump -/
theorem asked_pc {S : Type} (M : Prt S) (t : Th) (i : Ins) (s : S) : (askedM M t i s).1.pc = t.pc := by
  unfold askedM
  split
  · rfl
  split
  · rfl
  split
  · unfold waitedM
    split <;> rfl
  split
  · rfl
  · rfl
theorem alone_pc {S : Type} (M : Prt S) (t : Th) (i : Ins) (s : S) : (aloneM M t i s).1.pc = t.pc := by
  unfold aloneM
  split
  · rfl
  split
  · rfl
  split
  · rfl
  split
  · rfl
  split
  · rfl
  split
  · rfl
  · rfl
theorem step_pc {S : Type} (M : Prt S) (t : Th) (code : List Ins) (s : S) (hp : 0 ≤ t.pc ∧ t.pc < code.length) (hj : ∀ i ∈ code, jumpB i.op = false) : (stepM M t code s).1.pc = t.pc ∨ (stepM M t code s).1.pc = t.pc + 1 := by
  unfold stepM
  split
  · exact .inl rfl
  split
  · exact .inl rfl
  have hl : t.pc.toNat < code.length := by omega
  have hji : jumpB (code.getD t.pc.toNat ins0).op = false := by
    rw [List.getD_eq_getElem?_getD, List.getElem?_eq_getElem hl]
    exact hj _ (List.getElem_mem hl)
  unfold atM
  split
  · exact .inl rfl
  split
  · exact .inl rfl
  unfold doneM
  split
  · exact .inl rfl
  rw [if_neg (by rw [hji]; simp)]
  refine .inr ?_
  show (ite (askB _ = true) (askedM M t _ s) (ite (aluB _ = true) (t.put _ _, s) (aloneM M t _ s))).1.pc + 1 = t.pc + 1
  congr 1
  split
  · exact asked_pc M t _ s
  split
  · rfl
  · exact alone_pc M t _ s
/-- a step adds at most one entry, and one sleeper -/
def Bd (s s' : Ys) : Prop := s'.buf.length ≤ s.buf.length + 1 ∧ s'.slp.length ≤ s.slp.length + 1
theorem Bd.refl (s : Ys) : Bd s s := ⟨by omega, by omega⟩
theorem asked_lens (n : Int) (t : Th) (i : Ins) (s : Ys) : Bd s (askedM (yardM n) t i s).2 := by
  unfold askedM
  split
  · exact Bd.refl s
  split
  · exact ⟨by show (s.buf ++ [_]).length ≤ _; simp, by show s.slp.length ≤ _; omega⟩
  split
  · unfold waitedM
    split
    · exact ⟨by show s.buf.length ≤ _; omega, by show (s.slp ++ [_]).length ≤ _; simp⟩
    · exact Bd.refl s
  split
  · refine ⟨by show s.buf.length ≤ _; omega, ?_⟩
    show (siftS (addrM t i) (t.reg i.a).toNat s.slp).left.length ≤ _
    have := (siftS_len (addrM t i) (t.reg i.a).toNat s.slp).1
    omega
  · unfold swappedM swapM
    by_cases h : (insteadM t i ((yardM n).load s (addrM t i))).2 = true
    · rw [if_pos h]
      exact Bd.refl s
    · rw [if_neg h]
      exact Bd.refl s
theorem alone_lens (n : Int) (t : Th) (i : Ins) (s : Ys) : Bd s (aloneM (yardM n) t i s).2 := by
  unfold aloneM
  split
  · exact Bd.refl s
  split
  · exact Bd.refl s
  split
  · exact Bd.refl s
  split
  · exact Bd.refl s
  split
  · exact Bd.refl s
  split
  · exact Bd.refl s
  · exact Bd.refl s
theorem step_lens (n : Int) (t : Th) (code : List Ins) (s : Ys) : Bd s (stepM (yardM n) t code s).2 := by
  unfold stepM
  split
  · exact Bd.refl s
  split
  · exact Bd.refl s
  unfold atM
  split
  · exact Bd.refl s
  split
  · show Bd s (s.ask 102).flush
    cases h : s.buf with
    | nil => exact ⟨by simp [Ys.flush, Ys.ask, h], by simp [Ys.flush, Ys.ask, h]⟩
    | cons x l => exact ⟨by simp [Ys.flush, Ys.ask, h]; omega, by simp [Ys.flush, Ys.ask, h]⟩
  unfold doneM
  split
  · exact Bd.refl s
  split
  · exact Bd.refl s
  show Bd s (ite (askB _ = true) (askedM (yardM n) t _ s) (ite (aluB _ = true) (t.put _ _, s) (aloneM (yardM n) t _ s))).2
  split
  · exact asked_lens n t _ s
  split
  · exact Bd.refl s
  · exact alone_lens n t _ s
theorem more_ok {ah : Nat} {code more : List Ins} (h1 : ∀ i ∈ code, InsOk i) (h2 : ∀ i ∈ more, InsOk i) : ∀ i ∈ moreC ah code more, InsOk i := by
  intro i hi
  unfold moreC at hi
  rcases List.mem_append.1 hi with hi | hi
  · rcases List.mem_append.1 hi with hi | hi
    · rw [List.eq_of_mem_replicate hi]
      exact ⟨by decide, by decide⟩
    · exact h1 i hi
  · exact h2 i hi
end Go.Proofs.YtbmlliohepidaaaDoor
