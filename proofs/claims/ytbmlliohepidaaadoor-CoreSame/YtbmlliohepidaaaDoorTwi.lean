/-
  What the walk of CoreSame takes: an input read whole, a yard's box, instructions made, a step beside another yard, where a thread is behind a step. No condition but what each law names.
-/
import Derived.Test.YtbmlliohepidaaaDoorTwo
import Derived.Test.YtbmlliohepidaaaDoorSame
import Derived.Laws.MakeOwn
import Derived.Test.YtbmlliohepidaaaDoorWrd0
import Derived.Laws.StructEq
namespace Go.Proofs.YtbmlliohepidaaaDoor
open Go.ChangeShapes Go.WideShapes Go.ChangeAt Go.RowKit
set_option linter.unusedVariables false
set_option maxRecDepth 20000

theorem take_inp {ops : Array Oper} {S : World → Prop} {op : Oper} {a : Act} (hw : Region.wanted op (yielded ops a.tmps) = true) (x : Operand) (ho : op.op = .load 31 x)
    (g : Nat) (hx : a.eval x = .pointer (some ⟨g, 0, none⟩)) (d : InD) (hS : ∀ w, S w → Has w g (inC d) 31) (hs : ThOk d.t) : YieldsIf Tryd.prog ops S op (.agg (inC d)) a :=
  .inl ⟨hw, fun w hw' => by
    unfold execOp
    simp only [ho, hx, Instr.loadAt, Instr.sureAddr, Sem.run_bind, Sem.run_pure, Result.andThen_ok, run_load_inp hs (hS w hw')]⟩
theorem box_yard {o : Oper} {a : Act} {w : World} (p : Yg) (d : InD) (x : Operand) (ho : o.op = .box 43 x) (hx : a.eval x = .agg (p.A d)) :
    (execOp a.eval o).run Tryd.prog w = .ok (.value (.pointer (some ⟨w.heap.size, 0, none⟩))) (w.alloc (.cells (p.A d) 43)) := by
  unfold execOp
  simp only [ho, hx]
  go_simp

theorem made_ins (n : Nat) : madeCells (Value.cells (.agg #[.int .i64 0, .int .i64 0, .int .i64 0, .int .i64 0, .int .u32 0])) (n * 5) = (flatOf insL (List.replicate n ins0)).toArray := by
  have hl : (flatOf insL (List.replicate n ins0)).length = n * 5 := by rw [flatOf_length insL_len, List.length_replicate]
  refine Array.ext (by rw [size_madeCells, List.size_toArray, hl]) fun i h1 h2 => ?_
  rw [size_madeCells] at h1
  obtain ⟨q, r, rfl, hq, hr⟩ : ∃ q r, i = q * 5 + r ∧ q < n ∧ r < 5 := ⟨i / 5, i % 5, (Nat.div_add_mod' i 5).symm, by omega, Nat.mod_lt _ (by omega)⟩
  have h3 := flatOf_get insL_len (List.replicate n ins0) q r ins0 (by simpa using hq) hr
  have e : (List.replicate n ins0).getD q ins0 = ins0 := by simp [List.getD_eq_getElem?_getD, hq]
  rw [e] at h3
  have h4 : (flatOf insL (List.replicate n ins0))[q * 5 + r]? = some ((flatOf insL (List.replicate n ins0)).toArray[q * 5 + r]) := by
    simp only [List.getElem_toArray]
    exact List.getElem?_eq_getElem _
  rw [h4] at h3
  have hm : (q * 5 + r) % 5 = r := by omega
  have h5 : (madeCells (Value.cells (.agg #[.int .i64 0, .int .i64 0, .int .i64 0, .int .i64 0, .int .u32 0])) (n * 5))[q * 5 + r]'(by rw [size_madeCells]; exact h1) = (Value.cells (.agg #[.int .i64 0, .int .i64 0, .int .i64 0, .int .i64 0, .int .u32 0]))[r]! := by
    simp only [madeCells, Array.getElem_map, Array.getElem_range]
    show _[(q * 5 + r) % 5]! = _
    rw [hm]
  rw [h5]
  have : r = 0 ∨ r = 1 ∨ r = 2 ∨ r = 3 ∨ r = 4 := by omega
  rcases this with rfl | rfl | rfl | rfl | rfl
  all_goals
    have h6 := Option.some.inj h3
    rw [h6]
    rfl
theorem make_ins (w : World) (n : Nat) (hn : n ≤ 300) : (Instr.makeSlice 26 (.int .i64 n) (.int .i64 n)).run Tryd.prog w = .ok (.slice (some ⟨w.heap.size, 0, none⟩) n n) (w.alloc (.cells (flatOf insL (List.replicate n ins0)).toArray 54)) := by
  obtain ⟨i, h1, h2, h3, h4⟩ := info_parts infoIns
  have := run_make (P := Tryd.prog) w 26 54 i (.agg #[.int .i64 0, .int .i64 0, .int .i64 0, .int .i64 0, .int .u32 0]) Tryd.underlying26 h1 h2 .i64 .i64 n n (by omega) (Int.le_refl _) (by rw [h4]; omega) (by omega)
  rw [h3] at this
  rw [Int.toNat_natCast, made_ins] at this
  exact this
theorem own_ins (w : World) (n : Nat) (hn : n ≤ 300) : InssO (w.alloc (.cells (flatOf insL (List.replicate n ins0)).toArray 54)) w.heap.size (.slice (some ⟨w.heap.size, 0, none⟩) n n) (List.replicate n ins0) := by
  have hl : (flatOf insL (List.replicate n ins0)).length = n * 5 := by rw [flatOf_length insL_len, List.length_replicate]
  refine ⟨by rw [List.length_replicate]; exact hl, .inr ⟨w.heap.size, n, _, by simp, Nat.le_refl _, Has.new w _ _, by simp, by unfold maxLen; omega, by simp [hl], ?_⟩⟩
  rw [List.length_replicate, ← hl, List.take_length]

/-- a step beside another yard, which is still ahead of its port -/
theorem step_two {d : InD} {w : World} {p q : Yg} {y z n : Nat} {u x6 : World} {k : Yc} {v1 v2 v3 : Value} (YD : Yd ((p.k d y).boxes n) (ys0 d) p.vbuf p.vs (.slice none 0 0) p.B u) (y2 : Y1 d q z u)
    (hn : ∀ x ∈ z :: q.pt, x < n) (hnu : n ≤ u.heap.size) (ap : ∀ x ∈ y :: p.pt, x ∉ z :: q.pt) (lo : ∀ x ∈ y :: p.pt, w.heap.size ≤ x) (hnw : w.heap.size ≤ n) (K : Kp (foot ((p.k d y).boxes n) p.vbuf p.vs (.slice none 0 0)) u x6) (G : Gr w u)
    (sub : ∀ x ∈ foot k v1 v2 v3, x ∈ foot ((p.k d y).boxes n) p.vbuf p.vs (.slice none 0 0) ∨ u.heap.size ≤ x) : Gr w x6 ∧ Y1 d q z x6 ∧ ∀ x ∈ foot k v1 v2 v3, x ∉ z :: q.pt := by
  have f1 : ∀ x ∈ foot ((p.k d y).boxes n) p.vbuf p.vs (.slice none 0 0), x ∉ z :: q.pt := by
    intro x hx hz
    rcases foot_of hx with h | h
    · exact ap x h hz
    · have := hn x hz
      omega
  refine ⟨K.gr G fun x hx => ?_, Y1.kept y2 K YD.pos (fun x hx h => f1 x h hx), fun x hx hz => ?_⟩
  · rcases foot_of hx with h | h
    · exact lo x h
    · omega
  · rcases sub x hx with h | h
    · exact f1 x h hz
    · have := hn x hz
      omega

/-- where a thread is behind a step that is no jump -/
theorem asked_pc {S : Type} (M : Prt S) (t : Th) (i : Ins) (s : S) : (askedM M t i s).1.pc = t.pc := by
  unfold askedM
  split
  · rfl
  split
  · rfl
  split
  · unfold waitedM
    split <;> rfl
  split
  · rfl
  · rfl
theorem alone_pc {S : Type} (M : Prt S) (t : Th) (i : Ins) (s : S) : (aloneM M t i s).1.pc = t.pc := by
  unfold aloneM
  split
  · rfl
  split
  · rfl
  split
  · rfl
  split
  · rfl
  split
  · rfl
  split
  · rfl
  · rfl
theorem step_pc {S : Type} (M : Prt S) (t : Th) (code : List Ins) (s : S) (hp : 0 ≤ t.pc ∧ t.pc < code.length) (hj : ∀ i ∈ code, jumpB i.op = false) : (stepM M t code s).1.pc = t.pc ∨ (stepM M t code s).1.pc = t.pc + 1 := by
  unfold stepM
  split
  · exact .inl rfl
  split
  · exact .inl rfl
  have hl : t.pc.toNat < code.length := by omega
  have hji : jumpB (code.getD t.pc.toNat ins0).op = false := by
    rw [List.getD_eq_getElem?_getD, List.getElem?_eq_getElem hl]
    exact hj _ (List.getElem_mem hl)
  unfold atM
  split
  · exact .inl rfl
  split
  · exact .inl rfl
  unfold doneM
  split
  · exact .inl rfl
  rw [if_neg (by rw [hji]; simp)]
  refine .inr ?_
  show (ite (askB _ = true) (askedM M t _ s) (ite (aluB _ = true) (t.put _ _, s) (aloneM M t _ s))).1.pc + 1 = t.pc + 1
  congr 1
  split
  · exact asked_pc M t _ s
  split
  · rfl
  · exact alone_pc M t _ s
/-- a step adds at most one entry, and one sleeper -/
def Bd (s s' : Ys) : Prop := s'.buf.length ≤ s.buf.length + 1 ∧ s'.slp.length ≤ s.slp.length + 1
theorem Bd.refl (s : Ys) : Bd s s := ⟨by omega, by omega⟩
theorem asked_lens (n : Int) (t : Th) (i : Ins) (s : Ys) : Bd s (askedM (yardM n) t i s).2 := by
  unfold askedM
  split
  · exact Bd.refl s
  split
  · exact ⟨by show (s.buf ++ [_]).length ≤ _; simp, by show s.slp.length ≤ _; omega⟩
  split
  · unfold waitedM
    split
    · exact ⟨by show s.buf.length ≤ _; omega, by show (s.slp ++ [_]).length ≤ _; simp⟩
    · exact Bd.refl s
  split
  · refine ⟨by show s.buf.length ≤ _; omega, ?_⟩
    show (siftS (addrM t i) (t.reg i.a).toNat s.slp).left.length ≤ _
    have := (siftS_len (addrM t i) (t.reg i.a).toNat s.slp).1
    omega
  · unfold swappedM swapM
    by_cases h : (insteadM t i ((yardM n).load s (addrM t i))).2 = true
    · rw [if_pos h]
      exact Bd.refl s
    · rw [if_neg h]
      exact Bd.refl s
theorem alone_lens (n : Int) (t : Th) (i : Ins) (s : Ys) : Bd s (aloneM (yardM n) t i s).2 := by
  unfold aloneM
  split
  · exact Bd.refl s
  split
  · exact Bd.refl s
  split
  · exact Bd.refl s
  split
  · exact Bd.refl s
  split
  · exact Bd.refl s
  split
  · exact Bd.refl s
  · exact Bd.refl s
theorem step_lens (n : Int) (t : Th) (code : List Ins) (s : Ys) : Bd s (stepM (yardM n) t code s).2 := by
  unfold stepM
  split
  · exact Bd.refl s
  split
  · exact Bd.refl s
  unfold atM
  split
  · exact Bd.refl s
  split
  · show Bd s (s.ask 102).flush
    cases h : s.buf with
    | nil => exact ⟨by simp [Ys.flush, Ys.ask, h], by simp [Ys.flush, Ys.ask, h]⟩
    | cons x l => exact ⟨by simp [Ys.flush, Ys.ask, h]; omega, by simp [Ys.flush, Ys.ask, h]⟩
  unfold doneM
  split
  · exact Bd.refl s
  split
  · exact Bd.refl s
  show Bd s (ite (askB _ = true) (askedM (yardM n) t _ s) (ite (aluB _ = true) (t.put _ _, s) (aloneM (yardM n) t _ s))).2
  split
  · exact asked_lens n t _ s
  split
  · exact Bd.refl s
  · exact alone_lens n t _ s
theorem more_ok {ah : Nat} {code more : List Ins} (h1 : ∀ i ∈ code, InsOk i) (h2 : ∀ i ∈ more, InsOk i) : ∀ i ∈ moreC ah code more, InsOk i := by
  intro i hi
  unfold moreC at hi
  rcases List.mem_append.1 hi with hi | hi
  · rcases List.mem_append.1 hi with hi | hi
    · rw [List.eq_of_mem_replicate hi]
      exact ⟨by decide, by decide⟩
    · exact h1 i hi
  · exact h2 i hi
end Go.Proofs.YtbmlliohepidaaaDoor

namespace Go.Proofs.YtbmlliohepidaaaDoor
open Go.ChangeShapes Go.WideShapes Go.ChangeAt Go.RowKit
set_option linter.unusedVariables false

/-- where a world's parts lie -/
structure Sw where
  cs : Value
  ths : Value
  gb : Nat
  nb : Nat
  cb : Nat
  ma : Option Addr
  mc : Nat
  room : Int
  sa : Option Addr
  sc : Nat
  ve : Value
  ba : Option Addr
  bc : Nat
abbrev Sw.C (x : Sw) (m s : Nat) : Array Value := worA x.cs x.ths (.slice (some ⟨x.gb, 0, none⟩) x.nb x.cb) (.slice x.ma m x.mc) x.room (.slice x.sa s x.sc) x.ve
structure SwOk (x : Sw) (mem : List Int) (buf slp : List Ent) (w : World) : Prop where
  nb : 0 < x.nb
  hb : w.cell? ⟨x.gb, 0, none⟩ = some (.slice x.ba buf.length x.bc)
  rm : RowAt w x.ma (flatOf wordL mem)
  rb : RowAt w x.ba (flatOf entL buf)
  rs : RowAt w x.sa (flatOf slpL slp)
theorem SwOk.later {x : Sw} {mem : List Int} {buf slp : List Ent} {w w' : World} (h : SwOk x mem buf slp w) (k : Gr w w') : SwOk x mem buf slp w' :=
  ⟨h.nb, (Below.cell k (World.block_lt_of_cell? w _ h.hb)).trans h.hb, h.rm.later k, h.rb.later k, h.rs.later k⟩
/-- the two in their boxes -/
structure Sw2 (x y : Sw) (g j : Nat) (mem : List Int) (buf slp : List Ent) (w u : World) : Prop where
  gr : Gr w u
  hx : Has u g (x.C mem.length slp.length) 40
  hy : Has u j (y.C mem.length slp.length) 40
  ox : SwOk x mem buf slp u
  oy : SwOk y mem buf slp u
theorem Sw2.later {x y : Sw} {g j : Nat} {mem : List Int} {buf slp : List Ent} {w u u' : World} (h : Sw2 x y g j mem buf slp w u) (k : Gr u u') : Sw2 x y g j mem buf slp w u' :=
  ⟨h.gr.trans k, h.hx.later k, h.hy.later k, h.ox.later k, h.oy.later k⟩

set_option maxRecDepth 20000 in
set_option maxHeartbeats 1000000 in
theorem sameWorld_calls (x y : Sw) (mem : List Int) (buf slp : List Ent) (w : World) (hx : SwOk x mem buf slp w) (hy : SwOk y mem buf slp w) (hm : mem.length ≤ 1000) (hb : buf.length ≤ 1000) (hs : slp.length ≤ 1000) :
    Calls Tryd.prog 14 #[.agg (x.C mem.length slp.length), .agg (y.C mem.length slp.length)] w fun e w' => e = .returned (.bool true) ∧ Gr w w' := by
  have S2 : Sw2 x y w.heap.size (w.heap.size + 1) mem buf slp w ((w.alloc (.cells (x.C mem.length slp.length) 40)).alloc (.cells (y.C mem.length slp.length) 40)) := by
    have g := ((Gr.refl w).alloc (x.C mem.length slp.length) 40).alloc (y.C mem.length slp.length) 40
    refine ⟨g, (Has.new w _ _).alloc _ _, ?_, hx.later g, hy.later g⟩
    have := Has.new (w.alloc (.cells (x.C mem.length slp.length) 40)) (y.C mem.length slp.length) 40
    rwa [size1] at this
  have hm' : (mem.length : Int) ≤ 1000 := by omega
  have hb' : (buf.length : Int) ≤ 1000 := by omega
  have hs' : (slp.length : Int) ≤ 1000 := by omega
  have nbx : (0 : Int) < x.nb := by have := hx.nb; omega
  have nby : (0 : Int) < y.nb := by have := hy.nb; omega
  clear hx hy
  go_enter Tryd.func14, Tryd.ntmps14
  go_wp2_with (fail)
  generalize ((w.alloc (.cells (x.C mem.length slp.length) 40)).alloc (.cells (y.C mem.length slp.length) 40)) = u0 at S2 ⊢
  generalize w.heap.size = g at S2 ⊢
  have a3 := S2.hx.cell (o := 3) (v := .slice x.ma mem.length x.mc) rfl
  have a2 := S2.hx.cell (o := 2) (v := .slice (some ⟨x.gb, 0, none⟩) x.nb x.cb) rfl
  have a5 := S2.hx.cell (o := 5) (v := .slice x.sa slp.length x.sc) rfl
  have b3 := S2.hy.cell (o := 3) (v := .slice y.ma mem.length y.mc) rfl
  have b2 := S2.hy.cell (o := 2) (v := .slice (some ⟨y.gb, 0, none⟩) y.nb y.cb) rfl
  have b5 := S2.hy.cell (o := 5) (v := .slice y.sa slp.length y.sc) rfl
  have ab := S2.ox.hb
  have bb := S2.oy.hb
  have SS := hide S2
  clear S2
  go_quiet (fail)
  replace SS := hide (SS.out.later ((Gr.refl u0).drewN nq))
  clear a2 a3 a5 b2 b3 b5 ab bb
  generalize u0.drewN nq = u1 at SS ⊢
  go_wp2_with (fail)
  go_loopw [5] (fun i wr => ∃ k : Nat, k ≤ mem.length ∧ i = .int .i64 k ∧ Hid (Sw2 x y g (g + 1) mem buf slp w wr)) (fun i _ => mem.length - (intOf i).toNat)
  case atStart => exact ⟨0, by omega, rfl, SS⟩
  case round =>
    clear SS
    obtain ⟨k, hk, rfl, SS⟩ := hrel
    have a3 := SS.out.hx.cell (o := 3) (v := .slice x.ma mem.length x.mc) rfl
    by_cases hlt : k < mem.length
    · have hlt' : (k : Int) < (mem.length : Int) := by omega
      have b3 := SS.out.hy.cell (o := 3) (v := .slice y.ma mem.length y.mc) rfl
      have hlen : 0 < (flatOf wordL mem).length := by rw [flatOf_length wordL_len]; omega
      obtain ⟨a1, o1, ha1, -⟩ := SS.out.ox.rm.get hlen
      obtain ⟨a2, o2, ha2, -⟩ := SS.out.oy.rm.get hlen
      have r1 := SS.out.ox.rm
      have r2 := SS.out.oy.rm
      rw [ha1] at r1 a3
      rw [ha2] at r2 b3
      have c1 : wr.cell? ⟨a1, o1 + k, none⟩ = some (.int .u32 (mem.getD k 0)) := by
        have := r1.cell wordL_len hlt 0 0 (by omega)
        simpa [wordL] using this
      have c2 : wr.cell? ⟨a2, o2 + k, none⟩ = some (.int .u32 (mem.getD k 0)) := by
        have := r2.cell wordL_len hlt 0 0 (by omega)
        simpa [wordL] using this
      clear r1 r2 hlen
      generalize mem.getD k 0 = v at c1 c2
      have hv : (v != v) = false := by simp
      go_wp2_with (fail)
      go_quiet (fail)
      replace SS := hide (SS.out.later ((Gr.refl wr).drewN nq))
      clear a3 b3 c1 c2
      generalize wr.drewN nq = wr2 at SS ⊢
      go_wp2_with (fail)
      go_roundw
      case rel => exact ⟨k + 1, by omega, by go_num, SS⟩
      case measure => simp [intOf]; omega
    · have hlt' : decide ((k : Int) < (mem.length : Int)) = false := by simp; omega
      clear hk
      go_wp2_with (fail)
      clear a3
      go_loopw [6] (fun i wr => ∃ k : Nat, k ≤ buf.length ∧ i = .int .i64 k ∧ Hid (Sw2 x y g (g + 1) mem buf slp w wr)) (fun i _ => buf.length - (intOf i).toNat)
      case atStart => exact ⟨0, by omega, rfl, SS⟩
      case round =>
        clear SS hlt'
        obtain ⟨k2, hk, rfl, SS⟩ := hrel
        have a2 := SS.out.hx.cell (o := 2) (v := .slice (some ⟨x.gb, 0, none⟩) x.nb x.cb) rfl
        have ab := SS.out.ox.hb
        by_cases hlt : k2 < buf.length
        · have hlt' : (k2 : Int) < (buf.length : Int) := by omega
          have b2 := SS.out.hy.cell (o := 2) (v := .slice (some ⟨y.gb, 0, none⟩) y.nb y.cb) rfl
          have bb := SS.out.oy.hb
          have hlen : 0 < (flatOf entL buf).length := by rw [flatOf_length entL_len]; omega
          obtain ⟨a1, o1, ha1, -⟩ := SS.out.ox.rb.get hlen
          obtain ⟨a3, o3, ha3, -⟩ := SS.out.oy.rb.get hlen
          have r1 := SS.out.ox.rb
          have r2 := SS.out.oy.rb
          rw [ha1] at r1 ab
          rw [ha3] at r2 bb
          have c1 : wr.cell? ⟨a1, o1 + k2 * 2, none⟩ = some (.int .i64 (buf.getD k2 ent0).a) := r1.cell entL_len hlt ent0 0 (by omega)
          have c2 : wr.cell? ⟨a1, o1 + k2 * 2 + 1, none⟩ = some (.int .u32 (buf.getD k2 ent0).v) := by rw [Nat.add_assoc]; exact r1.cell entL_len hlt ent0 1 (by omega)
          have c3 : wr.cell? ⟨a3, o3 + k2 * 2, none⟩ = some (.int .i64 (buf.getD k2 ent0).a) := r2.cell entL_len hlt ent0 0 (by omega)
          have c4 : wr.cell? ⟨a3, o3 + k2 * 2 + 1, none⟩ = some (.int .u32 (buf.getD k2 ent0).v) := by rw [Nat.add_assoc]; exact r2.cell entL_len hlt ent0 1 (by omega)
          clear r1 r2 hlen
          generalize buf.getD k2 ent0 = v at c1 c2 c3 c4
          go_wp2_with (fail)
          go_quiet (fail)
          replace SS := hide (SS.out.later ((Gr.refl wr).drewN nq))
          clear a2 b2 ab bb c1 c2 c3 c4
          generalize wr.drewN nq = wr2 at SS ⊢
          go_wp2_with (fail)
          go_roundw
          case rel => exact ⟨k2 + 1, by omega, by go_num, SS⟩
          case measure => simp [intOf]; omega
        · have hlt' : decide ((k2 : Int) < (buf.length : Int)) = false := by simp; omega
          clear hk
          go_wp2_with (fail)
          clear a2 ab
          go_loopw [7] (fun i wr => ∃ k : Nat, k ≤ slp.length ∧ i = .int .i64 k ∧ Hid (Sw2 x y g (g + 1) mem buf slp w wr)) (fun i _ => slp.length - (intOf i).toNat)
          case atStart => exact ⟨0, by omega, rfl, SS⟩
          case round =>
            clear SS hlt'
            obtain ⟨k3, hk, rfl, SS⟩ := hrel
            have a5 := SS.out.hx.cell (o := 5) (v := .slice x.sa slp.length x.sc) rfl
            by_cases hlt : k3 < slp.length
            · have hlt' : (k3 : Int) < (slp.length : Int) := by omega
              have b5 := SS.out.hy.cell (o := 5) (v := .slice y.sa slp.length y.sc) rfl
              have hlen : 0 < (flatOf slpL slp).length := by rw [flatOf_length slpL_len]; omega
              obtain ⟨a1, o1, ha1, -⟩ := SS.out.ox.rs.get hlen
              obtain ⟨a3, o3, ha3, -⟩ := SS.out.oy.rs.get hlen
              have r1 := SS.out.ox.rs
              have r2 := SS.out.oy.rs
              rw [ha1] at r1 a5
              rw [ha3] at r2 b5
              have c1 : wr.cell? ⟨a1, o1 + k3 * 2, none⟩ = some (.int .i64 (slp.getD k3 ent0).a) := r1.cell slpL_len hlt ent0 0 (by omega)
              have c2 : wr.cell? ⟨a1, o1 + k3 * 2 + 1, none⟩ = some (.int .i64 (slp.getD k3 ent0).v) := by rw [Nat.add_assoc]; exact r1.cell slpL_len hlt ent0 1 (by omega)
              have c3 : wr.cell? ⟨a3, o3 + k3 * 2, none⟩ = some (.int .i64 (slp.getD k3 ent0).a) := r2.cell slpL_len hlt ent0 0 (by omega)
              have c4 : wr.cell? ⟨a3, o3 + k3 * 2 + 1, none⟩ = some (.int .i64 (slp.getD k3 ent0).v) := by rw [Nat.add_assoc]; exact r2.cell slpL_len hlt ent0 1 (by omega)
              clear r1 r2 hlen ha1 ha3
              generalize slp.getD k3 ent0 = v at c1 c2 c3 c4
              obtain ⟨v1, v2⟩ := v
              have q1 : (v1 != v1) = false := by simp
              have q2 : (v2 != v2) = false := by simp
              go_wp2_with (fail)
              go_quiet (fail)
              replace SS := hide (SS.out.later ((Gr.refl wr).drewN nq))
              clear a5 b5 c1 c2 c3 c4
              generalize wr.drewN nq = wr2 at SS ⊢
              go_wp2_with (fail)
              go_roundw
              case rel => exact ⟨k3 + 1, by omega, by go_num, SS⟩
              case measure => simp [intOf]; omega
            · have hlt' : decide ((k3 : Int) < (slp.length : Int)) = false := by simp; omega
              clear hk
              go_wp2_with (fail)
              go_ret
              exact ⟨rfl, SS.out.gr⟩
end Go.Proofs.YtbmlliohepidaaaDoor

namespace Go.Proofs.YtbmlliohepidaaaDoor
open Go.ChangeShapes Go.WideShapes Go.ChangeAt Go.RowKit
set_option linter.unusedVariables false
set_option maxRecDepth 20000

theorem exec_mk {o : Oper} {a : Act} {w : World} (x y : Operand) (ho : o.op = .makeSlice 26 x y) (n : Nat) (hn : n ≤ 300) (hx : a.eval x = .int .i64 n) (hy : a.eval y = .int .i64 n) :
    (execOp a.eval o).run Tryd.prog w = .ok (.value (.slice (some ⟨w.heap.size, 0, none⟩) n n)) (w.alloc (.cells (flatOf insL (List.replicate n ins0)).toArray 54)) := by
  unfold execOp
  simp only [ho, hx, hy, Sem.run_bind, make_ins w n hn, Result.andThen_ok, Sem.run_pure]
theorem exec_eqth {o : Oper} {a : Act} {w : World} (x y : Operand) (ho : o.op = .binOp .eql 25 x y 25) (t : Th) (ht : ThOk t) (hx : a.eval x = .agg (thC t)) (hy : a.eval y = .agg (thC t)) : (execOp a.eval o).run Tryd.prog w = .ok (.value (.bool true)) w := by
  unfold execOp
  simp only [ho, hx, hy, Sem.run_bind, guard_th, eql_th w ht ht, thEq_refl, Result.andThen_ok, Sem.run_pure]

/-- a yard's cells, as its world's parts lie -/
abbrev Sw.L (x : Sw) (m s : Nat) (asks : List UInt8) : List Value := [x.cs, x.ths, .slice (some ⟨x.gb, 0, none⟩) x.nb x.cb, .slice x.ma m x.mc, .int .i64 x.room, .slice x.sa s x.sc, x.ve, .bool false, .string ⟨asks.toArray⟩]
/-- a yard as sameWorld reads it -/
structure SwY (x : Sw) (y : Nat) (mem : List Int) (buf slp : List Ent) (n : Nat) (asks : List UInt8) (u : World) : Prop where
  hy : Has u y (x.L mem.length slp.length asks).toArray 43
  ok : SwOk x mem buf slp u
  ve : ∃ a c, x.ve = .slice a n c
theorem SwY.later {x : Sw} {y : Nat} {mem : List Int} {buf slp : List Ent} {n : Nat} {asks : List UInt8} {u u' : World} (h : SwY x y mem buf slp n asks u) (k : Gr u u') : SwY x y mem buf slp n asks u' :=
  ⟨h.hy.later k, h.ok.later k, h.ve⟩
theorem SwY.of {k : Yc} {s : Ys} {v1 v2 v3 : Value} {B : Array Value} {u : World} (h : Yd k s v1 v2 v3 B u) : ∃ x : Sw, SwY x k.y s.mem s.buf s.slp s.evs.length s.asks u := by
  obtain ⟨ma, mc, hm, rm, -, -, -⟩ := own_at h.mem
  obtain ⟨ba, bc, hb, rb, -, -, -⟩ := own_at h.buf
  obtain ⟨sa, sc, hs, rs, -, -, -⟩ := own_at h.slp
  obtain ⟨ea, ec, he, -, -, -, -⟩ := own_at h.evs
  refine ⟨⟨k.cs, .slice k.ta k.nt k.ct, k.gb, k.nb, k.cb, ma, mc, s.room, sa, sc, v3, ba, bc⟩, h.hy.of ?_, ⟨h.hnb, ?_, rm, rb, rs⟩, ea, ec, he⟩
  · show yardC k s.room s.asks v2 v3 = _
    unfold yardC
    rw [hm, hs]
  · rw [← hb]
    exact h.hgb.cell h.hB
theorem SwY.range {x : Sw} {y : Nat} {mem : List Int} {buf slp : List Ent} {n : Nat} {asks : List UInt8} {u : World} (h : SwY x y mem buf slp n asks u) : u.rangeAt y 0 (x.C mem.length slp.length).toList := by
  intro j v hv
  rw [Nat.zero_add]
  refine h.hy.cell ?_
  rw [List.getElem?_toArray]
  have e : x.L mem.length slp.length asks = (x.C mem.length slp.length).toList ++ [.string ⟨asks.toArray⟩] := rfl
  rw [e, List.getElem?_append_left (List.getElem?_eq_some_iff.1 hv).1]
  exact hv
/-- blocks of the one behind its port are none of the other's -/
theorem foot_apart {d : InD} {q : Yg} {z n : Nat} {k : Yc} {s : Ys} {v1 v2 v3 : Value} {B : Array Value} {u : World} (h : Yd k s v1 v2 v3 B u) (ap : ∀ x ∈ foot k v1 v2 v3, x ∉ z :: q.pt) (hn : u.heap.size ≤ n) : ∀ x ∈ foot ((q.k d z).boxes n) q.vbuf q.vs (.slice none 0 0), x ∉ foot k v1 v2 v3 := by
  intro x hx hf
  rcases foot_of hx with e | e
  · exact ap x hf e
  · have := (yi_inv k).bnd ⟨v1, v2, v3, B, h, rfl⟩ x hf
    omega
end Go.Proofs.YtbmlliohepidaaaDoor
