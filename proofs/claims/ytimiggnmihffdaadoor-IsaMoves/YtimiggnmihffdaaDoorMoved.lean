/-
  For any code of at most 5000 instructions and any move below 2^16, in any world in which the program's tables lie and the code lies: what isa.Moved answers: a new slice, in which each instruction is moved. No condition but that.
-/
import Derived.Test.YtimiggnmihffdaaDoorDo
import Derived.Test.YtimiggnmihffdaaDoorOpen
import Derived.Test.YtimiggnmihffdaaDoorRefRight
namespace Go.Proofs.YtimiggnmihffdaaDoor
open Go.ChangeShapes Go.WideShapes Go.ChangeAt Go.RowKit Go.Deep
set_option linter.unusedVariables false

/-- an instruction, moved -/
def mvK (i : Ins) (m : Int) : Int := if jumpsB i.op then (i.k + m) % 4294967296 else i.k
def mv (i : Ins) (m : Int) : Ins := ⟨i.op, i.a, i.b, i.c, mvK i m⟩

/-- a block of so many instructions, of which the first k are known -/
def OutB (g len k : Nat) (f : Nat → Ins) (w : World) : Prop :=
  (∃ cs, w.heap[g]? = some (.cells cs 24 (0, 0)) ∧ cs.size = len * 5) ∧ ∀ i, i < k → Lies w g (i * 5) (f i)
theorem OutB.lt {g len k : Nat} {f : Nat → Ins} {w : World} (h : OutB g len k f w) : g < w.heap.size := by
  obtain ⟨⟨cs, h, _⟩, _⟩ := h
  rcases Nat.lt_or_ge g w.heap.size with h' | h'
  · exact h'
  · rw [Array.getElem?_eq_none h'] at h; cases h
theorem OutB.later {g len k : Nat} {f : Nat → Ins} {w w' : World} (h : OutB g len k f w) (hg : Gr w w') : OutB g len k f w' := by
  refine ⟨?_, fun i hi => (h.2 i hi).later hg⟩
  obtain ⟨⟨cs, e, hs⟩, _⟩ := id h
  exact ⟨cs, (hg.block g h.lt).trans e, hs⟩
theorem OutB.aside {g len k : Nat} {f : Nat → Ins} {w : World} (h : OutB g len k f w) {a : Addr} (ha : a.block ≠ g) (v : Value) : OutB g len k f (w.setCell a v) := by
  have e : ∀ o, (w.setCell a v).cell? ⟨g, o, none⟩ = w.cell? ⟨g, o, none⟩ := fun o => World.cell?_setCell_other _ _ _ _ (by intro e; subst e; exact ha rfl)
  refine ⟨?_, fun i hi => ?_⟩
  · obtain ⟨⟨cs, e, hs⟩, _⟩ := id h
    exact ⟨cs, (Below.heap_setCell w a v g (Ne.symm ha)).trans e, hs⟩
  · obtain ⟨h0, h1, h2, h3, h4⟩ := h.2 i hi
    exact ⟨(e _).trans h0, (e _).trans h1, (e _).trans h2, (e _).trans h3, (e _).trans h4⟩
theorem OutB.there {g len k : Nat} {f : Nat → Ins} {w : World} (h : OutB g len k f w) (o : Nat) (ho : o < len * 5) : (∃ v, w.cell? ⟨g, o, none⟩ = some v) ∧ w.frozen? ⟨g, o, none⟩ = false := by
  obtain ⟨⟨cs, e, hs⟩, _⟩ := h
  refine ⟨⟨cs[o]'(by omega), ?_⟩, ?_⟩
  · simp only [World.cell?, e]
    exact Array.getElem?_eq_getElem (by omega)
  · simp [World.frozen?, e]
theorem OutB.block {g len k : Nat} {f : Nat → Ins} {w : World} (h : OutB g len k f w) (o : Nat) (v : Value) : ∃ cs, (w.setCell ⟨g, o, none⟩ v).heap[g]? = some (.cells cs 24 (0, 0)) ∧ cs.size = len * 5 := by
  obtain ⟨⟨cs, e, hs⟩, _⟩ := h
  exact ⟨cs.setIfInBounds o v, heap_setCell_same w g o _ _ _ e, by simpa using hs⟩
theorem OutB.put {g len k : Nat} {f : Nat → Ins} {w : World} (h : OutB g len k f w) (o : Nat) (ho : k * 5 ≤ o) (v : Value) : OutB g len k f (w.setCell ⟨g, o, none⟩ v) := by
  have e : ∀ p, p ≠ o → (w.setCell ⟨g, o, none⟩ v).cell? ⟨g, p, none⟩ = w.cell? ⟨g, p, none⟩ := fun p hp => World.cell?_setCell_other _ _ _ _ (by intro e; injection e with _ e; exact hp e.symm)
  refine ⟨h.block o v, fun i hi => ?_⟩
  obtain ⟨h0, h1, h2, h3, h4⟩ := h.2 i hi
  exact ⟨(e _ (by omega)).trans h0, (e _ (by omega)).trans h1, (e _ (by omega)).trans h2, (e _ (by omega)).trans h3, (e _ (by omega)).trans h4⟩
theorem OutB.store {g len k : Nat} {f : Nat → Ins} {w : World} (h : OutB g len k f w) (hk : k < len) :
    OutB g len (k + 1) f (((((w.setCell ⟨g, k * 5, none⟩ (.int .i64 (f k).op)).setCell ⟨g, k * 5 + 1, none⟩ (.int .i64 (f k).a)).setCell ⟨g, k * 5 + 2, none⟩ (.int .i64 (f k).b)).setCell ⟨g, k * 5 + 3, none⟩ (.int .i64 (f k).c)).setCell ⟨g, k * 5 + 4, none⟩ (.int .u32 (f k).k)) := by
  have s1 := h.put (k * 5) (Nat.le_refl _) (.int .i64 (f k).op)
  have s2 := s1.put (k * 5 + 1) (by omega) (.int .i64 (f k).a)
  have s3 := s2.put (k * 5 + 2) (by omega) (.int .i64 (f k).b)
  have s4 := s3.put (k * 5 + 3) (by omega) (.int .i64 (f k).c)
  have s5 := s4.put (k * 5 + 4) (by omega) (.int .u32 (f k).k)
  have q : ∀ (w : World) (o p : Nat) (v : Value), p ≠ o → (w.setCell ⟨g, o, none⟩ v).cell? ⟨g, p, none⟩ = w.cell? ⟨g, p, none⟩ := fun w o p v hp => World.cell?_setCell_other _ _ _ _ (by intro e; injection e with _ e; exact hp e.symm)
  refine ⟨s5.1, fun i hi => ?_⟩
  by_cases e : i < k
  · exact s5.2 i e
  · obtain rfl : i = k := by omega
    obtain ⟨⟨v0, t0⟩, _⟩ := h.there (i * 5) (by omega)
    obtain ⟨⟨v1, t1⟩, _⟩ := s1.there (i * 5 + 1) (by omega)
    obtain ⟨⟨v2, t2⟩, _⟩ := s2.there (i * 5 + 2) (by omega)
    obtain ⟨⟨v3, t3⟩, _⟩ := s3.there (i * 5 + 3) (by omega)
    obtain ⟨⟨v4, t4⟩, _⟩ := s4.there (i * 5 + 4) (by omega)
    refine ⟨?_, ?_, ?_, ?_, ?_⟩
    · rw [q _ _ _ _ (by omega), q _ _ _ _ (by omega), q _ _ _ _ (by omega), q _ _ _ _ (by omega)]
      exact World.cell?_setCell_same _ _ _ t0
    · rw [q _ _ _ _ (by omega), q _ _ _ _ (by omega), q _ _ _ _ (by omega)]
      exact World.cell?_setCell_same _ _ _ t1
    · rw [q _ _ _ _ (by omega), q _ _ _ _ (by omega)]
      exact World.cell?_setCell_same _ _ _ t2
    · rw [q _ _ _ _ (by omega)]
      exact World.cell?_setCell_same _ _ _ t3
    · exact World.cell?_setCell_same _ _ _ t4

/-- a store of an instruction into such a block -/
theorem OutB.run {g len k : Nat} {f : Nat → Ins} {w : World} (h : OutB g len k f w) (hk : k < len) (i : Ins) :
    (Instr.storeAt 24 (.pointer (some ⟨g, k * 5, none⟩)) (.agg #[.int .i64 i.op, .int .i64 i.a, .int .i64 i.b, .int .i64 i.c, .int .u32 i.k])).run Tryd.prog w =
      .ok () (((((w.setCell ⟨g, k * 5, none⟩ (.int .i64 i.op)).setCell ⟨g, k * 5 + 1, none⟩ (.int .i64 i.a)).setCell ⟨g, k * 5 + 2, none⟩ (.int .i64 i.b)).setCell ⟨g, k * 5 + 3, none⟩ (.int .i64 i.c)).setCell ⟨g, k * 5 + 4, none⟩ (.int .u32 i.k)) := by
  refine (run_storeAt_mid (P := Tryd.prog) w g (k * 5) 24 #[.int .i64 i.op, .int .i64 i.a, .int .i64 i.b, .int .i64 i.c, .int .u32 i.k] ?_ (by kernel_rfl) (by simp [Value.oneCell'])).trans rfl
  intro j hj
  have hj' : j < 5 := hj
  obtain ⟨⟨v, t⟩, z⟩ := h.there (k * 5 + j) (by omega)
  exact ⟨by rw [t]; rfl, z⟩

/-- a store whose run is known -/
theorem wpList_store_run {ops : Array Oper} {rest : List Oper} {op : Oper} {a : Act} {w : World} {Q : Exit → Act → World → Prop} (hgd : op.guard = none) (ty : TypeId) (x y : Operand) (ho : op.op = .store ty x y)
    (p v : Value) (hx : a.eval x = p) (hy : a.eval y = v) (w5 : World) (hr : (Instr.storeAt ty p v).run Tryd.prog w = .ok () w5)
    (h : wpList Tryd.prog ops Q rest (a.put op.dst undef) w5) : wpList Tryd.prog ops Q (op :: rest) a w :=
  wpList_plain hgd fun _ hK => by
    unfold Oper.wp execOp
    simp only [ho, hx, hy, hr, Sem.run_bind, Sem.run_pure, Result.andThen_ok]
    exact hK _ _ h

/-- what was stored last, under one name -/
def put5 (w : World) (g o : Nat) (i : Ins) : World := ((((w.setCell ⟨g, o, none⟩ (.int .i64 i.op)).setCell ⟨g, o + 1, none⟩ (.int .i64 i.a)).setCell ⟨g, o + 2, none⟩ (.int .i64 i.b)).setCell ⟨g, o + 3, none⟩ (.int .i64 i.c)).setCell ⟨g, o + 4, none⟩ (.int .u32 i.k)
theorem Gr.put5 {w w' : World} (h : Gr w w') (o : Nat) (i : Ins) : Gr w (put5 w' w.heap.size o i) :=
  ((((h.setCell (Nat.le_refl _) _).setCell (Nat.le_refl _) _).setCell (Nat.le_refl _) _).setCell (Nat.le_refl _) _).setCell (Nat.le_refl _) _

abbrev zero24 : Value := .agg #[.int .i64 0, .int .i64 0, .int .i64 0, .int .i64 0, .int .u32 0]
theorem info24 : (Tryd.prog.info? 24).map (fun i => (i.zero, i.size, i.bytes)) = some (some zero24, 5, 40) := by kernel_rfl
def made (len : Nat) : Array Value := madeCells zero24.cells (len * 5)
theorem make_run (len : Nat) (h : len ≤ 5000) (w : World) : (Instr.makeSlice 39 (.int .i64 len) (.int .i64 len)).run Tryd.prog w = .ok (.slice (some ⟨w.heap.size, 0, none⟩) len len) (w.alloc (.cells (made len) 24)) := by
  obtain ⟨i, h1, h2, h3, h4⟩ := info_parts info24
  have := run_make (P := Tryd.prog) w 39 24 i zero24 Tryd.underlying39 h1 h2 .i64 .i64 len len (by omega) (Int.le_refl _) (by rw [h4]; omega) (by omega)
  rw [h3] at this
  simpa [made] using this
theorem out_made (len : Nat) (f : Nat → Ins) (w : World) : OutB w.heap.size len 0 f (w.alloc (.cells (made len) 24)) := by
  refine ⟨⟨made len, by show (w.heap.push _)[w.heap.size]? = _; simp, by simp [made, size_madeCells]⟩, fun i hi => by omega⟩

set_option maxHeartbeats 1000000 in
theorem moved_calls (a : Option Addr) (len cap : Nat) (f : Nat → Ins) (m : Int) (hm0 : 0 ≤ m) (hm1 : m < 65536) (w : World) (L : Laid w) (hr : InsRow w a len f) (hlen : len ≤ 5000) :
    Calls Tryd.prog 19 #[.slice a len cap, .int .i64 m] w fun e w' => e = .returned (.slice (some ⟨w.heap.size, 0, none⟩) len len) ∧ Gr w w' ∧ OutB w.heap.size len len (fun i => mv (f i) m) w' := by
  have hmk := make_run len hlen
  have hob := hide (out_made len (fun i => mv (f i) m) w)
  have hg0 := Gr.alloc (Gr.refl w) (made len) 24
  have HL := hide L
  have HR := hide hr
  clear L hr
  go_enter Tryd.func19, Tryd.ntmps19
  go_wp2
  generalize hw1 : w.alloc (.cells (made len) 24) = w1 at hob hg0 ⊢
  clear hw1 hmk
  go_loopw [13] (fun i wr => ∃ k : Nat, k ≤ len ∧ i = .int .i64 k ∧ Gr w wr ∧ Hid (OutB w.heap.size len k (fun i => mv (f i) m) wr)) (fun i _ => len - (intOf i).toNat)
  case atStart => exact ⟨0, by omega, rfl, hg0, hob⟩
  case round =>
    obtain ⟨k, hk, rfl, hgr, ho⟩ := hrel
    by_cases hlt : k < len
    · obtain ⟨b, off, rfl, hl⟩ : ∃ b off, a = some ⟨b, off, none⟩ ∧ (Lies wr b (off + k * 5) (f k) ∧ (f k).ok) := by
        rcases HR.out.2 with h0 | ⟨b, off, ha, hl⟩
        · omega
        · exact ⟨b, off, ha, (hl k hlt).1.later hgr, (hl k hlt).2⟩
      obtain ⟨⟨c0, c1, c2, c3, c4⟩, hok⟩ := hl
      have hok' := hide hok
      clear hok
      have hlt1 := ho.out.lt
      have hg1 : Gr wr (wr.alloc (.cells #[.int .i64 (f k).op, .int .i64 (f k).a, .int .i64 (f k).b, .int .i64 (f k).c, .int .u32 (f k).k] 24)) := (Gr.refl wr).alloc _ _
      have hb1 := Box.fresh (f k).op (f k).a (f k).b (f k).c (f k).k wr
      cases hj : jumpsB (f k).op
      · have hmv : mv (f k) m = f k := by unfold mv mvK; rw [hj]; rfl
        have hmv' := hide hmv
        have ho1 := ho.out.later hg1
        have hst := ho1.run hlt (f k)
        have hfin := ho1.store hlt
        rw [hmv] at hfin
        have hg2 := (hgr.trans hg1).put5 (k * 5) (f k)
        change _ = Result.ok () (put5 _ _ _ _) at hst
        change OutB _ _ _ _ (put5 _ _ _ _) at hfin
        have HF := hide hfin
        clear hmv hfin ho1
        generalize put5 _ _ _ _ = w5 at hst HF hg2
        have HS := hide hst
        clear hst
        go_wp2_with (first | (go_at_call 13; refine (jumps_calls _ _ (HL.out.later (hgr.trans hg1))).mono ?_; rintro e w2 ⟨rfl, rfl⟩) | (refine wpList_store_run rfl 24 _ _ rfl _ _ rfl rfl w5 HS.out ?_))
        exact ⟨⟨k + 1, by omega, by go_num, hg2, HF⟩, by simp [intOf]; omega⟩
      · have hmv : mv (f k) m = ⟨(f k).op, (f k).a, (f k).b, (f k).c, ((f k).k + m) % 4294967296⟩ := by unfold mv mvK; rw [hj]; rfl
        have hmv' := hide hmv
        clear hmv
        have hfz : (wr.alloc (.cells #[.int .i64 (f k).op, .int .i64 (f k).a, .int .i64 (f k).b, .int .i64 (f k).c, .int .u32 (f k).k] 24)).frozen? ⟨wr.heap.size, 4, none⟩ = false := by
          have e : (wr.alloc (.cells #[.int .i64 (f k).op, .int .i64 (f k).a, .int .i64 (f k).b, .int .i64 (f k).c, .int .u32 (f k).k] 24)).heap[wr.heap.size]? = some (.cells #[.int .i64 (f k).op, .int .i64 (f k).a, .int .i64 (f k).b, .int .i64 (f k).c, .int .u32 (f k).k] 24 (0, 0)) := by show (wr.heap.push _)[wr.heap.size]? = _; simp
          exact frozen_of_row _ _ _ _ _ e
        have HZ := hide hfz
        clear hfz
        go_wp2_with (first | (go_at_call 13; refine (jumps_calls _ _ (HL.out.later (hgr.trans hg1))).mono ?_; rintro e w2 ⟨rfl, rfl⟩))
        refine (do_add _ _ hok'.out.1 hok'.out.2 hm0 (by omega) _).mono ?_
        rintro e w3 ⟨rfl, hg3⟩
        obtain ⟨hb0, d0, d1, d2, d3, d4⟩ := hb1.later hg3
        have hz : w3.frozen? ⟨wr.heap.size, 4, none⟩ = false := (Below.frozen hg3 hb1.1).trans HZ.out
        have ho1 := (ho.out.later (hg1.trans hg3)).aside (a := ⟨wr.heap.size, 4, none⟩) (by show wr.heap.size ≠ w.heap.size; omega) (.int .u32 (((f k).k + m) % 4294967296))
        have hg4 : Gr w (w3.setCell ⟨wr.heap.size, 4, none⟩ (.int .u32 (((f k).k + m) % 4294967296))) := (hgr.trans (hg1.trans hg3)).setCell (by show w.heap.size ≤ wr.heap.size; omega) _
        have hst := ho1.run hlt ⟨(f k).op, (f k).a, (f k).b, (f k).c, ((f k).k + m) % 4294967296⟩
        have hfin := ho1.store hlt
        rw [hmv'.out] at hfin
        have hg2 := hg4.put5 (k * 5) ⟨(f k).op, (f k).a, (f k).b, (f k).c, ((f k).k + m) % 4294967296⟩
        change _ = Result.ok () (put5 _ _ _ ⟨(f k).op, (f k).a, (f k).b, (f k).c, ((f k).k + m) % 4294967296⟩) at hst
        change OutB _ _ _ _ (put5 _ _ _ ⟨(f k).op, (f k).a, (f k).b, (f k).c, ((f k).k + m) % 4294967296⟩) at hfin
        have HF := hide hfin
        clear hfin ho1 hg4
        generalize put5 _ _ _ _ = w5 at hst HF hg2
        have HS := hide hst
        clear hst
        go_wp2_with (refine wpList_store_run rfl 24 _ _ rfl _ _ rfl rfl w5 HS.out ?_)
        exact ⟨⟨k + 1, by omega, by go_num, hg2, HF⟩, by simp [intOf]; omega⟩
    · obtain rfl : k = len := by omega
      go_wp2_with (fail)
      go_ret
      exact ⟨rfl, hgr, ho.out⟩
end Go.Proofs.YtimiggnmihffdaaDoor
