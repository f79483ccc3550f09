/-
  For any world that the rows of this seat range over: the program's tables lie in it as 'Laid' says; a start in which they lie; a wrap that hands on what the tables hold and the world's shape. No condition but the rows' own.
-/
import Derived.Test.YtcfkcnkekdafgaaDoorBase
import Derived.Stop.LaidErr
import Derived.Shelf.Vars
import Derived.HandedShaped
import Derived.Handed
import Derived.Lay
namespace Go.Proofs.YtcfkcnkekdafgaaDoor
open Go.ChangeShapes Go.WideShapes Go.ChangeAt Go.RowKit
set_option linter.unusedVariables false

abbrev laid7 : List (String × DataW Unit) := [("strconv.ErrSyntax", Rows.laid_strconv_ErrSyntax), ("unicode/utf8.first", Rows.laid_unicode_utf8_first)]
abbrev laid6 : List (String × DataW Unit) := ("strconv.ErrRange", Rows.laid_strconv_ErrRange) :: laid7
abbrev laid1 : List (String × DataW Unit) := ("deadlatch/isa.kinds", Rows.laid_deadlatch_isa_kinds) :: ("math/bits.deBruijn32tab", Rows.laid_math_bits_deBruijn32tab) :: ("math/bits.deBruijn64tab", Rows.laid_math_bits_deBruijn64tab) :: ("internal/strconv.uint64pow10", Rows.laid_internal_strconv_uint64pow10) :: ("unicode/utf8.acceptRanges", Rows.laid_unicode_utf8_acceptRanges) :: laid6
abbrev laid9 : List (String × DataW Unit) := ("deadlatch/isa.names", Rows.laid_deadlatch_isa_names) :: laid1

theorem gNames : Tryd.prog.globalNamed "deadlatch/isa.names" = some 1 := by kernel_rfl
theorem gKinds : Tryd.prog.globalNamed "deadlatch/isa.kinds" = some 0 := by kernel_rfl
theorem tNames : (Tryd.prog.globals[1]?).map (·.type) = some 96 := by kernel_rfl
theorem tKinds : (Tryd.prog.globals[0]?).map (·.type) = some 78 := by kernel_rfl
theorem cellsS : Tryd.prog.cellsOf 9 = 1 := by kernel_rfl
theorem cellsN : Tryd.prog.cellsOf 96 = 28 := by kernel_rfl
theorem cellsK : Tryd.prog.cellsOf 77 = 5 := by kernel_rfl

theorem take1 {α : Type} {l : List α} {i : Nat} {x : α} (h : (l.drop i).take 1 = [x]) : l[i]? = some x := by
  have := congrArg (fun l => l[0]?) h
  simpa using this
set_option maxRecDepth 100000 in
theorem names_of {W : World} {f : Nat} {cs : Array Value} {p : List MemPlace} (h : DataW.trod (fun _ => ()) Tryd.prog W 0 (fun _ => true) false f 96 cs.toList = some (Rows.laid_deadlatch_isa_names, p)) : cs = nameV := by
  obtain ⟨xs, m, rfl, hx, hl, hn, hel⟩ := DataW.trod_array Tryd.underlying96 h
  rw [cellsN] at hl
  have hd : (Rows.laid_deadlatch_isa_names : DataW Unit) = .agg (nameL.map fun l => .lit (.string l)) := rfl
  rw [hd] at hx
  simp only [Prod.mk.injEq, DataW.agg.injEq] at hx
  apply Array.ext
  · rw [nameV_size]; simpa using hl
  · intro i h1 h2
    have hi : i < 28 := by simpa [nameV_size] using h2
    have he := hel i hi
    rw [List.getElem?_eq_getElem (by omega), cellsS, Nat.mul_one] at he
    obtain ⟨s, e1, e2, _⟩ := DataW.trod_string Tryd.underlying9 he
    have e3 := take1 e1
    have e4 : (xs.map (·.1))[i]? = some (.lit (.string s.data.toList)) := by
      rw [List.getElem?_map, List.getElem?_eq_getElem (by omega), e2]; rfl
    rw [← hx.1, List.getElem?_map] at e4
    have hnl : nameL.length = 28 := rfl
    rw [List.getElem?_eq_getElem (by omega)] at e4
    simp only [Option.map_some, Option.some.injEq, DataW.lit.injEq, Lit.string.injEq] at e4
    have e5 : nameV[i]? = some (.string (nameAt i)) := nameV_at i hi
    rw [Array.getElem?_eq_getElem h2] at e5
    have e6 : cs[i]? = some (.string s) := by simpa using e3
    rw [Array.getElem?_eq_getElem h1] at e6
    simp only [Option.some.injEq] at e5 e6
    rw [e5, e6]
    congr 1
    unfold nameAt
    rw [List.getD_eq_getElem?_getD, List.getElem?_eq_getElem (by omega), Option.getD_some, e4]
def kindD (n : Nat) : DataW Unit := .agg [.lit (.int .i64 (kA n)), .lit (.int .i64 (kB n)), .lit (.int .i64 (kC n)), .lit (.int .i64 (kK n)), .lit (.bool (kD n))]
set_option maxRecDepth 100000 in
theorem kinds_of {W : World} {f : Nat} {cs : Array Value} {p : List MemPlace} (h : DataW.trod (fun _ => ()) Tryd.prog W 0 (fun _ => true) false f 78 cs.toList = some (Rows.laid_deadlatch_isa_kinds, p)) (n : Nat) (hn : n < 28) :
    cs[n * 5]? = some (.int .i64 (kA n)) ∧ cs[n * 5 + 1]? = some (.int .i64 (kB n)) ∧ cs[n * 5 + 2]? = some (.int .i64 (kC n)) ∧ cs[n * 5 + 3]? = some (.int .i64 (kK n)) ∧ cs[n * 5 + 4]? = some (.bool (kD n)) := by
  obtain ⟨xs, m, rfl, hx, hl, hxn, hel⟩ := DataW.trod_array Tryd.underlying78 h
  have hd : (Rows.laid_deadlatch_isa_kinds : DataW Unit) = .agg ((List.range 28).map kindD) := rfl
  rw [hd] at hx
  simp only [Prod.mk.injEq, DataW.agg.injEq] at hx
  have he := hel n hn
  rw [List.getElem?_eq_getElem (by omega), cellsK] at he
  obtain ⟨ys, m2, rfl, hy, hl2, hyn, hf⟩ := DataW.trod_struct Tryd.underlying77 he
  have e4 : (xs.map (·.1))[n]? = some (xs[n]'(by omega)).1 := by
    rw [List.getElem?_map, List.getElem?_eq_getElem (by omega)]; rfl
  rw [← hx.1, List.getElem?_map, List.getElem?_range hn] at e4
  simp only [Option.map_some, Option.some.injEq] at e4
  rw [hy] at e4
  match ys, hyn, hf, e4 with
  | [y0, y1, y2, y3, y4], _, hf, e4 =>
    simp only [kindD, List.map_cons, List.map_nil, DataW.agg.injEq, List.cons.injEq] at e4
    obtain ⟨q0, q1, q2, q3, q4, _⟩ := e4
    have f0 := hf 0 _ rfl
    have f1 := hf 1 _ rfl
    have f2 := hf 2 _ rfl
    have f3 := hf 3 _ rfl
    have f4 := hf 4 _ rfl
    simp only [List.getElem?_cons_zero, List.getElem?_cons_succ] at f0 f1 f2 f3 f4
    obtain ⟨k0, a0, b0, _⟩ := DataW.trod_int Tryd.underlying75 f0
    obtain ⟨k1, a1, b1, _⟩ := DataW.trod_int Tryd.underlying75 f1
    obtain ⟨k2, a2, b2, _⟩ := DataW.trod_int Tryd.underlying75 f2
    obtain ⟨k3, a3, b3, _⟩ := DataW.trod_int Tryd.underlying75 f3
    obtain ⟨k4, a4, b4⟩ := DataW.trod_bool Tryd.underlying4 f4
    have t0 := take1 a0
    have t1 := take1 a1
    have t2 := take1 a2
    have t3 := take1 a3
    have t4 := take1 a4
    rw [b0] at q0; rw [b1] at q1; rw [b2] at q2; rw [b3] at q3; rw [b4] at q4
    simp only [DataW.lit.injEq, Lit.int.injEq, Lit.bool.injEq, true_and] at q0 q1 q2 q3 q4
    rw [q0, q1, q2, q3, q4]
    simp [List.getElem?_drop] at t0 t1 t2 t3 t4
    exact ⟨t0, t1, t2, t3, t4⟩

theorem star : "*" ++ "errors.errorString" = "*errors.errorString" := by decide
theorem errRow (u : TypeId) (h : Tryd.prog.typeName? 3 u = some "*errors.errorString") : u = 137 :=
  typeName_ptr_named (P := Tryd.prog) (nm := "errors.errorString") (by rw [star]; kernel_rfl) (by kernel_rfl) (by decide) u (by rw [star]; exact h)
theorem of_laid {W : World} (h : laidMetH Tryd.prog laid9 W) (hsh : W.ShapedOpen Tryd.prog) : Laid W := by
  rw [MakeChecks.laidMetH_plain _ _ _ (by kernel_rfl)] at h
  have hN := h
  obtain ⟨ps, ⟨g0, t0, cs0, f0, p0, q0, hg0, ht0, hv0, hd0, ⟨g1, t1, cs1, f1, p1, q1, hg1, ht1, hv1, hd1, _, _⟩, _⟩, _, _⟩ := hN
  obtain rfl := Option.some.inj (gNames.symm.trans hg0)
  obtain rfl := Option.some.inj (gKinds.symm.trans hg1)
  obtain rfl := Option.some.inj (tNames.symm.trans ht0)
  obtain rfl := Option.some.inj (tKinds.symm.trans ht1)
  have h6 : laidMet Tryd.prog laid6 W := h.tail.tail.tail.tail.tail.tail
  obtain ⟨a6, s6, hv6, _⟩ := laid_sentinel (g := 6) (ti := 112) (tp := 137) (te := 139) (ts := 9) h6 (by kernel_rfl) (by kernel_rfl) Tryd.underlying112 errRow Tryd.underlying137 Tryd.underlying139 rfl rfl Tryd.underlying9 (by kernel_rfl) (by kernel_rfl)
  obtain ⟨a7, s7, hv7, _⟩ := laid_sentinel (g := 5) (ti := 112) (tp := 137) (te := 139) (ts := 9) h6.tail (by kernel_rfl) (by kernel_rfl) Tryd.underlying112 errRow Tryd.underlying137 Tryd.underlying139 rfl rfl Tryd.underlying9 (by kernel_rfl) (by kernel_rfl)
  refine ⟨fun n hn => ?_, ?_, ?_, ?_, ?_⟩
  · have e := kinds_of hd1 n hn
    have c := World.var?_cell hg1 hv1
    simp only [c]
    exact e
  · have e := names_of hd0
    subst e
    simp only [World.var?, hg0, Option.bind_some] at hv0
    split at hv0 <;> simp_all
  · exact cell_of_shapedOpen_int (zero := #[.int .i64 0]) hsh (of_decide_eq_true (by kernel_rfl)) (by kernel_rfl) rfl (by kernel_rfl) (by kernel_rfl) Tryd.underlying3
  · exact ⟨_, _, by rw [World.var?_cell (by kernel_rfl) hv7 0]; rfl⟩
  · exact ⟨_, _, by rw [World.var?_cell (by kernel_rfl) hv6 0]; rfl⟩

/-- a wrap: what is listed, and the world's shape, are handed on -/
theorem handed {H : Type} {enc : TypeId × Value → H} {a : Assume} {C : Checked} {os : Os} {f : FuncId} {fn : Func} {s : ChangeSpec} {conds : List PathCond} {apart fresh handsOn again : Bool} {X : World → Array Value → Prop}
    (hX : ∀ (w w' : World) (args : Array Value), w.heap = w'.heap → X w args → X w' args)
    (own : ownKnob C.prog.godebug = none) (started : os.Started) (noInit : C.prog.inits.idxOf? f = none) (hfn : C.prog.funcs[f]? = some fn)
    (witness : ∃ (w : World) (tape : Tape) (i : Input), w.os = os ∧ (w.forCall tape i).Shaped C.prog ∧ i.vars = [] ∧ Input.okWide C.prog (w.forCall tape i) .any w.heap.size f i ∧
      ((s.pre enc C.prog fn conds apart (w.forCall tape i).memory i.args ∧ X (w.forCall tape i).memory i.args) ∧ sizedMet enc C.prog fn (OpenSpec.ofChange s) apart (w.forCall tape i).memory i.args) ∧ a.holds C.prog (lone (Frame.enter C.prog f i.args .normal) [] (w.forCall tape i)))
    (contract : ∀ (W : World) (base : Nat) (args : Array Value) (ds gs : List (DataW H)) (before : List MemPlace),
      (∀ (j : Nat) t v, fn.params[j]? = some t → args[j]? = some v → Value.okWide C.prog W .any base t v) →
      DataW.Whole enc C.prog fn.params.toList s.vars apart W args.toList ds gs before →
      (DataW.weightsEach C.prog (fn.params.toList ++ s.plain.varTypes C.prog) (ds ++ gs)).all (· ≤ reachBytes) = true → X W args → W.ShapedOpen C.prog →
      Calls C.prog f args W fun e W' => ∃ v, e = .returned v ∧ s.post enc C.prog fn apart fresh handsOn again W args v W') :
    ReturnsInHanded a C os f .any (fun w args => (s.pre enc C.prog fn conds apart w args ∧ X w args) ∧ sizedMet enc C.prog fn (OpenSpec.ofChange s) apart w args) (s.post enc C.prog fn apart fresh handsOn again) := by
  refine returnsInHanded_of_calls own started noInit witness ?_
  intro w tape i _ hsh _ hok hpre _
  obtain ⟨_, _, _, fn', hfn', _, _, _, _, hval⟩ := hok
  have e : fn' = fn := Option.some.inj (hfn'.symm.trans hfn)
  subst e
  obtain ⟨⟨⟨ds, gs, before, hw, hc⟩, hx⟩, hz⟩ := hpre
  have hw' := DataW.Whole.of_heap (w' := w.forCall tape i) (by rfl) hw
  refine (contract (w.forCall tape i) w.heap.size i.args ds gs before hval hw' (hz.weights hw) (hX _ _ _ (by rfl) hx) hsh).mono fun e W' ⟨v, he, hp⟩ => ?_
  subst he
  exact ChangeSpec.post_blind hp
end Go.Proofs.YtcfkcnkekdafgaaDoor
