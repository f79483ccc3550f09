/-
  What trace.Outs answers of any events. No condition but that the slice's cells hold the events.
-/
import Derived.Test.YtfhplbmgjgfihaaEach
import Derived.Test.YtfhplbmgjgfihaaBrg
namespace Go.Proofs.Ytfhplbmgjgfihaa
open Go.ChangeShapes Go.WideShapes Go.ChangeAt Go.RowKit Go.Shelf
set_option linter.unusedVariables false
set_option maxRecDepth 20000

attribute [local go_sem] Oper.semAt_some

/-- a block of cells abides what befalls blocks of no cells -/
theorem has_own {A B : World} {row : Option Nat} {g B0 : Nat} {C : Array Value} {t : TypeId} (h : Has A g C t) (hg : A.grownBy B row) (hr : ∀ r, row = some r → B0 ≤ r ∧ ∃ o : Obj, A.heap[r]? = some o ∧ o.isCells = false) : Has B g C t :=
  (hg.block g h.lt (fun e => by
    obtain ⟨_, o, ho, hc⟩ := hr g e.symm
    have q := (show A.heap[g]? = _ from h).symm.trans ho
    cases q
    cases hc)).trans h
theorem stay_own {w0 A B : World} {row : Option Nat} {g B0 : Nat} (h : Stay g w0 A) (h0 : g < w0.heap.size) (hB : w0.heap.size ≤ A.heap.size) (h1 : g < B0) (hg : A.grownBy B row) (hr : ∀ r, row = some r → B0 ≤ r ∧ ∃ o : Obj, A.heap[r]? = some o ∧ o.isCells = false) : Stay g w0 B :=
  (hg.block g (by omega) (fun e => by have := (hr g e.symm).1; omega)).trans h
theorem stay_put (W : World) {g l : Nat} (h : g < l) (o : Obj) : Stay g W (W.putObj l o) := World.putObj_heap_other (by omega)
theorem stay_alloc (W : World) {g : Nat} (h : g < W.heap.size) (o : Obj) : Stay g W (W.alloc o) := Below.heap_alloc W o g h
theorem stay_has {W W' : World} {g : Nat} {C : Array Value} {t : TypeId} (h : Has W g C t) (h' : Has W' g C t) : Stay g W W' := Eq.trans h' (Eq.symm h)

/-- where a row of one's own lies, if it is not empty -/
theorem own_block {w : World} {base sz n c : Nat} {t : TypeId} {a : Option Addr} {xs : List Value} (h : w.ownsRow base t sz (.slice a n c) n xs) (hx : xs ≠ []) : blkOf a < w.heap.size ∧ ∃ C, Has w (blkOf a) C t := by
  rcases h.2 with ⟨h2, h0⟩ | ⟨g, cap, cur, hv, hb, hg, rest⟩
  · exact absurd (List.length_eq_zero_iff.1 (by have := h.1; rw [h0] at this; simpa using this)) hx
  · cases hv
    exact ⟨Has.lt hg, cur, hg⟩

theorem own_blk {w : World} {base sz n m c : Nat} {t : TypeId} {a : Option Addr} {xs : List Value} (h : w.ownsRow base t sz (.slice a n c) m xs) (h0 : 0 < w.heap.size) : blkOf a < w.heap.size := by
  rcases h.2 with ⟨h2, _⟩ | ⟨g, cap, cur, hv, hb, hg, rest⟩
  · obtain ⟨rfl, -, -⟩ := Value.slice.inj h2
    exact h0
  · obtain ⟨rfl, -, -⟩ := Value.slice.inj hv
    exact Has.lt hg

/-- what is put out, by events with their places -/
def outsI (l : List Pl) : List Int := (l.filter fun p => p.ev.kind == 6).map fun p => p.ev.value
theorem outsI_hit (l : List Pl) {x : Pl} (h : x.ev.kind = 6) : outsI (l ++ [x]) = outsI l ++ [x.ev.value] := by simp [outsI, h]
theorem outsI_miss (l : List Pl) {x : Pl} (h : ¬ x.ev.kind = 6) : outsI (l ++ [x]) = outsI l := by simp [outsI, h]
theorem outsI_len (l : List Pl) : (outsI l).length ≤ l.length := by
  unfold outsI
  rw [List.length_map]
  exact List.length_filter_le _ _

/-- words of one's own that are answered -/
def WordsP (w : World) (l : List Int) (r : Ending) (w' : World) : Prop := ∃ v, (r = .returned v ∧ WordsO w' w.heap.size v l) ∧ Gr w w'

set_option maxHeartbeats 2000000 in
theorem outs_calls (a : Option Addr) (c : Nat) (l : List Ev) (hl : ∀ x ∈ l, EvOk x) (hn : l.length ≤ 900) (t : Int) (w : World) (h : RowAt w a (flatOf evL l)) :
    Calls Try.prog 10 #[.slice a l.length c, .int .i64 t] w (WordsP w (outsI (plc t 0 l hl))) := by
  have HO := hide (of_calls a c l hl hn t (w.alloc (.cells #[.slice none 0 0] 25)) (h.later ((Gr.refl w).alloc _ _)))
  have hpn : (plc t 0 l hl).length ≤ 900 := by have := plc_len t 0 l hl; omega
  generalize plc t 0 l hl = ps at HO hpn ⊢
  clear h hl hn
  refine (callsIn_wide (n := 6)).1 ?_
  refine callsIn_of_wp_marks Try.func10 rfl trivial ?_ rfl
  simp only [Try.ntmps10, List.size_toArray, List.length_cons, List.length_nil, Nat.reduceAdd, Nat.reduceSub, Array.replicate_succ, Array.replicate_zero, List.push_toArray, List.append_toArray, List.nil_append, List.cons_append]
  gi_wp2_with (refine ⟨trivial, ?_⟩; gi_at_call 15; refine (callsIn_wide.2 HO.out).mono ?_; rintro e w1 ⟨vp, ⟨⟨rfl, g1⟩, hb⟩, hp⟩)
  obtain ⟨ap, cp, rfl, hrp, -, -, -⟩ := own_at hp
  have hs0 : (w.alloc (.cells #[.slice none 0 0] 25)).heap.size = w.heap.size + 1 := by simp
  rw [hs0] at hb hp
  have bV : Boxed w1 w.heap.size 25 (.slice none 0 0) := Has.later (Has.new w #[.slice none 0 0] 25) g1
  have gB : Below w.heap.size w w1 := (((Gr.refl w).alloc #[.slice none 0 0] 25).trans g1)
  have hz := gB.size
  have hbl := hb.lt
  have HB := hide hb
  have HRP := hide hrp
  have HP := hide hp
  have hg0 := own_blk hp (by omega)
  clear hb hrp hp HO g1
  refine wpIn_rangeFunc_ownH rfl (by omega) (gf := 19) (lb := #[.pointer (some ⟨w.heap.size + 1, 0, none⟩)]) rfl trivial (enters_of Try.func19 (by kernel_rfl) rfl)
    (each_stops (6 - 1) (by omega) (w.heap.size + 1) ap cp ps hpn w1 HB.out HRP.out) (fun h k => h.trans k) (fun W l o o' hl _ _ _ => stay_put W (by omega) o') (Gr.refl w1) (fun _ => rfl)
    (fun pre W => ((∃ v, Boxed W w.heap.size 25 v ∧ W.ownsRow w.heap.size 33 1 v (outsI pre).length (flatOf wordL (outsI pre)) ∧ True) ∧ Below w.heap.size w W) ∧ (Stay (blkOf ap) w1 W ∧ w1.heap.size ≤ W.heap.size))
    (fun _ _ _ => False)
    (OwnFrom.and (OwnFrom.and (Own.from (holdsRow_own w.heap.size w.heap.size 25 33 1 (fun pre => (outsI pre).length) (fun pre => flatOf wordL (outsI pre)) (fun _ _ => True)) _) (ownFrom_below (Nat.le_refl _) (by omega)))
      (fun s A B row hs hg hr => ⟨stay_own hs.1 hg0 hs.2 hg0 hg hr, Nat.le_trans hs.2 hg.size⟩))
    (fun _ _ _ _ _ hs _ _ => hs)
    ⟨⟨⟨_, bV, own_nil _ _ _ _, trivial⟩, gB⟩, Stay.refl _ _, Nat.le_refl _⟩
    (fun x a' W => ∃ Bx, Has W Bx (evA x.ev) 35 ∧ a' = { tmps := #[.slice a l.length c, .int .i64 t, undef, undef, .slice none 0 0, .pointer (some ⟨w.heap.size, 0, none⟩), undef, .pointer (some ⟨Bx, 0, none⟩), .slice a l.length c, .int .i64 t, .func (.func 19) #[] #[.pointer (some ⟨w.heap.size + 1, 0, none⟩)], .int .i64 x.pos, .agg (evA x.ev), undef, undef, undef, undef, undef, undef, undef, undef, undef], defers := [] })
    (fun x a' s A B row hs hg hr => by obtain ⟨Bx, h1, h2⟩ := hs; exact ⟨Bx, has_own h1 hg hr, h2⟩)
    ?assign ?body ?done ?stop
  case assign =>
    rintro l pre x W K ⟨⟨⟨v, hv, hrow, -⟩, hB⟩, hS, hz2⟩ hK
    gi_wp2
    refine hK _ _ ((KeepsOthers.alloc _ _).from _) (stay_alloc W (by omega) _) ⟨⟨⟨v, hv.alloc _, own_later hrow ((Gr.refl W).alloc _ _), trivial⟩, hB.trans (((Below.refl _ W).alloc hB.size _))⟩, hS.trans (stay_alloc W (by omega) _), by simp; omega⟩ ⟨W.heap.size, Has.new W _ _, rfl⟩
  case body =>
    rintro l pre x a' W - - ⟨⟨⟨v, hv, hrow, -⟩, hB⟩, hS, hz2⟩ ⟨Bx, hE, rfl⟩ hlt
    have hc := hv.cell
    have hf := hv.frozen
    have k0 : W.cell? ⟨Bx, 0, none⟩ = some (.int .i64 x.ev.kind) := hE.cell rfl
    have k4 : W.cell? ⟨Bx, 4, none⟩ = some (.int .u32 x.ev.value) := hE.cell rfl
    have hol := outsI_len pre
    obtain ⟨va, vc, rfl, -⟩ := own_at hrow
    by_cases hk : x.ev.kind = 6
    · have hk' : (x.ev.kind == 6) = true := by simpa using hk
      have HX := hide (outsI_hit pre hk)
      clear hk
      obtain ⟨v', w', hr, ho, hg, hob⟩ := app_rec (T := 25) (ty := 25) wordL_len wordL_one Try.underlying25 infoWrd rfl (by omega) (by omega) hrow x.ev.value #[.int .u32 x.ev.value] rfl (by omega) hB.size
      obtain ⟨m, hm⟩ : ∃ m, (outsI pre ++ [x.ev.value]).length = m := ⟨_, rfl⟩
      rw [hm] at ho
      have HM := hide hm
      clear hm
      obtain ⟨hv1, hv2, hr2, hk2, hb2⟩ := hv.appended (by decide) hrow hB.size (Nat.le_refl _) ho hg
      obtain ⟨wa, wc, rfl, -⟩ := own_at ho
      have HR := hide hr
      have hc1 := hv1.cell
      have hf1 := hv1.frozen
      have hpp : flatOf plL ps ≠ [] := fun q => by
        have := flatOf_length plL_len ps
        rw [q] at this
        simp at this
        omega
      obtain ⟨-, C, hC⟩ := own_block HP.out hpp
      have hC1 : Has W (blkOf ap) C 49 := Eq.trans hS hC
      have hC2 := (hC1.alloc #[.int .u32 x.ev.value] 33).kept (Kp.grown hg) (fun q => by
        obtain ⟨D, hD⟩ := own_has hrow q
        exact hC1.apart hD (by decide) rfl)
      have hC3 := hide ((hC2.aside (fun q => (hC2.apart hv1 (by decide)) q) 0 (.slice wa m wc)))
      clear hr
      gi_wp2_with (refine step_app_in rfl (some 20) rfl _ _ _ rfl (.slice va (outsI pre).length vc) (.slice (some ⟨W.heap.size, 0, none⟩) 1 1) rfl rfl (.slice wa _ wc) w' (by exact HR.out) ?_)
      exact ⟨hk2.from _, stay_has hC1 hC3.out, ⟨⟨⟨_, hv2, by rw [HX.out, HM.out]; exact hr2, trivial⟩, hB.trans hb2⟩, hS.trans (stay_has hC1 hC3.out), by have := hg.size; simp at this ⊢; omega⟩⟩
    · have hk' : (x.ev.kind == 6) = false := by simpa using hk
      have HX := hide (outsI_miss pre hk)
      clear hk
      gi_wp2
      refine ⟨KeepsFrom.refl _ _, Stay.refl _ _, ⟨⟨⟨_, hv, ?_, trivial⟩, hB⟩, hS, hz2⟩⟩
      rw [HX.out]
      exact hrow
  case done =>
    rintro D ys W hD rfl ⟨⟨⟨v, hv, hrow, -⟩, hB⟩, hS, hz2⟩ hK
    have hc := hv.cell
    obtain ⟨va, vc, rfl, -⟩ := own_at hrow
    gi_wp2
    refine ⟨by simp, .inl ⟨_, _, rfl, run_takeDeferred hK, ?_⟩⟩
    exact ⟨_, results_tmp rfl _ _ _, _, ⟨rfl, ownsRow_putObj hrow _ hK rfl⟩, hB.trans (belowK_b (w := w) (Nat.le_refl _) W D _ _ (by omega) hK rfl rfl)⟩
  case stop =>
    rintro D c pre W _ _ h _
    exact h.elim
end Go.Proofs.Ytfhplbmgjgfihaa
