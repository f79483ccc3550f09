/-
  What trace.Of answers of any events: a function value that holds a box of the thread's events with their places. No condition but that the slice's cells hold the events.
-/
import Derived.Test.YtfhplbmgjgfihaaPlc
import Derived.Deep.LoopGhost
import Derived.Deep.CutRange
namespace Go.Proofs.Ytfhplbmgjgfihaa
open Go.ChangeShapes Go.WideShapes Go.ChangeAt Go.RowKit
set_option linter.unusedVariables false
set_option maxRecDepth 20000

/-- what Of leaves: the box of the thread's events -/
def OfP (w : World) (ps : List Pl) (r : Ending) (w' : World) : Prop :=
  ∃ v, ((r = .returned (.func (.func 19) #[] #[.pointer (some ⟨w.heap.size, 0, none⟩)]) ∧ Gr w w') ∧ Has w' w.heap.size #[v] 47) ∧ PlsO w' w.heap.size v ps
set_option maxHeartbeats 1000000 in
theorem of_calls (a : Option Addr) (c : Nat) (l : List Ev) (hl : ∀ x ∈ l, EvOk x) (hn : l.length ≤ 900) (t : Int) (w : World) (h : RowAt w a (flatOf evL l)) :
    Calls Try.prog 15 #[.slice a l.length c, .int .i64 t] w (OfP w (plc t 0 l hl)) := by
  have HH := hide h
  have g0 := (Gr.refl w).alloc #[.slice none 0 0] 47
  have b0 := Has.new w #[.slice none 0 0] 47
  clear h
  go_enter Try.func15, Try.ntmps15
  go_wp2_with (fail)
  go_loopw [10] (fun u wr => ∃ (j : Nat) (v : Value), j ≤ l.length ∧ u = .int .i64 j ∧ Has wr w.heap.size #[v] 47 ∧ PlsO wr w.heap.size v (plc t 0 (l.take j) (fun x hx => hl x (List.mem_of_mem_take hx))) ∧ Gr w wr) (fun u _ => l.length - (intOf u).toNat)
  case atStart => exact ⟨0, _, by omega, rfl, b0, own_nil _ _ _ _, g0⟩
  case round =>
    clear g0 b0
    obtain ⟨j, v, hj, rfl, hb, hs, g⟩ := hrel
    by_cases hlt : j < l.length
    · have hlt' : (j : Int) < l.length := by omega
      have rw1 := HH.out.later g
      obtain ⟨b, off, had, -⟩ := rw1.get (by rw [flatOf_length evL_len]; omega)
      subst had
      have c0 := rw1.cell evL_len hlt ev0 0 (by omega)
      have c1 := rw1.cell evL_len hlt ev0 1 (by omega)
      have c2 := rw1.cell evL_len hlt ev0 2 (by omega)
      have c3 := rw1.cell evL_len hlt ev0 3 (by omega)
      have c4 := rw1.cell evL_len hlt ev0 4 (by omega)
      have c5 := rw1.cell evL_len hlt ev0 5 (by omega)
      have c6 := rw1.cell evL_len hlt ev0 6 (by omega)
      have c7 := rw1.cell evL_len hlt ev0 7 (by omega)
      have hT := take_snoc' hlt ev0
      obtain ⟨x, hx, hm⟩ : ∃ x, l.getD j ev0 = x ∧ EvOk x := ⟨_, rfl, hl _ (mem_getD hlt ev0)⟩
      rw [hx] at c0 c1 c2 c3 c4 c5 c6 c7 hT
      clear hx
      have HT : Hid (∀ h, plc t 0 (l.take (j + 1)) h = plc t 0 (l.take j) (fun x hx => hl x (List.mem_of_mem_take hx)) ++ if x.who = t then [⟨j, x, hm⟩] else []) := by
        intro h
        have e := plc_snoc t 0 (l.take j) x (by rw [← hT]; exact h) (fun x hx => hl x (List.mem_of_mem_take hx)) hm
        rw [Nat.zero_add, List.length_take, Nat.min_eq_left hj] at e
        rw [← e]
        congr 1
      have hlen := plc_len t 0 (l.take j) (fun x hx => hl x (List.mem_of_mem_take hx))
      rw [List.length_take] at hlen
      have hlen' : (plc t 0 (l.take j) (fun x hx => hl x (List.mem_of_mem_take hx))).length ≤ 900 := by omega
      generalize plc t 0 (l.take j) (fun x hx => hl x (List.mem_of_mem_take hx)) = o at hs HT hlen'
      clear rw1 hT hlen
      simp only [evL, List.getElem?_cons_zero, List.getElem?_cons_succ, Nat.add_zero, ← Nat.add_assoc] at c0 c1 c2 c3 c4 c5 c6 c7
      have cb := hb.cell (o := 0) (v := v) rfl
      have fb := hb.free 0
      have ge := g.alloc (evA x) 35
      have hbe := hb.alloc (evA x) 35
      have hne : w.heap.size ≤ wr.heap.size := g.size
      by_cases hw : x.who = t
      · have hw' : (x.who == t) = true := by simpa using hw
        have HW := hide hw
        clear hw
        go_upto_region 6 with (fail)
        have he := Has.new wr (evA x) 35
        change Code.wp _ _ _ _ (wr.alloc (.cells (evA x) 35))
        have hse := own_later hs ((Gr.refl wr).alloc (evA x) 35)
        generalize wr.alloc (.cells (evA x) 35) = w1 at ge hbe hse he ⊢
        obtain ⟨s0, d0, rfl, -⟩ := own_at hse
        obtain ⟨v', w', hr, ho, hg, hob⟩ := app_rec (T := 47) (ty := 47) plL_len plL_one Try.underlying47 infoPl rfl (by omega) (by omega) hse ⟨j, x, hm⟩ (plA j x) rfl (by omega) ge.size
        obtain ⟨s1, d1, rfl, -⟩ := own_at ho
        have hbp := hbe.alloc (plA j x) 49
        have hb' := hbp.kept (Kp.grown hg) (fun q => by
          obtain ⟨D, hD⟩ := own_has hse q
          exact hbe.apart hD (by decide) rfl)
        have hg' : Gr w w' := grown_gr (ge.alloc (plA j x) 49) (own_later hse ((Gr.refl _).alloc (plA j x) 49)) hg (Nat.le_refl _)
        have HR := hide hr
        have HO := hide ho
        have HB := hide hb'
        have GG := hide hg'
        have cb' := hb'.cell (o := 0) (v := .slice s0 o.length d0) rfl
        have fb' := hb'.free 0
        have cbe := hbe.cell (o := 0) (v := .slice s0 o.length d0) rfl
        have k0 := he.cell (o := 0) rfl
        have k1 := he.cell (o := 1) rfl
        have k2 := he.cell (o := 2) rfl
        have k3 := he.cell (o := 3) rfl
        have k4 := he.cell (o := 4) rfl
        have k5 := he.cell (o := 5) rfl
        have k6 := he.cell (o := 6) rfl
        have k7 := he.cell (o := 7) rfl
        clear hse hbe ge hbp hb' hg' hr ho hg hob he c0 c1 c2 c3 c4 c5 c6 c7 cb fb
        go_wp2_with (first
          | (refine step_app rfl (some 24) rfl _ _ _ rfl (.slice s0 o.length d0) (.slice (some ⟨w1.heap.size, 0, none⟩) 1 1) rfl rfl (.slice s1 _ d1) w' (by exact HR.out) ?_))
        refine ⟨⟨j + 1, .slice s1 (o.length + 1) d1, by omega, by go_num, (HB.out.set 0 _).of rfl, ?_, GG.out.setCell (Nat.le_refl _) _⟩, by simp [intOf]; omega⟩
        rw [HT.out, if_pos HW.out, show o.length + 1 = (o ++ [(⟨j, x, hm⟩ : Pl)]).length from by simp]
        exact own_kept HO.out (Kp.setCell w' w.heap.size 0 _) (fun k hk => by
          obtain ⟨D, hD⟩ := own_has HO.out (mem_ob.2 hk)
          simpa using (HB.out.apart hD (by decide)).symm)
      · have hw' : (x.who == t) = false := by simpa using hw
        clear HH
        go_wp2_with (fail)
        refine ⟨⟨j + 1, v, by omega, by go_num, hbe, ?_, ge⟩, by simp [intOf]; omega⟩
        rw [HT.out, if_neg hw, List.append_nil]
        exact own_later hs ((Gr.refl wr).alloc (evA x) 35)
    · obtain rfl : j = l.length := by omega
      have hs' : PlsO wr w.heap.size v (plc t 0 l hl) := by
        have e : plc t 0 (l.take l.length) (fun x hx => hl x (List.mem_of_mem_take hx)) = plc t 0 l hl := by congr 1; exact List.take_length
        rw [← e]
        exact hs
      have HS := hide hs'
      clear hs hs'
      go_wp2_with (fail)
      go_ret
      exact ⟨v, ⟨⟨rfl, g⟩, hb⟩, HS.out⟩
end Go.Proofs.Ytfhplbmgjgfihaa
