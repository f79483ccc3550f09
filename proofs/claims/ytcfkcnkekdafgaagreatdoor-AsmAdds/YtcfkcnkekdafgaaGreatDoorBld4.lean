/-
  What a builder's Code answers: nothing, if something was wrong; a copy of its code, if nothing jumps. Conditions: at most 2^31 instructions.
-/
import Derived.Test.YtcfkcnkekdafgaaGreatDoorBld3
namespace Go.Proofs.YtcfkcnkekdafgaaGreatDoor
open Go.ChangeShapes Go.WideShapes Go.ChangeAt Go.RowKit
set_option linter.unusedVariables false

def CloneP (l : List Ins) (w : World) (e : Ending) (w' : World) : Prop := ∃ v', e = .returned v' ∧ w'.ownsRow w.heap.size 36 5 v' l.length (codeV l) ∧ Gr w w'
theorem one_code (l : List Ins) : ∀ u ∈ codeV l, u.oneCell' = true := by
  intro u hu
  unfold codeV at hu
  rw [List.mem_flatMap] at hu
  obtain ⟨i, _, hi⟩ := hu
  simp at hi
  rcases hi with rfl | rfl | rfl | rfl | rfl <;> rfl
set_option maxRecDepth 20000 in
set_option maxHeartbeats 400000 in
theorem clone_calls (v : Value) (l : List Ins) (w : World) (ho : w.ownsRow 0 36 5 v l.length (codeV l)) (h4 : l.length ≤ 2147483648) :
    Calls Tryz.prog 39 #[v] w (CloneP l w) := by
  obtain ⟨i3, hi3, hz30, hz31, hz32⟩ := info_parts infoI
  have heq0 : ∀ w : World, (binOp BinOp.eql 23 (.slice none 0 0) (.slice none 0 0)).run Tryz.prog w = .ok (.bool true) w := fun _ => by kernel_rfl
  have heq1 : ∀ (ad : Addr) (n c : Nat) (w : World), (binOp BinOp.eql 23 (.slice (some ad) n c) (.slice none 0 0)).run Tryz.prog w = .ok (.bool false) w := fun _ _ _ _ => by kernel_rfl
  rcases ho.2 with ⟨rfl, h0⟩ | ⟨q, cap, cur, rfl, hb, hq, h1, h2, h3, h5⟩
  · have e0 : l = [] := List.eq_nil_of_length_eq_zero h0
    subst e0
    go_enter Tryz.func39, Tryz.ntmps39
    go_wp2
    go_ret
    exact ⟨_, rfl, ⟨rfl, .inl ⟨rfl, rfl⟩⟩, Gr.refl _⟩
  · have hg := (Gr.refl w).alloc #[] 36
    have O6 : Hid ((w.alloc (.cells #[] 36)).ownsRow w.heap.size 36 5 (.slice (some ⟨w.heap.size, 0, none⟩) 0 0) 0 []) := ⟨rfl, .inr ⟨_, 0, #[], rfl, Nat.le_refl _, heap_alloc_new w _, Nat.le_refl _, Nat.zero_le _, rfl, rfl⟩⟩
    have N6 : Hid (∀ (j : Nat) (u : Value), (codeV l)[j]? = some u → (w.alloc (.cells #[] 36)).cell? ((⟨q, 0, none⟩ : Addr).add j) = some u) := fun j u hj => cell_later hg (World.ownsRow.cells ho (g := q) rfl j u hj)
    have hlen := codeV_len l
    have U6 := hide (one_code l)
    have HG := hide hg
    clear ho hg hb hq h3 h5
    go_enter Tryz.func39, Tryz.ntmps39
    go_wp2_with (at_builtin; refine wpList_append_own _ rfl (.tmp 5) (.tmp 6) 23 rfl w.heap.size 36 i3 zeroI 5 40 Tryz.underlying23 hi3 hz30 hz31 hz32 rfl (by decide) _ 0 _ rfl O6.out ⟨q, 0, none⟩ l.length cap (codeV l) rfl hlen N6.out U6.out (by unfold maxLen; omega) (by omega) HG.out.size ?_)
    intro v' w7 hown7 hgrow7 _
    have HO : Hid (w7.ownsRow w.heap.size 36 5 v' l.length (codeV l)) := by show w7.ownsRow _ _ _ _ _ _; simpa using hown7
    have HGR : Hid (Gr w w7) := Below.grown HG.out hgrow7 HG.out.size (fun k hk => by cases hk; exact Nat.le_refl _)
    clear hown7 hgrow7
    go_wp2
    go_ret
    exact ⟨_, rfl, HO.out, HGR.out⟩

theorem code_wrong (own : Nat → Prop) (g : Nat) (st : St) (w : World) (hP : BAt w own g st true) :
    Calls Tryz.prog 18 #[.pointer (some ⟨g, 0, none⟩)] w fun e w' => e = .returned (.tuple #[.slice none 0 0, .bool false]) ∧ w' = w := by
  obtain ⟨vc, vm, vj, P0⟩ := hP
  have q3 := row_cell P0.row 3
  simp only [List.getElem?_toArray, List.getElem?_cons_zero, List.getElem?_cons_succ] at q3
  clear P0
  go_enter Tryz.func18, Tryz.ntmps18
  go_wp2
  go_ret2
  exact ⟨rfl, rfl⟩

def CodeP (l : List Ins) (w : World) (e : Ending) (w' : World) : Prop := ∃ v', e = .returned (.tuple #[v', .bool true]) ∧ w'.ownsRow w.heap.size 36 5 v' l.length (codeV l) ∧ Gr w w'
set_option maxRecDepth 20000 in
set_option maxHeartbeats 400000 in
theorem code_plain (own : Nat → Prop) (g : Nat) (st : St) (w : World) (hP : BAt w own g st false) (h4 : st.code.length ≤ 2147483648) (hj : st.jumps = []) :
    Calls Tryz.prog 18 #[.pointer (some ⟨g, 0, none⟩)] w (CodeP st.code w) := by
  obtain ⟨vc, vm, vj, P0⟩ := hP
  have q0 := row_cell P0.row 0
  have q2 := row_cell P0.row 2
  have q3 := row_cell P0.row 3
  simp only [List.getElem?_toArray, List.getElem?_cons_zero, List.getElem?_cons_succ] at q0 q2 q3
  obtain ⟨a3, c3, rfl⟩ := own_shape P0.oj
  rw [hj] at q2
  have HC := hide (clone_calls vc st.code w P0.oc h4)
  clear P0
  go_enter Tryz.func18, Tryz.ntmps18
  go_wp2_with (fail)
  refine HC.out.mono ?_
  rintro e w1 ⟨v', rfl, ho, hg⟩
  have q2' := cell_later hg q2
  have HO := hide ho
  obtain ⟨a7, c7, rfl⟩ := own_shape ho
  clear ho HC
  go_wp2
  refine wp_loop_rounds 1 ?_
  rw [rounds_succ]
  go_wp2
  go_ret2
  exact ⟨_, rfl, HO.out, hg⟩
end Go.Proofs.YtcfkcnkekdafgaaGreatDoor
