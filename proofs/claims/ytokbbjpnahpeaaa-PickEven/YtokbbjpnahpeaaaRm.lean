/-
  container/heap over what is due: Push and Remove; one is put off. No condition but what each law names.
-/
import Derived.Test.YtokbbjpnahpeaaaDn
namespace Go.Proofs.Ytokbbjpnahpeaaa
open Go.ChangeShapes Go.WideShapes Go.ChangeAt Go.RowKit
set_option linter.unusedVariables false

/-- what comes of a Push -/
def PuP (w : World) (base d : Nat) (l : List Du) (x : Du) (e : Ending) (w' : World) : Prop :=
  (e = .returned (.tuple #[]) ∧ Fr base w w') ∧ ∃ v' l', Ds w' base d v' l' ∧ l'.length = l.length + 1 ∧ Heap (fn l') (l.length + 1) ∧ Alike (l.length + 1) (fn (l ++ [x])) (fn l')
theorem near_last {l : List Du} (x : Du) (h : Heap (fn l) l.length) : Near (fn (l ++ [x])) (l.length + 1) l.length ∧ Kids (fn (l ++ [x])) (l.length + 1) l.length := by
  refine ⟨⟨fun k h0 hk h1 h2 => ?_, fun h0 k hk0 hk hp => by omega⟩, fun k h0 hk hp => by omega⟩
  rw [fn_appl _ _ _ (by omega), fn_appl _ _ _ (by omega)]
  exact h k h0 (by omega)

set_option maxHeartbeats 1000000 in
theorem hpush_calls {w : World} {base d : Nat} {v : Value} {l : List Du} (h : Ds w base d v l) (x : Du) (hl : l.length ≤ 900) (hh : Heap (fn l) l.length) :
    Calls Try.prog 22 #[ifc d, .iface 49 (duV x)] w (PuP w base d l x) := by
  have HD := hide h
  have HH := hide hh
  have mP : Sem.run Try.prog (method 179 53 (.pointer (some ⟨d, 0, none⟩)) "Push") w = .ok (46, .pointer (some ⟨d, 0, none⟩)) w := finds_push
  clear h hh
  go_enter Try.func22, Try.ntmps22
  go_wp2_with (first
    | (go_at_call 46; refine (push_calls HD.out x (by omega)).mono ?_))
  rintro e w1 ⟨⟨rfl, f1⟩, v1, d1⟩
  obtain ⟨a, c, rfl⟩ := d1.row.slice
  have elen : (l ++ [x]).length = l.length + 1 := by simp
  rw [elen] at d1
  have D1 := hide d1
  have mL := finds_len d1.head
  have hi : ((l.length + 1 : Nat) : Int) = (l.length : Int) + 1 := by omega
  have HN := hide (near_last x HH.out)
  have EL := hide elen
  clear d1 elen mP
  go_wp2_with (first
    | (go_at_call 42; refine (len_calls a (l.length + 1) c (by omega) w1).mono ?_; rintro e w2 ⟨rfl, rfl⟩)
    | (go_at_call 24; refine (up_calls D1.out (l.length + 1) l.length (by rw [EL.out]; omega) (by rw [EL.out]; omega) (by omega) HN.out.1 HN.out.2).mono ?_))
  rintro e w2 ⟨⟨rfl, f2⟩, l', d2, len2, hp2, al2⟩
  clear mL
  go_wp2_with (fail)
  go_end0
  exact ⟨⟨rfl, f1.trans f2⟩, _, l', d2, len2.trans EL.out, hp2, al2⟩

/-- what comes of a Remove -/
def ReP (w : World) (base d : Nat) (l : List Du) (n i : Nat) (e : Ending) (w' : World) : Prop :=
  ∃ r, (e = .returned r ∧ Fr base w w') ∧ ∃ v' l', Ds w' base d v' l' ∧ l'.length = n ∧ Heap (fn l') n ∧ Alike n (swp (fn l) i n) (fun k => if k < n then fn l' k else swp (fn l) i n k)
theorem near_swapped {A : Nat → Du} {n i : Nat} (h : Heap A (n + 1)) (hi : i < n) : Near (swp A i n) n i := by
  refine ⟨fun k h0 hk h1 h2 => ?_, fun h0 k hk0 hk hp => ?_⟩
  · rw [swp_o A h1 (by omega), swp_o A h2 (by omega)]
    exact h k h0 (by omega)
  · rw [swp_o A (by omega) (by omega), swp_o A (by omega) (by omega)]
    have h1 := h i h0 (by omega)
    have h2 := h k hk0 (by omega)
    rw [hp] at h2
    omega
theorem Alike.cut {A B : Nat → Du} {n : Nat} (h : Alike n A B) (l : List Du) (he : ∀ k, k < n → fn l k = B k) : Alike n A (fun k => if k < n then fn l k else A k) := by
  have e : (fun k => if k < n then fn l k else A k) = B := by
    funext k
    split
    · rename_i q; exact he k q
    · rename_i q; exact (h.tail k (by omega)).symm
  rw [e]
  exact h

set_option maxHeartbeats 1000000 in
theorem remove_calls {w : World} {base d : Nat} {v : Value} {l : List Du} (h : Ds w base d v l) (n i : Nat) (hn : l.length = n + 1) (hi : i < n + 1) (hl : n ≤ 900) (hh : Heap (fn l) (n + 1)) :
    Calls Try.prog 23 #[ifc d, .int .i64 i] w (ReP w base d l n i) := by
  obtain ⟨a, c, rfl⟩ := h.row.slice
  rw [hn] at h
  have HD := hide h
  have HH := hide hh
  have mL := finds_len h.head
  have HN := hide hn
  have hcn : ((n + 1 : Nat) : Int) = (n : Int) + 1 := by omega
  have L := len_calls a (n + 1) c (by omega) w
  clear hh hn
  by_cases hin : i = n
  · subst hin
    have mP : Sem.run Try.prog (method 179 53 (.pointer (some ⟨d, 0, none⟩)) "Pop") w = .ok (45, .pointer (some ⟨d, 0, none⟩)) w := finds_pop
    clear h
    go_enter Try.func23, Try.ntmps23
    go_wp2_with (first
      | (go_at_call 42; refine L.mono ?_; rintro e w2 ⟨rfl, rfl⟩)
      | (go_at_call 45; refine (pop_calls HD.out i HN.out (by omega)).mono ?_; rintro e w1 ⟨⟨rfl, f1⟩, v1, d1⟩))
    go_ret
    refine ⟨_, ⟨rfl, f1⟩, v1, _, d1, by rw [List.length_take, HN.out]; omega, (HH.out.less (by omega)).congr (fun k hk => fn_take _ _ _ hk), ?_⟩
    have e : swp (fn l) i i = fn l := by funext k; unfold swp; split <;> simp_all
    rw [e]
    exact (Alike.refl i (fn l)).cut _ (fun k hk => fn_take _ _ _ hk)
  · have hin' : i < n := by omega
    have hne : ((n : Int) == (i : Int)) = false := by simp; omega
    have mS := finds_swap h.head
    have W := swap_calls h.row h.size i n (by rw [HN.out]; omega) (by rw [HN.out]; omega) (by rw [HN.out]; omega)
    clear h
    go_enter Try.func23, Try.ntmps23
    go_wp2_with (first
      | (go_at_call 42; refine L.mono ?_; rintro e w2 ⟨rfl, rfl⟩)
      | (go_at_call 44; refine W.mono ?_))
    rintro e w1 ⟨⟨rfl, f1⟩, hr, hd⟩
    have d1 := HD.out.swapped hd hr
    have len1 : (swapL l i n).length = n + 1 := (swapL_len _ _ _).trans HN.out
    have E := hide (fn_swapL l i n (by rw [HN.out]; omega) (by rw [HN.out]; omega))
    have D := down_calls d1 n i (by rw [len1]; omega) (by rw [len1]; omega) hin' (by rw [E.out]; exact near_swapped HH.out hin')
    have HLN := hide len1
    clear mS W mL L hr hd d1 len1
    go_wp2_with (first
      | (go_at_call 25; refine D.mono ?_))
    rintro e w2 ⟨b, ⟨rfl, f2⟩, l2, d2, len2, al2, hb1, hb2⟩
    have len2' : l2.length = n + 1 := len2.trans HLN.out
    have LN2 := hide len2'
    have AL := hide (E.out ▸ al2)
    clear D len2 len2' al2
    cases b with
    | true =>
      have HP := hide (hb1 rfl)
      have D2 := hide d2
      have mP : Sem.run Try.prog (method 179 53 (.pointer (some ⟨d, 0, none⟩)) "Pop") w2 = .ok (45, .pointer (some ⟨d, 0, none⟩)) w2 := finds_pop
      clear hb1 hb2 d2
      go_wp2_with (first
        | (go_at_call 45; refine (pop_calls D2.out n LN2.out (by omega)).mono ?_; rintro e w3 ⟨⟨rfl, f3⟩, v3, d3⟩))
      go_ret
      exact ⟨_, ⟨rfl, (f1.trans f2).trans f3⟩, v3, _, d3, by rw [List.length_take, LN2.out]; omega, HP.out.congr (fun k hk => fn_take _ _ _ hk), AL.out.cut _ (fun k hk => fn_take _ _ _ hk)⟩
    | false =>
      have U := up_calls d2 n i (by rw [LN2.out]; omega) (by rw [LN2.out]; omega) hin' (hb2 rfl).1 (hb2 rfl).2
      clear hb1 hb2 d2
      go_wp2_with (first
        | (go_at_call 24; refine U.mono ?_))
      rintro e w3 ⟨⟨rfl, f3⟩, l3, d3, len3, hp3, al3⟩
      have LN3 := hide (len3.trans LN2.out)
      have D3 := hide d3
      have mP : Sem.run Try.prog (method 179 53 (.pointer (some ⟨d, 0, none⟩)) "Pop") w3 = .ok (45, .pointer (some ⟨d, 0, none⟩)) w3 := finds_pop
      clear U len3 d3
      go_wp2_with (first
        | (go_at_call 45; refine (pop_calls D3.out n LN3.out (by omega)).mono ?_; rintro e w4 ⟨⟨rfl, f4⟩, v4, d4⟩))
      go_ret
      exact ⟨_, ⟨rfl, ((f1.trans f2).trans f3).trans f4⟩, v4, _, d4, by rw [List.length_take, LN3.out]; omega, hp3.congr (fun k hk => fn_take _ _ _ hk), (AL.out.trans al3).cut _ (fun k hk => fn_take _ _ _ hk)⟩
end Go.Proofs.Ytokbbjpnahpeaaa
