/-
  Two slices of the same entries are the same; what the document's Find answers of any slice of entries. No condition but that their cells hold the entries.
-/
import Derived.Test.YtiogacfejchimaaEntr
import Derived.Test.YtiogacfejchimaaFind
import Derived.Deep.QuietTactic
import Derived.BigQuiet
namespace Go.Proofs.Ytiogacfejchimaa
open Go.ChangeShapes Go.WideShapes Go.ChangeAt Go.RowKit
set_option linter.unusedVariables false

set_option maxHeartbeats 400000 in
theorem same_calls (a b : Option Addr) (ca cb : Nat) (l : List Ent) (hl : l.length ≤ 1000) (w : World) (ha : EntsAt w a l) (hb : EntsAt w b l) :
    Calls Try.prog 15 #[.slice a l.length ca, .slice b l.length cb] w fun e w' => e = .returned (.bool true) ∧ Gr w w' := by
  have HA := hide ha
  have HB := hide hb
  clear ha hb
  go_enter Try.func15, Try.ntmps15
  go_wp2_with (fail)
  go_loopw [5] (fun i wr => ∃ k : Nat, k ≤ l.length ∧ i = .int .i64 k ∧ Gr w wr) (fun i _ => l.length - (intOf i).toNat)
  case atStart => exact ⟨0, by omega, rfl, Gr.refl w⟩
  case round =>
    obtain ⟨k, hk, rfl, gr⟩ := hrel
    by_cases hlt : k < l.length
    · have hlt' : (k : Int) < l.length := by omega
      obtain ⟨b1, o1, h1, c1, c2⟩ := (HA.out.later gr).get hlt
      obtain ⟨b2, o2, h2, c3, c4⟩ := (HB.out.later gr).get hlt
      subst h1 h2
      generalize l.getD k ent0 = x at c1 c2 c3 c4
      go_wp2_with (fail)
      go_quiet (fail)
      go_wp2_with (fail)
      exact ⟨⟨k + 1, by omega, by go_num, gr.drewN nq⟩, by simp [intOf]; omega⟩
    · obtain rfl : k = l.length := by omega
      go_wp2_with (fail)
      go_ret
      exact ⟨rfl, gr⟩

/-- what the document's Find answers -/
def refV (o : Option Int) : Value × Value := match o with
  | some v => (.int .u32 v, .int .i64 1)
  | none => (.int .u32 0, .int .i64 0)
theorem findR_snoc (addr : Int) (l : List Ent) (x : Ent) : findR addr (l ++ [x]) = if x.a = addr then some x.v else findR addr l := by
  rw [findR_append]
  by_cases h : x.a = addr <;> simp [findR, h]
theorem take_get (l : List Ent) (k : Nat) (h : k < l.length) : l.take (k + 1) = l.take k ++ [l.getD k ent0] := by
  rw [List.take_succ_eq_append_getElem h, List.getD_eq_getElem?_getD, List.getElem?_eq_getElem h]; rfl

set_option maxHeartbeats 400000 in
theorem rfind_calls (a : Option Addr) (ca : Nat) (l : List Ent) (hl : l.length ≤ 1000) (addr : Int) (w : World) (ha : EntsAt w a l) :
    Calls Try.prog 14 #[.slice a l.length ca, .int .i64 addr] w fun e w' => e = .returned (.tuple #[(refV (findR addr l)).1, (refV (findR addr l)).2]) ∧ w' = w := by
  have HA := hide ha
  clear ha
  go_enter Try.func14, Try.ntmps14
  go_wp2_with (fail)
  go_loop [6, 7, 8] (fun v s i => ∃ k : Nat, k ≤ l.length ∧ i = .int .i64 k ∧ v = (refV (findR addr (l.take k))).1 ∧ s = (refV (findR addr (l.take k))).2) (fun _ _ i => l.length - (intOf i).toNat)
  case atStart => exact ⟨0, by omega, rfl, rfl, rfl⟩
  case round =>
    obtain ⟨k, hk, rfl, rfl, rfl⟩ := hrel
    by_cases hlt : k < l.length
    · have hlt' : (k : Int) < l.length := by omega
      obtain ⟨b1, o1, h1, c1, c2⟩ := HA.out.get hlt
      have HT := hide (take_get l k hlt)
      subst h1
      generalize l.getD k ent0 = x at c1 c2 HT
      generalize l.take k = m at HT
      by_cases hx : x.a = addr
      · have hx' : (x.a == addr) = true := by simp [hx]
        have HR : Hid (findR addr (m ++ [x]) = some x.v) := by show findR addr (m ++ [x]) = some x.v; rw [findR_snoc, if_pos hx]
        clear hx
        go_wp2_with (fail)
        exact ⟨⟨k + 1, by omega, by go_num, by rw [HT.out, HR.out]; rfl, by rw [HT.out, HR.out]; rfl⟩, by simp [intOf]; omega⟩
      · have hx' : (x.a == addr) = false := by simp [hx]
        have HR : Hid (findR addr (m ++ [x]) = findR addr m) := by show findR addr (m ++ [x]) = findR addr m; rw [findR_snoc, if_neg hx]
        clear hx
        go_wp2_with (fail)
        exact ⟨⟨k + 1, by omega, by go_num, by rw [HT.out, HR.out], by rw [HT.out, HR.out]⟩, by simp [intOf]; omega⟩
    · obtain rfl : k = l.length := by omega
      rw [List.take_length]
      go_wp2_with (fail)
      go_ret2
      exact ⟨rfl, rfl⟩
end Go.Proofs.Ytiogacfejchimaa
