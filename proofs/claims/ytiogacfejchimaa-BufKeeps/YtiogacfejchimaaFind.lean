/-
  What Find answers of any cells that are a buffer, and any address. No condition but that.
-/
import Derived.Test.YtiogacfejchimaaStep
namespace Go.Proofs.Ytiogacfejchimaa
open Go.ChangeShapes Go.WideShapes Go.ChangeAt Go.RowKit
set_option linter.unusedVariables false

/-- the youngest of an address, looked for from the youngest on: the first k were not it -/
def findR (addr : Int) : List Ent → Option Int
  | [] => none
  | x :: l => match findR addr l with
    | some v => some v
    | none => if x.a = addr then some x.v else none

theorem findR_append (addr : Int) : ∀ (l m : List Ent), findR addr (l ++ m) = match findR addr m with
    | some v => some v
    | none => findR addr l
  | [], m => by simp [findR]; cases findR addr m <;> rfl
  | x :: l, m => by
    simp only [List.cons_append, findR, findR_append addr l m]
    cases findR addr m <;> rfl

/-- what Find answers -/
def foundV (o : Option Int) : Value := match o with
  | some v => .tuple #[.int .u32 v, .bool true]
  | none => .tuple #[.int .u32 0, .bool false]

theorem getD_drop (l : List Ent) (k : Nat) (hk : k < l.length) : l.drop (l.length - (k + 1)) = l.getD (l.length - 1 - k) ent0 :: l.drop (l.length - k) := by
  rw [List.drop_eq_getElem_cons (by omega)]
  congr 1
  · rw [List.getD_eq_getElem?_getD, List.getElem?_eq_getElem (by omega)]
    simp only [Option.getD_some]
    congr 1
    omega
  · congr 1
    omega

set_option maxHeartbeats 400000 in
theorem find_calls {C : Array Value} {room : Nat} {l : List Ent} (h : IsB C room l) (addr : Int) (w : World) :
    Calls Try.prog 13 #[.agg C, .int .i64 addr] w fun e w' => e = .returned (foundV (findR addr l)) ∧ Gr w w' := by
  obtain ⟨r, first, hi⟩ := h
  have HB := hide hi
  have HI : Hid (IsB C room l) := ⟨r, first, hi⟩
  have hf := hi.fst
  have hm := hi.most
  have hlen := hi.len
  have c33 : C[33]? = some (.int .i64 first) := by rw [hi.cells]; exact bufC_first hi.ring _ _ _
  have C33 := hide c33
  have c34 : C[34]? = some (.int .i64 l.length) := by rw [hi.cells]; exact bufC_count hi.ring _ _ _
  have C34 := hide c34
  have HS := hide HI.out.size
  have b0 := Has.new w C 29
  have bg := (Gr.refl w).alloc C 29
  clear hi c33
  go_enter Try.func13, Try.ntmps13
  go_wp2_with (fail)
  go_loopw [10] (fun i wr => ∃ k : Nat, k ≤ l.length ∧ i = .int .i64 k ∧ Has wr w.heap.size C 29 ∧ Gr w wr ∧ Hid (findR addr (l.drop (l.length - k)) = none)) (fun i _ => l.length - (intOf i).toNat)
  case atStart => exact ⟨0, by omega, rfl, b0, bg, by show findR addr (l.drop (l.length - 0)) = none; simp [findR]⟩
  case round =>
    clear b0 bg c34
    obtain ⟨k, hk, rfl, b0, bg, hn⟩ := hrel
    by_cases hlt : k < l.length
    · have k34 := b0.cell C34.out
      have HD := hide (getD_drop l k hlt)
      obtain ⟨ca, cv⟩ := HB.out.ent (l.length - 1 - k) (by omega)
      generalize l.getD (l.length - 1 - k) ent0 = x at ca cv HD
      have CA := hide ca
      have CV := hide cv
      clear ca cv
      go_wp2_with (first | (refine load_buf rfl _ rfl w.heap.size rfl C b0 HS.out ?_))
      refine (place_int C33.out hf (l.length - 1 - k) (by omega) _ (by omega) _).mono ?_
      rintro e w1 ⟨rfl, g1⟩
      replace b0 := b0.later g1
      replace bg := bg.trans g1
      clear g1 k34
      have ca := b0.cell CA.out
      have cv := b0.cell CV.out
      generalize hpp : (first + (l.length - 1 - k)) % 16 = p at ca cv ⊢
      have hp : p < 16 := by omega
      have hp' : (p : Int) < 16 := by omega
      clear CA CV hpp
      by_cases hx : x.a = addr
      · have hx' : (x.a == addr) = true := by simp [hx]
        have HR : Hid (findR addr l = some x.v) := by
          show findR addr l = some x.v
          rw [← List.take_append_drop (l.length - (k + 1)) l, findR_append, HD.out]
          simp [findR, hn.out, hx]
        clear hn HD hx
        go_wp2_with (fail)
        go_ret2
        exact ⟨by rw [HR.out]; rfl, bg.alloc _ _⟩
      · have hx' : (x.a == addr) = false := by simp [hx]
        have HN : Hid (findR addr (l.drop (l.length - (k + 1))) = none) := by
          show findR addr (l.drop (l.length - (k + 1))) = none
          rw [HD.out]
          simp [findR, hn.out, hx]
        clear hn HD hx
        go_wp2_with (fail)
        exact ⟨⟨k + 1, by omega, by go_num, b0.alloc _ _, bg.alloc _ _, HN⟩, by simp [intOf]; omega⟩
    · obtain rfl : k = l.length := by omega
      have HN : Hid (findR addr l = none) := by
        have := hn.out
        rw [Nat.sub_self, List.drop_zero] at this
        exact this
      clear hn
      go_wp2_with (fail)
      go_ret2
      exact ⟨by rw [HN.out]; rfl, bg⟩
end Go.Proofs.Ytiogacfejchimaa
