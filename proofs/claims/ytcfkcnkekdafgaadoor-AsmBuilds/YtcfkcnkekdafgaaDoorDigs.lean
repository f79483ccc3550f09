/-
  For any number below 10^11, in any world: the reference's digits are its decimal digits. Memory grows alone. No condition but that.
-/
import Derived.Test.YtcfkcnkekdafgaaDoorLine
import Derived.Laws.IdiomStrings
namespace Go.Proofs.YtcfkcnkekdafgaaDoor
open Go.ChangeShapes Go.WideShapes Go.ChangeAt Go.RowKit
set_option linter.unusedVariables false

/-- a digit -/
def digD (n : Nat) : UInt8 := UInt8.ofNat (48 + n)
/-- the digits of a number, at most so many -/
def digF : Nat → Nat → Bs
  | 0, _ => []
  | f + 1, n => if n < 10 then [digD n] else digF f (n / 10) ++ [digD (n % 10)]
def digs (n : Nat) : Bs := digF 11 n
theorem digF_more : ∀ (f n : Nat), n < 10 ^ f → 0 < f → digF (f + 1) n = digF f n
  | 0, n, h, h0 => by omega
  | f + 1, n, h, _ => by
    rw [digF]
    conv => rhs; rw [digF]
    by_cases h1 : n < 10
    · rw [if_pos h1, if_pos h1]
    · rw [if_neg h1, if_neg h1]
      have h2 : 0 < f := by
        rcases Nat.eq_zero_or_pos f with h3 | h3
        · subst h3; simp at h; omega
        · exact h3
      have h3 : n / 10 < 10 ^ f := by rw [Nat.div_lt_iff_lt_mul (by omega)]; rw [Nat.pow_succ] at h; omega
      rw [digF_more f (n / 10) h3 h2]
theorem digF_len : ∀ (f n : Nat), (digF f n).length ≤ f
  | 0, n => by simp [digF]
  | f + 1, n => by
    rw [digF]
    split
    · simp
    · have := digF_len f (n / 10); simp; omega

/-- a conversion whose run is known -/
theorem step_conv {ops : Array Oper} {rest : List Oper} {o : Oper} {a : Act} {w : World} {Q : Exit → Act → World → Prop} (hgd : o.guard = none) (d : Option Tmp) (hd : o.dst = d) (s t : TypeId) (x : Operand) (ho : o.op = .convert s t x)
    (u : Value) (hx : a.eval x = u) (v' : Value) (hr : (convert s t u).run Tryd.prog w = .ok v' w) (h : wpList Tryd.prog ops Q rest (a.put d v') w) : wpList Tryd.prog ops Q (o :: rest) a w :=
  wpList_plain hgd fun _ hK => by
    subst hd
    unfold Oper.wp execOp
    simp only [ho, hx, Sem.run_bind, hr, Result.andThen_ok]
    exact hK _ _ h
theorem cat_mk (a b : Bs) : (⟨a.toArray⟩ : ByteArray) ++ ⟨b.toArray⟩ = ⟨(a ++ b).toArray⟩ := by
  apply ByteArray.ext
  apply Array.toList_inj.mp
  simp
theorem ret_str {a b : ByteArray} (h : a = b) : Ending.returned (.string a) = .returned (.string b) := by rw [h]
theorem u8_dig (n : Nat) (h : n < 10) : ((digD n).toNat : Int) = 48 + n := by
  unfold digD
  rw [UInt8.toNat_ofNat']
  omega

set_option maxRecDepth 100000 in
set_option maxHeartbeats 400000 in
theorem dig_one (n : Nat) (h : n < 10) (w : World) :
    Calls Tryd.prog 21 #[.int .i64 n] w fun e w' => e = .returned (.string ⟨[digD n].toArray⟩) ∧ Gr w w' := by
  have h1 : (n : Int) < 10 := by omega
  have hr := run_convert_bytes_back (P := Tryd.prog) (w.alloc (.cells #[.int .u8 (48 + (n : Int))] 5)) 52 9 5 ⟨w.heap.size, 0, none⟩ 1 [digD n] Tryd.underlying52 Tryd.underlying5 Tryd.underlying9 (by
    intro j hj
    obtain rfl : j = 0 := by simp at hj; exact hj
    rw [Addr.add_mid]
    simp [u8_dig n h])
  have HR : Hid ((convert 52 9 (.slice (some ⟨w.heap.size, 0, none⟩) 1 1)).run Tryd.prog (w.alloc (.cells #[.int .u8 (48 + (n : Int))] 5)) = .ok (.string ⟨#[digD n]⟩) (w.alloc (.cells #[.int .u8 (48 + (n : Int))] 5))) := hr
  clear hr
  go_enter Tryd.func21, Tryd.ntmps21
  go_wp2_with (first | (refine step_conv rfl (some 9) rfl 52 9 (.tmp 8) rfl (.slice (some ⟨w.heap.size, 0, none⟩) 1 1) rfl (.string ⟨#[digD n]⟩) HR.out ?_))
  go_ret
  exact ⟨rfl, (Gr.refl w).alloc _ _⟩

set_option maxHeartbeats 400000 in
theorem dig_calls : ∀ (f n : Nat), 0 < f → f ≤ 11 → n < 10 ^ f → ∀ w : World,
    Calls Tryd.prog 21 #[.int .i64 n] w fun e w' => e = .returned (.string ⟨(digF f n).toArray⟩) ∧ Gr w w'
  | 0, n, h0, _, _, w => by omega
  | f + 1, n, _, hf, hn, w => by
    by_cases h : n < 10
    · have e : digF (f + 1) n = [digD n] := by rw [digF, if_pos h]
      rw [e]
      exact dig_one n h w
    · have h2 : 0 < f := by
        rcases Nat.eq_zero_or_pos f with h3 | h3
        · subst h3; simp at hn; omega
        · exact h3
      have h3 : n / 10 < 10 ^ f := by rw [Nat.div_lt_iff_lt_mul (by omega)]; rw [Nat.pow_succ] at hn; omega
      have e : digF (f + 1) n = digF f (n / 10) ++ [digD (n % 10)] := by rw [digF, if_neg h]
      have ih := dig_calls f (n / 10) h2 (by omega) h3
      have h1 := dig_one (n % 10) (by omega)
      have hbig : n < 100000000000 := Nat.lt_of_lt_of_le hn (Nat.le_trans (Nat.pow_le_pow_right (by omega) hf) (by decide))
      have hl := digF_len f (n / 10)
      rw [e]
      have IH := hide ih
      have H1 := hide h1
      have c1 : ¬ (n : Int) < 10 := by omega
      clear ih h1 hn h3 e
      generalize digF f (n / 10) = A at IH hl ⊢
      generalize digD (n % 10) = b at H1 ⊢
      go_enter Tryd.func21, Tryd.ntmps21
      go_wp2_with (fail)
      refine Calls.mono (show Calls Tryd.prog 21 _ w _ from IH.out w) ?_
      rintro e w1 ⟨rfl, g1⟩
      have hA : (⟨A.toArray⟩ : ByteArray).size ≤ 11 := by rw [size_mk]; omega
      have hB : (⟨[b].toArray⟩ : ByteArray).size = 1 := rfl
      go_wp2_with (fail)
      refine Calls.mono (show Calls Tryd.prog 21 _ w1 _ from H1.out w1) ?_
      rintro e w2 ⟨rfl, g2⟩
      go_wp2_with (fail)
      go_ret
      exact ⟨ret_str (cat_mk A [b]), g1.trans g2⟩
end Go.Proofs.YtcfkcnkekdafgaaDoor
