/-
  For any world: what the assembler's small tellers answer: a register, a number in decimal digits. Memory grows alone. FormatUint is told where the table of powers of ten is laid.
-/
import Derived.Test.YtcfkcnkekdafgaaGreatDoorDigs
import Derived.Lib.AppendIntMem
namespace Go.Proofs.YtcfkcnkekdafgaaGreatDoor
open Go.ChangeShapes Go.WideShapes Go.ChangeAt Go.RowKit Go.Lib Go.Sort
set_option linter.unusedVariables false

/-- the library's digits are the reference's -/
theorem dec_dig : ∀ (f n : Nat), 0 < f → n < 10 ^ f → Lib.decDigits n = digF f n
  | 0, n, h, _ => by omega
  | f + 1, n, _, h => by
    rw [digF, Lib.decDigits]
    by_cases h1 : n < 10
    · rw [dif_pos h1, if_pos h1]; rfl
    · rw [dif_neg h1, if_neg h1]
      have h2 : 0 < f := by
        rcases Nat.eq_zero_or_pos f with h3 | h3
        · subst h3; simp at h; omega
        · exact h3
      have h3 : n / 10 < 10 ^ f := by rw [Nat.div_lt_iff_lt_mul (by omega)]; rw [Nat.pow_succ] at h; omega
      rw [dec_dig f (n / 10) h2 h3]; rfl

set_option maxRecDepth 100000 in
set_option maxHeartbeats 400000 in
theorem treg_calls (n : Nat) (h : n < 10) (w : World) :
    Calls Tryz.prog 87 #[.int .i64 n] w fun e w' => e = .returned (.string ⟨([114] ++ digF 11 n).toArray⟩) ∧ Gr w w' := by
  have e1 := dec_dig 11 n (by omega) (by omega)
  have l1 : (digF 11 n).length ≤ 11 := digF_len 11 n
  have E1 := hide e1
  clear e1
  go_enter Tryz.func87, Tryz.ntmps87
  go_wp2_with (fail)
  refine (Tryz.strconv_Itoa_small n (by omega) _).mono ?_
  rintro e w2 ⟨rfl, rfl⟩
  rw [E1.out]
  have z1 : (⟨(digF 11 n).toArray⟩ : ByteArray).size ≤ 11 := by rw [size_mk]; exact l1
  go_wp2_with (fail)
  go_ret
  exact ⟨ret_str (cat_mk [114] (digF 11 n)), Gr.refl _⟩

set_option maxRecDepth 100000 in
set_option maxHeartbeats 1600000 in
theorem fmt_inner (u : Nat) (hu : u < 4294967296) (w : World) (htab : Lib.TabIs Tryz.prog w "internal/strconv.uint64pow10" .u64 Lib.pow10Tab) :
    Calls Tryz.prog 109 #[.int .u64 u, .int .i64 10] w fun e w' => e = .returned (.string ⟨(digF 11 u).toArray⟩) ∧ Gr w w' := by
  have E1 := hide (dec_dig 11 u (by omega) (by omega))
  by_cases hs : u < 100
  · have hs' : (u : Int) < 100 := by omega
    have hw : IntKind.i64.wrap (u : Int) = u := by rw [IntKind.wrap_i64]; omega
    go_enter Tryz.func109, Tryz.ntmps109
    go_wp2_with (fail)
    refine (Tryz.internal_strconv_small u hs _).mono ?_
    rintro e w2 ⟨rfl, rfl⟩
    rw [E1.out]
    go_wp2_with (fail)
    go_ret
    exact ⟨rfl, Gr.refl _⟩
  · have hs' : ¬ ((u : Int) < 100) := by omega
    have hu1 : 1 ≤ u := by omega
    have hu64 : u < 18446744073709551616 := by omega
    have hnd20 : Lib.nDigits u ≤ 20 := by have := Lib.numDigits_eq u hu1 hu64; split at this <;> omega
    have hal : Tryz.prog.arrayLen 146 = 24 := by kernel_rfl
    have hsl : ∀ W, (Instr.sliceAt 146 (.pointer (some ⟨w.heap.size, 0, none⟩)) none (some (.int .i64 (Lib.nDigits u : Int))) none).run Tryz.prog W = .ok (.slice (some ⟨w.heap.size, 0, none⟩) (Lib.nDigits u) 24) W := fun W => by
      rw [run_sliceAt_array_h W 146 ⟨w.heap.size, 0, none⟩ (by kernel_rfl) .i64 (Lib.nDigits u : Int) (by omega) (by rw [hal]; omega)]
      go_simp
    have hH0 := Lib.holds_zero0 w 146 (Lib.nDigits u) (by omega)
    have hfmt := Tryz.internal_strconv_formatBase10 w.heap.size 0 24 u (Array.replicate (Lib.nDigits u) 0) (w.alloc (.cells Lib.zeros24 146)) hH0 (by rw [Array.size_replicate]; exact Lib.lt_pow_nDigits u) hu64 (by rw [Array.size_replicate]; omega)
    rw [Array.size_replicate] at hfmt
    have HH0 := hide hH0
    have HF := hide hfmt
    clear hH0 hal hfmt
    go_enter Tryz.func109, Tryz.ntmps109
    go_wp2_with (fail)
    refine (Tryz.internal_strconv_numDigits u hu1 hu64 _ (Lib.tabIs_alloc htab _)).mono ?_
    rintro e w2 ⟨rfl, rfl⟩
    go_wp2_with (fail)
    refine HF.out.mono ?_
    rintro e w2 ⟨rfl, k, v', dk, rfl, hF⟩
    have hcv : (convert 66 9 (.slice (some ⟨w.heap.size, 0, none⟩) (Lib.nDigits u) 24)).run Tryz.prog ((putRow (fun (b : UInt8) => Value.int .u8 (b.toNat : Int)) (w.alloc (.cells Lib.zeros24 146)) w.heap.size 0 dk).drewN k) = .ok (.string ⟨(Lib.decDigits u).toArray⟩) ((putRow (fun (b : UInt8) => Value.int .u8 (b.toNat : Int)) (w.alloc (.cells Lib.zeros24 146)) w.heap.size 0 dk).drewN k) := by
      have h := run_convert_bytes_back (P := Tryz.prog) ((putRow (fun (b : UInt8) => Value.int .u8 (b.toNat : Int)) (w.alloc (.cells Lib.zeros24 146)) w.heap.size 0 dk).drewN k) 66 9 5 ⟨w.heap.size, 0, none⟩ 24 (Lib.decDigits u) Tryz.underlying66 Tryz.underlying5 Tryz.underlying9 (fun j hj => by
        rw [Lib.row_is_numeral hF j hj, Lib.add_plain, World.cell?_drewN]
        exact cell?_putRow (fun (b : UInt8) => Value.int .u8 (b.toNat : Int)) _ w.heap.size 0 _ dk HH0.out (by rw [hF.size, Array.size_replicate]) j (by rw [hF.size]; rw [Lib.decDigits_length] at hj; exact hj))
      rw [Lib.decDigits_length] at h
      exact h
    obtain ⟨os, eo⟩ := Lib.fin_at w (.cells Lib.zeros24 146) dk k 0
    rw [eo] at hcv ⊢
    rw [E1.out] at hcv
    clear eo hF
    go_wp2_with (fail)
    go_ret
    exact ⟨rfl, Lib.below_grow _ _ (Nat.le_refl _) _ _⟩

theorem fmt_calls (u : Nat) (hu : u < 4294967296) (w : World) (htab : Lib.TabIs Tryz.prog w "internal/strconv.uint64pow10" .u64 Lib.pow10Tab) :
    Calls Tryz.prog 100 #[.int .u64 u, .int .i64 10] w fun e w' => e = .returned (.string ⟨(digF 11 u).toArray⟩) ∧ Gr w w' := by
  go_enter Tryz.func100, Tryz.ntmps100
  go_wp2_with (fail)
  refine (fmt_inner u hu _ htab).mono ?_
  rintro e w2 ⟨rfl, g2⟩
  go_wp2_with (fail)
  go_ret
  exact ⟨rfl, g2⟩

theorem tnum_calls (u : Nat) (hu : u < 4294967296) (w : World) (htab : Lib.TabIs Tryz.prog w "internal/strconv.uint64pow10" .u64 Lib.pow10Tab) :
    Calls Tryz.prog 89 #[.int .u32 u] w fun e w' => e = .returned (.string ⟨(digF 11 u).toArray⟩) ∧ Gr w w' := by
  have hw : IntKind.u64.wrap (u : Int) = u := by rw [IntKind.wrap_u64]; omega
  go_enter Tryz.func89, Tryz.ntmps89
  go_wp2_with (fail)
  refine (fmt_calls u hu _ htab).mono ?_
  rintro e w2 ⟨rfl, g2⟩
  go_wp2_with (fail)
  go_ret
  exact ⟨rfl, g2⟩
end Go.Proofs.YtcfkcnkekdafgaaGreatDoor
