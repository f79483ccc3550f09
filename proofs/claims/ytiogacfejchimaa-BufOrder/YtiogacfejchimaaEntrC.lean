/-
  What Entries answers of any cells that are a buffer: a new slice of its entries, the oldest first. No condition but that.
-/
import Derived.Test.YtiogacfejchimaaEntr
namespace Go.Proofs.Ytiogacfejchimaa
open Go.ChangeShapes Go.WideShapes Go.ChangeAt Go.RowKit
set_option linter.unusedVariables false

/-- the first k are laid -/
def part (l : List Ent) (k : Nat) : List Ent := l.take k ++ List.replicate (l.length - k) ent0
theorem part_zero (l : List Ent) : part l 0 = List.replicate l.length ent0 := by simp [part]
theorem part_all (l : List Ent) : part l l.length = l := by simp [part]
theorem part_length (l : List Ent) (k : Nat) (h : k ≤ l.length) : (part l k).length = l.length := by simp [part]; omega
theorem part_succ (l : List Ent) (k : Nat) (h : k < l.length) : (part l k).set k (l.getD k ent0) = part l (k + 1) := by
  unfold part
  have e : l.length - k = (l.length - (k + 1)) + 1 := by omega
  have hk : (l.take k).length = k := by simp; omega
  rw [List.set_append_right _ _ (by omega), hk, Nat.sub_self, e, List.replicate_succ, List.set_cons_zero, List.take_succ_eq_append_getElem h, List.append_assoc]
  congr 2
  rw [List.getD_eq_getElem?_getD, List.getElem?_eq_getElem h]
  rfl

set_option maxHeartbeats 400000 in
theorem entries_calls {C : Array Value} {room : Nat} {l : List Ent} (h : IsB C room l) (w : World) :
    Calls Try.prog 16 #[.agg C] w fun e w' => e = .returned (.slice (some ⟨w.heap.size + 1, 0, none⟩) l.length l.length) ∧ Gr w w' ∧ Has w' (w.heap.size + 1) (flat l).toArray 26 := by
  obtain ⟨r, first, hi⟩ := h
  have HB := hide hi
  have HI : Hid (IsB C room l) := ⟨r, first, hi⟩
  have hf := hi.fst
  have hm := hi.most
  have hlen := hi.len
  have c33 : C[33]? = some (.int .i64 first) := by rw [hi.cells]; exact bufC_first hi.ring _ _ _
  have C33 := hide c33
  have c34 : C[34]? = some (.int .i64 l.length) := by rw [hi.cells]; exact bufC_count hi.ring _ _ _
  have HS := hide HI.out.size
  have hmk := make_ents l.length (by omega)
  have b0 := (Has.new w C 29).alloc (flat (List.replicate l.length ent0)).toArray 26
  have b1 := Has.new (w.alloc (.cells C 29)) (flat (List.replicate l.length ent0)).toArray 26
  rw [show (w.alloc (.cells C 29)).heap.size = w.heap.size + 1 by simp] at b1
  have bg := ((Gr.refl w).alloc C 29).alloc (flat (List.replicate l.length ent0)).toArray 26
  clear hi c33
  go_enter Try.func16, Try.ntmps16
  go_wp2_with (fail)
  go_loopw [10] (fun i wr => ∃ k : Nat, k ≤ l.length ∧ i = .int .i64 k ∧ Has wr w.heap.size C 29 ∧ Gr w wr ∧ Has wr (w.heap.size + 1) (flat (part l k)).toArray 26) (fun i _ => l.length - (intOf i).toNat)
  case atStart => exact ⟨0, by omega, rfl, b0, bg, by rw [part_zero]; exact b1⟩
  case round =>
    clear b0 b1 bg c34 hmk
    obtain ⟨k, hk, rfl, b0, bg, b1⟩ := hrel
    by_cases hlt : k < l.length
    · obtain ⟨ca, cv⟩ := HB.out.ent k hlt
      have HP := hide (part_succ l k hlt)
      have hps : k * 2 + 2 ≤ (flat (part l k)).toArray.size := by rw [flatC_size, part_length l k hk]; omega
      have HPS := hide hps
      clear hps
      generalize l.getD k ent0 = x at ca cv HP
      have CA := hide ca
      have CV := hide cv
      clear ca cv
      go_wp2_with (first | (refine load_buf rfl _ rfl w.heap.size rfl C b0 HS.out ?_))
      refine (place_calls C33.out hf k (by omega) _).mono ?_
      rintro e w1 ⟨rfl, g1⟩
      replace b0 := b0.later g1
      replace b1 := b1.later g1
      replace bg := bg.trans g1
      clear g1
      have ca := b0.cell CA.out
      have cv := b0.cell CV.out
      generalize hpp : (first + k) % 16 = p at ca cv ⊢
      have hp : p < 16 := by omega
      have hp' : (p : Int) < 16 := by omega
      clear CA CV hpp
      go_wp2_with (first | (refine store_ent rfl rfl _ _ rfl (w.heap.size + 1) (k * 2) rfl x rfl _ 26 b1 HPS.out ?_))
      exact ⟨⟨k + 1, by omega, by go_num, b0.setCells (by omega) _ _ _, bg.setCells (by omega) _ _ _, (b1.setFlat k x).of (by rw [HP.out])⟩, by simp [intOf]; omega⟩
    · obtain rfl : k = l.length := by omega
      rw [part_all] at b1
      go_wp2_with (fail)
      go_ret
      exact ⟨rfl, bg, b1⟩
end Go.Proofs.Ytiogacfejchimaa
