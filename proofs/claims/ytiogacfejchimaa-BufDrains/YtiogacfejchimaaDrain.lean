/-
  What Drain answers of any cells that are a buffer, and any memory: new words into which all entries were put, and an empty buffer of the same room. No condition but that, and at most 5000 words.
-/
import Derived.Test.YtiogacfejchimaaWord
import Derived.Test.YtiogacfejchimaaFresh
import Derived.Test.YtiogacfejchimaaLate
namespace Go.Proofs.Ytiogacfejchimaa
open Go.ChangeShapes Go.WideShapes Go.ChangeAt Go.RowKit
set_option linter.unusedVariables false

/-- results: something and a buffer -/
theorem results_back {fn : Func} {p q : Tmp} (h : fn.results = #[.tmp q, .cell p 29]) (tmps : Array Value) (w : World) (g : Nat) (C : Array Value)
    (hp : tmps.getD p undef = .pointer (some ⟨g, 0, none⟩)) (hg : Has w g C 29) (hs : C.size = 35) :
    (results fn tmps).run Try.prog w = .ok (.tuple #[tmps.getD q undef, .agg C]) w := by
  have hp' : tmps[p]?.getD undef = .pointer (some ⟨g, 0, none⟩) := by simpa using hp
  simp [results, h, hp', asAddr, run_loadVar_row w g 29 29 C (0, 0) _ hg Try.underlying29 rfl (infoB_of hs)]
theorem taken (l : List Ent) (k : Nat) (h : k < l.length) : l.take (k + 1) = l.take k ++ [l.getD k ent0] := by
  rw [List.take_succ_eq_append_getElem h, List.getD_eq_getElem?_getD, List.getElem?_eq_getElem h]; rfl

set_option maxHeartbeats 1000000 in
theorem drain_calls {C : Array Value} {room : Nat} {l : List Ent} (h : IsB C room l) (ad : Option Addr) (cap : Nat) (m : List Int) (hm5 : m.length ≤ 5000) (w : World) (hw : WordsAt w ad m) :
    Calls Try.prog 17 #[.agg C, .slice ad m.length cap] w fun e w' => e = .returned (.tuple #[.slice (some ⟨w.heap.size + 1 + 1, 0, none⟩) m.length m.length, .agg (newC room)]) ∧ Gr w w' ∧ Has w' (w.heap.size + 1 + 1) (wordsC (drainL l m)) 24 := by
  obtain ⟨r, first, hi⟩ := h
  have HB := hide hi
  have HI : Hid (IsB C room l) := ⟨r, first, hi⟩
  have hf := hi.fst
  have hm := hi.most
  have hlen := hi.len
  have C33 : Hid (C[33]? = some (.int .i64 first)) := by show C[33]? = _; rw [hi.cells]; exact bufC_first hi.ring _ _ _
  have C34 : Hid (C[34]? = some (.int .i64 l.length)) := by show C[34]? = _; rw [hi.cells]; exact bufC_count hi.ring _ _ _
  have C32 : Hid (C[32]? = some (.int .i64 room)) := by show C[32]? = _; rw [hi.cells]; exact bufC_room hi.ring _ _ _
  have HS := hide HI.out.size
  have hmk := make_words m.length hm5
  obtain ⟨b0, b1, b2, bg⟩ := start3 w C zeroC 29 29 (wordsC (List.replicate m.length 0)) 24
  have HW := hide (hw.later bg)
  clear hi hw
  go_enter Try.func17, Try.ntmps17
  go_wp2_with (first
    | (refine copy_words rfl _ _ rfl (w.heap.size + 1 + 1) ad m.length cap m rfl rfl (List.replicate m.length 0) (by simp) b2 HW.out ?_; rintro u hu hU; replace b0 := b0.either hu (by omega); replace b1 := b1.either hu (by omega); replace bg := bg.either hu (by omega); have k34 := b0.cell C34.out; clear hu b2 HW hmk))
  go_loopw [17] (fun i wr => ∃ k : Nat, k ≤ l.length ∧ i = .int .i64 k ∧ Has wr w.heap.size C 29 ∧ Has wr (w.heap.size + 1) zeroC 29 ∧ Gr w wr ∧ Has wr (w.heap.size + 1 + 1) (wordsC (drainL (l.take k) m)) 24) (fun i _ => l.length - (intOf i).toNat)
  case atStart => exact ⟨0, by omega, rfl, b0, b1, bg, hU⟩
  case round =>
    clear b0 b1 bg hU k34
    obtain ⟨k, hk, rfl, b0, b1, bg, hU⟩ := hrel
    by_cases hlt : k < l.length
    · obtain ⟨ca, cv⟩ := HB.out.ent k hlt
      have HT := hide (taken l k hlt)
      have hml := drainL_length (l.take k) m
      generalize l.getD k ent0 = x at ca cv HT
      have HD := hide (drainL_snoc (l.take k) x m)
      generalize drainL (l.take k) m = q at hU HD hml
      have CA := hide ca
      have CV := hide cv
      have HL := hide hml
      clear ca cv hml
      go_wp2_with (first | (refine load_buf rfl _ rfl w.heap.size rfl C b0 HS.out ?_))
      refine (place_calls C33.out hf k (by omega) _).mono ?_
      rintro e w1 ⟨rfl, g1⟩
      replace b0 := b0.later g1
      replace b1 := b1.later g1
      replace hU := hU.later g1
      replace bg := bg.trans g1
      clear g1
      have ca := b0.cell CA.out
      have cv := b0.cell CV.out
      generalize hpp : (first + k) % 16 = p at ca cv ⊢
      have hp : p < 16 := by omega
      have hp' : (p : Int) < 16 := by omega
      clear CA CV hpp
      by_cases hx : 0 ≤ x.a ∧ x.a < (m.length : Int)
      · obtain ⟨hx1, hx2⟩ := hx
        have hD1 : Hid (drain1 q x = q.set x.a.toNat x.v) := by
          show drain1 q x = _
          unfold drain1
          rw [if_pos ⟨hx1, by rw [HL.out]; exact hx2⟩]
        have q1 := hU.cell (wordsC_at q x.a.toNat (by rw [HL.out]; omega))
        have q2 := hU.free x.a.toNat
        have hlt1 := hU.lt
        go_wp2_with (fail)
        exact ⟨⟨k + 1, by omega, by go_num, (b0.aside (by omega) _ _).alloc _ _, (b1.aside (by omega) _ _).alloc _ _, (bg.setCell (by show w.heap.size ≤ w.heap.size + 1 + 1; omega) _).alloc _ _,
          ((hU.set x.a.toNat (.int .u32 x.v)).alloc _ _).of (by rw [wordsC_set, HT.out, HD.out, hD1.out])⟩, by simp [intOf]; omega⟩
      · have hD1 : Hid (drain1 q x = q) := by
          show drain1 q x = _
          unfold drain1
          rw [if_neg (by rw [HL.out]; exact hx)]
        by_cases hx1 : 0 ≤ x.a
        · have hx2 : ¬ x.a < (m.length : Int) := fun h => hx ⟨hx1, h⟩
          clear hx
          go_wp2_with (fail)
          exact ⟨⟨k + 1, by omega, by go_num, b0.alloc _ _, b1.alloc _ _, bg.alloc _ _, (hU.alloc _ _).of (by rw [HT.out, HD.out, hD1.out])⟩, by simp [intOf]; omega⟩
        · clear hx
          go_wp2_with (fail)
          exact ⟨⟨k + 1, by omega, by go_num, b0.alloc _ _, b1.alloc _ _, bg.alloc _ _, (hU.alloc _ _).of (by rw [HT.out, HD.out, hD1.out])⟩, by simp [intOf]; omega⟩
    · obtain rfl : k = l.length := by omega
      rw [List.take_length] at hU
      go_wp2_with (fail)
      refine begin_late 6 [5] (fun w' => Has w' w.heap.size C 29) (by kernel_rfl) rfl ?_
      refine AnyL.takeP 0 (some 43) (.slice (some ⟨w.heap.size + 1 + 1, 0, none⟩) m.length m.length) rfl rfl (by kernel_rfl) (by kernel_rfl) (by kernel_rfl) (by kernel_rfl) (fun _ _ _ h => h) (by kernel_rfl) (fun w' => by go_simp) (fun _ => b0.drew) ?_
      simp only [Act.put, List.setIfInBounds_toArray, List.set_cons_zero, List.set_cons_succ]
      refine AnyL.takeP 1 (some 44) (.pointer (some ⟨w.heap.size, 32, none⟩)) rfl rfl (by kernel_rfl) (by kernel_rfl) (by kernel_rfl) (by kernel_rfl) (fun _ _ _ h => h) (by kernel_rfl) (fun w' => by go_simp) (fun _ => b0.drew) ?_
      simp only [Act.put, List.setIfInBounds_toArray, List.set_cons_zero, List.set_cons_succ]
      refine AnyL.take 2 (some 45) (.int .i64 room) rfl rfl (by kernel_rfl) (by kernel_rfl) (by kernel_rfl) (by kernel_rfl) (fun _ _ _ h => h) (yields_held _ (by kernel_rfl) (fun w' hw' => by have := Has.cell hw' C32.out; go_simp)) b0.drew ?_
      simp only [Act.put, List.setIfInBounds_toArray, List.set_cons_zero, List.set_cons_succ]
      refine AnyL.takeP 3 (some 46) (.agg (newC room)) rfl rfl (by kernel_rfl) (by kernel_rfl) (by kernel_rfl) (by kernel_rfl) (fun _ _ _ h => h) (by kernel_rfl) (fun w' => by go_simp; rfl) (fun _ => b0.drew) ?_
      simp only [Act.put, List.setIfInBounds_toArray, List.set_cons_zero, List.set_cons_succ]
      refine AnyL.takeP 4 (some 4) (.slice (some ⟨w.heap.size + 1 + 1, 0, none⟩) m.length m.length) rfl rfl (by kernel_rfl) (by kernel_rfl) (by kernel_rfl) (by kernel_rfl) (fun _ _ _ h => h) (by kernel_rfl) (fun w' => by go_simp) (fun _ => b0.drew) ?_
      simp only [Act.put, List.setIfInBounds_toArray, List.set_cons_zero, List.set_cons_succ]
      refine AnyL.one 5 (by kernel_rfl) rfl (by kernel_rfl) ?_
      refine wp_store_buf rfl _ _ rfl (w.heap.size + 1) rfl (newC room) rfl zeroC b1.drew (newC_size _) zeroC_size (newC_one _) ?_
      refine ⟨late (by kernel_rfl), ?_⟩
      refine AnyL.done (by kernel_rfl) ?_
      go_wp2_with (fail)
      exact bodyPost_ret (results_back rfl _ _ (w.heap.size + 1) _ rfl (b1.drew.row _) (newC_size _)) rfl ⟨rfl, bg.drew.setRow (by omega) _, hU.drew.rowAside (by omega) _⟩
end Go.Proofs.Ytiogacfejchimaa
