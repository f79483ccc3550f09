/-
  For any string and byte, in any world: the reference's split parts the string as 'parts' says, into a row of its own; memory grows alone. Conditions: strings of at most 2^31 bytes.
-/
import Derived.Test.YtcfkcnkekdafgaaGreatDoorRefa
import Derived.Test.YtcfkcnkekdafgaaGreatDoorPadd
namespace Go.Proofs.YtcfkcnkekdafgaaGreatDoor
open Go.ChangeShapes Go.WideShapes Go.ChangeAt Go.RowKit
set_option linter.unusedVariables false

def strsV (l : List Bs) : List Value := l.map strV
theorem strsV_snoc (l : List Bs) (s : Bs) : strsV (l ++ [s]) = strsV l ++ [strV s] := by simp [strsV]
theorem infoS : (Tryz.prog.info? 9).map (fun i => (i.zero, i.size, i.bytes)) = some (some (.string ⟨#[]⟩), 1, 16) := by kernel_rfl
/-- a row of strings of the call's own -/
def SplP (l : List Bs) (w : World) (e : Ending) (w' : World) : Prop := ∃ v, e = .returned v ∧ w'.ownsRow w.heap.size 9 1 v l.length (strsV l) ∧ Gr w w'
theorem Gr.own {w w1 w2 : World} {e : TypeId} {size n : Nat} {v : Value} {xs : List Value} (h : Gr w w1) (ho : w1.ownsRow w.heap.size e size v n xs) (g : w1.grownBy w2 v.ownBlock) : Gr w w2 := by
  refine Below.grown h g h.size fun k hk => ?_
  rcases ho.2 with ⟨rfl, _⟩ | ⟨q, cap, cur, rfl, hb, hq, _⟩
  · simp [Value.ownBlock] at hk
  · simp [Value.ownBlock] at hk
    omega
/-- how far the parting is: up to k, the last part from f on -/
structure Spl (c : UInt8) (l : Bs) (k f : Nat) (done : List Bs) : Prop where
  le : f ≤ k
  all : parts c l = done ++ parts c (l.drop f)
  free : c ∉ (l.drop f).take (k - f)
theorem Spl.zero (c : UInt8) (l : Bs) : Spl c l 0 0 [] := ⟨Nat.le_refl _, by simp, by simp⟩
theorem Spl.skip {c : UInt8} {l : Bs} {k f : Nat} {done : List Bs} {b : UInt8} (h : Spl c l k f done) (hb : l[k]? = some b) (hne : b ≠ c) : Spl c l (k + 1) f done := by
  refine ⟨by have := h.le; omega, h.all, ?_⟩
  have hle := h.le
  rw [show k + 1 - f = (k - f) + 1 by omega, List.take_add_one, List.getElem?_drop, show f + (k - f) = k by omega, hb]
  intro hm
  rcases List.mem_append.mp hm with hm | hm
  · exact h.free hm
  · simp at hm
    exact hne hm.symm
theorem Spl.hit {c : UInt8} {l : Bs} {k f : Nat} {done : List Bs} (h : Spl c l k f done) (hb : l[k]? = some c) : Spl c l (k + 1) (k + 1) (done ++ [(l.drop f).take (k - f)]) := by
  refine ⟨Nat.le_refl _, ?_, by simp⟩
  have hle := h.le
  have hk := (List.getElem?_eq_some_iff.mp hb).1
  have e1 : l.drop f = (l.drop f).take (k - f) ++ c :: l.drop (k + 1) := by
    have h1 := List.take_append_drop (k - f) (l.drop f)
    rw [List.drop_drop, show f + (k - f) = k by omega] at h1
    rw [List.drop_eq_getElem_cons hk, (List.getElem?_eq_some_iff.mp hb).2] at h1
    exact h1.symm
  have e2 := parts_cut c ((l.drop f).take (k - f)) (l.drop (k + 1)) h.free
  rw [← e1] at e2
  rw [h.all, e2]
  simp
theorem Spl.last {c : UInt8} {l : Bs} {f : Nat} {done : List Bs} (h : Spl c l l.length f done) : parts c l = done ++ [l.drop f] := by
  rw [h.all, parts_free]
  have h1 := h.free
  rwa [List.take_of_length_le (by rw [List.length_drop]; omega)] at h1
theorem piece_of (s : ByteArray) (f k : Nat) (h : k ≤ s.size) : Value.string (s.extract f k) = strV ((s.data.toList.drop f).take (k - f)) := by
  show Value.string (s.extract f k) = Value.string ⟨((s.data.toList.drop f).take (k - f)).toArray⟩
  congr 1
  apply ByteArray.ext
  apply Array.toList_inj.mp
  rw [ByteArray.data_extract, Array.toList_extract, List.extract_eq_take_drop]
theorem piece_end (s : ByteArray) (f : Nat) (h : f ≤ s.size) : Value.string (s.extract f s.size) = strV (s.data.toList.drop f) := by
  rw [piece_of s f s.size (Nat.le_refl _), List.take_of_length_le]
  have h1 := size_list s
  rw [List.length_drop]
  omega

set_option maxHeartbeats 2000000 in
theorem rsplit_calls (s : ByteArray) (c : UInt8) (w : World) (hs : s.size ≤ 2147483648) :
    Calls Tryz.prog 28 #[.string s, .int .u8 c.toNat] w (SplP (parts c s.data.toList) w) := by
  have hsz := size_list s
  obtain ⟨i1, hi1, hz10, hz11, hz12⟩ := info_parts infoS
  go_enter Tryz.func28, Tryz.ntmps28
  go_wp2
  go_loopw [5, 6, 7] (fun v fr i w' => ∃ (k f : Nat) (done : List Bs), k ≤ s.size ∧ i = .int .i64 k ∧ fr = .int .i64 f ∧ f ≤ k ∧ done.length ≤ k ∧ Hid (Spl c s.data.toList k f done) ∧ Hid (w'.ownsRow w.heap.size 9 1 v done.length (strsV done)) ∧ Gr w w') (fun v fr i w' => s.size - (intOf i).toNat)
  case atStart => exact ⟨0, 0, [], by omega, rfl, rfl, by omega, by simp, Spl.zero _ _, ⟨rfl, .inl ⟨rfl, rfl⟩⟩, Gr.refl _⟩
  case round =>
    obtain ⟨k, f, done, hk, rfl, rfl, hf, hd, HS, HO, hg⟩ := hrel
    obtain ⟨a0, c0, rfl⟩ := own_shape HO.out
    by_cases hlt : k < s.size
    · have hat := at_list s k hlt
      have hb1 : (k : Int) < s.size := by omega
      cases hb : (((s[k]'hlt).toNat : Int) == (c.toNat : Int))
      · have hne : s[k] ≠ c := by intro e; rw [e] at hb; simp at hb
        have HN := hide (HS.out.skip hat hne)
        clear hat hne HS
        go_wp2
        exact ⟨⟨k + 1, f, done, by omega, by go_num, rfl, by omega, by omega, HN, HO, hg⟩, by simp [intOf]; omega⟩
      · have hc : s[k] = c := UInt8.toNat_inj.mp (by simp only [beq_iff_eq] at hb; omega)
        rw [hc] at hat
        have HN := hide (HS.out.hit hat)
        have HP := hide (piece_of s f k hk)
        have hfk : (f : Int) ≤ k := by omega
        have hks : (k : Int) ≤ s.size := by omega
        have G8 := (Gr.refl wr).alloc #[.string (s.extract f k)] 9
        have O8 : Hid ((wr.alloc (.cells #[.string (s.extract f k)] 9)).ownsRow w.heap.size 9 1 (.slice a0 done.length c0) done.length (strsV done)) := own_gr HO.out G8
        have S8 : w.heap.size ≤ (wr.alloc (.cells #[.string (s.extract f k)] 9)).heap.size := by have := G8.size; have := hg.size; omega
        have HG8 := hide (hg.trans G8)
        have N8 := hide (lit_cells wr [.string (s.extract f k)] 9)
        have U8 : Hid (∀ u ∈ [Value.string (s.extract f k)], u.oneCell' = true) := by intro u hu; simp at hu; subst hu; rfl
        clear hat hc G8 HS HO hg
        go_wp2_with (at_builtin; refine wpList_append_own _ rfl (.tmp 19) (.tmp 24) 55 rfl w.heap.size 9 i1 (.string ⟨#[]⟩) 1 16 Tryz.underlying55 hi1 hz10 hz11 hz12 rfl (by decide) _ done.length _ rfl O8.out ⟨wr.heap.size, 0, none⟩ 1 1 [.string (s.extract f k)] rfl rfl (N8.out) (U8.out) (by unfold maxLen; omega) (by omega) S8 ?_)
        intro v' w9 hown9 hgrow9 _
        have HG9 := hide (HG8.out.own O8.out hgrow9)
        obtain ⟨a9, c9, rfl⟩ := own_shape hown9
        have OW : Hid (w9.ownsRow w.heap.size 9 1 (.slice a9 (done.length + 1) c9) (done ++ [(s.data.toList.drop f).take (k - f)]).length (strsV (done ++ [(s.data.toList.drop f).take (k - f)]))) := by
          refine hide ?_
          rw [strsV_snoc, List.length_append, ← HP.out]
          exact hown9
        clear hown9 hgrow9 O8 N8 U8 HG8 S8
        go_wp2
        exact ⟨⟨k + 1, k + 1, _, by omega, by go_num, by go_num, by omega, by rw [List.length_append]; simp; omega, HN, OW, HG9.out⟩, by simp [intOf]; omega⟩
    · obtain rfl : k = s.size := by omega
      have HL : Hid (parts c s.data.toList = done ++ [s.data.toList.drop f]) := by
        refine hide (Spl.last ?_)
        rw [hsz]
        exact HS.out
      have HP := hide (piece_end s f hf)
      have hfk : (f : Int) ≤ s.size := by omega
      have G8 := (Gr.refl wr).alloc #[.string (s.extract f s.size)] 9
      have O8 : Hid ((wr.alloc (.cells #[.string (s.extract f s.size)] 9)).ownsRow w.heap.size 9 1 (.slice a0 done.length c0) done.length (strsV done)) := own_gr HO.out G8
      have S8 : w.heap.size ≤ (wr.alloc (.cells #[.string (s.extract f s.size)] 9)).heap.size := by have := G8.size; have := hg.size; omega
      have HG8 := hide (hg.trans G8)
      have N8 := hide (lit_cells wr [.string (s.extract f s.size)] 9)
      have U8 : Hid (∀ u ∈ [Value.string (s.extract f s.size)], u.oneCell' = true) := by intro u hu; simp at hu; subst hu; rfl
      clear G8 HS HO hg
      go_wp2_with (at_builtin; refine wpList_append_own _ rfl (.tmp 28) (.tmp 32) 55 rfl w.heap.size 9 i1 (.string ⟨#[]⟩) 1 16 Tryz.underlying55 hi1 hz10 hz11 hz12 rfl (by decide) _ done.length _ rfl O8.out ⟨wr.heap.size, 0, none⟩ 1 1 [.string (s.extract f s.size)] rfl rfl (N8.out) (U8.out) (by unfold maxLen; omega) (by omega) S8 ?_)
      intro v' w9 hown9 hgrow9 _
      have HG9 := hide (HG8.out.own O8.out hgrow9)
      have OW : Hid (w9.ownsRow w.heap.size 9 1 v' (parts c s.data.toList).length (strsV (parts c s.data.toList))) := by
        refine hide ?_
        rw [HL.out, strsV_snoc, List.length_append, ← HP.out]
        exact hown9
      clear hown9 hgrow9 O8 N8 U8 HG8 S8 HL HP
      go_wp2
      go_ret
      exact ⟨_, rfl, OW.out, HG9.out⟩
end Go.Proofs.YtcfkcnkekdafgaaGreatDoor
