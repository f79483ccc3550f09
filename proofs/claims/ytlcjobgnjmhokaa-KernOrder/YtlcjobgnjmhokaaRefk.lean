/-
  What the document's Wake answers of any slice of sleepers. No condition but that its cells hold them.
-/
import Derived.Test.YtlcjobgnjmhokaaRefs
namespace Go.Proofs.Ytlcjobgnjmhokaa
open Go.ChangeShapes Go.WideShapes Go.ChangeAt Go.RowKit
set_option linter.unusedVariables false

/-- what the document's Wake answers -/
def RWakeP (w : World) (s : S3) (e : Ending) (w' : World) : Prop := ∃ v u, (e = .returned (.tuple #[v, u]) ∧ Gr w w') ∧ Eown w' w.heap.size v s.left ∧ Nown w' w.heap.size u s.out

set_option maxHeartbeats 2000000 in
theorem rwake_calls (a : Option Addr) (ca : Nat) (l : List Ent) (hl : l.length ≤ 1000) (addr : Int) (n : Nat) (hn : n < 4294967296) (w : World) (ha : EntsAt w a l) :
    Calls Try.prog 11 #[.slice a l.length ca, .int .i64 addr, .int .u32 (n : Int)] w (RWakeP w (siftS (stW addr) (nxW addr) n l)) := by
  have HA := hide ha
  clear ha
  go_enter Try.func11, Try.ntmps11
  go_wp2_with (fail)
  go_loopw [2, 8, 9, 10] (fun m v u i wr => ∃ k : Nat, k ≤ l.length ∧ i = .int .i64 k ∧ Gr w wr ∧ Hid (Eown wr w.heap.size v (siftS (stW addr) (nxW addr) n (l.take k)).left ∧ Nown wr w.heap.size u (siftS (stW addr) (nxW addr) n (l.take k)).out ∧ m = .int .u32 ((siftS (stW addr) (nxW addr) n (l.take k)).n : Int) ∧ (siftS (stW addr) (nxW addr) n (l.take k)).n ≤ n)) (fun _ _ _ i _ => l.length - (intOf i).toNat)
  case atStart => exact ⟨0, by omega, rfl, Gr.refl w, by exact ⟨Eown.nil _ _, Nown.nil _ _, rfl, Nat.le_refl _⟩⟩
  case round =>
    obtain ⟨k, hk, rfl, gr, ho⟩ := hrel
    by_cases hlt : k < l.length
    · have hlt' : (k : Int) < l.length := by omega
      obtain ⟨b1, o1, h1, c1, c2⟩ := (HA.out.later gr).get hlt
      subst h1
      have HT : Hid (siftS (stW addr) (nxW addr) n (l.take (k + 1)) = sift1 (stW addr) (nxW addr) (siftS (stW addr) (nxW addr) n (l.take k)) (l.getD k ent0)) := by
        show siftS (stW addr) (nxW addr) n (l.take (k + 1)) = _
        rw [take_get l k hlt, siftS_snoc]
      have hsl := siftS_len (stW addr) (nxW addr) n (l.take k)
      rw [List.length_take, Nat.min_eq_left hk] at hsl
      have HL := hide hsl
      clear hsl
      generalize l.getD k ent0 = x at c1 c2 HT
      generalize siftS (stW addr) (nxW addr) n (l.take k) = s3 at ho HT HL
      obtain ⟨o1, o2, rfl, hm⟩ := ho.out
      have O1 := hide o1
      have O2 := hide o2
      clear ho o1 o2
      have hw1 := gr.size
      by_cases hs : stW addr s3.n x = true
      · have HX : Hid (sift1 (stW addr) (nxW addr) s3 x = ⟨s3.n - 1, s3.out ++ [x.a], s3.left⟩) := by show sift1 _ _ s3 x = _; simp [sift1, nxW, hs]
        have hs2 : x.v = addr ∧ 0 < s3.n := by simpa [stW] using hs
        obtain ⟨hv, h0⟩ := hs2
        subst hv
        obtain ⟨v2, w2, r2, p2, q2⟩ := app_num O2.out x.a (by have := HL.out.2; omega) hw1
        have hz : (0 : Int) < (s3.n : Int) := by omega
        have ga := (Gr.refl wr).alloc #[.int .i64 x.a] 3
        have P2 := hide p2
        have Q2 := hide q2
        have OW := hide (O2.out.later ga)
        have GR := hide (gr.alloc #[.int .i64 x.a] 3)
        have EW := hide (O1.out.later ga)
        have hwr := wrap_less s3.n (by omega) h0
        clear p2 q2 ga hs
        go_wp2_with (first
          | (refine step_app rfl (some 35) rfl _ _ _ rfl _ _ rfl rfl v2 w2 r2 ?_))
        refine ⟨⟨k + 1, by omega, by go_num, grown_gr GR.out OW.out Q2.out (Nat.le_refl _), ?_⟩, by simp [intOf]; omega⟩
        rw [HT.out, HX.out]
        exact ⟨EW.out.nums OW.out Q2.out, P2.out, rfl, by show s3.n - 1 ≤ n; omega⟩
      · have hs' : stW addr s3.n x = false := by simpa using hs
        have HX : Hid (sift1 (stW addr) (nxW addr) s3 x = ⟨s3.n, s3.out, s3.left ++ [x]⟩) := by show sift1 _ _ s3 x = _; simp [sift1, nxW, hs']
        obtain ⟨v2, w2, r2, p2, q2⟩ := app_ent O1.out x (by have := HL.out.1; omega) hw1
        have ga := (Gr.refl wr).alloc #[.int .i64 x.a, .int .i64 x.v] 36
        have P2 := hide p2
        have Q2 := hide q2
        have OW := hide (O1.out.later ga)
        have GR := hide (gr.alloc #[.int .i64 x.a, .int .i64 x.v] 36)
        have EW := hide (O2.out.later ga)
        clear p2 q2 ga hs
        have hs2 : x.v ≠ addr ∨ s3.n = 0 := by
          by_cases hv : x.v = addr
          · right
            simpa [stW, hv] using hs'
          · exact .inl hv
        clear hs'
        by_cases hv : x.v = addr
        · have hn0 : s3.n = 0 := by
            rcases hs2 with h | h
            · exact absurd hv h
            · exact h
          have hz : ¬ (0 : Int) < (s3.n : Int) := by omega
          subst hv
          clear hs2
          go_wp2_with (first
            | (refine step_app rfl (some 44) rfl _ _ _ rfl _ _ rfl rfl v2 w2 r2 ?_))
          refine ⟨⟨k + 1, by omega, by go_num, grown_gr GR.out OW.out Q2.out (Nat.le_refl _), ?_⟩, by simp [intOf]; omega⟩
          rw [HT.out, HX.out]
          exact ⟨P2.out, EW.out.ents OW.out Q2.out, by simp [hn0], by show s3.n ≤ n; omega⟩
        · have hv' : (x.v == addr) = false := by simp [hv]
          clear hs2 hv
          go_wp2_with (first
            | (refine step_app rfl (some 44) rfl _ _ _ rfl _ _ rfl rfl v2 w2 r2 ?_))
          refine ⟨⟨k + 1, by omega, by go_num, grown_gr GR.out OW.out Q2.out (Nat.le_refl _), ?_⟩, by simp [intOf]; omega⟩
          rw [HT.out, HX.out]
          exact ⟨P2.out, EW.out.ents OW.out Q2.out, rfl, by show s3.n ≤ n; omega⟩
    · obtain rfl : k = l.length := by omega
      rw [List.take_length] at ho
      obtain ⟨o1, o2, rfl, hm⟩ := ho.out
      have O1 := hide o1
      have O2 := hide o2
      clear ho o1 o2
      go_wp2_with (fail)
      go_ret2
      exact ⟨_, _, ⟨rfl, gr⟩, O1.out, O2.out⟩
end Go.Proofs.Ytlcjobgnjmhokaa
