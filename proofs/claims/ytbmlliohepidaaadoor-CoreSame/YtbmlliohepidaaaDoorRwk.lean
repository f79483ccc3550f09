/-
  What the document's Wake answers of any slice of sleepers. No condition but that its cells hold them.
-/
import Derived.Test.YtbmlliohepidaaaDoorYp
import Derived.Test.YtbmlliohepidaaaDoorFrm
namespace Go.Proofs.YtbmlliohepidaaaDoor
open Go.ChangeShapes Go.WideShapes Go.ChangeAt Go.RowKit
set_option linter.unusedVariables false

/-- what the document's Wake answers -/
def RWakeP (w : World) (s : S3) (e : Ending) (w' : World) : Prop := ∃ v u, (e = .returned (.tuple #[v, u]) ∧ Gr w w') ∧ SlpsO w' w.heap.size v s.left ∧ NumsO w' w.heap.size u s.out
theorem wrap_less (n : Nat) (hn : n < 4294967296) (h0 : 0 < n) : IntKind.u32.wrap ((n : Int) - 1) = ((n - 1 : Nat) : Int) := by
  rw [IntKind.wrap_u32]
  omega
/-- rows of unlike types are kept where a row grows -/
theorem own_other {w w' : World} {base base' sz sz' n n' : Nat} {t u : TypeId} {v v' : Value} {xs ys : List Value} (h : w.ownsRow base t sz v n xs) (ho : w.ownsRow base' u sz' v' n' ys) (k : w.grownBy w' v'.ownBlock) (ht : t ≠ u) : w'.ownsRow base t sz v n xs :=
  own_kept h (Kp.grown k) fun g hg z => own_apart h ho ht (mem_ob.2 hg) z

set_option maxRecDepth 20000 in
set_option maxHeartbeats 2000000 in
theorem rwake_calls (a : Option Addr) (ca : Nat) (l : List Ent) (hl : l.length ≤ 90000) (addr : Int) (n : Nat) (hn : n < 4294967296) (w : World) (ha : RowAt w a (flatOf slpL l)) :
    Calls Tryd.prog 46 #[.slice a l.length ca, .int .i64 addr, .int .u32 (n : Int)] w (RWakeP w (siftS addr n l)) := by
  have HA := hide ha
  clear ha
  go_enter Tryd.func46, Tryd.ntmps46
  go_wp2_with (fail)
  go_loopw [2, 8, 9, 10] (fun m v u i wr => ∃ k : Nat, k ≤ l.length ∧ i = .int .i64 k ∧ Gr w wr ∧ Hid (SlpsO wr w.heap.size v (siftS addr n (l.take k)).left ∧ NumsO wr w.heap.size u (siftS addr n (l.take k)).out ∧ m = .int .u32 ((siftS addr n (l.take k)).n : Int) ∧ (siftS addr n (l.take k)).n ≤ n)) (fun _ _ _ i _ => l.length - (intOf i).toNat)
  case atStart => exact ⟨0, by omega, rfl, Gr.refl w, by exact ⟨own_nil _ _ _ _, own_nil _ _ _ _, rfl, Nat.le_refl _⟩⟩
  case round =>
    obtain ⟨k, hk, rfl, gr, ho⟩ := hrel
    by_cases hlt : k < l.length
    · have hlt' : (k : Int) < l.length := by omega
      obtain ⟨b1, o1, h1, -⟩ := (HA.out.later gr).get (by rw [flatOf_length slpL_len]; omega)
      subst h1
      have c1 : wr.cell? ⟨b1, o1 + k * 2, none⟩ = some (.int .i64 (l.getD k ent0).a) := (HA.out.later gr).cell slpL_len hlt ent0 0 (by omega)
      have c2 : wr.cell? ⟨b1, o1 + k * 2 + 1, none⟩ = some (.int .i64 (l.getD k ent0).v) := by rw [Nat.add_assoc]; exact (HA.out.later gr).cell slpL_len hlt ent0 1 (by omega)
      have HT : Hid (siftS addr n (l.take (k + 1)) = sift1 addr (siftS addr n (l.take k)) (l.getD k ent0)) := by
        show siftS addr n (l.take (k + 1)) = _
        rw [take_get ent0 l k hlt, siftS_snoc]
      have hsl := siftS_len addr n (l.take k)
      rw [List.length_take, Nat.min_eq_left hk] at hsl
      have HL := hide hsl
      clear hsl
      generalize l.getD k ent0 = x at c1 c2 HT
      generalize siftS addr n (l.take k) = s3 at ho HT HL
      obtain ⟨o1, o2, rfl, hm⟩ := ho.out
      have O1 := hide o1
      have O2 := hide o2
      clear ho o1 o2
      have hw1 := gr.size
      by_cases hs : stW addr s3.n x = true
      · have HX : Hid (sift1 addr s3 x = ⟨s3.n - 1, s3.out ++ [x.a], s3.left⟩) := by show sift1 _ s3 x = _; simp [sift1, hs]
        have hs2 : x.v = addr ∧ 0 < s3.n := by simpa [stW] using hs
        obtain ⟨hv, h0⟩ := hs2
        subst hv
        obtain ⟨v2, w2, r2, p2, q2, -⟩ := app_rec (ty := 96) numL_len numL_one (T := 96) Tryd.underlying96 infoNum (by decide) (by decide) (by decide) O2.out x.a #[.int .i64 x.a] rfl (by have := HL.out.2; omega) hw1
        have hz : (0 : Int) < (s3.n : Int) := by omega
        have ga := (Gr.refl wr).alloc #[.int .i64 x.a] 3
        have P2 := hide p2
        have Q2 := hide q2
        have OW := hide (own_later O2.out ga)
        have GR := hide (gr.alloc #[.int .i64 x.a] 3)
        have EW := hide (own_later O1.out ga)
        have hwr := wrap_less s3.n (by omega) h0
        clear p2 q2 ga hs
        go_wp2_with (first
          | (refine step_app rfl (some 35) rfl _ _ _ rfl _ _ rfl rfl v2 w2 r2 ?_))
        refine ⟨⟨k + 1, by omega, by go_num, grown_gr GR.out OW.out Q2.out (Nat.le_refl _), ?_⟩, by simp [intOf]; omega⟩
        rw [HT.out, HX.out]
        exact ⟨own_other EW.out OW.out Q2.out (by decide), P2.out, rfl, by show s3.n - 1 ≤ n; omega⟩
      · have hs' : stW addr s3.n x = false := by simpa using hs
        have HX : Hid (sift1 addr s3 x = ⟨s3.n, s3.out, s3.left ++ [x]⟩) := by show sift1 _ s3 x = _; simp [sift1, hs']
        obtain ⟨v2, w2, r2, p2, q2, -⟩ := app_rec (ty := 37) slpL_len slpL_one (T := 37) Tryd.underlying37 infoSlp (by decide) (by decide) (by decide) O1.out x #[.int .i64 x.a, .int .i64 x.v] rfl (by have := HL.out.1; omega) hw1
        have ga := (Gr.refl wr).alloc #[.int .i64 x.a, .int .i64 x.v] 85
        have P2 := hide p2
        have Q2 := hide q2
        have OW := hide (own_later O1.out ga)
        have GR := hide (gr.alloc #[.int .i64 x.a, .int .i64 x.v] 85)
        have EW := hide (own_later O2.out ga)
        clear p2 q2 ga hs
        have hs2 : x.v ≠ addr ∨ s3.n = 0 := by
          by_cases hv : x.v = addr
          · right
            simpa [stW, hv] using hs'
          · exact .inl hv
        clear hs'
        by_cases hv : x.v = addr
        · have hn0 : s3.n = 0 := by
            rcases hs2 with h | h
            · exact absurd hv h
            · exact h
          have hz : ¬ (0 : Int) < (s3.n : Int) := by omega
          subst hv
          clear hs2
          go_wp2_with (first
            | (refine step_app rfl (some 44) rfl _ _ _ rfl _ _ rfl rfl v2 w2 r2 ?_))
          refine ⟨⟨k + 1, by omega, by go_num, grown_gr GR.out OW.out Q2.out (Nat.le_refl _), ?_⟩, by simp [intOf]; omega⟩
          rw [HT.out, HX.out]
          exact ⟨P2.out, own_other EW.out OW.out Q2.out (by decide), by simp [hn0], by show s3.n ≤ n; omega⟩
        · have hv' : (x.v == addr) = false := by simp [hv]
          clear hs2 hv
          go_wp2_with (first
            | (refine step_app rfl (some 44) rfl _ _ _ rfl _ _ rfl rfl v2 w2 r2 ?_))
          refine ⟨⟨k + 1, by omega, by go_num, grown_gr GR.out OW.out Q2.out (Nat.le_refl _), ?_⟩, by simp [intOf]; omega⟩
          rw [HT.out, HX.out]
          exact ⟨P2.out, own_other EW.out OW.out Q2.out (by decide), rfl, by show s3.n ≤ n; omega⟩
    · obtain rfl : k = l.length := by omega
      rw [List.take_length] at ho
      obtain ⟨o1, o2, rfl, hm⟩ := ho.out
      have O1 := hide o1
      have O2 := hide o2
      clear ho o1 o2
      go_wp2_with (fail)
      go_ret2
      exact ⟨_, _, ⟨rfl, gr⟩, O1.out, O2.out⟩
end Go.Proofs.YtbmlliohepidaaaDoor
