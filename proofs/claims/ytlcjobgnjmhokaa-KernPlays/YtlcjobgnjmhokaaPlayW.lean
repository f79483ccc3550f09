/-
  KernPlays' walk: of any at most 300 acts and any thread it answers true. No condition but that the slice's cells hold the acts.
-/
import Derived.Test.YtlcjobgnjmhokaaAwake
import Derived.Test.YtlcjobgnjmhokaaAll
import Derived.Test.YtlcjobgnjmhokaaRefs
import Derived.Test.YtlcjobgnjmhokaaRefw
import Derived.Test.YtlcjobgnjmhokaaRefk
import Derived.Test.YtlcjobgnjmhokaaOpen
import Derived.Deep.QuietTactic
import Derived.BigQuiet
import Derived.Deep.Cut
import Derived.Deep.CutRange
import Derived.Deep.CutBlock
import Derived.Deep.LoopGhost
namespace Go.Proofs.Ytlcjobgnjmhokaa
open Go.ChangeShapes Go.WideShapes Go.ChangeAt Go.RowKit
set_option linter.unusedVariables false

/-- the queue in block n and the slice v hold the same sleepers -/
def Both (n : Nat) (v : Value) (w0 w : World) : Prop := ∃ q, K w n q ∧ Ok q ∧ Eown w w0.heap.size v q ∧ Gr w0 w

/-- rousing is leaving out -/
theorem rouse_idx (who : Int) : ∀ (l : List Ent), (l.map Ent.a).Nodup → idx who l < l.length → rouseL who l = l.take (idx who l) ++ l.drop (idx who l + 1)
  | [], _, h => by simp at h
  | x :: l, hn, h => by
    rw [List.map_cons, List.nodup_cons] at hn
    by_cases hx : x.a = who
    · have e : idx who (x :: l) = 0 := by simp [idx, hx]
      rw [e]
      have : rouseL who l = l := by
        unfold rouseL
        rw [List.filter_eq_self]
        intro y hy
        have : y.a ≠ who := fun q => hn.1 (by rw [hx, ← q]; exact List.mem_map_of_mem hy)
        simp [this]
      unfold rouseL at this ⊢
      rw [List.filter_cons]
      simp [hx, this]
    · have e : idx who (x :: l) = idx who l + 1 := by simp [idx, hx]
      have ih := rouse_idx who l hn.2 (by rw [e] at h; simpa using h)
      rw [e]
      unfold rouseL at ih ⊢
      rw [List.filter_cons]
      simp [hx, ih]
theorem rouse_none (who : Int) (l : List Ent) (h : ¬ idx who l < l.length) : rouseL who l = l := by
  unfold rouseL
  rw [List.filter_eq_self]
  intro y hy
  simp [idx_none h y hy]
theorem sift_sub (st : Nat → Ent → Bool) (nx : Nat → Ent → Nat) : ∀ (l : List Ent) (s : S3), ∃ m, (l.foldl (sift1 st nx) s).left = s.left ++ m ∧ m.Sublist l
  | [], s => ⟨[], by simp, List.Sublist.refl _⟩
  | x :: l, s => by
    obtain ⟨m, h1, h2⟩ := sift_sub st nx l (sift1 st nx s x)
    by_cases h : st s.n x = true
    · exact ⟨m, by rw [List.foldl_cons, h1]; simp [sift1, h], h2.cons x⟩
    · exact ⟨x :: m, by rw [List.foldl_cons, h1]; simp [sift1, h], h2.cons_cons x⟩
theorem Ok.sift {l : List Ent} (h : Ok l) (st : Nat → Ent → Bool) (nx : Nat → Ent → Nat) (n : Nat) : Ok (siftS st nx n l).left := by
  obtain ⟨m, h1, h2⟩ := sift_sub st nx l ⟨n, [], []⟩
  unfold siftS
  rw [h1]
  simpa using h.sub h2
theorem Ok.rouse {l : List Ent} (h : Ok l) (who : Int) : Ok (rouseL who l) := h.sub List.filter_sublist
theorem fidx_neg {who : Int} {l : List Ent} (h : ¬ idx who l < l.length) : fidx who l = -1 := by unfold fidx; rw [if_neg h]
theorem fidx_pos {who : Int} {l : List Ent} (h : idx who l < l.length) : fidx who l = (idx who l : Int) := by unfold fidx; rw [if_pos h]

set_option maxRecDepth 20000 in
set_option maxHeartbeats 4000000 in
theorem plays_few (ad : Option Addr) (cap : Nat) (l : List Act6) (hl : l.length ≤ 300) (who : Int) (w : World) (he : ActsAt w ad l) :
    Calls Try.prog 3 #[.slice ad l.length cap, .int .i64 who] w fun e w' => e = .returned (.bool true) ∧ Gr w w' := by
  have HE := hide he
  clear he
  have hl' : ¬ (300 : Int) < l.length := by omega
  go_enter Try.func3, Try.ntmps3
  go_wp2_with (first
    | (go_at_call 7; refine (awake_calls _).mono ?_; rintro e w1 ⟨rfl, g1⟩))
  have k2 := K.new w1
  have g2 := g1.alloc zeroC 28
  have hn : w.heap.size ≤ w1.heap.size := g1.size
  change Code.wp _ _ _ _ (w1.alloc (.cells zeroC 28))
  generalize w1.alloc (.cells zeroC 28) = w2 at k2 g2 ⊢
  generalize w1.heap.size = n at k2 hn ⊢
  clear g1
  go_loopg [6, 7] l.length (fun g v i wr => ∃ k : Nat, k ≤ l.length ∧ g = l.length - k ∧ i = .int .i64 k ∧ Both n v w wr)
  case atStart => exact ⟨0, by omega, rfl, rfl, [], k2, ok_nil, Eown.nil _ _, g2⟩
  case round =>
    clear k2 g2
    obtain ⟨k, hk, rfl, rfl, q, hK, hO, hE, gr⟩ := hrel
    have HK := hide hK
    have HO := hide hO
    obtain ⟨ea, ec, rfl, he, hec, heb⟩ := hE.at
    have HW := hide hE
    have HL := hide hK.len
    clear hK hO
    by_cases hlt : k < l.length
    · have hlt' : (k : Int) < l.length := by omega
      obtain ⟨b, off, had, hcells⟩ : ∃ b off, ad = some ⟨b, off, none⟩ ∧ ∀ i, i < l.length → (l.getD i act0).ok ∧ w.cell? ⟨b, off + i * 4, none⟩ = some (.int .u8 (l.getD i act0).d) ∧ w.cell? ⟨b, off + i * 4 + 1, none⟩ = some (.int .i64 (l.getD i act0).who) ∧ w.cell? ⟨b, off + i * 4 + 2, none⟩ = some (.int .i64 (l.getD i act0).addr) ∧ w.cell? ⟨b, off + i * 4 + 3, none⟩ = some (.int .u32 ((l.getD i act0).n : Int)) := by
        rcases HE.out with h | ⟨b, off, h1, h2⟩
        · subst h; simp at hlt
        · exact ⟨b, off, h1, h2⟩
      subst had
      obtain ⟨ok, c0, c1, c2, c3⟩ := hcells k hlt
      generalize l.getD k act0 = x at ok c0 c1 c2 c3
      obtain ⟨⟨hd0, hd1⟩, hxn⟩ := ok
      replace c0 := cell_later gr c0
      replace c1 := cell_later gr c1
      replace c2 := cell_later gr c2
      replace c3 := cell_later gr c3
      clear hcells hE
      obtain ⟨d, hd⟩ : ∃ d : Nat, x.d = d := ⟨x.d.toNat, by omega⟩
      obtain ⟨xd, xwho, xaddr, xn⟩ := x
      simp only at hd hd0 hd1 hxn c0 c1 c2 c3
      subst hd
      have hd2 : d < 256 := by omega
      have gA := (Gr.refl wr).alloc #[.int .u8 (d : Int), .int .i64 xwho, .int .i64 xaddr, .int .u32 (xn : Int)] 32
      have hX := Has.new wr #[.int .u8 (d : Int), .int .i64 xwho, .int .i64 xaddr, .int .u32 (xn : Int)] 32
      have HEA := hide (he.later gA)
      have HWA := hide (HW.out.later gA)
      have HKA := hide (HK.out.later gA)
      have hqn := HK.out.lt
      have HG := hide (gr.trans gA)
      have hq8 := HL.out
      have HEC := hide hec
      clear he HW HK hd0 hd1 heb hec
      go_wp2_with (fail)
      have hx0 := hX.cell (o := 0) rfl
      have hx1 := hX.cell (o := 1) rfl
      have hx2 := hX.cell (o := 2) rfl
      have hx3 := hX.cell (o := 3) rfl
      have HX := hide hX
      have hnx : n ≠ wr.heap.size := by omega
      have hxl := hX.lt
      have hsz := gr.size
      generalize wr.alloc (.cells #[.int .u8 (d : Int), .int .i64 xwho, .int .i64 xaddr, .int .u32 (xn : Int)] 32) = w3 at *
      generalize wr.heap.size = xb at *
      clear gA hX c0 c1 c2 c3 gr
      refine (rfind_calls ea ec q (by omega) xwho w3 HEA.out).mono ?_
      rintro e w4 ⟨rfl, rfl⟩
      go_upto_block 2 with (fail)
      go_cut [6] from 28 to 172 (fun v wx => Both n v w wx)
      case first =>
        rcases (by omega : d % 3 = 0 ∨ d % 3 = 1 ∨ d % 3 = 2) with hm | hm | hm
        · have m0 : ((d : Int) % 3 == 0) = true := by simp; omega
          have SC := hide (sleep_calls HKA.out HO.out xwho xaddr)
          go_wp2_with (fail)
          refine SC.out.mono ?_
          rintro e w5 ⟨⟨rfl, p5⟩, k5⟩
          have HX5 := HX.out.kept p5 (by simpa using Ne.symm hnx)
          have y1 := HX5.cell (o := 1) rfl
          have y2 := HX5.cell (o := 2) rfl
          have W5 := hide (HWA.out.kept p5 HKA.out)
          have G5 := hide (p5.gr HG.out (by simpa using hn))
          have K5 := hide k5
          have O5 := hide (HO.out.sleep xwho xaddr)
          have hs5 := G5.out.size
          clear SC p5 k5 hx0 hx1 hx2 hx3 HX HX5 HKA
          by_cases h1 : xwho < 0
          · have E5 : Hid (sleepE xwho q = 1) := by show sleepE xwho q = 1; simp [sleepE, h1]
            rw [E5.out]
            go_wp2_with (fail)
            go_meet
            refine ⟨q, ?_, HO.out, W5.out, G5.out⟩
            have := K5.out
            unfold sleepL at this
            rwa [E5.out, if_neg (by omega)] at this
          by_cases h2 : 7 < xwho
          · have E5 : Hid (sleepE xwho q = 1) := by show sleepE xwho q = 1; have : 8 ≤ xwho := by omega
                                                    simp [sleepE, this]
            rw [E5.out]
            go_wp2_with (fail)
            go_meet
            refine ⟨q, ?_, HO.out, W5.out, G5.out⟩
            have := K5.out
            unfold sleepL at this
            rwa [E5.out, if_neg (by omega)] at this
          have h12 : ¬ (xwho < 0 ∨ 8 ≤ xwho) := by omega
          by_cases h3 : idx xwho q < q.length
          · have E5 : Hid (sleepE xwho q = 6) := by show sleepE xwho q = 6; unfold sleepE; rw [if_neg h12, if_pos h3]
            have F5 : 0 ≤ fidx xwho q := by rw [fidx_pos h3]; omega
            rw [E5.out]
            clear h12 h3
            go_wp2_with (fail)
            go_meet
            refine ⟨q, ?_, HO.out, W5.out, G5.out⟩
            have := K5.out
            unfold sleepL at this
            rwa [E5.out, if_neg (by omega)] at this
          · have E5 : Hid (sleepE xwho q = 0) := by show sleepE xwho q = 0; unfold sleepE; rw [if_neg h12, if_neg h3]
            have F5 : fidx xwho q < 0 := by rw [fidx_neg h3]; omega
            rw [E5.out]
            clear h12 h3
            obtain ⟨v6, w6, r6, o6, g6⟩ := app_ent W5.out ⟨xwho, xaddr⟩ (by omega) hs5
            have R6 := r6
            simp only at R6
            have A6 := (Gr.refl w5).alloc #[.int .i64 xwho, .int .i64 xaddr] 36
            have W6 := hide (W5.out.later A6)
            have O6 := hide o6
            have Q6 := hide g6
            have K6 := hide ((K5.out.later A6).ents W6.out Q6.out)
            have G6 := hide (grown_gr (G5.out.trans A6) W6.out Q6.out (Nat.le_refl _))
            clear r6 o6 g6 A6
            go_wp2_with (first
              | (refine step_app rfl (some 80) rfl _ _ _ rfl _ _ rfl rfl v6 w6 R6 ?_))
            go_meet
            have e : sleepL xwho xaddr q = q ++ [⟨xwho, xaddr⟩] := by unfold sleepL; rw [if_pos E5.out]
            have k6 := K6.out
            have o5 := O5.out
            rw [e] at k6 o5
            exact ⟨q ++ [⟨xwho, xaddr⟩], k6, o5, O6.out, G6.out⟩
        · have m0 : ((d : Int) % 3 == 0) = false := by simp; omega
          have m1 : ((d : Int) % 3 == 1) = true := by simp; omega
          have SC := hide (wake_calls HKA.out xaddr xn hxn)
          go_wp2_with (fail)
          refine SC.out.mono ?_
          rintro e w5 ⟨v5, ⟨rfl, p5⟩, o5, k5⟩
          have HX5 := HX.out.kept p5 (by simpa using Ne.symm hnx)
          have y2 := HX5.cell (o := 2) rfl
          have y3 := HX5.cell (o := 3) rfl
          have w5' := HWA.out.kept p5 HKA.out
          obtain ⟨fa, fc, f1, f2, -, -⟩ := w5'.at
          cases f1
          have G5 := hide (p5.gr HG.out (by simpa using hn))
          have K5 := hide k5
          have O5 := hide (HO.out.sift (stW xaddr) (nxW xaddr) xn)
          have hs5 := G5.out.size
          have N5 := hide o5
          have RW := hide (rwake_calls ea ec q (by omega) xaddr xn hxn w5 f2)
          have hl2 := (siftS_len (stW xaddr) (nxW xaddr) xn q).2
          clear SC p5 k5 hx0 hx1 hx2 hx3 HX HX5 HKA w5' f2 o5
          generalize siftS (stW xaddr) (nxW xaddr) xn q = s3 at N5 K5 O5 RW hl2
          go_wp2_with (fail)
          refine RW.out.mono ?_
          rintro e w6 ⟨v6, u6, ⟨rfl, g6⟩, o6, n6⟩
          obtain ⟨a7, c7, rfl, n7, -, -⟩ := (N5.out.later g6).at
          obtain ⟨a8, c8, rfl, n8, -, -⟩ := n6.at
          have NC := hide (numbers_calls a7 a8 c7 c8 s3.out (by omega) w6 n7 n8)
          have E6 := hide (o6.lower hs5)
          have K6 := hide (K5.out.later g6)
          have G6 := hide (G5.out.trans g6)
          clear o6 n6 n7 n8 N5 RW g6 y2 y3
          go_wp2_with (fail)
          refine NC.out.mono ?_
          rintro e w7 ⟨rfl, g7⟩
          go_wp2_with (fail)
          go_meet
          exact ⟨s3.left, K6.out.later g7, O5.out, E6.out.later g7, G6.out.trans g7⟩
        · have m0 : ((d : Int) % 3 == 0) = false := by simp; omega
          have m1 : ((d : Int) % 3 == 1) = false := by simp; omega
          have SC := hide (rouse_calls HKA.out xwho)
          go_wp2_with (fail)
          refine SC.out.mono ?_
          rintro e w5 ⟨⟨rfl, p5⟩, k5⟩
          have w5' := HWA.out.kept p5 HKA.out
          obtain ⟨fa, fc, f1, f2, -, -⟩ := w5'.at
          cases f1
          have W5 := hide w5'
          have G5 := hide (p5.gr HG.out (by simpa using hn))
          have K5 := hide k5
          have O5 := hide (HO.out.rouse xwho)
          have hs5 := G5.out.size
          by_cases h3 : idx xwho q < q.length
          · rw [decide_eq_true h3]
            have F5 : 0 ≤ fidx xwho q := by rw [fidx_pos h3]; omega
            have hcap : q.length ≤ ec := by
              rcases w5'.2 with ⟨h, h0⟩ | ⟨g, cap, cur, hv, _, _, hnc, _⟩
              · omega
              · cases hv
                exact hnc
            have wc := rwithout_calls ea ec q (by omega) (idx xwho q) h3 hcap w5 f2
            rw [← fidx_pos h3] at wc
            have WC := hide wc
            clear wc
            have RI := hide (rouse_idx xwho q HO.out.1 h3)
            generalize idx xwho q = p at WC RI
            clear SC p5 k5 hx0 hx1 hx2 hx3 HX HKA w5' f2 h3
            go_wp2_with (fail)
            refine WC.out.mono ?_
            rintro e w6 ⟨v6, ⟨rfl, g6⟩, o6⟩
            have E6 := hide (o6.lower hs5)
            clear o6
            go_wp2_with (fail)
            go_meet
            exact ⟨rouseL xwho q, K5.out.later g6, O5.out, by rw [RI.out]; exact E6.out, G5.out.trans g6⟩
          · rw [decide_eq_false h3]
            have F5 : fidx xwho q < 0 := by rw [fidx_neg h3]; omega
            have RI := hide (rouse_none xwho q h3)
            clear SC p5 k5 hx0 hx1 hx2 hx3 HX HKA w5' f2 h3
            go_wp2_with (fail)
            go_meet
            exact ⟨rouseL xwho q, K5.out, O5.out, by rw [RI.out]; exact W5.out, G5.out⟩
      case rest =>
        clear HEA HWA HKA HG HEC HX hx0 hx1 hx2 hx3 HL HO hq8 hxl hnx hqn hsz hxn hd2
        obtain ⟨q2, hK, hO, hE, gr⟩ := hcut
        obtain ⟨fa, fc, rfl, he, -, -⟩ := hE.at
        have HK := hide hK
        have HO := hide hO
        have HW := hide hE
        have hq8 := hK.len
        have HF := hide he
        clear hK hO hE he
        go_wp2_with (fail)
        refine (all_calls HK.out).mono ?_
        rintro e w5 ⟨⟨rfl, g5⟩, h5⟩
        have H5 := hide h5.ents
        have HF5 := hide (HF.out.later g5)
        have K5 := hide (HK.out.later g5)
        have W5 := hide (HW.out.later g5)
        have gr5 := gr.trans g5
        generalize wc.heap.size = lb at H5 ⊢
        clear g5 h5 HK HW HF gr
        go_wp2_with (fail)
        go_loopw [16] (fun i wr => ∃ k2 : Nat, k2 ≤ q2.length ∧ i = .int .i64 k2 ∧ Gr w5 wr) (fun i _ => q2.length - (intOf i).toNat)
        case atStart => exact ⟨0, by omega, rfl, Gr.refl _⟩
        case round =>
          obtain ⟨k2, hk2, rfl, g6⟩ := hrel
          by_cases hlt2 : k2 < q2.length
          · have hlt2' : (k2 : Int) < q2.length := by omega
            obtain ⟨b1, o1, e1, c1, c2⟩ := (H5.out.later g6).get hlt2
            obtain ⟨b2, o2, e2, d1, d2⟩ := (HF5.out.later g6).get hlt2
            cases e1
            subst e2
            simp only [Nat.zero_add] at c1 c2
            generalize q2.getD k2 ent0 = y at c1 c2 d1 d2
            go_wp2_with (fail)
            go_quiet (fail)
            go_wp2_with (fail)
            exact ⟨⟨k2 + 1, by omega, by go_num, g6.drewN nq⟩, by simp [intOf]; omega⟩
          · obtain rfl : k2 = q2.length := by omega
            have K6 := hide (K5.out.later g6)
            have F6 := hide (HF5.out.later g6)
            have W6 := hide (W5.out.later g6)
            have gr6 := gr5.trans g6
            clear hk2 hlt2 H5 HF5 K5 W5 gr5 g6
            go_wp2_with (fail)
            refine (asleep_calls K6.out who).mono ?_
            rintro e w7 ⟨rfl, g7⟩
            have RF := hide (rfind_calls fa fc q2 (by omega) who w7 (F6.out.later g7))
            by_cases h3 : idx who q2 < q2.length
            · have AF : Hid (asleepV (findK who q2) = .tuple #[.int .i64 (q2.getD (idx who q2) ent0).v, .bool true]) := by
                show asleepV _ = _
                rw [findK_idx, if_pos h3]; rfl
              rw [AF.out]
              have FP := hide (fidx_pos h3)
              obtain ⟨b2, o2, e2, d1, d2⟩ := (F6.out.later g7).get h3
              subst e2
              generalize (q2.getD (idx who q2) ent0).v = y at d2 AF ⊢
              go_wp2_with (fail)
              refine RF.out.mono ?_
              rintro e w8 ⟨rfl, rfl⟩
              rw [FP.out]
              have h3' : (idx who q2 : Int) < q2.length := by omega
              generalize idx who q2 = p at d1 d2 h3 h3' ⊢
              clear AF FP RF
              go_wp2_with (fail)
              go_roundg (l.length - (k + 1))
              case measure => omega
              case rel => exact ⟨k + 1, by omega, rfl, by go_num, q2, K6.out.later g7, HO.out, W6.out.later g7, gr6.trans g7⟩
            · have AF : Hid (asleepV (findK who q2) = .tuple #[.int .i64 0, .bool false]) := by
                show asleepV _ = _
                rw [findK_idx, if_neg h3]; rfl
              rw [AF.out]
              have FP := hide (fidx_neg h3)
              go_wp2_with (fail)
              refine RF.out.mono ?_
              rintro e w8 ⟨rfl, rfl⟩
              rw [FP.out]
              clear AF FP RF h3
              go_wp2_with (fail)
              go_roundg (l.length - (k + 1))
              case measure => omega
              case rel => exact ⟨k + 1, by omega, rfl, by go_num, q2, K6.out.later g7, HO.out, W6.out.later g7, gr6.trans g7⟩
    · obtain rfl : k = l.length := by omega
      go_wp2_with (fail)
      go_ret
      exact ⟨rfl, gr⟩
end Go.Proofs.Ytlcjobgnjmhokaa
