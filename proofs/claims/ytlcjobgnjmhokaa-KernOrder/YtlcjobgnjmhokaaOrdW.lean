/-
  KernOrder's walk: of any threads, any address and any number it answers true. No condition but that the slice's cells hold the threads.
-/
import Derived.Test.YtlcjobgnjmhokaaAwake
import Derived.Test.YtlcjobgnjmhokaaAll
import Derived.Test.YtlcjobgnjmhokaaRefs
import Derived.Test.YtlcjobgnjmhokaaRefw
import Derived.Test.YtlcjobgnjmhokaaRefk
namespace Go.Proofs.Ytlcjobgnjmhokaa
open Go.ChangeShapes Go.WideShapes Go.ChangeAt Go.RowKit
set_option linter.unusedVariables false

/-- of those who sleep at one address the first are woken -/
theorem fold_same (addr : Int) : ∀ (l : List Ent) (s : S3), (∀ x ∈ l, x.v = addr) → (l.foldl (sift1 (stW addr) (nxW addr)) s).left = s.left ++ l.drop s.n ∧ (l.foldl (sift1 (stW addr) (nxW addr)) s).out = s.out ++ (l.take s.n).map Ent.a
  | [], s, _ => by simp
  | x :: l, s, h => by
    have hx := h x (by simp)
    obtain ⟨h1, h2⟩ := fold_same addr l (sift1 (stW addr) (nxW addr) s x) (fun y hy => h y (by simp [hy]))
    rw [List.foldl_cons, h1, h2]
    cases hn : s.n with
    | zero => simp [sift1, stW, nxW, hn]
    | succ n => simp [sift1, stW, nxW, hn, hx]
theorem same_left (addr : Int) (n : Nat) (l : List Ent) (h : ∀ x ∈ l, x.v = addr) : (siftS (stW addr) (nxW addr) n l).left = l.drop n := by simpa [siftS] using (fold_same addr l ⟨n, [], []⟩ h).1
theorem same_out (addr : Int) (n : Nat) (l : List Ent) (h : ∀ x ∈ l, x.v = addr) : (siftS (stW addr) (nxW addr) n l).out = (l.take n).map Ent.a := by simpa [siftS] using (fold_same addr l ⟨n, [], []⟩ h).2

theorem build_num {o : Oper} {a : Act} {w : World} (x : Operand) (ho : o.op = .buildSlice 37 1 #[(0, x)]) (n : Int) (hx : a.eval x = .int .i64 n) :
    (execOp a.eval o).run Try.prog w = .ok (.value (.slice (some ⟨w.heap.size, 0, none⟩) 1 1)) (w.alloc (.cells (ints [n]).toArray 3)) := by
  unfold execOp
  simp only [ho, List.map_toArray, List.map_cons, List.map_nil, hx, ints]
  clear hx
  go_simp

/-- a queue in memory, and the numbers of its sleepers -/
structure OrdI (w : World) (n : Nat) (addr : Int) (q : List Ent) (wr : World) (v : Value) : Prop where
  k : K wr n q
  ok : Ok q
  at_ : ∀ x ∈ q, x.v = addr
  own : Nown wr w.heap.size v (q.map Ent.a)
  gr : Gr w wr

set_option maxHeartbeats 2000000 in
theorem order_few (ad : Option Addr) (cap : Nat) (l : List Int) (hl : l.length ≤ 300) (addr : Int) (m : Nat) (hm : m < 4294967296) (w : World) (he : NumsAt w ad l) :
    Calls Try.prog 4 #[.slice ad l.length cap, .int .i64 addr, .int .u32 (m : Int)] w fun e w' => e = .returned (.bool true) ∧ Gr w w' := by
  have HE := hide he
  clear he
  have hl' : ¬ (300 : Int) < l.length := by omega
  go_enter Try.func4, Try.ntmps4
  go_wp2_with (first
    | (go_at_call 7; refine (awake_calls _).mono ?_; rintro e w1 ⟨rfl, g1⟩))
  have k2 := K.new w1
  have g2 := g1.alloc zeroC 28
  have hn : w.heap.size ≤ w1.heap.size := g1.size
  change Code.wp _ _ _ _ (w1.alloc (.cells zeroC 28))
  generalize w1.alloc (.cells zeroC 28) = w2 at k2 g2 ⊢
  generalize w1.heap.size = n at k2 hn ⊢
  clear g1
  go_loopw [8, 9] (fun v i wr => ∃ k : Nat, k ≤ l.length ∧ i = .int .i64 k ∧ ∃ q, OrdI w n addr q wr v) (fun _ i _ => l.length - (intOf i).toNat)
  case atStart => exact ⟨0, by omega, rfl, [], k2, ok_nil, by simp, Nown.nil _ _, g2⟩
  case round =>
    clear k2 g2
    obtain ⟨k, hk, rfl, q, s⟩ := hrel
    by_cases hlt : k < l.length
    · have hlt' : (k : Int) < l.length := by omega
      have S := hide s
      obtain ⟨b, off, rfl, c1⟩ := (HE.out.later s.gr).get hlt
      have hbw : b < w.heap.size := by
        obtain ⟨b', off', e', c'⟩ := HE.out.get hlt
        cases e'
        exact block_lt_of_cell c'
      generalize l.getD k 0 = x at c1
      have C1 := hide c1
      clear s
      go_wp2_with (fail)
      refine (sleep_calls S.out.k S.out.ok x addr).mono ?_
      rintro e w3 ⟨⟨rfl, p3⟩, k3⟩
      have own3 := S.out.own.kept p3 S.out.k
      have gr3 := p3.gr S.out.gr (by simpa using hn)
      have c3 : w3.cell? ⟨b, off + k, none⟩ = some (.int .i64 x) := (cell_same _ (p3.block b (block_lt_of_cell C1.out) (by simp; omega))).trans C1.out
      have OK3 := hide (S.out.ok.sleep x addr)
      have HV := hide S.out.at_
      have HL := hide S.out.k.len
      clear c1 C1 S p3
      by_cases h0 : sleepE x q = 0
      · have HS : Hid (sleepL x addr q = q ++ [⟨x, addr⟩]) := by show sleepL x addr q = _; simp [sleepL, h0]
        rw [h0]
        obtain ⟨v4, w4, hr, o4, g4⟩ := app_num own3 x (by have := HL.out; simp; omega) gr3.size
        have O4 := hide o4
        have G4 := hide g4
        have ga := (Gr.refl w3).alloc #[.int .i64 x] 3
        have OW := hide (own3.later ga)
        have K3 := hide (k3.later ga)
        have GR := hide (gr3.alloc #[.int .i64 x] 3)
        clear o4 g4 own3 k3 gr3 ga h0
        go_wp2_with (first
          | (refine step_app rfl (some 40) rfl _ _ _ rfl _ _ rfl rfl v4 w4 hr ?_))
        refine ⟨⟨k + 1, by omega, by go_num, q ++ [⟨x, addr⟩], ?_, ?_, ?_, ?_, ?_⟩, by simp [intOf]; omega⟩
        · rw [← HS.out]; exact K3.out.nums OW.out G4.out
        · rw [← HS.out]; exact OK3.out
        · intro y hy
          rcases List.mem_append.1 hy with hy | hy
          · exact HV.out y hy
          · rw [List.mem_singleton] at hy
            rw [hy]
        · have := O4.out
          simpa using this
        · exact grown_gr GR.out OW.out G4.out (Nat.le_refl _)
      · have HS : Hid (sleepL x addr q = q) := by show sleepL x addr q = _; simp [sleepL, h0]
        have h0' : (sleepE x q == 0) = false := by simpa using h0
        have K3 := hide k3
        have O3 := hide own3
        generalize sleepE x q = E0 at h0' ⊢
        clear k3 own3 c3 h0
        go_wp2_with (fail)
        refine ⟨⟨k + 1, by omega, by go_num, q, ?_, ?_, HV.out, O3.out, gr3⟩, by simp [intOf]; omega⟩
        · have := K3.out
          rwa [HS.out] at this
        · have := OK3.out
          rwa [HS.out] at this
    · obtain rfl : k = l.length := by omega
      have S := hide s
      obtain ⟨B2, hB2⟩ : ∃ B2, B2 = wr.heap.size := ⟨_, rfl⟩
      have HB2 := hide hB2
      have hB3 : w.heap.size ≤ B2 := by rw [hB2]; exact s.gr.size
      clear s hk hlt hB2
      go_wp2_with (fail)
      go_loopw [10, 11] (fun u i wr2 => ∃ k : Nat, k ≤ 20 ∧ i = .int .i64 k ∧ (K wr2 n (q.drop (k * m)) ∧ Nown wr2 B2 u ((q.take (k * m)).map Ent.a) ∧ Nown wr2 w.heap.size u8 (q.map Ent.a) ∧ Gr w wr2 ∧ B2 ≤ wr2.heap.size)) (fun _ i _ => 20 - (intOf i).toNat)
      case atStart => exact ⟨0, by omega, rfl, by simpa using S.out.k, by simpa using Nown.nil _ _, S.out.own, S.out.gr, by rw [HB2.out]; exact Nat.le_refl _⟩
      case round =>
        obtain ⟨k, hk, rfl, hK, hU, hV, gr, hsz⟩ := hrel
        have HV := hide S.out.at_
        have HL := hide S.out.k.len
        by_cases hlt : k < 20
        · have hlt' : (k : Int) < 20 := by omega
          have HK := hide hK
          have HU := hide hU
          have HW := hide hV
          clear hK hU hV
          go_wp2_with (fail)
          refine (wake_calls HK.out addr m hm).mono ?_
          rintro e w4 ⟨v4, ⟨rfl, p4⟩, o4, k4⟩
          have hat : ∀ x ∈ q.drop (k * m), x.v = addr := fun x hx => HV.out x (List.mem_of_mem_drop hx)
          rw [same_out addr m _ hat] at o4
          rw [same_left addr m _ hat] at k4
          have gr4 := p4.gr gr (by simpa using hn)
          have u4 := HU.out.kept p4 HK.out
          have v4' := HW.out.kept p4 HK.out
          obtain ⟨a5, c5, rfl, n5, hz, -⟩ := o4.at
          have hlen : (((q.drop (k * m)).take m).map Ent.a).length ≤ m ∧ (((q.drop (k * m)).take m).map Ent.a).length ≤ 8 := by
            have := HL.out
            simp only [List.length_map, List.length_take, List.length_drop]
            omega
          have HQ : Hid (((q.take (k * m)).map Ent.a) ++ (((q.drop (k * m)).take m).map Ent.a) = (q.take ((k + 1) * m)).map Ent.a) := by
            show _ = _
            rw [← List.map_append, ← List.take_add, Nat.succ_mul]
          have HR : Hid ((q.drop (k * m)).drop m = q.drop ((k + 1) * m)) := by
            show _ = _
            rw [List.drop_drop, Nat.succ_mul]
          rw [HR.out] at k4
          generalize ((q.drop (k * m)).take m).map Ent.a = out at o4 n5 hlen HQ
          have hsz4 : B2 ≤ w4.heap.size := Nat.le_trans hsz p4.size
          obtain ⟨v6, w6, hr, o6, g6⟩ := app_nums 37 u4 a5 c5 out n5 hz (by have := HL.out; simp; omega) hsz4
          rw [HQ.out] at o6
          obtain ⟨h1, h2⟩ := hlen
          have O6 := hide o6
          have G6 := hide g6
          have U4 := hide u4
          have V4 := hide v4'
          have K4 := hide k4
          have hle : ¬ (m : Int) < (out.length : Int) := by omega
          have e1 : IntKind.u64.wrap (out.length : Int) = out.length := by rw [IntKind.wrap_u64]; omega
          have e2 : IntKind.u64.wrap (m : Int) = m := by rw [IntKind.wrap_u64]; omega
          clear o6 g6 u4 v4' k4 o4 n5
          go_wp2_with (first
            | (refine step_app rfl (some 56) rfl _ _ _ rfl _ _ rfl rfl v6 w6 hr ?_))
          refine ⟨⟨k + 1, by omega, by go_num, K4.out.nums U4.out G6.out, O6.out, V4.out.aside (fun y hy => by rw [HB2.out]; exact (S.out.own.lt y hy).2) U4.out G6.out, grown_gr gr4 U4.out G6.out hB3, Nat.le_trans hsz4 G6.out.size⟩, by simp [intOf]; omega⟩
        · obtain rfl : k = 20 := by omega
          obtain ⟨a5, c5, rfl, n5, -, -⟩ := hU.at
          obtain ⟨a6, c6, rfl, n6, -, -⟩ := hV.at
          have HN5 := hide n5
          have HN6 := hide n6
          have HK := hide hK
          clear n5 n6 hK hU hV S
          by_cases h0 : m = 0
          · subst h0
            go_wp2_with (fail)
            refine (all_calls HK.out).mono ?_
            rintro e w4 ⟨⟨rfl, g4⟩, -⟩
            go_wp2_with (fail)
            go_ret
            exact ⟨rfl, gr.trans g4⟩
          · have hz : ((m : Int) == 0) = false := by simp; omega
            have hq : q.take (20 * m) = q := List.take_of_length_le (by have := HL.out; omega)
            have hd : q.drop (20 * m) = [] := List.drop_eq_nil_of_le (by have := HL.out; omega)
            rw [hq] at HN5 ⊢
            rw [hd] at HK
            clear hq hd
            have NC := numbers_calls a5 a6 c5 c6 (q.map Ent.a) (by have := HL.out; simp; omega) _ HN5.out HN6.out
            rw [List.length_map] at NC
            have HNC := hide NC
            clear NC
            go_wp2_with (fail)
            refine HNC.out.mono ?_
            rintro e w4 ⟨rfl, g4⟩
            go_wp2_with (fail)
            refine (all_calls (HK.out.later g4)).mono ?_
            rintro e w5 ⟨⟨rfl, g5⟩, -⟩
            go_wp2_with (fail)
            go_ret
            exact ⟨rfl, gr.trans (g4.trans g5)⟩
end Go.Proofs.Ytlcjobgnjmhokaa
