/-
  What the reader has gathered is a program in memory. Worlds and lists alone: no condition on inputs.
-/
import Derived.Test.YthbenfnanhpcoaaGreatDoorZtbxCdPgm2
import Derived.Test.YthbenfnanhpcoaaGreatDoorZtbi
namespace Go.Proofs.YthbenfnanhpcoaaGreatDoor.Cd
open Go.Proofs.YthbenfnanhpcoaaGreatDoor.Mc Go.ChangeShapes Go.WideShapes Go.ChangeAt Go.RowKit Go.Deep
set_option linter.unusedVariables false
set_option maxRecDepth 20000

def cdOf (v : Value) (c : List Ins) : Cd := match v with
  | .slice a _ k => ⟨a, k, c⟩
  | _ => cd0
def cds : List Value → List (List Ins) → List Cd
  | v :: vs, c :: cs => cdOf v c :: cds vs cs
  | _, _ => []
theorem crows_tail {w : World} {B : Nat} {v : Value} {vs : List Value} {c : List Ins} {cs : List (List Ins)} (h : CRows w B (v :: vs) (c :: cs)) : CRows w B vs cs :=
  ⟨by have := h.1; simpa using this, fun t a b ha hb => h.2 (t + 1) a b (by simpa using ha) (by simpa using hb)⟩
theorem cds_at {w : World} {B : Nat} : ∀ (vs : List Value) (cs : List (List Ins)), CRows w B vs cs → (flatOf codeV (cds vs cs) = vs ∧ (cds vs cs).length = vs.length) ∧ ∀ x ∈ cds vs cs, CdAt x w
  | [], [], h => ⟨⟨rfl, rfl⟩, by simp [cds]⟩
  | [], c :: cs, h => absurd h.1 (by simp)
  | v :: vs, [], h => absurd h.1 (by simp)
  | v :: vs, c :: cs, h => by
    obtain ⟨⟨h1, h2⟩, h3⟩ := cds_at vs cs (crows_tail h)
    obtain ⟨o, hok, -⟩ := h.2 0 v c rfl rfl
    obtain ⟨a, k, rfl, hr, hn, hk, -⟩ := own_at o
    refine ⟨⟨?_, by simp [cds, h2]⟩, fun x hx => ?_⟩
    · show flatOf codeV (⟨a, k, c⟩ :: cds vs cs) = _
      rw [flatOf_cons, h1]
      rfl
    · have hx' : x ∈ (⟨a, k, c⟩ : Cd) :: cds vs cs := hx
      rcases List.mem_cons.1 hx' with rfl | hx'
      · exact ⟨hr, fun e => ⟨hn e, List.eq_nil_of_length_eq_zero (by have := hn e; show c.length = 0; omega)⟩, fun i hi => ⟨(hok i hi).1, (hok i hi).2⟩⟩
      · exact h3 x hx'
theorem map_flat (m : List Int) : m.map (Value.int .u32) = flatOf wordL m := by
  induction m with
  | nil => rfl
  | cons x m ih => rw [flatOf_cons, ← ih]; rfl
/-- the program that was gathered -/
def pgFrom (a1 : Option Addr) (c1 : Nat) (vs : List Value) (cs : List (List Ins)) (a2 : Option Addr) (c2 : Nat) (m : List Int) (room : Int) : Pgm := ⟨a1, c1, cds vs cs, a2, c2, m, room⟩
theorem words_bytes {L : List Int} (hb : isBytes L) (i n : Nat) : ∀ x ∈ memAt L i n, U32 x := by
  intro x hx
  unfold memAt at hx
  obtain ⟨j, _, rfl⟩ := List.mem_map.1 hx
  exact leAt_bounds hb _ 4
theorem pgFrom_at {w : World} {B n1 n2 c1 c2 : Nat} {a1 a2 : Option Addr} {vs : List Value} {cs : List (List Ins)} {L : List Int} {room : Int} (hb : isBytes L) (h : w.ownsRow B 65 1 (.slice a1 n1 c1) vs.length vs) (hr : CRows w B vs cs)
    (hm : w.ownsRow B 39 1 (.slice a2 n2 c2) (words L) ((memAt L 7 (words L)).map (Value.int .u32))) :
    (.agg #[.slice a1 n1 c1, .slice a2 n2 c2, .int .i64 room] : Value) = .agg (pgA (pgFrom a1 c1 vs cs a2 c2 (memAt L 7 (words L)) room)) ∧ PgAt (pgFrom a1 c1 vs cs a2 c2 (memAt L 7 (words L)) room) w := by
  obtain ⟨⟨h1, h2⟩, h3⟩ := cds_at vs cs hr
  obtain ⟨a, c, e1, r1, -, -, -⟩ := own_at h
  obtain ⟨a', c', e2, r2, m2, k2, -⟩ := own_at hm
  cases e1
  cases e2
  refine ⟨?_, ⟨?_, h3, ?_, fun e => ⟨m2 e, ?_⟩, words_bytes hb 7 (words L)⟩⟩
  · show _ = Value.agg #[.slice a1 (cds vs cs).length c1, .slice a2 (memAt L 7 (words L)).length c2, .int .i64 room]
    rw [h2, memAt_len]
  · show RowAt w a1 (flatOf codeV (cds vs cs))
    rw [h1]
    exact r1
  · show RowAt w a2 (flatOf wordL (memAt L 7 (words L)))
    rw [← map_flat]
    exact r2
  · have := m2 e
    exact List.eq_nil_of_length_eq_zero (by show (memAt L 7 (words L)).length = 0; rw [memAt_len]; omega)
end Go.Proofs.YthbenfnanhpcoaaGreatDoor.Cd

namespace Go.Proofs.YthbenfnanhpcoaaGreatDoor.Cd
open Go.Proofs.YthbenfnanhpcoaaGreatDoor.Mc Go.ChangeShapes Go.WideShapes Go.ChangeAt Go.RowKit Go.Deep
set_option linter.unusedVariables false
set_option maxRecDepth 20000

/-- what Read leaves: the zero program and what is wrong, or a program that was found right -/
def ReadP (w : World) (e : Ending) (w' : World) : Prop :=
  ∃ v pl er, e = .returned (.tuple #[v, .int .i64 pl, .int .i64 er]) ∧ ((er ≠ 0 ∧ v = .agg prog0V) ∨ (er = 0 ∧ ∃ pp : Pgm, v = .agg (pgA pp) ∧ PgAt pp w' ∧ (chkM pp).2.2 = 0)) ∧ Gr w w'
theorem no_prog {w w' : World} (v : Value) (pl er : Int) (hv : v = .agg prog0V) (he : er ≠ 0) (g : Gr w w') : ReadP w (.returned (.tuple #[v, .int .i64 pl, .int .i64 er])) w' := ⟨v, pl, er, rfl, .inl ⟨he, hv⟩, g⟩

theorem ofNat_eq {x : Int} (h0 : 0 ≤ x) (h1 : x ≤ 255) (c : Nat) (hc : c < 256) : UInt8.ofNat x.toNat = UInt8.ofNat c ↔ x = c := by
  constructor
  · intro h
    have := congrArg UInt8.toNat h
    simp at this
    omega
  · rintro rfl
    simp
theorem head_str {L : List Int} (hb : isBytes L) (h3 : 3 ≤ L.length) : ((strOfNums (L.take 3)).toList == [100, 108, 49]) = decide (isHead L) := by
  rw [ByteArray.toList_eq, strOfNums_data]
  have e : L.take 3 = [L.getD 0 0, L.getD 1 0, L.getD 2 0] := by
    match L, h3 with
    | a :: b :: c :: l, _ => rfl
  have b0 := getD_byte hb 0
  have b1 := getD_byte hb 1
  have b2 := getD_byte hb 2
  rw [e]
  have k0 := ofNat_eq b0.1 b0.2 100 (by omega)
  have k1 := ofNat_eq b1.1 b1.2 108 (by omega)
  have k2 := ofNat_eq b2.1 b2.2 49 (by omega)
  rw [Bool.eq_iff_iff]
  simp only [List.map_cons, List.map_nil, beq_iff_eq, decide_eq_true_eq, isHead]
  constructor
  · intro h
    simp only [List.cons.injEq, and_true] at h
    exact ⟨k0.1 h.1, k1.1 h.2.1, k2.1 h.2.2⟩
  · rintro ⟨h0, h1, h2⟩
    rw [h0, h1, h2]
    rfl

/-- writes to a block of another kind leave what was gathered as it was -/
theorem CRows.gr {B : Nat} {w w' : World} {vs : List Value} {cs : List (List Ins)} (h : CRows w B vs cs) (g : Gr w w') : CRows w' B vs cs :=
  ⟨h.1, fun t v c hv hc => ⟨own_gr (h.2 t v c hv hc).1 g, (h.2 t v c hv hc).2⟩⟩
theorem kept_res {w : World} {g B : Nat} (hg : w.heap[g]? = some (.cells prog0V 27)) (hB : B ≤ g) (x y z : Value) : Kept 27 B w (((w.setCell ⟨g, 0, none⟩ x).setCell ⟨g, 1, none⟩ y).setCell ⟨g, 2, none⟩ z) := by
  have r1 := row_set hg 0 x (by simp)
  have r2 := row_set r1 1 y (by simp)
  exact (Kept.setCell (o := 0) B hg hB x).trans ((Kept.setCell (o := 1) B r1 hB y).trans (Kept.setCell (o := 2) B r2 hB z))

set_option maxHeartbeats 1000000 in
theorem read_calls (a : Option Addr) (L : List Int) (cap : Nat) (w : World) (LD : Laid w) (hb : isBytes L) (h : BytesAt w a L) (hl : L.length ≤ cap) (hm : cap ≤ maxLen) (h40 : L.length ≤ 1099511627776) :
    Calls Tryz.prog 8 #[.slice a L.length cap] w (ReadP w) := by
  have hg0 := (Gr.refl w).alloc prog0V 27
  have R0 := hide (rd_made (w.alloc (.cells prog0V 27)) a L cap (h.later hg0) hl hm)
  have hg1 := hg0.alloc #[.slice a L.length cap, .bool false] 75
  have B0 : Hid (((w.alloc (.cells prog0V 27)).alloc (.cells #[.slice a L.length cap, .bool false] 75)).heap[w.heap.size]? = some (.cells prog0V 27)) := (heap_alloc_old (w.alloc (.cells prog0V 27)) _ (by simp)).trans (heap_alloc_new w _)
  have hsz : (w.alloc (.cells prog0V 27)).heap.size = w.heap.size + 1 := by simp
  rw [hsz] at R0
  have HL := hide LD
  clear h hl hm hg0 hsz LD
  by_cases h3 : L.length < 3
  · go_enter Tryz.func8, Tryz.ntmps8
    go_wp2_with (fail)
    generalize (w.alloc (.cells prog0V 27)).alloc (.cells #[.slice a L.length cap, .bool false] 75) = w1 at R0 B0 hg1 ⊢
    refine (take_short _ 3 L false w1 R0.out (by omega) (.inr h3)).mono ?_
    rintro e w2 ⟨rfl, R2, W2⟩
    have HR2 := hide R2
    have hg2 := Wr.gr hg1 (Nat.le_succ _) W2
    have row2 := hide (W2.row (by omega) B0.out)
    obtain ⟨ar, capr, r0, r1, z0, z1, _⟩ := R2
    have szr := World.block_lt_of_cell? _ _ r0
    go_wp2_with (fail)
    refine (prog_calls _ L L true w2 HR2.out hb hb (.inl rfl) h40).mono ?_
    rintro e w3 ⟨vC, vM, room, vs, L', s', rfl, ⟨a1, n1, c1, rfl⟩, ⟨a2, n2, c2, rfl⟩, R3, W3, _, _, hF⟩
    obtain rfl : s' = true := by
      rcases hF with ⟨h, _⟩ | ⟨_, h, _⟩
      · exact h
      · cases h
    clear hF
    have hg3 := hide ((Wr.gr hg2 (Nat.le_succ _) W3).alloc #[.slice a1 n1 c1, .slice a2 n2 c2, .int .i64 room] 27)
    have row4 := (heap_alloc_old w3 (.cells #[.slice a1 n1 c1, .slice a2 n2 c2, .int .i64 room] 27) (by have := W3.size; omega)).trans (W3.row (by omega) row2.out)
    obtain ⟨ar3, capr3, s0, s1, _⟩ := id R3
    have s1' := cell_later ((Gr.refl w3).alloc #[.slice a1 n1 c1, .slice a2 n2 c2, .int .i64 room] 27) s1
    have m0 := row_cell row4 0
    have m1 := row_cell row4 1
    have m2 := row_cell row4 2
    have y0 := row_frozen row4 0
    have y1 := row_frozen row4 1
    have y2 := row_frozen row4 2
    have hN : w.heap.size ≤ w.heap.size := Nat.le_refl _
    clear W3 R3 s0 row4
    go_wp2_with (fail)
    refine bodyPost_ret (v := .tuple #[.agg #[.slice none 0 0, .slice none 0 0, .int .i64 0], .int .i64 L.length, .int .i64 2]) (by simp [results, Tryz.results8, go_sem, m0, m1, m2]) rfl ?_
    exact no_prog _ _ _ rfl (by decide) (((hg3.out.setCell hN _).setCell hN _).setCell hN _)
  · have h3' : 3 ≤ L.length := by omega
    have hstr := head_str hb h3'
    have hbd : isBytes (L.drop 3) := fun x hx => hb x (List.mem_of_mem_drop hx)
    have hdl : (L.drop 3).length ≤ 1099511627776 := by rw [List.length_drop]; omega
    have l3 : (L.take 3).length = 3 := by rw [List.length_take]; omega
    go_enter Tryz.func8, Tryz.ntmps8
    go_wp2_with (fail)
    generalize (w.alloc (.cells prog0V 27)).alloc (.cells #[.slice a L.length cap, .bool false] 75) = w1 at R0 B0 hg1 ⊢
    refine (take_ok _ 3 L w1 R0.out (by omega) (by omega) h3').mono ?_
    rintro e w2 ⟨af, cf, rfl, BF, R2, W2⟩
    have HR2 := hide R2
    have hg2 := Wr.gr hg1 (Nat.le_succ _) W2
    have row2 := hide (W2.row (by omega) B0.out)
    have hcv := conv_bytes cf BF
    rw [l3] at hcv
    obtain ⟨ar, capr, r0, r1, z0, z1, _⟩ := R2
    have szr := World.block_lt_of_cell? _ _ r0
    generalize strOfNums (L.take 3) = S at hstr hcv
    clear BF W2 l3
    by_cases hh : isHead L
    · have hs1 : (S.toList == [100, 108, 49]) = true := by rw [hstr]; exact decide_eq_true hh
      have HH := hide hh
      clear hstr hh
      go_wp2_with (fail)
      refine (prog_calls _ L (L.drop 3) false w2 HR2.out hb hbd (.inr ⟨rfl, h3'⟩) hdl).mono ?_
      rintro e w3 ⟨vC, vM, room, vs, L', s', rfl, ⟨a1, n1, c1, rfl⟩, ⟨a2, n2, c2, rfl⟩, R3, W3, hO, hvs, hF⟩
      have hG := Wr.gr hg2 (Nat.le_succ _) W3
      have hg3 := hide (hG.alloc #[.slice a1 n1 c1, .slice a2 n2 c2, .int .i64 room] 27)
      have row4 := (heap_alloc_old w3 (.cells #[.slice a1 n1 c1, .slice a2 n2 c2, .int .i64 room] 27) (by have := W3.size; omega)).trans (W3.row (by omega) row2.out)
      obtain ⟨ar3, capr3, s0, s1, _⟩ := id R3
      have s0' := cell_later ((Gr.refl w3).alloc #[.slice a1 n1 c1, .slice a2 n2 c2, .int .i64 room] 27) s0
      have s1' := cell_later ((Gr.refl w3).alloc #[.slice a1 n1 c1, .slice a2 n2 c2, .int .i64 room] 27) s1
      have m0 := row_cell row4 0
      have m1 := row_cell row4 1
      have m2 := row_cell row4 2
      have y0 := row_frozen row4 0
      have y1 := row_frozen row4 1
      have y2 := row_frozen row4 2
      have hN : w.heap.size ≤ w.heap.size := Nat.le_refl _
      have HROW := hide row4
      clear W3 R3 s0 row4 r0 r1 z0 z1
      rcases hF with ⟨rfl, ht⟩ | ⟨rfl, _, cs, q, ht, rfl, hq, hC, hM, rfl⟩
      · go_wp2_with (fail)
        refine bodyPost_ret (v := .tuple #[.agg #[.slice none 0 0, .slice none 0 0, .int .i64 0], .int .i64 L.length, .int .i64 2]) (by simp [results, Tryz.results8, go_sem, m0, m1, m2]) rfl ?_
        exact no_prog _ _ _ rfl (by decide) (((hg3.out.setCell hN _).setCell hN _).setCell hN _)
      · have hld : (L.drop q).length = L.length - q := List.length_drop
        rw [hld] at s0'
        have PV := hide (pgFrom_at (room := L.getD 4 0) hb hO hC hM).1
        have PA := hide ((pgFrom_at (room := L.getD 4 0) hb hO hC hM).2.later ((Gr.refl w3).alloc #[.slice a1 n1 c1, .slice a2 n2 c2, .int .i64 (L.getD 4 0)] 27))
        have HO := hide hO
        have HC := hide hC
        have HM := hide hM
        clear hO hC hM hld
        have HP0 := hide (fun (w9 : World) (B : Nat) (h1 : w9.ownsRow B 65 1 (.slice a1 n1 c1) vs.length vs) (h2 : CRows w9 B vs cs) h3 => (pgFrom_at (a2 := a2) (n2 := n2) (c2 := c2) (room := L.getD 4 0) hb h1 h2 h3).2)
        generalize hpp : pgFrom a1 c1 vs cs a2 c2 (memAt L 7 (words L)) (L.getD 4 0) = pp at PV PA HP0
        generalize hrm : L.getD 4 0 = room at *
        by_cases hlong : q < L.length
        · have ecast : ((L.length - q : Nat) : Int) = (L.length : Int) - q := by omega
          go_wp2_with (fail)
          refine bodyPost_ret (v := .tuple #[.agg #[.slice none 0 0, .slice none 0 0, .int .i64 0], .int .i64 q, .int .i64 4]) (by simp [results, Tryz.results8, go_sem, m0, m1, m2]; omega) rfl ?_
          exact no_prog _ _ _ rfl (by decide) (((hg3.out.setCell hN _).setCell hN _).setCell hN _)
        · obtain hql : L.length - q = 0 := by omega
          rw [hql] at s0'
          have LD4 := hide (HL.out.later hg3.out)
          go_wp2_with (fail)
          refine (show Calls Tryz.prog 31 #[.agg #[.slice a1 n1 c1, .slice a2 n2 c2, .int .i64 room]] _ _ from by rw [PV.out]; exact check_calls pp _ LD4.out PA.out).mono ?_
          rintro e w5 ⟨rfl, hg5⟩
          have row5 := (hg5.block _ (heap_lt HROW.out)).trans HROW.out
          have rowP := (hg5.block w3.heap.size (by simp)).trans (heap_alloc_new w3 (.cells #[.slice a1 n1 c1, .slice a2 n2 c2, .int .i64 room] 27))
          have G5 := hide (hg3.out.trans hg5)
          have G35 := hide (((Gr.refl w3).alloc #[.slice a1 n1 c1, .slice a2 n2 c2, .int .i64 room] 27).trans hg5)
          clear m0 m1 m2 y0 y1 y2
          have m0 := row_cell row5 0
          have m1 := row_cell row5 1
          have m2 := row_cell row5 2
          have y0 := row_frozen row5 0
          have y1 := row_frozen row5 1
          have y2 := row_frozen row5 2
          have g0 := row_cell rowP 0
          have g1 := row_cell rowP 1
          have g2 := row_cell rowP 2
          have ROW5 := hide row5
          have HT := hide ht
          clear row5 rowP hg3 hg5 LD4 PA s1 s0' s1' HROW ht
          cases hq0 : ((chkM pp).2.2 == 0)
          · go_wp2_with (fail)
            refine bodyPost_ret (v := .tuple #[.agg #[.slice none 0 0, .slice none 0 0, .int .i64 0], .int .i64 0, .int .i64 (chkM pp).2.2]) (by simp [results, Tryz.results8, go_sem, m0, m1, m2]) rfl ?_
            exact no_prog _ _ _ rfl (by simpa using hq0) (((G5.out.setCell hN _).setCell hN _).setCell hN _)
          · go_wp2_with (fail)
            refine bodyPost_ret (v := .tuple #[.agg #[.slice a1 n1 c1, .slice a2 n2 c2, .int .i64 room], .int .i64 0, .int .i64 0]) (by simp [results, Tryz.results8, go_sem, m0, m1, m2]) rfl ?_
            refine ⟨_, _, _, rfl, .inr ⟨rfl, pp, PV.out, ?_, by simpa using hq0⟩, ((G5.out.setCell hN _).setCell hN _).setCell hN _⟩
            have kk := kept_res ROW5.out (Nat.zero_le _) (.slice a1 n1 c1) (.slice a2 n2 c2) (.int .i64 room)
            exact HP0.out _ _ (kk.own (by decide) (own_gr HO.out G35.out)) ((HC.out.gr G35.out).kept kk (by decide)) (kk.own (by decide) (own_gr HM.out G35.out))
    · have hs1 : (S.toList == [100, 108, 49]) = false := by rw [hstr]; exact decide_eq_false hh
      clear hstr hh
      have row4 := row2.out
      have m0 := row_cell row4 0
      have m1 := row_cell row4 1
      have m2 := row_cell row4 2
      have y0 := row_frozen row4 0
      have y1 := row_frozen row4 1
      have y2 := row_frozen row4 2
      have hN : w.heap.size ≤ w.heap.size := Nat.le_refl _
      have hg3 := hide hg2
      clear row4
      go_wp2_with (fail)
      refine bodyPost_ret (v := .tuple #[.agg #[.slice none 0 0, .slice none 0 0, .int .i64 0], .int .i64 0, .int .i64 3]) (by simp [results, Tryz.results8, go_sem, m0, m1, m2]) rfl ?_
      exact no_prog _ _ _ rfl (by decide) (((hg3.out.setCell hN _).setCell hN _).setCell hN _)
end Go.Proofs.YthbenfnanhpcoaaGreatDoor.Cd
