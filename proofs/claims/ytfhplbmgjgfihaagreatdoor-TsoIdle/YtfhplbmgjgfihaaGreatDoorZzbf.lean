/-
  The document's world at the start, and in another box; what its Run answers. No condition but what each law names.
-/
import Derived.Test.YtfhplbmgjgfihaaGreatDoorZzbeWlN
import Derived.Test.YtfhplbmgjgfihaaGreatDoorZzbb
import Derived.Test.YtfhplbmgjgfihaaGreatDoorZzar
import Derived.Test.YtfhplbmgjgfihaaGreatDoorZzaq
import Derived.Deep.CutBlock
import Derived.Deep.LoopGhost
import Derived.Test.YtfhplbmgjgfihaaGreatDoorZzbd
import Derived.Test.YtfhplbmgjgfihaaGreatDoorZzavAwk9
import Derived.Test.YtfhplbmgjgfihaaGreatDoorZzau
import Derived.BigQuiet
import Derived.Deep.QuietTactic
namespace Go.Proofs.YtfhplbmgjgfihaaGreatDoor.Wl
open Go.Proofs.YtfhplbmgjgfihaaGreatDoor.Mc Go.ChangeShapes Go.WideShapes Go.ChangeAt Go.RowKit
set_option linter.unusedVariables false
set_option maxRecDepth 20000
/-- what is known of a state on the way -/
def Rdy (p : Pgm) (s : Ms) : Prop := (Fit p s ∧ ∀ i, (s.side i).buf.length ≤ s.room) ∧ s.mem.length = p.mem.length
theorem newM_ths (p : Pgm) : (newM p).ths = List.replicate p.codes.length thZ := by
  unfold newM Ms.ths
  rw [List.map_map, show (Sd.t ∘ fun x : Cd => (⟨x.l, th00, []⟩ : Sd)) = fun _ => thZ from rfl, List.map_const']
theorem newM_num (p : Pgm) : (newM p).sides.length = p.codes.length := by simp [newM]
/-- the world at the start -/
theorem ws_start {p : Pgm} {w u : World} {g : Nat} {tv bv mv : Value} (hr : 0 ≤ p.room) (hp : PgAt p w) (hlo : w.heap.size ≤ g) (gr : Gr w u) (hb : Has u g (wldA p (vz tv bv mv) p.room) 41)
    (ht : u.ownsRow w.heap.size 46 10 tv p.codes.length (flatOf thR (List.replicate p.codes.length thZ)))
    (hbf : u.ownsRow w.heap.size 47 1 bv p.codes.length (List.replicate p.codes.length (.slice none 0 0))) (hm : WordsO u w.heap.size mv p.mem) :
    Ws ⟨g, w, p⟩ ⟨tv, bv, mv, .slice none 0 0, .slice none 0 0, List.replicate p.codes.length (.slice none 0 0)⟩ (newM p) u where
  box := by
    have e : ((newM p).room : Int) = p.room := Int.toNat_of_nonneg hr
    rw [e]
    exact hb
  lo := hlo
  gr := gr
  pg := hp
  th := by
    rw [newM_ths, List.length_replicate]
    exact ht
  bf := by
    rw [List.length_replicate]
    exact hbf
  bn := by rw [List.length_replicate, newM_num]
  each := by
    intro i x hx
    have e : x = .slice none 0 0 := List.eq_of_mem_replicate (List.mem_of_getElem? hx)
    rw [e]
    have e2 : ((newM p).side i).buf = [] := by
      unfold newM Ms.side
      simp only [List.getD_eq_getElem?_getD, List.getElem?_map]
      cases p.codes[i]? <;> rfl
    rw [e2]
    exact own_nil _ _ _ _
  mem := hm
  slp := own_nil _ _ _ _
  evs := own_nil _ _ _ _
/-- the world lies in another box -/
theorem Ws.moved {k : Wk} {v : Wv} {s : Ms} {w w' : World} (h : Ws k v s w) (g : Gr w w') {b : Nat} (hb : Has w' b (wldA k.p v s.room) 41) (hlo : k.w0.heap.size ≤ b) : Ws ⟨b, k.w0, k.p⟩ v s w' :=
  ⟨hb, hlo, h.gr.trans g, h.pg, own_later h.th g, own_later h.bf g, h.bn, fun i x hx => own_later (h.each i x hx) g, own_later h.mem g, own_later h.slp g, own_later h.evs g⟩
/-- it is told from an earlier world on -/
theorem Ws.lower {g : Nat} {u0 w0 : World} {p : Pgm} {v : Wv} {s : Ms} {w : World} (h : Ws ⟨g, u0, p⟩ v s w) (q : Gr w0 u0) (hp : PgAt p w0) : Ws ⟨g, w0, p⟩ v s w :=
  ⟨h.box, Nat.le_trans q.size h.lo, q.trans h.gr, hp, own_lower h.th q.size, own_lower h.bf q.size, h.bn, fun i x hx => own_lower (h.each i x hx) q.size, own_lower h.mem q.size, own_lower h.slp q.size, own_lower h.evs q.size⟩
/-- another box of its type is written -/
theorem Ws.other {k : Wk} {v : Wv} {s : Ms} {w : World} (h : Ws k v s w) {b : Nat} {D : Array Value} (hb : Has w b D 41) (hlo : k.w0.heap.size ≤ b) (hne : k.g ≠ b) (C : Array Value) : Ws k v s (w.setRow b C) := by
  have K := Kp.setRow w b C
  have row : ∀ {t sz n v xs}, w.ownsRow k.w0.heap.size t sz v n xs → t ≠ 41 → (w.setRow b C).ownsRow k.w0.heap.size t sz v n xs := fun h1 h2 => own_kept h1 K (fun x hx z => own_aside h1 hb h2 (mem_ob.2 (by rw [hx, show x = b by simpa using z])))
  exact ⟨h.box.kept K (by simpa using hne), h.lo, h.gr.setRow hlo _, h.pg, row h.th (by decide), row h.bf (by decide), h.bn, fun i x hx => row (h.each i x hx) (by decide), row h.mem (by decide), row h.slp (by decide), row h.evs (by decide)⟩
/-- what Run answers -/
def RunsP (p : Pgm) (s : Ms) (w : World) (r : Ending) (w' : World) : Prop :=
  ∃ g v, r = .returned (.agg (wldA p v s.room)) ∧ Ws ⟨g, w, p⟩ v s w'
end Go.Proofs.YtfhplbmgjgfihaaGreatDoor.Wl
namespace Go.Proofs.YtfhplbmgjgfihaaGreatDoor.Mc
open Go.ChangeShapes Go.WideShapes Go.ChangeAt Go.RowKit
set_option linter.unusedVariables false
set_option maxRecDepth 20000
/-- yes or no -/
def YesNo (w : World) (r : Ending) (w' : World) : Prop := (∃ b, r = .returned (.bool b)) ∧ Gr w w'
set_option maxHeartbeats 1000000 in
theorem small_calls (p : Pgm) (hp : p.codes.length ≤ maxLen) (w : World) (h : PgAt p w) : Calls Tryz.prog 5 #[.agg (pgA p), .int .i64 400] w (YesNo w) := by
  have g0 := (Gr.refl w).alloc (pgA p) 25
  have hb := Has.new w (pgA p) 25
  have HH := hide h
  have hml : (p.codes.length : Int) ≤ 9223372036854775807 := by unfold maxLen at hp; omega
  clear h hp
  go_enter Tryz.func5, Tryz.ntmps5
  go_upto_region 1 with (fail)
  change Code.wp _ _ _ _ (w.alloc (.cells (pgA p) 25))
  generalize w.alloc (.cells (pgA p) 25) = w1 at g0 hb ⊢
  have d0 := hb.cell (o := 0) (v := .slice p.ca p.codes.length p.cc) rfl
  have d1 := hb.cell (o := 1) (v := .slice p.ma p.mem.length p.mc) rfl
  have q1 := HH.out.later g0
  have GG := hide g0
  go_wp2_with (fail)
  go_loopw [5, 6] (fun v u wr => ∃ j n : Nat, j ≤ p.codes.length ∧ n ≤ 801 ∧ v = .int .i64 n ∧ u = .int .i64 j ∧ wr = w1) (fun _ u _ => p.codes.length - (intOf u).toNat)
  case atStart => exact ⟨0, 0, by omega, by omega, rfl, rfl, rfl⟩
  case round =>
    obtain ⟨j, n, hj, hn, rfl, rfl, rfl⟩ := hrel
    have d0 := hb.cell (o := 0) (v := .slice p.ca p.codes.length p.cc) rfl
    have d1 := hb.cell (o := 1) (v := .slice p.ma p.mem.length p.mc) rfl
    by_cases hlt : j < p.codes.length
    · have hlt' : (j : Int) < p.codes.length := by omega
      by_cases hn4 : n ≤ 400
      · have hn4' : (n : Int) ≤ 400 := by omega
        have rw1 := q1.row
        obtain ⟨b, off, had, -⟩ := rw1.get (by rw [flatOf_length codeV_len]; omega)
        rw [had] at rw1 d0
        have c0 := rw1.cell codeV_len hlt cd0 0 (by omega)
        generalize p.codes.getD j cd0 = x at c0
        simp only [codeV, List.getElem?_cons_zero, Nat.add_zero, Nat.mul_one] at c0
        clear rw1
        by_cases h4 : 401 < x.l.length
        · have h4' : (401 : Int) < x.l.length := by omega
          go_wp2_with (fail)
          exact ⟨⟨j + 1, n + 401, by omega, by omega, by go_num, by go_num, trivial⟩, by simp [intOf]; omega⟩
        · have h4' : ¬ (401 : Int) < x.l.length := by omega
          go_wp2_with (fail)
          exact ⟨⟨j + 1, n + x.l.length, by omega, by omega, by go_num, by go_num, trivial⟩, by simp [intOf]; omega⟩
      · have hn4' : ¬ (n : Int) ≤ 400 := by omega
        go_wp2_with (fail)
        go_ret
        exact ⟨⟨_, rfl⟩, GG.out⟩
    · have hlt' : ¬ (j : Int) < p.codes.length := by omega
      by_cases hn4 : n ≤ 400
      · have hn4' : (n : Int) ≤ 400 := by omega
        by_cases hm : p.mem.length ≤ 2000
        · have hm' : (p.mem.length : Int) ≤ 2000 := by omega
          by_cases hc : p.codes.length ≤ 100
          · have hc' : (p.codes.length : Int) ≤ 100 := by omega
            go_wp2_with (fail)
            go_ret
            exact ⟨⟨_, rfl⟩, GG.out⟩
          · have hc' : ¬ (p.codes.length : Int) ≤ 100 := by omega
            go_wp2_with (fail)
            go_ret
            exact ⟨⟨_, rfl⟩, GG.out⟩
        · have hm' : ¬ (p.mem.length : Int) ≤ 2000 := by omega
          go_wp2_with (fail)
          go_ret
          exact ⟨⟨_, rfl⟩, GG.out⟩
      · have hn4' : ¬ (n : Int) ≤ 400 := by omega
        go_wp2_with (fail)
        go_ret
        exact ⟨⟨_, rfl⟩, GG.out⟩
end Go.Proofs.YtfhplbmgjgfihaaGreatDoor.Mc
namespace Go.Proofs.YtfhplbmgjgfihaaGreatDoor.Wl
open Go.Proofs.YtfhplbmgjgfihaaGreatDoor.Mc Go.ChangeShapes Go.WideShapes Go.ChangeAt Go.RowKit
set_option linter.unusedVariables false
set_option maxRecDepth 20000
/-- what the document's Run answers of a program and picks, wherever -/
def RunsC (p : Pgm) (l : List Ent) : Prop := ∀ (a : Option Addr) (c : Nat) (w : World), PgAt p w → p.codes.length ≤ 8 → p.mem.length ≤ 1024 → 0 ≤ p.room → l.length ≤ 600 → RowAt w a (flatOf slpL l) →
  (∀ j, j ≤ l.length → Rdy p ((newM p).run p.mem.length (l.take j))) → Calls Tryz.prog 8 #[.agg (pgA p), .bool false, .slice a l.length c] w (RunsP p ((newM p).run p.mem.length l) w)

set_option maxHeartbeats 4000000 in
theorem idle_walk (p : Pgm) (hp : p.codes.length ≤ maxLen) (l : List Ent) (pa : Option Addr) (pc : Nat) (ka wh : Int) (RC : RunsC p l) (W : World) (L : Laid W) (hP : PgAt p W) (hrow : RowAt W pa (flatOf slpL l)) :
    Calls Tryz.prog 3 #[.agg (pgA p), .slice pa l.length pc, .agg #[.int .i64 ka, .int .i64 wh]] W fun r w' => r = .returned (.bool true) ∧ Gr W w' := by
  have gg := ((Gr.refl W).alloc (pgA p) 25).alloc #[.int .i64 ka, .int .i64 wh] 28
  have hb := (Has.new W (pgA p) 25).alloc #[.int .i64 ka, .int .i64 wh] 28
  have hx := Has.new (W.alloc (.cells (pgA p) 25)) #[.int .i64 ka, .int .i64 wh] 28
  rw [World.size_alloc] at hx
  have HP := hide hP
  have HL := hide L
  have HRW := hide hrow
  have HRC := hide RC
  have HA := hide (fun w (g : Gr W w) => awake_calls w (HL.out.later g))
  have HS := hide (fun w (g : Gr W w) => small_calls p hp w (HP.out.later g))
  have HN := hide (fun w (g : Gr W w) => new_calls p w (HL.out.later g) (HP.out.later g))
  clear hP hrow L hp RC
  go_enter Tryz.func3, Tryz.ntmps3
  go_upto_region 1 with (fail)
  change Code.wp _ _ _ _ ((W.alloc (.cells (pgA p) 25)).alloc (.cells #[.int .i64 ka, .int .i64 wh] 28))
  have hsz : ((W.alloc (.cells (pgA p) 25)).alloc (.cells #[.int .i64 ka, .int .i64 wh] 28)).heap.size = W.heap.size + 2 := by simp
  generalize (W.alloc (.cells (pgA p) 25)).alloc (.cells #[.int .i64 ka, .int .i64 wh] 28) = w1 at gg hb hx hsz ⊢
  have HX1 := hide hx
  have HB1 := hide hb
  have HG1 := hide gg
  have A1 := hide (HA.out w1 gg)
  clear gg hb hx hsz
  go_wp2_with (fail)
  refine A1.out.mono ?_
  rintro r w2 ⟨rfl, g1⟩
  have HB2 := hide (HB1.out.later g1)
  have HX2 := hide (HX1.out.later g1)
  have HG2 := hide (HG1.out.trans g1)
  have d0 := HB2.out.cell (o := 0) (v := .slice p.ca p.codes.length p.cc) rfl
  have d1 := HB2.out.cell (o := 1) (v := .slice p.ma p.mem.length p.mc) rfl
  have d2 := HB2.out.cell (o := 2) (v := .int .i64 p.room) rfl
  clear g1 A1 HB1 HX1 HG1
  have A2 := hide (HS.out w2 HG2.out)
  go_wp2_with (fail)
  refine A2.out.mono ?_
  rintro r w3 ⟨⟨b, rfl⟩, g3⟩
  have HB3 := hide (HB2.out.later g3)
  have HX3 := hide (HX2.out.later g3)
  have HG3 := hide (HG2.out.trans g3)
  clear d0 d1 d2 g3 A2 HB2 HX2 HG2
  have A3 := hide (HA.out w3 HG3.out)
  cases b with
  | false =>
    go_wp2_with (fail)
    refine A3.out.mono ?_
    rintro r w4 ⟨rfl, g5⟩
    have HG4 := hide (HG3.out.trans g5)
    clear g5
    go_wp2_with (fail)
    go_ret
    exact ⟨rfl, HG4.out⟩
  | true =>
    by_cases hl : 600 < l.length
    · have hl' : (600 : Int) < l.length := by omega
      go_wp2_with (fail)
      refine A3.out.mono ?_
      rintro r w4 ⟨rfl, g5⟩
      have HG4 := hide (HG3.out.trans g5)
      clear g5
      go_wp2_with (fail)
      go_ret
      exact ⟨rfl, HG4.out⟩
    have hl' : ¬ (600 : Int) < l.length := by omega
    have d0 := HB3.out.cell (o := 0) (v := .slice p.ca p.codes.length p.cc) rfl
    have d1 := HB3.out.cell (o := 1) (v := .slice p.ma p.mem.length p.mc) rfl
    have d2 := HB3.out.cell (o := 2) (v := .int .i64 p.room) rfl
    have A4 := hide (HN.out w3 HG3.out)
    clear A3 HN HA HS
    go_wp2_with (fail)
    refine A4.out.mono ?_
    rintro r w4 NP
    rcases NP with ⟨hc0, k, e, ⟨rfl, hM, hN⟩, hF, g5⟩ | ⟨hne, rfl, g5⟩
    rotate_left
    · have hne1 : ((chkM p).2.2 == 0) = false := by simpa using hne
      have hne2 : ((chkM p).2.2 != 0) = true := by simp [bne, hne1]
      have HG4 := hide (HG3.out.trans g5)
      clear d0 d1 d2 A4 g5 hne
      go_wp2_with (fail)
      go_ret
      exact ⟨rfl, HG4.out⟩
    have hno : ∀ y, pa = some y → 0 < l.length → y.block ∉ k.foot e := fun y hy h0 hm => by
      obtain ⟨b, off, hb, -⟩ := HRW.out.get (by rw [flatOf_length slpL_len]; omega)
      rw [hb] at hy
      cases hy
      have a : w3.heap.size ≤ b := hF _ hm
      have c := (hb ▸ HRW.out : RowAt W (some ⟨b, off, none⟩) (flatOf slpL l)).lt (by rw [flatOf_length slpL_len]; omega)
      have d := HG3.out.size
      omega
    have HROW4 := hide (HRW.out.later (HG3.out.trans g5))
    have HALL := hide (all_ready hM hN hc0 l (by omega) pa HROW4.out hno)
    have HRUN := hide (run_does k (Kept3 p) (fun s e w kind who hMw h => h.pick hMw.ok hMw.slp k.N kind who) l pa pc (by omega) (newM p) (kept3_start p) (Nat.zero_le _) (newM_short hc0) w4 (k.foot e) ⟨e, hM, rfl⟩ HROW4.out hno)
    have HC0 := hide hc0
    have HNN := hide hN
    have HFF := hide hF
    have HG34 := hide g5
    clear d0 d1 d2 A4 hM hF g5 hno hc0 hN
    go_wp2_with (fail)
    refine HRUN.out.mono ?_
    rintro r w5 ⟨⟨rfl, p1⟩, hk3, hev⟩
    obtain ⟨F', ⟨e5, h5, rfl⟩, kp, hn, -⟩ := p1
    have g35 := Kp.gr HG34.out kp HFF.out
    have HF5 : Hid (∀ y ∈ k.foot e5, w3.heap.size ≤ y) := fun y hy => by
      rcases (hn y hy).1 with h | h
      · exact HFF.out y h
      · exact Nat.le_trans HG34.out.size h
    have HE5 := hide (show ((newM p).run k.N l).evs.length ≤ 90000 by omega)
    have hsh : Short ((newM p).run k.N l) := fun i => by
      rw [codes_get, codes_run, ← codes_get]
      exact newM_short HC0.out i
    have HPK := hide (fun u (g : Gr w5 u) => pick_does k ((newM p).run k.N l) ka wh (fuel_few h5.ok (by omega)) hsh u (k.foot e5) ⟨e5, h5.later g, rfl⟩)
    have HRUNS := hide (HRC.out pa pc w5 (HP.out.later (HG3.out.trans g35)) (chk_len HC0.out).1.2 (chk_len HC0.out).2.2 (by have := (chk_len HC0.out).2.1.1; omega) (by omega) (HRW.out.later (HG3.out.trans g35)) HALL.out)
    rw [← HNN.out] at HRUNS
    have H5 := hide h5
    have HK3 := hide hk3
    have HG35 := hide g35
    have d0 := (HB3.out.later g35).cell (o := 0) (v := .slice p.ca p.codes.length p.cc) rfl
    have d1 := (HB3.out.later g35).cell (o := 1) (v := .slice p.ma p.mem.length p.mc) rfl
    have d2 := (HB3.out.later g35).cell (o := 2) (v := .int .i64 p.room) rfl
    clear HRUN hev h5 kp hn g35 hk3 hsh HALL HROW4 HFF HG34 HRC
    generalize (newM p).run k.N l = s at HE5 HPK HRUNS H5 HK3
    go_wp2_with (fail)
    refine HRUNS.out.mono ?_
    rintro r w6 ⟨g, v, rfl, hW⟩
    obtain ⟨tv, bv, mv, sv, ev, bl⟩ := v
    obtain ⟨ta, tc, e1, -⟩ := own_at hW.th
    obtain ⟨ba, bc, e2, -⟩ := own_at hW.bf
    obtain ⟨ma, mc, e3, -⟩ := own_at hW.mem
    obtain ⟨sa, sc, e4, -⟩ := own_at hW.slp
    obtain ⟨ea, ec, e5', -⟩ := own_at hW.evs
    dsimp only at e1 e2 e3 e4 e5'
    subst e1 e2 e3 e4 e5'
    have hN := Has.new w6 wz 41
    have g67 := ((Gr.refl w6).alloc wz 41).setRow (Nat.le_refl _) (wldA p ⟨.slice ta s.ths.length tc, .slice ba bl.length bc, .slice ma s.mem.length mc, .slice sa s.slp.length sc, .slice ea s.evs.length ec, bl⟩ s.room)
    have hW7 := hW.moved g67 (hN.row _) hW.gr.size
    have hb7 := hN.row (wldA p ⟨.slice ta s.ths.length tc, .slice ba bl.length bc, .slice ma s.mem.length mc, .slice sa s.slp.length sc, .slice ea s.evs.length ec, bl⟩ s.room)
    have g57 := hW.gr.trans g67
    have HNW := hide hN
    have HW7 := hide hW7
    have HB7 := hide hb7
    have HG57 := hide g57
    clear d0 d1 d2 hN g67 hW7 hb7 g57 hW HRUNS
    go_upto_region 8 with (first
      | (refine store_wor rfl _ _ rfl w6.heap.size rfl (wldA p ⟨.slice ta s.ths.length tc, .slice ba bl.length bc, .slice ma s.mem.length mc, .slice sa s.slp.length sc, .slice ea s.evs.length ec, bl⟩ s.room) rfl wz HNW.out rfl rfl (by simp [Value.oneCell']) ?_))
    clear HNW
    generalize (w6.alloc (.cells wz 41)).setRow w6.heap.size _ = w7 at HW7 HB7 HG57 ⊢
    generalize w6.heap.size = bx at HW7 HB7 ⊢
    generalize hbp : W.heap.size = bp at HB3 HX3 ⊢
    clear hbp
    have PK := hide (HPK.out w7 HG57.out)
    have HG37 := hide (HG35.out.trans HG57.out)
    have x0 := (HX3.out.later HG37.out).cell (o := 0) (v := .int .i64 ka) rfl
    have x1 := (HX3.out.later HG37.out).cell (o := 1) (v := .int .i64 wh) rfl
    have c1 := HB7.out.cell (o := 1) (v := .slice ta s.ths.length tc) rfl
    have c2 := HB7.out.cell (o := 2) (v := .slice ba bl.length bc) rfl
    have HB7A := hide (fun u (h : Has u bx (wldA p ⟨.slice ta s.ths.length tc, .slice ba bl.length bc, .slice ma s.mem.length mc, .slice sa s.slp.length sc, .slice ea s.evs.length ec, bl⟩ s.room) 41) => h)
    have htl : s.ths.length ≤ 8 := by rw [ths_len]; exact (ok_room H5.out.ok).2
    have HTN := hide (ths_len s)
    have HBN := hide (show bl.length = s.ths.length by rw [ths_len]; exact HW7.out.bn)
    have AFT := hide (fun w8 (q : Pst (MI k) (k.foot e5) w7 [] (s.pick k.N ka wh) w8) => after_pick H5.out HF5.out HW7.out q HG37.out (HP.out.later HG3.out) HG35.out.size)
    have SAM := hide (fun w8 e8 (h8 : Mw k (s.pick k.N ka wh) e8 w8) (hW : Ws ⟨bx, w3, p⟩ ⟨.slice ta s.ths.length tc, .slice ba bl.length bc, .slice ma s.mem.length mc, .slice sa s.slp.length sc, .slice ea s.evs.length ec, bl⟩ s w8) => same_pick H5.out HK3.out HE5.out k.N ka wh h8 hW)
    have HTH := hide (fun i (hi : i < s.ths.length) => show ∃ tb tO, ta = some ⟨tb, tO, none⟩ ∧ w7.cell? ⟨tb, tO + i * 10 + 9, none⟩ = some (.int .i64 (stA s i)) by
      obtain ⟨ta2, tc2, e1, r1, -⟩ := own_at HW7.out.th
      dsimp only at e1
      cases e1
      obtain ⟨tb, tO, h1, -⟩ := r1.get (by rw [flatOf_length thR_len]; omega)
      subst h1
      refine ⟨tb, tO, rfl, ?_⟩
      rw [st_at r1 hi, ths_at s (by rw [← ths_len]; exact hi)]
      rfl)
    have HBF := hide (fun i (hi : i < s.ths.length) => show ∃ bb bo xa xc, ba = some ⟨bb, bo, none⟩ ∧ w7.cell? ⟨bb, bo + i, none⟩ = some (.slice xa (s.side i).buf.length xc) by
      obtain ⟨ba2, bc2, e1, r1, -⟩ := own_at HW7.out.bf
      dsimp only at e1
      cases e1
      have hbn : bl.length = s.sides.length := HW7.out.bn
      have hi0 := hi
      rw [ths_len, ← hbn] at hi0
      obtain ⟨xv, hxv⟩ : ∃ xv, bl[i]? = some xv := ⟨_, List.getElem?_eq_getElem hi0⟩
      obtain ⟨bb, bo, h1, -⟩ := r1.get (by show 0 < bl.length; omega)
      subst h1
      obtain ⟨xa, xc, e2, -⟩ := own_at (HW7.out.each i xv hxv)
      exact ⟨bb, bo, xa, xc, rfl, by rw [bl_at r1 hxv, e2]⟩)
    have HXB := hide (fun u (g : Gr w3 u) => And.intro ((HX3.out.later g).cell (o := 0) (v := .int .i64 ka) rfl) ((HX3.out.later g).cell (o := 1) (v := .int .i64 wh) rfl))
    clear HPK HW7 HB7 HG57 HG35 HF5 H5 HK3 HE5 HB3 HX3 HL HRW HP HC0 HNN HG37 HB7A
    generalize (⟨.slice ta s.ths.length tc, .slice ba bl.length bc, .slice ma s.mem.length mc, .slice sa s.slp.length sc, .slice ea s.evs.length ec, bl⟩ : Wv) = V at SAM AFT ⊢
    generalize Value.agg (wldA p V s.room) = X39
    by_cases a1 : wh < 0
    case pos =>
      go_wp2_with (fail)
      refine PK.out.mono ?_
      rintro r w8 ⟨rfl, p2⟩
      obtain ⟨e8, h8, hW8, g8⟩ := AFT.out w8 p2
      have SQ := hide (SAM.out w8 e8 h8 hW8)
      have HB8 := hide hW8.box
      have HG8 := hide (HG3.out.trans g8)
      obtain ⟨y0, y1⟩ := HXB.out w8 g8
      have HXC := hide (fun u (g : Gr w8 u) => HXB.out u (g8.trans g))
      clear p2 h8 hW8 g8 x0 x1 c1 c2 PK AFT SAM
      go_wp2_with (first
        | (refine load_wor rfl _ rfl bx rfl _ HB8.out rfl ?_))
      refine SQ.out.mono ?_
      rintro r w9 ⟨b, rfl, ha, hn, g9⟩
      have HG9 := hide (HG8.out.trans g9)
      obtain ⟨z0, z1⟩ := HXC.out w9 g9
      obtain rfl := ha (.inl a1)
      clear ha hn g9 y0 y1 SQ HB8
      go_wp2_with (fail)
      go_ret
      exact ⟨rfl, HG9.out⟩
    case neg =>
    by_cases a2 : (s.ths.length : Int) ≤ wh
    case pos =>
      go_wp2_with (fail)
      refine PK.out.mono ?_
      rintro r w8 ⟨rfl, p2⟩
      obtain ⟨e8, h8, hW8, g8⟩ := AFT.out w8 p2
      have SQ := hide (SAM.out w8 e8 h8 hW8)
      have HB8 := hide hW8.box
      have HG8 := hide (HG3.out.trans g8)
      obtain ⟨y0, y1⟩ := HXB.out w8 g8
      have HXC := hide (fun u (g : Gr w8 u) => HXB.out u (g8.trans g))
      clear p2 h8 hW8 g8 x0 x1 c1 c2 PK AFT SAM
      go_wp2_with (first
        | (refine load_wor rfl _ rfl bx rfl _ HB8.out rfl ?_))
      refine SQ.out.mono ?_
      rintro r w9 ⟨b, rfl, ha, hn, g9⟩
      have HG9 := hide (HG8.out.trans g9)
      obtain ⟨z0, z1⟩ := HXC.out w9 g9
      obtain rfl := ha (.inr (.inl (by rw [← HTN.out]; exact a2)))
      clear ha hn g9 y0 y1 SQ HB8
      go_wp2_with (fail)
      go_ret
      exact ⟨rfl, HG9.out⟩
    case neg =>
    by_cases a3 : ka < 0
    case pos =>
      go_wp2_with (fail)
      refine PK.out.mono ?_
      rintro r w8 ⟨rfl, p2⟩
      obtain ⟨e8, h8, hW8, g8⟩ := AFT.out w8 p2
      have SQ := hide (SAM.out w8 e8 h8 hW8)
      have HB8 := hide hW8.box
      have HG8 := hide (HG3.out.trans g8)
      obtain ⟨y0, y1⟩ := HXB.out w8 g8
      have HXC := hide (fun u (g : Gr w8 u) => HXB.out u (g8.trans g))
      clear p2 h8 hW8 g8 x0 x1 c1 c2 PK AFT SAM
      go_wp2_with (first
        | (refine load_wor rfl _ rfl bx rfl _ HB8.out rfl ?_))
      refine SQ.out.mono ?_
      rintro r w9 ⟨b, rfl, ha, hn, g9⟩
      have HG9 := hide (HG8.out.trans g9)
      obtain ⟨z0, z1⟩ := HXC.out w9 g9
      obtain rfl := ha (.inr (.inr (.inl a3)))
      clear ha hn g9 y0 y1 SQ HB8
      go_wp2_with (fail)
      go_ret
      exact ⟨rfl, HG9.out⟩
    case neg =>
    by_cases a4 : 2 < ka
    case pos =>
      go_wp2_with (fail)
      refine PK.out.mono ?_
      rintro r w8 ⟨rfl, p2⟩
      obtain ⟨e8, h8, hW8, g8⟩ := AFT.out w8 p2
      have SQ := hide (SAM.out w8 e8 h8 hW8)
      have HB8 := hide hW8.box
      have HG8 := hide (HG3.out.trans g8)
      obtain ⟨y0, y1⟩ := HXB.out w8 g8
      have HXC := hide (fun u (g : Gr w8 u) => HXB.out u (g8.trans g))
      clear p2 h8 hW8 g8 x0 x1 c1 c2 PK AFT SAM
      go_wp2_with (first
        | (refine load_wor rfl _ rfl bx rfl _ HB8.out rfl ?_))
      refine SQ.out.mono ?_
      rintro r w9 ⟨b, rfl, ha, hn, g9⟩
      have HG9 := hide (HG8.out.trans g9)
      obtain ⟨z0, z1⟩ := HXC.out w9 g9
      obtain rfl := ha (.inr (.inr (.inr (.inl a4))))
      clear ha hn g9 y0 y1 SQ HB8
      go_wp2_with (fail)
      go_ret
      exact ⟨rfl, HG9.out⟩
    case neg =>
    obtain ⟨i, rfl⟩ : ∃ i : Nat, wh = i := ⟨wh.toNat, by omega⟩
    have hi : i < s.ths.length := by omega
    have hi1 : decide ((s.ths.length : Int) ≤ (i : Int)) = false := by simp; omega
    have hbn : bl.length = s.ths.length := HBN.out
    obtain ⟨tb, tO, rfl, t9⟩ := HTH.out i hi
    obtain ⟨bb, bo, xa, xc, rfl, b9⟩ := HBF.out i hi
    have HI := hide (show ((i : Int)).toNat = i from by simp)
    clear HTH HBF
    obtain rfl | rfl | rfl : ka = 0 ∨ ka = 1 ∨ ka = 2 := by omega
    · by_cases hs : stA s i = 0
      · rw [hs] at t9
        go_wp2_with (fail)
        refine PK.out.mono ?_
        rintro r w8 ⟨rfl, p2⟩
        obtain ⟨e8, h8, hW8, g8⟩ := AFT.out w8 p2
        have SQ := hide (SAM.out w8 e8 h8 hW8)
        have HB8 := hide hW8.box
        have HG8 := hide (HG3.out.trans g8)
        obtain ⟨y0, y1⟩ := HXB.out w8 g8
        have HXC := hide (fun u (g : Gr w8 u) => HXB.out u (g8.trans g))
        clear t9 b9 p2 h8 hW8 g8 x0 x1 c1 c2 PK AFT SAM
        go_wp2_with (first
          | (refine load_wor rfl _ rfl bx rfl _ HB8.out rfl ?_))
        refine SQ.out.mono ?_
        rintro r w9 ⟨b, rfl, ha, hn, g9⟩
        have HG9 := hide (HG8.out.trans g9)
        obtain ⟨z0, z1⟩ := HXC.out w9 g9
        clear ha hn g9 y0 y1 SQ HB8
        cases b
        all_goals
          go_wp2_with (fail)
          go_ret
          exact ⟨rfl, HG9.out⟩
      · have hs1 : (stA s i == 0) = false := by simpa using hs
        have hs2 : (stA s i != 0) = true := by simp [bne, hs1]
        have HSS := hide hs
        clear hs
        go_wp2_with (fail)
        refine PK.out.mono ?_
        rintro r w8 ⟨rfl, p2⟩
        obtain ⟨e8, h8, hW8, g8⟩ := AFT.out w8 p2
        have SQ := hide (SAM.out w8 e8 h8 hW8)
        have HB8 := hide hW8.box
        have HG8 := hide (HG3.out.trans g8)
        obtain ⟨y0, y1⟩ := HXB.out w8 g8
        have HXC := hide (fun u (g : Gr w8 u) => HXB.out u (g8.trans g))
        clear t9 b9 p2 h8 hW8 g8 x0 x1 c1 c2 PK AFT SAM
        go_wp2_with (first
          | (refine load_wor rfl _ rfl bx rfl _ HB8.out rfl ?_))
        refine SQ.out.mono ?_
        rintro r w9 ⟨b, rfl, ha, hn, g9⟩
        have HG9 := hide (HG8.out.trans g9)
        obtain ⟨z0, z1⟩ := HXC.out w9 g9
        obtain rfl := ha (.inr (.inr (.inr (.inr (.inl ⟨rfl, HSS.out⟩)))))
        clear ha hn g9 y0 y1 SQ HB8
        go_wp2_with (fail)
        go_ret
        exact ⟨rfl, HG9.out⟩
    · by_cases hs : (s.side i).buf = []
      · have hs1 : (s.side i).buf.length = 0 := by rw [hs]; rfl
        have HSS := hide hs
        rw [hs1] at b9
        clear hs hs1
        go_wp2_with (fail)
        refine PK.out.mono ?_
        rintro r w8 ⟨rfl, p2⟩
        obtain ⟨e8, h8, hW8, g8⟩ := AFT.out w8 p2
        have SQ := hide (SAM.out w8 e8 h8 hW8)
        have HB8 := hide hW8.box
        have HG8 := hide (HG3.out.trans g8)
        obtain ⟨y0, y1⟩ := HXB.out w8 g8
        have HXC := hide (fun u (g : Gr w8 u) => HXB.out u (g8.trans g))
        clear t9 b9 p2 h8 hW8 g8 x0 x1 c1 c2 PK AFT SAM
        go_wp2_with (first
          | (refine load_wor rfl _ rfl bx rfl _ HB8.out rfl ?_))
        refine SQ.out.mono ?_
        rintro r w9 ⟨b, rfl, ha, hn, g9⟩
        have HG9 := hide (HG8.out.trans g9)
        obtain ⟨z0, z1⟩ := HXC.out w9 g9
        obtain rfl := ha (.inr (.inr (.inr (.inr (.inr (.inl ⟨rfl, HSS.out⟩))))))
        clear ha hn g9 y0 y1 SQ HB8
        go_wp2_with (fail)
        go_ret
        exact ⟨rfl, HG9.out⟩
      · have hs1 : (s.side i).buf.length ≠ 0 := fun h => hs (List.eq_nil_of_length_eq_zero h)
        have hs2 : (((s.side i).buf.length : Int) == 0) = false := by simp; omega
        have HSS := hide hs
        clear hs hs1
        go_wp2_with (fail)
        refine PK.out.mono ?_
        rintro r w8 ⟨rfl, p2⟩
        obtain ⟨e8, h8, hW8, g8⟩ := AFT.out w8 p2
        have SQ := hide (SAM.out w8 e8 h8 hW8)
        have HB8 := hide hW8.box
        have HG8 := hide (HG3.out.trans g8)
        obtain ⟨y0, y1⟩ := HXB.out w8 g8
        have HXC := hide (fun u (g : Gr w8 u) => HXB.out u (g8.trans g))
        clear t9 b9 p2 h8 hW8 g8 x0 x1 c1 c2 PK AFT SAM
        go_wp2_with (first
          | (refine load_wor rfl _ rfl bx rfl _ HB8.out rfl ?_))
        refine SQ.out.mono ?_
        rintro r w9 ⟨b, rfl, ha, hn, g9⟩
        have HG9 := hide (HG8.out.trans g9)
        obtain ⟨z0, z1⟩ := HXC.out w9 g9
        obtain rfl := hn (⟨⟨by omega, by rw [← HTN.out]; omega⟩, .inl ⟨rfl, HSS.out⟩⟩)
        clear ha hn g9 y0 y1 SQ HB8
        go_wp2_with (fail)
        go_ret
        exact ⟨rfl, HG9.out⟩
    · by_cases hs : stA s i = 1
      · rw [hs] at t9
        have HSS := hide hs
        clear hs
        go_wp2_with (fail)
        refine PK.out.mono ?_
        rintro r w8 ⟨rfl, p2⟩
        obtain ⟨e8, h8, hW8, g8⟩ := AFT.out w8 p2
        have SQ := hide (SAM.out w8 e8 h8 hW8)
        have HB8 := hide hW8.box
        have HG8 := hide (HG3.out.trans g8)
        obtain ⟨y0, y1⟩ := HXB.out w8 g8
        have HXC := hide (fun u (g : Gr w8 u) => HXB.out u (g8.trans g))
        clear t9 b9 p2 h8 hW8 g8 x0 x1 c1 c2 PK AFT SAM
        go_wp2_with (first
          | (refine load_wor rfl _ rfl bx rfl _ HB8.out rfl ?_))
        refine SQ.out.mono ?_
        rintro r w9 ⟨b, rfl, ha, hn, g9⟩
        have HG9 := hide (HG8.out.trans g9)
        obtain ⟨z0, z1⟩ := HXC.out w9 g9
        obtain rfl := hn (⟨⟨by omega, by rw [← HTN.out]; omega⟩, .inr ⟨rfl, HSS.out⟩⟩)
        clear ha hn g9 y0 y1 SQ HB8
        go_wp2_with (fail)
        go_ret
        exact ⟨rfl, HG9.out⟩
      · have hs1 : (stA s i == 1) = false := by simpa using hs
        have hs2 : (stA s i != 1) = true := by simp [bne, hs1]
        have HSS := hide hs
        clear hs
        go_wp2_with (fail)
        refine PK.out.mono ?_
        rintro r w8 ⟨rfl, p2⟩
        obtain ⟨e8, h8, hW8, g8⟩ := AFT.out w8 p2
        have SQ := hide (SAM.out w8 e8 h8 hW8)
        have HB8 := hide hW8.box
        have HG8 := hide (HG3.out.trans g8)
        obtain ⟨y0, y1⟩ := HXB.out w8 g8
        have HXC := hide (fun u (g : Gr w8 u) => HXB.out u (g8.trans g))
        clear t9 b9 p2 h8 hW8 g8 x0 x1 c1 c2 PK AFT SAM
        go_wp2_with (first
          | (refine load_wor rfl _ rfl bx rfl _ HB8.out rfl ?_))
        refine SQ.out.mono ?_
        rintro r w9 ⟨b, rfl, ha, hn, g9⟩
        have HG9 := hide (HG8.out.trans g9)
        obtain ⟨z0, z1⟩ := HXC.out w9 g9
        obtain rfl := ha (.inr (.inr (.inr (.inr (.inr (.inr ⟨rfl, HSS.out⟩))))))
        clear ha hn g9 y0 y1 SQ HB8
        go_wp2_with (fail)
        go_ret
        exact ⟨rfl, HG9.out⟩
end Go.Proofs.YtfhplbmgjgfihaaGreatDoor.Wl
