/-
  What a pick does to the document's world. No condition but what the law names.
-/
import Derived.Test.YtfhplbmgjgfihaaGreatDoorZzbg
import Derived.Test.YtfhplbmgjgfihaaGreatDoorZzby
import Derived.Test.YtfhplbmgjgfihaaGreatDoorZzbf
import Derived.Test.YtfhplbmgjgfihaaGreatDoorZzaq
import Derived.ChangeSlices
import Derived.Deep.Slices
namespace Go.Proofs.YtfhplbmgjgfihaaGreatDoor.Wl
open Go.Proofs.YtfhplbmgjgfihaaGreatDoor.Mc Go.ChangeShapes Go.WideShapes Go.ChangeAt Go.RowKit
set_option linter.unusedVariables false
set_option maxRecDepth 20000
theorem pick_calls (k : Wk) (v : Wv) (s : Ms) (w : World) (h : Ws k v s w) (f : Fit k.p s) (hroom : ∀ i, (s.side i).buf.length ≤ s.room) (N : Int) (hN : N = s.mem.length) (kind who : Int) :
    Calls Tryz.prog 17 #[.pointer (some ⟨k.g, 0, none⟩), .agg #[.int .i64 kind, .int .i64 who]] w (WlP k (s.pick N kind who)) := by
  by_cases h0 : who < 0
  · exact pick_low k v s w h f hroom N hN kind who h0
  by_cases h1 : (s.sides.length : Int) ≤ who
  · exact pick_high k v s w h f hroom N hN kind who h0 h1
  obtain ⟨i, rfl⟩ := Int.eq_ofNat_of_zero_le (show 0 ≤ who by omega)
  have hi : i < s.sides.length := by omega
  by_cases k0 : kind = 0
  · subst k0
    exact pick_step k v s w h f hroom N hN i hi
  by_cases k1 : kind = 1
  · subst k1
    exact pick_flush k v s w h f hroom N hN i hi
  by_cases k2 : kind = 2
  · subst k2
    by_cases hs : Kn.idx (i : Int) s.slp < s.slp.length
    · exact pick_rouse1 k v s w h f hroom N hN i hi _ rfl hs
    · exact pick_rouse0 k v s w h f hroom N hN i hi hs
  exact pick_none k v s w h f hroom N hN i hi kind k0 k1 k2
set_option maxHeartbeats 600000 in
theorem runs_calls (p : Pgm) (l : List Ent) (a : Option Addr) (c : Nat) (w : World) (h : PgAt p w) (hn : p.codes.length ≤ 8) (hm : p.mem.length ≤ 1024) (hr : 0 ≤ p.room) (hl : l.length ≤ 600) (hrow : RowAt w a (flatOf slpL l))
    (hall : ∀ j, j ≤ l.length → Rdy p ((newM p).run p.mem.length (l.take j))) :
    Calls Tryz.prog 8 #[.agg (pgA p), .bool false, .slice a l.length c] w (RunsP p ((newM p).run p.mem.length l) w) := by
  have hp := (Has.new w (pgA p) 25).alloc wz 41
  have hr6 := Has.new (w.alloc (.cells (pgA p) 25)) wz 41
  rw [World.size_alloc] at hr6
  have gg := ((Gr.refl w).alloc (pgA p) 25).alloc wz 41
  have HPG := hide h
  have HROW := hide hrow
  have HALL := hide hall
  have HR := hide hr
  have HT := hide (fun j h => run_snoc (newM p) p.mem.length l j h)
  clear h hrow hall hr
  rw [show Value.agg (pgA p) = .agg #[.slice p.ca p.codes.length p.cc, .slice p.ma p.mem.length p.mc, .int .i64 p.room] from rfl]
  go_enter Tryz.func8, Tryz.ntmps8
  go_upto_region 1 with (fail)
  change Code.wp _ _ _ _ ((w.alloc (.cells (pgA p) 25)).alloc (.cells wz 41))
  have hsz : ((w.alloc (.cells (pgA p) 25)).alloc (.cells wz 41)).heap.size = w.heap.size + 2 := by simp
  generalize (w.alloc (.cells (pgA p) 25)).alloc (.cells wz 41) = u0 at hp hr6 gg hsz ⊢
  have d0 := hp.cell (o := 0) (v := .slice p.ca p.codes.length p.cc) rfl
  have d1 := hp.cell (o := 1) (v := .slice p.ma p.mem.length p.mc) rfl
  have d2 := hp.cell (o := 2) (v := .int .i64 p.room) rfl
  have HC := hide (news_calls p u0 (HPG.out.later gg) hn hm)
  have HP0 := hide (HPG.out.later gg)
  have HR6 := hide hr6
  have HGG := hide gg
  have HSZ := hide hsz
  clear hr6 gg hsz hp
  go_wp2_with (fail)
  refine HC.out.mono ?_
  rintro r u1 ⟨tv, bv, mv, ⟨rfl, g1⟩, ⟨ht, hbf⟩, hmm⟩
  have hN := Has.new u1 wz 41
  have gN := g1.alloc wz 41
  have lN := g1.size
  have K := Kp.setRow (u1.alloc (.cells wz 41)) u1.heap.size (wldA p (vz tv bv mv) p.room)
  have row : ∀ {t sz n v xs}, u1.ownsRow u0.heap.size t sz v n xs → t ≠ 41 → ((u1.alloc (.cells wz 41)).setRow u1.heap.size (wldA p (vz tv bv mv) p.room)).ownsRow u0.heap.size t sz v n xs := fun h1 h2 => own_kept (own_later h1 ((Gr.refl u1).alloc _ _)) K (fun x hx z => own_aside (own_later h1 ((Gr.refl u1).alloc _ _)) hN h2 (mem_ob.2 (by rw [hx, show x = u1.heap.size by simpa using z])))
  have HS := hide (ws_start HR.out HP0.out lN (gN.setRow lN (wldA p (vz tv bv mv) p.room)) (hN.row _) (row ht (by decide)) (row hbf (by decide)) (row hmm (by decide)))
  have HNN := hide hN
  obtain ⟨ta, tc, rfl, -⟩ := own_at ht
  obtain ⟨ba, bc, rfl, -⟩ := own_at hbf
  obtain ⟨ma, mc, rfl, -⟩ := own_at hmm
  clear hN gN K row ht hbf hmm d0 d1 d2 HC
  go_upto_region 2 with (first
    | (refine store_wor rfl _ _ rfl u1.heap.size rfl (wldA p (vz (.slice ta p.codes.length tc) (.slice ba p.codes.length bc) (.slice ma p.mem.length mc)) p.room) rfl wz HNN.out rfl rfl (by simp [Value.oneCell']) ?_))
  generalize (u1.alloc (.cells wz 41)).setRow u1.heap.size _ = u2 at HS ⊢
  generalize u1.heap.size = g at HS lN ⊢
  clear HNN
  have HS2 := hide (show ∃ vv, Ws ⟨g, u0, p⟩ vv ((newM p).run p.mem.length (l.take 0)) u2 from ⟨_, HS.out⟩)
  clear HS
  go_wp2_with (fail)
  go_loopw [8] (fun v wr => ∃ j : Nat, (j ≤ l.length ∧ v = .int .i64 j) ∧ ∃ vv, Ws ⟨g, u0, p⟩ vv ((newM p).run p.mem.length (l.take j)) wr) (fun v _ => l.length - (intOf v).toNat)
  case atStart => exact ⟨0, ⟨by omega, rfl⟩, HS2.out⟩
  case round =>
    clear HS2 g1
    obtain ⟨j, ⟨hj, rfl⟩, vv, h⟩ := hrel
    by_cases hlt : j < l.length
    · have hlt' : (j : Int) < l.length := by omega
      have rw1 := (HROW.out.later HGG.out).later h.gr
      obtain ⟨b, off, had, -⟩ := rw1.get (by rw [flatOf_length slpL_len]; omega)
      subst had
      have c0 := rw1.cell slpL_len hlt ent0 0 (by omega)
      have c1 := rw1.cell slpL_len hlt ent0 1 (by omega)
      have HSS := hide (HT.out j hlt)
      have HA := hide (HALL.out j (by omega))
      generalize l.getD j ent0 = x at c0 c1 HSS
      simp only [slpL, List.getElem?_cons_zero, List.getElem?_cons_succ, Nat.add_zero, ← Nat.add_assoc] at c0 c1
      generalize (newM p).run p.mem.length (l.take j) = sj at h HA HSS
      have HC := hide (pick_calls ⟨g, u0, p⟩ vv sj wr h HA.out.1.1 HA.out.1.2 p.mem.length (by rw [HA.out.2]) x.a x.v)
      clear h rw1
      go_wp2_with (fail)
      refine HC.out.mono ?_
      rintro r u ⟨rfl, vn, hn⟩
      have HQ := hide hn
      clear hn c0 c1 HC
      go_wp2_with (fail)
      exact ⟨⟨j + 1, ⟨by omega, by go_num⟩, vn, by rw [HSS.out]; exact HQ.out⟩, by simp [intOf]; omega⟩
    · have hj' : j = l.length := by omega
      subst hj'
      rw [List.take_length] at h
      have HH := hide h
      have hb := h.box
      have h6 := HR6.out.later h.gr
      have hne : g ≠ w.heap.size + 1 := by
        have h1 := HSZ.out
        omega
      clear h
      obtain ⟨tv, bv, mv, sv, ev, bl⟩ := vv
      obtain ⟨ta', tc', e1, -⟩ := own_at HH.out.th
      obtain ⟨ba', bc', e2, -⟩ := own_at HH.out.bf
      obtain ⟨ma', mc', e3, -⟩ := own_at HH.out.mem
      obtain ⟨sa', sc', e4, -⟩ := own_at HH.out.slp
      obtain ⟨ea', ec', e5, -⟩ := own_at HH.out.evs
      dsimp only at e1 e2 e3 e4 e5
      subst e1 e2 e3 e4 e5
      have HL := hide (HH.out.lower HGG.out HPG.out)
      go_wp2_with (first
        | (refine load_wor rfl _ rfl g rfl _ hb rfl ?_)
        | (refine store_wor rfl _ _ rfl (w.heap.size + 1) rfl _ rfl wz h6 rfl rfl (by simp [Value.oneCell']) ?_))
      exact bodyPost_ret (results_wor rfl _ _ (w.heap.size + 1) _ rfl (h6.row _) rfl) rfl ⟨g, _, rfl, HL.out.other h6 (by simp) hne _⟩
end Go.Proofs.YtfhplbmgjgfihaaGreatDoor.Wl
namespace Go.Proofs.YtfhplbmgjgfihaaGreatDoor
open Go.ChangeShapes Go.WideShapes Go.ChangeAt Go.RowKit Go.Deep
set_option linter.unusedVariables false
set_option maxRecDepth 20000
theorem cells_ins : Tryz.prog.cellsOf 53 = 5 := by kernel_rfl
theorem cells_wrd : Tryz.prog.cellsOf 43 = 1 := by kernel_rfl
theorem cells_pic : Tryz.prog.cellsOf 28 = 2 := by kernel_rfl
theorem cells_prg : Tryz.prog.cellsOf 25 = 3 := by kernel_rfl
theorem cells_iss : Tryz.prog.cellsOf 51 = 1 := by kernel_rfl
theorem list2 {α : Type} {l : List α} (h : l.length = 2) : ∃ a b, l = [a, b] := by
  match l, h with
  | [a, b], _ => exact ⟨a, b, rfl⟩
theorem list3 {α : Type} {l : List α} (h : l.length = 3) : ∃ a b c, l = [a, b, c] := by
  match l, h with
  | [a, b, c], _ => exact ⟨a, b, c, rfl⟩
theorem list5 {α : Type} {l : List α} (h : l.length = 5) : ∃ a b c d e, l = [a, b, c, d, e] := by
  match l, h with
  | [a, b, c, d, e], _ => exact ⟨a, b, c, d, e, rfl⟩
theorem addr_add (b o : Nat) (n : Nat) : (⟨b, o, none⟩ : Addr).add n = ⟨b, o + n, none⟩ := Addr.add_mid b o n

section
variable {H : Type} {enc : TypeId × Value → H} {w : World} {held : Bool}

theorem open_recs {α : Type} (f : α → List Value) (sz : Nat) (hf : ∀ x, (f x).length = sz) (hsz : 0 < sz) (d0 : α) (ok : α → Prop) {T t : TypeId} (hT : Tryz.prog.underlying T = some (.slice t)) (hc : Tryz.prog.cellsOf t = sz)
    (each : ∀ {n : Nat} {cs : List Value} {x : DataW H × List MemPlace}, DataW.trod enc Tryz.prog w 0 (fun _ => true) held n t cs = some x → ∃ i, cs = f i ∧ ok i)
    {n : Nat} {v : Value} {x : DataW H × List MemPlace} (h : DataW.trod enc Tryz.prog w 0 (fun _ => true) held n T [v] = some x) :
    ∃ a cap l, v = .slice a (l : List α).length cap ∧ RowAt w a (flatOf f l) ∧ (∀ i ∈ l, ok i) ∧ (a = none → cap = 0 ∧ l = []) ∧ l.length ≤ maxLen := by
  rcases open_slice hT h with ⟨h0, _⟩ | ⟨a, len, cap, m, n', D, Pl, hcs, _, hl, hm, hmm, _, hx⟩
  · simp at h0
    exact ⟨none, 0, [], h0, .inl rfl, by simp, by simp, Nat.zero_le _⟩
  · simp at hcs hmm
    subst hmm
    rw [hc] at hx
    have each' : ∀ i, i < len → ∃ g : α, w.cells? 0 (a.add (i * sz)) sz = some (f g) ∧ ok g := by
      intro i hi
      obtain ⟨cs', h1, h2⟩ := hx i (by omega)
      obtain ⟨g, rfl, hg⟩ := each h2
      exact ⟨g, h1, hg⟩
    have inh : Inhabited α := ⟨d0⟩
    obtain ⟨g, hg⟩ := choose_lt each'
    refine ⟨some a, _, (List.range len).map g, by simpa using hcs, ?_, ?_, by simp, by simpa using Nat.le_trans hl hm⟩
    · by_cases h0 : len = 0
      · subst h0; exact .inl rfl
      right
      obtain ⟨b, off, spot⟩ := a
      have hs : spot = none := by
        obtain ⟨_, _, hc⟩ := World.cells?_some (hg 0 (by omega)).1
        have h1 := hc 0 hsz
        rw [List.getElem?_eq_getElem (by rw [hf]; exact hsz)] at h1
        have := World.cell?_spot h1
        simpa [Addr.add] using this
      subst hs
      refine ⟨b, off, rfl, fun j hj => ?_⟩
      rw [flatOf_length hf, List.length_map, List.length_range] at hj
      obtain ⟨i, r, rfl, hi, hr⟩ : ∃ i r, j = i * sz + r ∧ i < len ∧ r < sz :=
        ⟨j / sz, j % sz, (Nat.div_add_mod' j sz).symm, Nat.div_lt_of_lt_mul (by rw [Nat.mul_comm]; exact hj), Nat.mod_lt _ hsz⟩
      obtain ⟨_, _, hcell⟩ := World.cells?_some (hg i hi).1
      have h1 := hcell r hr
      simp only [addr_add] at h1
      rw [flatOf_get hf _ i r d0 (by simpa using hi) hr, ← Nat.add_assoc, h1]
      simp [List.getD_eq_getElem?_getD, hi]
    · intro i hi
      obtain ⟨j, hj, rfl⟩ := List.mem_map.1 hi
      exact (hg j (List.mem_range.1 hj)).2

theorem open_ins1 {n : Nat} {cs : List Value} {x : DataW H × List MemPlace} (h : DataW.trod enc Tryz.prog w 0 (fun _ => true) held n 53 cs = some x) : ∃ i : Ins, cs = insL i ∧ InsOk i := by
  obtain ⟨xs, m, rfl, _, hl, hlen, hf⟩ := DataW.trod_struct Tryz.underlying53 h
  rw [cells_ins] at hl
  obtain ⟨c0, c1, c2, c3, c4, rfl⟩ := list5 hl
  obtain ⟨x0, x1, x2, x3, x4, rfl⟩ := list5 hlen
  obtain ⟨n0, e0, _, _⟩ := DataW.trod_int Tryz.underlying3 (hf 0 _ rfl)
  obtain ⟨n1, e1, _, _⟩ := DataW.trod_int Tryz.underlying3 (hf 1 _ rfl)
  obtain ⟨n2, e2, _, _⟩ := DataW.trod_int Tryz.underlying3 (hf 2 _ rfl)
  obtain ⟨n3, e3, _, _⟩ := DataW.trod_int Tryz.underlying3 (hf 3 _ rfl)
  obtain ⟨n4, e4, _, w4⟩ := DataW.trod_int Tryz.underlying43 (hf 4 _ rfl)
  have q0 : [c0] = [Value.int .i64 n0] := e0
  have q1 : [c1] = [Value.int .i64 n1] := e1
  have q2 : [c2] = [Value.int .i64 n2] := e2
  have q3 : [c3] = [Value.int .i64 n3] := e3
  have q4 : [c4] = [Value.int .u32 n4] := e4
  simp only [List.cons.injEq, and_true] at q0 q1 q2 q3 q4
  subst q0 q1 q2 q3 q4
  have := bounds_u32 w4
  exact ⟨⟨n0, n1, n2, n3, n4⟩, rfl, this.1, by show n4 < 4294967296; omega⟩
theorem open_wrd1 {n : Nat} {cs : List Value} {x : DataW H × List MemPlace} (h : DataW.trod enc Tryz.prog w 0 (fun _ => true) held n 43 cs = some x) : ∃ i : Int, cs = wordL i ∧ U32 i := by
  obtain ⟨n1, e1, _, w1⟩ := DataW.trod_int Tryz.underlying43 h
  have := bounds_u32 w1
  exact ⟨n1, e1, this.1, by omega⟩
theorem open_inss {n : Nat} {v : Value} {x : DataW H × List MemPlace} (h : DataW.trod enc Tryz.prog w 0 (fun _ => true) held n 51 [v] = some x) :
    ∃ a cap l, v = .slice a (l : List Ins).length cap ∧ RowAt w a (flatOf insL l) ∧ (∀ i ∈ l, InsOk i) ∧ (a = none → cap = 0 ∧ l = []) ∧ l.length ≤ maxLen :=
  open_recs insL 5 insL_len (by omega) ins0 InsOk Tryz.underlying51 cells_ins open_ins1 h
theorem open_wordsR {n : Nat} {v : Value} {x : DataW H × List MemPlace} (h : DataW.trod enc Tryz.prog w 0 (fun _ => true) held n 23 [v] = some x) :
    ∃ a cap l, v = .slice a (l : List Int).length cap ∧ RowAt w a (flatOf wordL l) ∧ (∀ i ∈ l, U32 i) ∧ (a = none → cap = 0 ∧ l = []) ∧ l.length ≤ maxLen :=
  open_recs wordL 1 wordL_len (by omega) 0 U32 Tryz.underlying23 cells_wrd open_wrd1 h

theorem open_pic1 {n : Nat} {cs : List Value} {x : DataW H × List MemPlace} (h : DataW.trod enc Tryz.prog w 0 (fun _ => true) held n 28 cs = some x) : ∃ i : Ent, cs = slpL i ∧ True := by
  obtain ⟨xs, m, rfl, _, hl, hlen, hf⟩ := DataW.trod_struct Tryz.underlying28 h
  rw [cells_pic] at hl
  obtain ⟨c0, c1, rfl⟩ := list2 hl
  obtain ⟨x0, x1, rfl⟩ := list2 hlen
  obtain ⟨n0, e0, _, _⟩ := DataW.trod_int Tryz.underlying3 (hf 0 _ rfl)
  obtain ⟨n1, e1, _, _⟩ := DataW.trod_int Tryz.underlying3 (hf 1 _ rfl)
  have q0 : [c0] = [Value.int .i64 n0] := e0
  have q1 : [c1] = [Value.int .i64 n1] := e1
  simp only [List.cons.injEq, and_true] at q0 q1
  subst q0 q1
  exact ⟨⟨n0, n1⟩, rfl, trivial⟩
theorem open_picks {n : Nat} {v : Value} {x : DataW H × List MemPlace} (h : DataW.trod enc Tryz.prog w 0 (fun _ => true) held n 26 [v] = some x) :
    ∃ a cap l, v = .slice a (l : List Ent).length cap ∧ RowAt w a (flatOf slpL l) ∧ (a = none → cap = 0 ∧ l = []) ∧ l.length ≤ maxLen := by
  obtain ⟨a, cap, l, h1, h2, -, h4, h5⟩ := open_recs slpL 2 slpL_len (by omega) ent0 (fun _ => True) Tryz.underlying26 cells_pic open_pic1 h
  exact ⟨a, cap, l, h1, h2, h4, h5⟩
theorem open_cd1 {n : Nat} {cs : List Value} {x : DataW H × List MemPlace} (h : DataW.trod enc Tryz.prog w 0 (fun _ => true) held n 51 cs = some x) (hl : cs.length = 1) : ∃ i : Mc.Cd, cs = Mc.codeV i ∧ Mc.CdAt i w := by
  obtain ⟨v, rfl⟩ : ∃ v, cs = [v] := by
    match cs, hl with
    | [v], _ => exact ⟨v, rfl⟩
  obtain ⟨a, cap, l, rfl, h1, h2, h3, -⟩ := open_inss h
  exact ⟨⟨a, cap, l⟩, rfl, h1, h3, h2⟩
theorem open_recsL {α : Type} (f : α → List Value) (sz : Nat) (hf : ∀ x, (f x).length = sz) (hsz : 0 < sz) (d0 : α) (ok : α → Prop) {T t : TypeId} (hT : Tryz.prog.underlying T = some (.slice t)) (hc : Tryz.prog.cellsOf t = sz)
    (each : ∀ {n : Nat} {cs : List Value} {x : DataW H × List MemPlace}, DataW.trod enc Tryz.prog w 0 (fun _ => true) held n t cs = some x → cs.length = sz → ∃ i, cs = f i ∧ ok i)
    {n : Nat} {v : Value} {x : DataW H × List MemPlace} (h : DataW.trod enc Tryz.prog w 0 (fun _ => true) held n T [v] = some x) :
    ∃ a cap l, v = .slice a (l : List α).length cap ∧ RowAt w a (flatOf f l) ∧ (∀ i ∈ l, ok i) ∧ (a = none → cap = 0 ∧ l = []) ∧ l.length ≤ maxLen := by
  rcases open_slice hT h with ⟨h0, _⟩ | ⟨a, len, cap, m, n', D, Pl, hcs, _, hl, hm, hmm, _, hx⟩
  · simp at h0
    exact ⟨none, 0, [], h0, .inl rfl, by simp, by simp, Nat.zero_le _⟩
  · simp at hcs hmm
    subst hmm
    rw [hc] at hx
    have each' : ∀ i, i < len → ∃ g : α, w.cells? 0 (a.add (i * sz)) sz = some (f g) ∧ ok g := by
      intro i hi
      obtain ⟨cs', h1, h2⟩ := hx i (by omega)
      obtain ⟨g, rfl, hg⟩ := each h2 (World.cells?_some h1).2.1
      exact ⟨g, h1, hg⟩
    have inh : Inhabited α := ⟨d0⟩
    obtain ⟨g, hg⟩ := choose_lt each'
    refine ⟨some a, _, (List.range len).map g, by simpa using hcs, ?_, ?_, by simp, by simpa using Nat.le_trans hl hm⟩
    · by_cases h0 : len = 0
      · subst h0; exact .inl rfl
      right
      obtain ⟨b, off, spot⟩ := a
      have hs : spot = none := by
        obtain ⟨_, _, hc⟩ := World.cells?_some (hg 0 (by omega)).1
        have h1 := hc 0 hsz
        rw [List.getElem?_eq_getElem (by rw [hf]; exact hsz)] at h1
        have := World.cell?_spot h1
        simpa [Addr.add] using this
      subst hs
      refine ⟨b, off, rfl, fun j hj => ?_⟩
      rw [flatOf_length hf, List.length_map, List.length_range] at hj
      obtain ⟨i, r, rfl, hi, hr⟩ : ∃ i r, j = i * sz + r ∧ i < len ∧ r < sz :=
        ⟨j / sz, j % sz, (Nat.div_add_mod' j sz).symm, Nat.div_lt_of_lt_mul (by rw [Nat.mul_comm]; exact hj), Nat.mod_lt _ hsz⟩
      obtain ⟨_, _, hcell⟩ := World.cells?_some (hg i hi).1
      have h1 := hcell r hr
      simp only [addr_add] at h1
      rw [flatOf_get hf _ i r d0 (by simpa using hi) hr, ← Nat.add_assoc, h1]
      simp [List.getD_eq_getElem?_getD, hi]
    · intro i hi
      obtain ⟨j, hj, rfl⟩ := List.mem_map.1 hi
      exact (hg j (List.mem_range.1 hj)).2


theorem open_cds {n : Nat} {v : Value} {x : DataW H × List MemPlace} (h : DataW.trod enc Tryz.prog w 0 (fun _ => true) held n 22 [v] = some x) :
    ∃ a cap l, v = .slice a (l : List Mc.Cd).length cap ∧ RowAt w a (flatOf Mc.codeV l) ∧ (∀ i ∈ l, Mc.CdAt i w) ∧ (a = none → cap = 0 ∧ l = []) ∧ l.length ≤ maxLen :=
  open_recsL Mc.codeV 1 Mc.codeV_len (by omega) Mc.cd0 (fun i => Mc.CdAt i w) Tryz.underlying22 cells_iss open_cd1 h
theorem open_prog {r : Reach} {b0 : Nat} {v : Value} {d : DataW H} {p : List MemPlace} (hv : Value.okWide Tryz.prog w r b0 25 v) (h : DataW.Trod enc Tryz.prog w 0 (fun _ => true) held 25 v d p) :
    ∃ q : Mc.Pgm, v = .agg (Mc.pgA q) ∧ Mc.PgAt q w ∧ q.codes.length ≤ maxLen := by
  obtain ⟨cs, rfl, hsz⟩ := okWide_struct Tryz.underlying25 hv
  obtain ⟨n, h⟩ := h
  obtain ⟨l⟩ := cs
  simp only [Value.cells] at h
  obtain ⟨xs, m, rfl, _, hl, hlen, hf⟩ := DataW.trod_struct Tryz.underlying25 h
  rw [cells_prg] at hl
  obtain ⟨v1, v2, v3, rfl⟩ := list3 hl
  obtain ⟨x0, x1, x2, rfl⟩ := list3 hlen
  have h0 : DataW.trod enc Tryz.prog w 0 (fun _ => true) held m 22 [v1] = some x0 := hf 0 _ rfl
  have h1 : DataW.trod enc Tryz.prog w 0 (fun _ => true) held m 23 [v2] = some x1 := hf 1 _ rfl
  obtain ⟨a1, n1, l1, rfl, r1, o1, z1, m1⟩ := open_cds h0
  obtain ⟨a2, n2, l2, rfl, r2, o2, z2, m2⟩ := open_wordsR h1
  obtain ⟨k3, e3, _, _⟩ := DataW.trod_int Tryz.underlying3 (hf 2 _ rfl)
  have q3 : [v3] = [Value.int .i64 k3] := e3
  simp only [List.cons.injEq, and_true] at q3
  subst q3
  exact ⟨⟨a1, n1, l1, a2, n2, l2, k3⟩, rfl, ⟨r1, o1, r2, z2, o2⟩, m1⟩
end
end Go.Proofs.YtfhplbmgjgfihaaGreatDoor
