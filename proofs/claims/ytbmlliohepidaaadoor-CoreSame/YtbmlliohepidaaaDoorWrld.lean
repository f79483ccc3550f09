/-
  What In.world answers of any input. No condition but what each law names.
-/
import Derived.Test.YtbmlliohepidaaaDoorWrd0
import Derived.Deep.CutBlock
import Derived.Deep.LoopGhost
namespace Go.Proofs.YtbmlliohepidaaaDoor
open Go.ChangeShapes Go.WideShapes Go.ChangeAt Go.RowKit
set_option linter.unusedVariables false

set_option maxRecDepth 20000 in
set_option maxHeartbeats 6000000 in
theorem world_calls (d : InD) (w : World) (h : InAt d w) (hm : d.mem.length ≤ 300) (hb : d.buf.length ≤ 300) (hs : d.asl.length ≤ 7) :
    Calls Tryd.prog 11 #[.agg (inC d)] w (WorldP d w) := by
  have h10 := inC_10 h.ok
  have h12 := inC_12 h.ok
  have h13 := inC_13 h.ok
  have hrm := h.room
  have hz := h.ok
  have e2 : ((w.alloc (.cells (inC d) 31)).alloc (.cells wor0 40)).heap.size = w.heap.size + 1 + 1 := by rw [size1, size1]
  have i0 := ((Has.new w (inC d) 31).alloc wor0 40).alloc #[.slice d.ca d.code.length d.cc] 26
  have i1 := (Has.new (w.alloc (.cells (inC d) 31)) wor0 40).alloc #[.slice d.ca d.code.length d.cc] 26
  have i2 := Has.new ((w.alloc (.cells (inC d) 31)).alloc (.cells wor0 40)) #[.slice d.ca d.code.length d.cc] 26
  rw [size1] at i1
  rw [e2] at i2
  have gg := (((Gr.refl w).alloc (inC d) 31).alloc wor0 40).alloc #[.slice d.ca d.code.length d.cc] 26
  have hgs : ((((w.alloc (.cells (inC d) 31)).alloc (.cells wor0 40)).alloc (.cells #[.slice d.ca d.code.length d.cc] 26))).heap.size = w.heap.size + 1 + 1 + 1 := by rw [size1, e2]
  have HH := hide h
  clear h
  go_enter Tryd.func11, Tryd.ntmps11
  go_wp2_with (fail)
  change Calls _ _ _ (((w.alloc (.cells (inC d) 31)).alloc (.cells wor0 40)).alloc (.cells #[.slice d.ca d.code.length d.cc] 26)) _
  generalize ((w.alloc (.cells (inC d) 31)).alloc (.cells wor0 40)).alloc (.cells #[.slice d.ca d.code.length d.cc] 26) = u0 at i0 i1 i2 gg hgs ⊢
  refine (new_calls (w.heap.size + 1 + 1) d.ma d.mc d.mem (1 + (d.room : Int) % 16) (by omega) HH.out.nil u0 (HH.out.mem.later gg)).mono ?_
  rintro e u1 ⟨v1, v2, vm, ⟨rfl, g1⟩, o1, o2, om⟩
  obtain ⟨sa1, d1, rfl, hr1, -, -, hb1⟩ := own_at o1
  obtain ⟨tb, tq, rfl, -⟩ := hr1.get (by simp)
  obtain ⟨-, hto, -⟩ := hb1 _ rfl
  cases hto
  obtain ⟨sa2, d2, rfl, hr2, -, -, hb2⟩ := own_at o2
  obtain ⟨gb, go, rfl, -⟩ := hr2.get (by simp)
  obtain ⟨-, hgo, -⟩ := hb2 _ rfl
  cases hgo
  obtain ⟨sam, dm, rfl, -, -, -, -⟩ := own_at om
  clear hr1 hr2 hb1 hb2
  have j0 := i0.later g1
  have j1 := i1.later g1
  have j2 := i2.later g1
  have gw := gg.trans g1
  have hgn : w.heap.size + 1 < u1.heap.size := by have := g1.size; omega
  have c20 : (thL d.t).length = 10 := by simp [thL, hz.len]
  -- the world's variable
  have k0 := j0.alloc (worA (.slice (some ⟨w.heap.size + 1 + 1, 0, none⟩) 1 1) (.slice (some ⟨tb, 0, none⟩) 1 d1) (.slice (some ⟨gb, 0, none⟩) 1 d2) (.slice sam d.mem.length dm) (1 + (d.room : Int) % 16) (.slice none 0 0) (.slice none 0 0)) 40
  have rng : (u1.alloc (.cells (worA (.slice (some ⟨w.heap.size + 1 + 1, 0, none⟩) 1 1) (.slice (some ⟨tb, 0, none⟩) 1 d1) (.slice (some ⟨gb, 0, none⟩) 1 d2) (.slice sam d.mem.length dm) (1 + (d.room : Int) % 16) (.slice none 0 0) (.slice none 0 0)) 40)).rangeAt w.heap.size 0 (thL d.t) := fun j v hv => by rw [Nat.zero_add]; exact k0.cell (inC_th hz j v hv)
  have o1' := own_later o1 ((Gr.refl u1).alloc (worA (.slice (some ⟨w.heap.size + 1 + 1, 0, none⟩) 1 1) (.slice (some ⟨tb, 0, none⟩) 1 d1) (.slice (some ⟨gb, 0, none⟩) 1 d2) (.slice sam d.mem.length dm) (1 + (d.room : Int) % 16) (.slice none 0 0) (.slice none 0 0)) 40)
  have thr : (u1.alloc (.cells (worA (.slice (some ⟨w.heap.size + 1 + 1, 0, none⟩) 1 1) (.slice (some ⟨tb, 0, none⟩) 1 d1) (.slice (some ⟨gb, 0, none⟩) 1 d2) (.slice sam d.mem.length dm) (1 + (d.room : Int) % 16) (.slice none 0 0) (.slice none 0 0)) 40)).there tb 0 (thC d.t).size := by
    rw [thC_size hz]
    rcases o1'.2 with ⟨q, _⟩ | ⟨g', cap, cur, q, -, hg, hn1, -, hcs, -⟩
    · cases q
    · cases q
      exact Has.there hg 0 10 (by omega)
  go_upto_block 0 with (first
    | (refine wpList_load_mid rfl 25 _ rfl w.heap.size 0 rfl (thL d.t) _ rng Tryd.underlying25 rfl (by rw [c20]; exact infoT10) ?_)
    | (refine wpList_store_mid rfl 25 _ _ rfl tb 0 (thC d.t) rfl rfl thr (by rw [thC_size hz]; exact infoT10) (thC_one d.t) ?_))
  have W0 : W1 d w (w.heap.size + 1 + 1) u1.heap.size tb d1 gb d2 (.slice sam d.mem.length dm) [] ((u1.alloc (.cells (worA (.slice (some ⟨w.heap.size + 1 + 1, 0, none⟩) 1 1) (.slice (some ⟨tb, 0, none⟩) 1 d1) (.slice (some ⟨gb, 0, none⟩) 1 d2) (.slice sam d.mem.length dm) (1 + (d.room : Int) % 16) (.slice none 0 0) (.slice none 0 0)) 40)).setCells tb 0 (thC d.t).toList) := by
    have ga := (Gr.refl u1).alloc (worA (.slice (some ⟨w.heap.size + 1 + 1, 0, none⟩) 1 1) (.slice (some ⟨tb, 0, none⟩) 1 d1) (.slice (some ⟨gb, 0, none⟩) 1 d2) (.slice sam d.mem.length dm) (1 + (d.room : Int) % 16) (.slice none 0 0) (.slice none 0 0)) 40
    have hG := Has.new u1 (worA (.slice (some ⟨w.heap.size + 1 + 1, 0, none⟩) 1 1) (.slice (some ⟨tb, 0, none⟩) 1 d1) (.slice (some ⟨gb, 0, none⟩) 1 d2) (.slice sam d.mem.length dm) (1 + (d.room : Int) % 16) (.slice none 0 0) (.slice none 0 0)) 40
    have q := kp_setCells (b := tb) (thC d.t).toList 0 (u1.alloc (.cells (worA (.slice (some ⟨w.heap.size + 1 + 1, 0, none⟩) 1 1) (.slice (some ⟨tb, 0, none⟩) 1 d1) (.slice (some ⟨gb, 0, none⟩) 1 d2) (.slice sam d.mem.length dm) (1 + (d.room : Int) % 16) (.slice none 0 0) (.slice none 0 0)) 40))
    have htb : tb ∈ ob (.slice (some ⟨tb, 0, none⟩) 1 d1) := by rw [mem_ob]; rfl
    have n1 : ∀ {g C t}, Has (u1.alloc (.cells (worA (.slice (some ⟨w.heap.size + 1 + 1, 0, none⟩) 1 1) (.slice (some ⟨tb, 0, none⟩) 1 d1) (.slice (some ⟨gb, 0, none⟩) 1 d2) (.slice sam d.mem.length dm) (1 + (d.room : Int) % 16) (.slice none 0 0) (.slice none 0 0)) 40)) g C t → 25 ≠ t → g ∉ [tb] := fun {g C t} hg ht z => own_aside o1' hg ht (by rw [show g = tb by simpa using z]; exact htb)
    have n2 : ∀ {t sz n v xs}, (u1.alloc (.cells (worA (.slice (some ⟨w.heap.size + 1 + 1, 0, none⟩) 1 1) (.slice (some ⟨tb, 0, none⟩) 1 d1) (.slice (some ⟨gb, 0, none⟩) 1 d2) (.slice sam d.mem.length dm) (1 + (d.room : Int) % 16) (.slice none 0 0) (.slice none 0 0)) 40)).ownsRow w.heap.size t sz v n xs → t ≠ 25 → ∀ g, v.ownBlock = some g → g ∉ [tb] := fun hr ht g hg z => own_apart hr o1' ht (mem_ob.2 hg) (by rw [show g = tb by simpa using z]; exact htb)
    have cso : u1.ownsRow w.heap.size 26 1 (.slice (some ⟨w.heap.size + 1 + 1, 0, none⟩) 1 1) 1 [.slice d.ca d.code.length d.cc] := ⟨rfl, .inr ⟨_, 1, _, rfl, by omega, j2, Nat.le_refl _, by decide, rfl, rfl⟩⟩
    have hbase : w.heap.size ≤ u0.heap.size := by omega
    have b2 := own_lower (own_later o2 ga) hbase
    have bm := own_lower (own_later om ga) hbase
    have bc := own_later cso ga
    refine ⟨?_, k0.kept q (n1 k0 (by decide)), (j1.later ga).kept q (n1 (j1.later ga) (by decide)), hG.kept q (n1 hG (by decide)), own_kept bc q (n2 bc (by decide)), ?_, ⟨_, own_kept b2 q (n2 b2 (by decide)), own_nil _ _ _ _⟩, own_kept bm q (n2 bm (by decide)), hgn⟩
    · refine Kp.gr (gw.trans ga) q (fun x hx => ?_)
      have := (o1'.lt tb (mem_ob.1 htb)).1
      rw [show x = tb by simpa using hx]
      omega
    · exact own_setCells _ 0 _ _ (own_lower o1' hbase) (by simp [thC, c20])
  have WW := hide W0
  have hmu := om.1
  generalize (u1.alloc (.cells (worA (.slice (some ⟨w.heap.size + 1 + 1, 0, none⟩) 1 1) (.slice (some ⟨tb, 0, none⟩) 1 d1) (.slice (some ⟨gb, 0, none⟩) 1 d2) (.slice sam d.mem.length dm) (1 + (d.room : Int) % 16) (.slice none 0 0) (.slice none 0 0)) 40)).setCells tb 0 (thC d.t).toList = u2 at WW ⊢
  generalize u1.heap.size = g at WW ⊢
  generalize w.heap.size + 1 + 1 = C at WW ⊢
  have hB := HH.out.buf
  have h11 := inC_11 hz
  clear W0 i0 i1 i2 j0 j1 j2 k0 o1 o2 om o1' rng thr gg gw g1 hgs hgn e2 hmu h10 h13
  go_cut [4] from 23 (fun _ wx => Hid (W2 d w g (.slice sam d.mem.length dm) (pickF d.mem.length (roomN d.room) d.buf) 0 wx))
  case first =>
    go_wp2_with (fail)
    go_loopw [4] (fun i wr => ∃ k : Nat, k ≤ d.buf.length ∧ i = .int .i64 k ∧ W1 d w C g tb d1 gb d2 (.slice sam d.mem.length dm) (pickF d.mem.length (roomN d.room) (d.buf.take k)) wr) (fun i _ => d.buf.length - (intOf i).toNat)
    case atStart => exact ⟨0, by omega, rfl, WW.out⟩
    case round =>
      clear WW
      obtain ⟨k, hk, rfl, w1⟩ := hrel
      have ci := w1.hin.cell h11
      have hroom : ((roomN d.room : Nat) : Int) = 1 + (d.room : Int) % 16 := by unfold roomN; omega
      by_cases hlt : k < d.buf.length
      · have hlt' : (k : Int) < d.buf.length := by omega
        have HT := hide (pick_take (N := d.mem.length) (room := roomN d.room) k hlt)
        have HR := hide (pick_rest (N := d.mem.length) (room := roomN d.room) (l := d.buf) k)
        have hlen : (pickF d.mem.length (roomN d.room) (d.buf.take k)).length ≤ roomN d.room := pick_len _ [] (by simp)
        have hr16 : roomN d.room ≤ 16 := by unfold roomN; omega
        obtain ⟨b, off, hba, -⟩ := (hB.later w1.gr).get (by rw [flatOf_length entL_len]; omega)
        rw [hba] at ci hB
        generalize pickF d.mem.length (roomN d.room) (d.buf.take k) = l at w1 HT HR hlen
        generalize hx : d.buf.getD k ent0 = x at HT
        have HX := hide hx
        have EX : Hid (∀ u, Gr w u → u.cell? ⟨b, off + k * 2, none⟩ = some (.int .i64 x.a) ∧ u.cell? ⟨b, off + k * 2 + 1, none⟩ = some (.int .u32 x.v)) := by
          intro u g
          have h0 := (hB.later g).cell entL_len hlt ent0 0 (by omega)
          have h1 := (hB.later g).cell entL_len hlt ent0 1 (by omega)
          rw [HX.out] at h0 h1
          exact ⟨h0, by rw [Nat.add_assoc]; exact h1⟩
        clear hx
        obtain ⟨vbuf, hbs, hbe⟩ := w1.bso
        obtain ⟨va, vc, rfl, -, -, -, -⟩ := own_at hbe
        have cg : wr.cell? ⟨gb, 0, none⟩ = some (.slice va l.length vc) := by
          obtain ⟨a', c', e', hr', -, -, hb'⟩ := own_at hbs
          cases e'
          obtain ⟨b', o', e'', hc'⟩ := hr'.get (by simp)
          cases e''
          exact hc' 0 (by simp)
        have c2 := w1.hw.cell (o := 2) rfl
        have c4 := w1.hw.cell (o := 4) rfl
        by_cases hfl : l.length < roomN d.room
        · have hfl' : (l.length : Int) < 1 + (d.room : Int) % 16 := by omega
          have W := hide w1
          clear hbs hbe w1
          go_wp2_with (fail)
          go_quiet (fail)
          have W2 := W.out.later ((Gr.refl wr).drewN nq)
          generalize wr.drewN nq = wr3 at W2 ⊢
          have W3 := hide W2
          clear W c2 c4 cg ci
          have ci := W2.hin.cell h11
          have c3 := W2.hin.cell (inC_12 hz)
          have c2 := W2.hw.cell (o := 2) rfl
          rw [hba] at ci
          obtain ⟨xa, xv⟩ := EX.out wr3 W2.gr
          have HN := hide hlen
          clear W2 hlen
          by_cases h0 : 0 ≤ x.a
          · have h0' : decide (0 ≤ x.a) = true := by simpa using h0
            by_cases h1 : x.a < d.mem.length
            · have h1' : decide (x.a < (d.mem.length : Int)) = true := by simpa using h1
              go_wp2_with (fail)
              go_quiet (fail)
              have W4 := (W3.out.later ((Gr.refl wr3).drewN nq))
              have P4 : Hid (pickF d.mem.length (roomN d.room) (d.buf.take (k + 1)) = l ++ [x]) := by show _ = _; rw [HT.out]; unfold pick1; rw [if_pos ⟨hfl, h0, h1⟩]
              generalize wr3.drewN nq = wr4 at W4 ⊢
              clear c2 c3 ci xa xv W3
              have c2' := W4.hw.cell (o := 2) rfl
              go_wp2_with (fail)
              replace W4 := W4.later (Gr.refl wr4).drew
              obtain ⟨vbuf2, hbs, hbe⟩ := W4.bso
              have hbc : wr4.drew.cell? ⟨gb, 0, none⟩ = some vbuf2 := by
                obtain ⟨a', c', e', hr', -, -, hb'⟩ := own_at hbs
                cases e'
                obtain ⟨b', o', e'', hc'⟩ := hr'.get (by simp)
                cases e''
                exact hc' 0 (by simp)
              obtain ⟨va2, vc2, hv2, -, -, -, -⟩ := own_at hbe
              have nI := own_aside hbe W4.hin (by decide)
              have nG := own_aside hbe W4.hw (by decide)
              have nB : gb ∉ ob vbuf2 := fun z => own_apart hbe hbs (by decide) z (by rw [mem_ob]; rfl)
              have gk : ∀ u, Kp (ob vbuf2) wr4.drew u → Gr w u := fun u q => Kp.gr W4.gr q (fun y hy => (hbe.lt y (mem_ob.1 hy)).1)
              have gbl : gb < wr4.drew.heap.size := (hbs.lt gb rfl).2
              have kb : ∀ u, Kp (ob vbuf2) wr4.drew u → u.cell? ⟨gb, 0, none⟩ = some vbuf2 := fun u q => (cell_same 0 (q.block gb gbl nB)).trans hbc
              refine begin_late 15 [14] (fun w' => Kp (ob vbuf2) wr4.drew w') (by kernel_rfl) rfl ?_
              have hH : Kp (ob vbuf2) wr4.drew wr4.drew := Kp.refl _ _
              refine AnyL.takeP 0 (some 59) (.pointer (some ⟨g, 2, none⟩)) rfl rfl (by kernel_rfl) (by kernel_rfl) (by kernel_rfl) (by kernel_rfl) (fun _ _ _ h => h) (by kernel_rfl) (fun w' => by go_simp) (fun _ => hH) ?_
              simp only [Act.put, List.setIfInBounds_toArray, List.set_cons_zero, List.set_cons_succ]
              refine AnyL.take 1 (some 60) (.slice (some ⟨gb, 0, none⟩) 1 d2) rfl rfl (by kernel_rfl) (by kernel_rfl) (by kernel_rfl) (by kernel_rfl) (fun _ _ _ h => h) (yields_held _ (by kernel_rfl) (fun w' hw' => by have c1 := (W4.hw.kept hw' nG).cell (o := 2) rfl; go_simp)) hH ?_
              simp only [Act.put, List.setIfInBounds_toArray, List.set_cons_zero, List.set_cons_succ]
              refine AnyL.takeP 2 (some 61) (.pointer (some ⟨g, 2, none⟩)) rfl rfl (by kernel_rfl) (by kernel_rfl) (by kernel_rfl) (by kernel_rfl) (fun _ _ _ h => h) (by kernel_rfl) (fun w' => by go_simp) (fun _ => hH) ?_
              simp only [Act.put, List.setIfInBounds_toArray, List.set_cons_zero, List.set_cons_succ]
              refine AnyL.take 3 (some 62) (.slice (some ⟨gb, 0, none⟩) 1 d2) rfl rfl (by kernel_rfl) (by kernel_rfl) (by kernel_rfl) (by kernel_rfl) (fun _ _ _ h => h) (yields_held _ (by kernel_rfl) (fun w' hw' => by have c1 := (W4.hw.kept hw' nG).cell (o := 2) rfl; go_simp)) hH ?_
              simp only [Act.put, List.setIfInBounds_toArray, List.set_cons_zero, List.set_cons_succ]
              refine AnyL.takeP 4 (some 63) (.pointer (some ⟨gb, 0, none⟩)) rfl rfl (by kernel_rfl) (by kernel_rfl) (by kernel_rfl) (by kernel_rfl) (fun _ _ _ h => h) (by kernel_rfl) (fun w' => by go_simp) (fun _ => hH) ?_
              simp only [Act.put, List.setIfInBounds_toArray, List.set_cons_zero, List.set_cons_succ]
              refine AnyL.take 5 (some 64) (vbuf2) rfl rfl (by kernel_rfl) (by kernel_rfl) (by kernel_rfl) (by kernel_rfl) (fun _ _ _ h => h) (yields_held _ (by kernel_rfl) (fun w' hw' => by have c1 := kb _ hw'; go_simp)) hH ?_
              simp only [Act.put, List.setIfInBounds_toArray, List.set_cons_zero, List.set_cons_succ]
              refine AnyL.takeP 6 (some 65) (.pointer (some ⟨w.heap.size, 11, none⟩)) rfl rfl (by kernel_rfl) (by kernel_rfl) (by kernel_rfl) (by kernel_rfl) (fun _ _ _ h => h) (by kernel_rfl) (fun w' => by go_simp) (fun _ => hH) ?_
              simp only [Act.put, List.setIfInBounds_toArray, List.set_cons_zero, List.set_cons_succ]
              refine AnyL.take 7 (some 66) (.slice (some ⟨b, off, none⟩) d.buf.length d.bc) rfl rfl (by kernel_rfl) (by kernel_rfl) (by kernel_rfl) (by kernel_rfl) (fun _ _ _ h => h) (yields_held _ (by kernel_rfl) (fun w' hw' => by have c1 := (W4.hin.kept hw' nI).cell h11; rw [hba] at c1; go_simp)) hH ?_
              simp only [Act.put, List.setIfInBounds_toArray, List.set_cons_zero, List.set_cons_succ]
              refine AnyL.takeP 8 (some 67) (.int .i64 k) rfl rfl (by kernel_rfl) (by kernel_rfl) (by kernel_rfl) (by kernel_rfl) (fun _ _ _ h => h) (by kernel_rfl) (fun w' => by go_simp) (fun _ => hH) ?_
              simp only [Act.put, List.setIfInBounds_toArray, List.set_cons_zero, List.set_cons_succ]
              refine AnyL.takeP 9 (some 68) (.pointer (some ⟨b, off + k * 2, none⟩)) rfl rfl (by kernel_rfl) (by kernel_rfl) (by kernel_rfl) (by kernel_rfl) (fun _ _ _ h => h) (by kernel_rfl) (fun w' => by go_simp) (fun _ => hH) ?_
              simp only [Act.put, List.setIfInBounds_toArray, List.set_cons_zero, List.set_cons_succ]
              refine AnyL.take 10 (some 69) (.agg #[.int .i64 x.a, .int .u32 x.v]) rfl rfl (by kernel_rfl) (by kernel_rfl) (by kernel_rfl) (by kernel_rfl) (fun _ _ _ h => h) (yields_held _ (by kernel_rfl) (fun w' hw' => by have c1 := (EX.out _ (gk _ hw')).1; have c2 := (EX.out _ (gk _ hw')).2; go_simp)) hH ?_
              simp only [Act.put, List.setIfInBounds_toArray, List.set_cons_zero, List.set_cons_succ]
              refine AnyL.one 11 (by kernel_rfl) rfl (by kernel_rfl) ?_
              refine wp_made (some 70) rfl _ _ (build_e1' _ rfl x (by kernel_rfl)) ?_
              refine ⟨fun _ => ((Gr.refl wr4.drew).alloc #[.int .i64 x.a, .int .u32 x.v] 83).kp _, ?_⟩
              simp only [Act.put, List.setIfInBounds_toArray, List.set_cons_zero, List.set_cons_succ]
              obtain ⟨v', w', hr, ho, hgr, hbb⟩ := app_rec (ty := 27) entL_len entL_one (T := 27) Tryd.underlying27 infoEnt (by decide) (by decide) (by decide) hbe x #[.int .i64 x.a, .int .u32 x.v] rfl (by have := HN.out; omega) W4.gr.size
              refine AnyL.one 12 (by kernel_rfl) rfl (by kernel_rfl) ?_
              refine wp_app (some 71) rfl _ _ 27 rfl vbuf2 _ (by kernel_rfl) rfl v' w' hr ?_
              have kg : Kp (ob vbuf2) wr4.drew w' := (((Gr.refl wr4.drew).alloc #[.int .i64 x.a, .int .u32 x.v] 83).kp (ob vbuf2)).trans (Kp.grown hgr) (fun _ h => h) (fun _ h => .inl h)
              refine ⟨fun _ => kg, ?_⟩
              simp only [Act.put, List.setIfInBounds_toArray, List.set_cons_zero, List.set_cons_succ]
              replace hH := kg
              refine AnyL.takeP 13 (some 72) (.pointer (some ⟨gb, 0, none⟩)) rfl rfl (by kernel_rfl) (by kernel_rfl) (by kernel_rfl) (by kernel_rfl) (fun _ _ _ h => h) (by kernel_rfl) (fun w' => by go_simp) (fun _ => hH) ?_
              simp only [Act.put, List.setIfInBounds_toArray, List.set_cons_zero, List.set_cons_succ]
              refine AnyL.one 14 (by kernel_rfl) rfl (by kernel_rfl) ?_
              obtain ⟨a9, c9, e9, -, -, -, -⟩ := own_at ho
              have cg := kb _ kg
              rw [hv2] at cg
              have fg : w'.frozen? ⟨gb, 0, none⟩ = false := by
                obtain ⟨D, hD⟩ := own_has hbs (k := gb) (by rw [mem_ob]; rfl)
                exact (hD.kept kg nB).free 0
              refine wp_store_ents' rfl _ _ rfl gb 0 (by kernel_rfl) a9 _ c9 e9 _ _ _ cg fg ?_
              refine ⟨late (by kernel_rfl), ?_⟩
              refine AnyL.done (by kernel_rfl) ?_
              rw [← e9]
              have W5 := hide (W4.add hbe kg ho)
              clear cg fg hH kg hgr hr ho hbb kb gk W4 hbs hbe hbc nI nG nB gbl c2'
              generalize w'.setCell ⟨gb, 0, none⟩ v' = wr5 at W5 ⊢
              go_wp2_with (fail)
              go_roundw
              case rel => exact ⟨k + 1, by omega, by go_num, by rw [P4.out]; exact W5.out⟩
              case measure => simp [intOf]; omega
            · have h1' : decide (x.a < (d.mem.length : Int)) = false := by simpa using h1
              have HQ1 := hide h1
              clear h1
              go_wp2_with (fail)
              go_quiet (fail)
              have W4 := W3.out.later ((Gr.refl wr3).drewN nq)
              have P4 : Hid (pickF d.mem.length (roomN d.room) (d.buf.take (k + 1)) = l) := by show _ = _; rw [HT.out]; unfold pick1; rw [if_neg (fun q => by have := HQ1.out; omega)]
              generalize wr3.drewN nq = wr4 at W4 ⊢
              have W5 := hide W4
              clear W4 c2 c3 ci xa xv W3
              go_wp2_with (fail)
              go_roundw
              case rel => exact ⟨k + 1, by omega, by go_num, by rw [P4.out]; exact W5.out⟩
              case measure => simp [intOf]; omega
          · have h0' : decide (0 ≤ x.a) = false := by simpa using h0
            have HQ0 := hide h0
            clear h0
            go_wp2_with (fail)
            go_quiet (fail)
            have W4 := W3.out.later ((Gr.refl wr3).drewN nq)
            have P4 : Hid (pickF d.mem.length (roomN d.room) (d.buf.take (k + 1)) = l) := by show _ = _; rw [HT.out]; unfold pick1; rw [if_neg (fun q => by have := HQ0.out; omega)]
            generalize wr3.drewN nq = wr4 at W4 ⊢
            have W5 := hide W4
            clear W4 c2 c3 ci xa xv W3
            go_wp2_with (fail)
            go_roundw
            case rel => exact ⟨k + 1, by omega, by go_num, by rw [P4.out]; exact W5.out⟩
            case measure => simp [intOf]; omega
        · have hfl' : decide ((l.length : Int) < 1 + (d.room : Int) % 16) = false := by simp; omega
          have PF : Hid (l = pickF d.mem.length (roomN d.room) d.buf) := HR.out (by omega)
          have W := hide w1
          clear hbs hbe w1
          go_wp2_with (fail)
          go_quiet (fail)
          have W4 := hide (W.out.to2.later ((Gr.refl wr).drewN nq))
          clear W
          generalize wr.drewN nq = wr3 at W4 ⊢
          go_wp2_with (fail)
          go_meet
          case rel => rw [PF.out] at W4; exact W4
      · have hkl : k = d.buf.length := by omega
        have hlt' : decide ((k : Int) < (d.buf.length : Int)) = false := by simp; omega
        have PF : Hid (pickF d.mem.length (roomN d.room) (d.buf.take k) = pickF d.mem.length (roomN d.room) d.buf) := by show _ = _; rw [hkl, List.take_length]
        generalize pickF d.mem.length (roomN d.room) (d.buf.take k) = l at w1 PF
        have W := hide w1
        clear w1
        go_wp2_with (fail)
        go_quiet (fail)
        have W4 := hide (W.out.to2.later ((Gr.refl wr).drewN nq))
        clear W
        generalize wr.drewN nq = wr3 at W4 ⊢
        go_wp2_with (fail)
        go_meet
        case rel => rw [PF.out] at W4; exact W4
  case rest =>
    have W4 := hcut
    clear hcut
    go_wp2_with (fail)
    go_loopw [5] (fun i u => ∃ j : Nat, j ≤ d.asl.length ∧ i = .int .i64 j ∧ Hid (W2 d w g (.slice sam d.mem.length dm) (pickF d.mem.length (roomN d.room) d.buf) j u)) (fun i _ => d.asl.length - (intOf i).toNat)
    case atStart => exact ⟨0, by omega, rfl, W4⟩
    case round =>
      clear W4
      obtain ⟨j, hj, rfl, w2⟩ := hrel
      obtain ⟨cs, ths, bs, vs, vbuf, xc, xt, rest, wk, hc, ht, hb, he, hsl, hmm⟩ := w2.out
      clear w2
      have c14 := wk.hin.cell (inC_14 hz)
      by_cases hjl : j < d.asl.length
      · have hjl' : (j : Int) < d.asl.length := by omega
        have c1 := wk.hw.cell (o := 1) rfl
        have f1 := wk.hw.free 1
        -- a thread
        obtain ⟨v1, w1, r1, o1, q1, -⟩ := app_row (ty := 35) (T := 35) Tryd.underlying35 infoTh (by decide) (by decide) (by decide) (own_later ht ((Gr.refl wr).alloc th1A 25)) (some ⟨wr.heap.size, 0, none⟩) 1 1 th1A.toList (Has.rowAt (Has.new wr _ _)) (fun q => by cases q) rfl (by simp [Value.oneCell']) (by omega) (by have := wk.gr.size; simp; omega)
        have k1 : Kp (ob ths) wr w1 := (((Gr.refl wr).alloc th1A 25).kp (ob ths)).trans (Kp.grown q1) (fun _ h => h) (fun _ h => .inl h)
        obtain ⟨s1, e1, rfl, -, -, -, -⟩ := own_at o1
        have wk1 := wk.step (cs' := cs) (ths' := .slice s1 (1 + j + 1) e1) (bs' := bs) (vs' := vs) ht k1 (by decide) (by decide) 1 (.slice s1 (1 + j + 1) e1) rfl
        have hc1 := own_stays wk hc ht k1 (by decide) (by decide) (by decide) 1 (.slice s1 (1 + j + 1) e1)
        have hb1 := own_stays wk hb ht k1 (by decide) (by decide) (by decide) 1 (.slice s1 (1 + j + 1) e1)
        have he1 := own_stays wk he ht k1 (by decide) (by decide) (by decide) 1 (.slice s1 (1 + j + 1) e1)
        have hs1 := own_stays wk hsl ht k1 (by decide) (by decide) (by decide) 1 (.slice s1 (1 + j + 1) e1)
        have hm1 := own_stays wk hmm ht k1 (by decide) (by decide) (by decide) 1 (.slice s1 (1 + j + 1) e1)
        have ht1 := own_new wk ht k1 o1 (by decide) 1 (.slice s1 (1 + j + 1) e1)
        have y1 := (wk.hw.kept k1 (own_aside ht wk.hw (by decide)))
        have y1a := y1.cell (o := 1) rfl
        have y1b := y1.cell (o := 2) rfl
        have y1f := y1.free 1
        have y1g := y1.free 2
        have es1 : (w1.setCell ⟨g, 1, none⟩ (.slice s1 (1 + j + 1) e1)).heap.size = w1.heap.size := by simp
        generalize hU1 : w1.setCell ⟨g, 1, none⟩ (.slice s1 (1 + j + 1) e1) = U1 at wk1 hc1 hb1 he1 hs1 hm1 ht1 es1
        -- a buffer
        obtain ⟨v2, w2, r2, o2, q2, -⟩ := app_row (ty := 36) (T := 36) Tryd.underlying36 infoBs (by decide) (by decide) (by decide) (own_later hb1 ((Gr.refl U1).alloc #[.slice none 0 0] 27)) (some ⟨U1.heap.size, 0, none⟩) 1 1 [.slice none 0 0] (Has.rowAt (Has.new U1 _ _)) (fun q => by cases q) rfl (by simp [Value.oneCell']) (by omega) (by have := wk1.gr.size; simp; omega)
        have k2 : Kp (ob bs) U1 w2 := (((Gr.refl U1).alloc #[.slice none 0 0] 27).kp (ob bs)).trans (Kp.grown q2) (fun _ h => h) (fun _ h => .inl h)
        obtain ⟨s2, e2, rfl, -, -, -, -⟩ := own_at o2
        have wk2 := wk1.step (cs' := cs) (ths' := .slice s1 (1 + j + 1) e1) (bs' := .slice s2 (1 + j + 1) e2) (vs' := vs) hb1 k2 (by decide) (by decide) 2 (.slice s2 (1 + j + 1) e2) rfl
        have hc2 := own_stays wk1 hc1 hb1 k2 (by decide) (by decide) (by decide) 2 (.slice s2 (1 + j + 1) e2)
        have ht2 := own_stays wk1 ht1 hb1 k2 (by decide) (by decide) (by decide) 2 (.slice s2 (1 + j + 1) e2)
        have he2 := own_stays wk1 he1 hb1 k2 (by decide) (by decide) (by decide) 2 (.slice s2 (1 + j + 1) e2)
        have hs2 := own_stays wk1 hs1 hb1 k2 (by decide) (by decide) (by decide) 2 (.slice s2 (1 + j + 1) e2)
        have hm2 := own_stays wk1 hm1 hb1 k2 (by decide) (by decide) (by decide) 2 (.slice s2 (1 + j + 1) e2)
        have hb2 := own_new wk1 hb1 k2 o2 (by decide) 2 (.slice s2 (1 + j + 1) e2)
        have y2 := (wk1.hw.kept k2 (own_aside hb1 wk1.hw (by decide)))
        have y2a := y2.cell (o := 2) rfl
        have y2b := y2.cell (o := 0) rfl
        have y2f := y2.free 2
        have y2g := y2.free 0
        have es2 : (w2.setCell ⟨g, 2, none⟩ (.slice s2 (1 + j + 1) e2)).heap.size = w2.heap.size := by simp
        generalize hU2 : w2.setCell ⟨g, 2, none⟩ (.slice s2 (1 + j + 1) e2) = U2 at wk2 hc2 ht2 he2 hs2 hm2 hb2 es2
        -- a code
        obtain ⟨v3, w3, r3, o3, q3, -⟩ := app_row (ty := 34) (T := 34) Tryd.underlying34 infoCs (by decide) (by decide) (by decide) (own_later hc2 ((Gr.refl U2).alloc #[.slice none 0 0] 26)) (some ⟨U2.heap.size, 0, none⟩) 1 1 [.slice none 0 0] (Has.rowAt (Has.new U2 _ _)) (fun q => by cases q) rfl (by simp [Value.oneCell']) (by omega) (by have := wk2.gr.size; simp; omega)
        have k3 : Kp (ob cs) U2 w3 := (((Gr.refl U2).alloc #[.slice none 0 0] 26).kp (ob cs)).trans (Kp.grown q3) (fun _ h => h) (fun _ h => .inl h)
        obtain ⟨s3, e3, rfl, -, -, -, -⟩ := own_at o3
        have wk3 := wk2.step (cs' := .slice s3 (1 + j + 1) e3) (ths' := .slice s1 (1 + j + 1) e1) (bs' := .slice s2 (1 + j + 1) e2) (vs' := vs) hc2 k3 (by decide) (by decide) 0 (.slice s3 (1 + j + 1) e3) rfl
        have ht3 := own_stays wk2 ht2 hc2 k3 (by decide) (by decide) (by decide) 0 (.slice s3 (1 + j + 1) e3)
        have hb3 := own_stays wk2 hb2 hc2 k3 (by decide) (by decide) (by decide) 0 (.slice s3 (1 + j + 1) e3)
        have he3 := own_stays wk2 he2 hc2 k3 (by decide) (by decide) (by decide) 0 (.slice s3 (1 + j + 1) e3)
        have hs3 := own_stays wk2 hs2 hc2 k3 (by decide) (by decide) (by decide) 0 (.slice s3 (1 + j + 1) e3)
        have hm3 := own_stays wk2 hm2 hc2 k3 (by decide) (by decide) (by decide) 0 (.slice s3 (1 + j + 1) e3)
        have hc3 := own_new wk2 hc2 k3 o3 (by decide) 0 (.slice s3 (1 + j + 1) e3)
        have y3 := (wk2.hw.kept k3 (own_aside hc2 wk2.hw (by decide)))
        have y3a := y3.cell (o := 0) rfl
        have y3f := y3.free 0
        rw [es1] at r2
        rw [es2] at r3
        subst hU1
        subst hU2
        have WK := hide wk3
        have HT3 := hide ht3
        have HB3 := hide hb3
        have HE3 := hide he3
        have HS3 := hide hs3
        have HM3 := hide hm3
        have HC3 := hide hc3
        clear wk wk1 wk2 wk3 hc ht hb he hsl hmm hc1 hb1 he1 hs1 hm1 ht1 hc2 ht2 he2 hs2 hm2 hb2 ht3 hb3 he3 hs3 hm3 hc3 o1 o2 o3 q1 q2 q3 k1 k2 k3 y1 y2 y3 es1 es2
        go_wp2_with (first
          | (refine step_app rfl (some 84) rfl _ _ _ rfl ths (.slice (some ⟨wr.heap.size, 0, none⟩) 1 1) rfl rfl (.slice s1 (1 + j + 1) e1) w1 (by exact r1) ?_)
          | (refine step_app rfl (some 89) rfl _ _ _ rfl bs (.slice (some ⟨w1.heap.size, 0, none⟩) 1 1) rfl rfl (.slice s2 (1 + j + 1) e2) w2 (by exact r2) ?_)
          | (refine step_app rfl (some 94) rfl _ _ _ rfl cs (.slice (some ⟨w2.heap.size, 0, none⟩) 1 1) rfl rfl (.slice s3 (1 + j + 1) e3) w3 (by exact r3) ?_))
        have hbyt := HH.out.byt (d.asl.getD j 0) (by rw [List.getD_eq_getElem?_getD, List.getElem?_eq_getElem hjl]; exact List.getElem_mem hjl)
        obtain ⟨sb, so, hsa, -⟩ := (HH.out.asl.later WK.out.gr).get (by rw [flatOf_length byteL_len]; omega)
        have hslc : ∀ u, Gr w u → u.cell? ⟨sb, so + j, none⟩ = some (.int .u8 (d.asl.getD j 0)) := fun u gu => by
          have h0 := HH.out.asl.later gu
          rw [hsa] at h0
          have := h0.cell byteL_len hjl 0 0 (by omega)
          simpa [byteL] using this
        have HSN := hide (slpF_snoc d.asl j hjl)
        generalize d.asl.getD j 0 = x5 at hbyt hslc HSN
        have SLC := hide hslc
        clear hslc c14
        replace WK := hide (show Wk d w g (.slice s3 (1 + j + 1) e3) (.slice s1 (1 + j + 1) e1) (.slice s2 (1 + j + 1) e2) (.slice sam d.mem.length dm) vs _ from WK.out)
        generalize w3.setCell ⟨g, 0, none⟩ (.slice s3 (1 + j + 1) e3) = U3 at WK HT3 HB3 HE3 HS3 HM3 HC3 ⊢
        have gd := (Gr.refl U3).drew
        have wk : Wk d w g (.slice s3 (1 + j + 1) e3) (.slice s1 (1 + j + 1) e1) (.slice s2 (1 + j + 1) e2) (.slice sam d.mem.length dm) vs U3.drew := ⟨WK.out.gr.trans gd, WK.out.hin.later gd, WK.out.hr.later gd, WK.out.hw.later gd, WK.out.lt⟩
        have hs3 := own_later HS3.out gd
        obtain ⟨va3, vc3, hvs3, -, -, -, -⟩ := own_at hs3
        have nI := own_aside hs3 wk.hin (by decide)
        have nG := own_aside hs3 wk.hw (by decide)
        have gk : ∀ u, Kp (ob vs) U3.drew u → Gr w u := fun u q => Kp.gr wk.gr q (fun y hy => (hs3.lt y (mem_ob.1 hy)).1)
        have h14 := inC_14 hz
        rw [hsa] at h14
        refine begin_late 15 [14] (fun w' => Kp (ob vs) U3.drew w') (by kernel_rfl) rfl ?_
        have hH : Kp (ob vs) U3.drew U3.drew := Kp.refl _ _
        refine AnyL.takeP 0 (some 96) (.pointer (some ⟨g, 5, none⟩)) rfl rfl (by kernel_rfl) (by kernel_rfl) (by kernel_rfl) (by kernel_rfl) (fun _ _ _ h => h) (by kernel_rfl) (fun w' => by go_simp) (fun _ => hH) ?_
        simp only [Act.put, List.setIfInBounds_toArray, List.set_cons_zero, List.set_cons_succ]
        refine AnyL.take 1 (some 97) (vs) rfl rfl (by kernel_rfl) (by kernel_rfl) (by kernel_rfl) (by kernel_rfl) (fun _ _ _ h => h) (yields_held _ (by kernel_rfl) (fun w' hw' => by have c1 := (wk.hw.kept hw' nG).cell (o := 5) rfl; go_simp)) hH ?_
        simp only [Act.put, List.setIfInBounds_toArray, List.set_cons_zero, List.set_cons_succ]
        refine AnyL.takeP 2 (some 98) (.int .i64 j) rfl rfl (by kernel_rfl) (by kernel_rfl) (by kernel_rfl) (by kernel_rfl) (fun _ _ _ h => h) (by kernel_rfl) (fun w' => by go_simp) (fun _ => hH) ?_
        simp only [Act.put, List.setIfInBounds_toArray, List.set_cons_zero, List.set_cons_succ]
        have hw9 : IntKind.i64.wrap (1 + (j : Int)) = 1 + (j : Int) := by rw [IntKind.wrap_i64]; omega
        refine AnyL.takeP 3 (some 99) (.int .i64 (1 + (j : Int))) rfl rfl (by kernel_rfl) (by kernel_rfl) (by kernel_rfl) (by kernel_rfl) (fun _ _ _ h => h) (by kernel_rfl) (fun w' => by go_simp; try exact hw9) (fun _ => hH) ?_
        simp only [Act.put, List.setIfInBounds_toArray, List.set_cons_zero, List.set_cons_succ]
        refine AnyL.takeP 4 (some 100) (.pointer (some ⟨w.heap.size, 14, none⟩)) rfl rfl (by kernel_rfl) (by kernel_rfl) (by kernel_rfl) (by kernel_rfl) (fun _ _ _ h => h) (by kernel_rfl) (fun w' => by go_simp) (fun _ => hH) ?_
        simp only [Act.put, List.setIfInBounds_toArray, List.set_cons_zero, List.set_cons_succ]
        refine AnyL.take 5 (some 101) (.slice (some ⟨sb, so, none⟩) d.asl.length d.sc) rfl rfl (by kernel_rfl) (by kernel_rfl) (by kernel_rfl) (by kernel_rfl) (fun _ _ _ h => h) (yields_held _ (by kernel_rfl) (fun w' hw' => by have c1 := (wk.hin.kept hw' nI).cell h14; go_simp)) hH ?_
        simp only [Act.put, List.setIfInBounds_toArray, List.set_cons_zero, List.set_cons_succ]
        refine AnyL.takeP 6 (some 102) (.int .i64 j) rfl rfl (by kernel_rfl) (by kernel_rfl) (by kernel_rfl) (by kernel_rfl) (fun _ _ _ h => h) (by kernel_rfl) (fun w' => by go_simp) (fun _ => hH) ?_
        simp only [Act.put, List.setIfInBounds_toArray, List.set_cons_zero, List.set_cons_succ]
        refine AnyL.takeP 7 (some 103) (.pointer (some ⟨sb, so + j, none⟩)) rfl rfl (by kernel_rfl) (by kernel_rfl) (by kernel_rfl) (by kernel_rfl) (fun _ _ _ h => h) (by kernel_rfl) (fun w' => by go_simp) (fun _ => hH) ?_
        simp only [Act.put, List.setIfInBounds_toArray, List.set_cons_zero, List.set_cons_succ]
        refine AnyL.take 8 (some 104) (.int .u8 x5) rfl rfl (by kernel_rfl) (by kernel_rfl) (by kernel_rfl) (by kernel_rfl) (fun _ _ _ h => h) (yields_held _ (by kernel_rfl) (fun w' hw' => by have c1 := SLC.out _ (gk _ hw'); go_simp)) hH ?_
        simp only [Act.put, List.setIfInBounds_toArray, List.set_cons_zero, List.set_cons_succ]
        have hw10 : IntKind.i64.wrap x5 = x5 := by rw [IntKind.wrap_i64]; omega
        refine AnyL.takeP 9 (some 105) (.int .i64 x5) rfl rfl (by kernel_rfl) (by kernel_rfl) (by kernel_rfl) (by kernel_rfl) (fun _ _ _ h => h) (by kernel_rfl) (fun w' => by go_simp; try exact hw10) (fun _ => hH) ?_
        simp only [Act.put, List.setIfInBounds_toArray, List.set_cons_zero, List.set_cons_succ]
        refine AnyL.takeP 10 (some 106) (.agg #[.int .i64 (1 + (j : Int)), .int .i64 x5]) rfl rfl (by kernel_rfl) (by kernel_rfl) (by kernel_rfl) (by kernel_rfl) (fun _ _ _ h => h) (by kernel_rfl) (fun w' => by go_simp) (fun _ => hH) ?_
        simp only [Act.put, List.setIfInBounds_toArray, List.set_cons_zero, List.set_cons_succ]
        refine AnyL.one 11 (by kernel_rfl) rfl (by kernel_rfl) ?_
        refine wp_made (some 107) rfl _ _ (build_slp' _ rfl ⟨1 + (j : Int), x5⟩ (by kernel_rfl)) ?_
        refine ⟨fun _ => ((Gr.refl U3.drew).alloc #[.int .i64 (1 + (j : Int)), .int .i64 x5] 85).kp _, ?_⟩
        simp only [Act.put, List.setIfInBounds_toArray, List.set_cons_zero, List.set_cons_succ]
        obtain ⟨v', w', hr, ho, hgr, hbb⟩ := app_rec (ty := 37) slpL_len slpL_one (T := 37) Tryd.underlying37 infoSlp (by decide) (by decide) (by decide) hs3 ⟨1 + (j : Int), x5⟩ #[.int .i64 (1 + (j : Int)), .int .i64 x5] rfl (by rw [slpF_length, List.length_take]; omega) wk.gr.size
        refine AnyL.one 12 (by kernel_rfl) rfl (by kernel_rfl) ?_
        refine wp_app (some 108) rfl _ _ 37 rfl vs _ (by kernel_rfl) rfl v' w' hr ?_
        have kg : Kp (ob vs) U3.drew w' := (((Gr.refl U3.drew).alloc #[.int .i64 (1 + (j : Int)), .int .i64 x5] 85).kp (ob vs)).trans (Kp.grown hgr) (fun _ h => h) (fun _ h => .inl h)
        refine ⟨fun _ => kg, ?_⟩
        simp only [Act.put, List.setIfInBounds_toArray, List.set_cons_zero, List.set_cons_succ]
        replace hH := kg
        refine AnyL.takeP 13 (some 109) (.pointer (some ⟨g, 5, none⟩)) rfl rfl (by kernel_rfl) (by kernel_rfl) (by kernel_rfl) (by kernel_rfl) (fun _ _ _ h => h) (by kernel_rfl) (fun w' => by go_simp) (fun _ => hH) ?_
        simp only [Act.put, List.setIfInBounds_toArray, List.set_cons_zero, List.set_cons_succ]
        refine AnyL.one 14 (by kernel_rfl) rfl (by kernel_rfl) ?_
        obtain ⟨a9, c9, e9, -, -, -, -⟩ := own_at ho
        have cg := (wk.hw.kept kg nG).cell (o := 5) rfl
        rw [hvs3] at cg
        refine wp_store_slps' rfl _ _ rfl g 5 (by kernel_rfl) a9 _ c9 e9 _ _ _ cg ((wk.hw.kept kg nG).free 5) ?_
        refine ⟨late (by kernel_rfl), ?_⟩
        refine AnyL.done (by kernel_rfl) ?_
        rw [← e9]
        have JJ : Hid (W2 d w g (.slice sam d.mem.length dm) (pickF d.mem.length (roomN d.room) d.buf) (j + 1) (w'.setCell ⟨g, 5, none⟩ v')) := by
          show W2 d w g (.slice sam d.mem.length dm) (pickF d.mem.length (roomN d.room) d.buf) (j + 1) (w'.setCell ⟨g, 5, none⟩ v')
          unfold W2
          rw [show 1 + (j + 1) = 1 + j + 1 from by omega, HSN.out]
          exact ⟨_, _, _, v', vbuf, _, _, _, wk.step hs3 kg (by decide) (by decide) 5 v' rfl, own_stays wk (own_later HC3.out gd) hs3 kg (by decide) (by decide) (by decide) 5 v', own_stays wk (own_later HT3.out gd) hs3 kg (by decide) (by decide) (by decide) 5 v', own_stays wk (own_later HB3.out gd) hs3 kg (by decide) (by decide) (by decide) 5 v',
            own_stays wk (own_later HE3.out gd) hs3 kg (by decide) (by decide) (by decide) 5 v', own_new wk hs3 kg ho (by decide) 5 v', own_stays wk (own_later HM3.out gd) hs3 kg (by decide) (by decide) (by decide) 5 v'⟩
        clear cg hH kg hgr hr ho hbb gk wk hs3 nI nG gd WK HT3 HB3 HE3 HS3 HM3 HC3
        generalize w'.setCell ⟨g, 5, none⟩ v' = wr5 at JJ ⊢
        go_wp2_with (fail)
        go_roundw
        case rel => exact ⟨j + 1, by omega, by go_num, JJ.out⟩
        case measure => simp [intOf]; omega
      · have hjn : d.asl.length = j := by omega
        obtain ⟨sc1, tc1, rfl, -, -, -, -⟩ := own_at hc
        obtain ⟨st1, tt1, rfl, -, -, -, -⟩ := own_at ht
        obtain ⟨sg1, tg1, rfl, hgr, -, -, hgb⟩ := own_at hb
        obtain ⟨gb9, go9, rfl, hgc⟩ := hgr.get (by simp)
        obtain ⟨hbg, hgo, -⟩ := hgb _ rfl
        cases hgo
        obtain ⟨sv1, tv1, rfl, -, -, -, -⟩ := own_at hsl
        obtain ⟨B9, hB9⟩ := own_has hb (k := gb9) (by rw [mem_ob]; rfl)
        have hB0 : B9[0]? = some vbuf := by
          have := hgc 0 (by simp)
          rw [Nat.add_zero] at this
          have c := cell_of_row wr gb9 0 B9 27 (0, 0) hB9
          rw [c] at this
          exact this
        have hr2 := wk.hr.row (worA (.slice sc1 (1 + j) tc1) (.slice st1 (1 + j) tt1) (.slice (some ⟨gb9, 0, none⟩) (1 + j) tg1) (.slice sam d.mem.length dm) (1 + (d.room : Int) % 16) (.slice sv1 (slpF (d.asl.take j)).length tv1) (.slice none 0 0))
        have WW : Hid (WorldP d w (.returned (.agg (worA (.slice sc1 (1 + j) tc1) (.slice st1 (1 + j) tt1) (.slice (some ⟨gb9, 0, none⟩) (1 + j) tg1) (.slice sam d.mem.length dm) (1 + (d.room : Int) % 16) (.slice sv1 (slpF (d.asl.take j)).length tv1) (.slice none 0 0)))) (wr.setRow (w.heap.size + 1) (worA (.slice sc1 (1 + j) tc1) (.slice st1 (1 + j) tt1) (.slice (some ⟨gb9, 0, none⟩) (1 + j) tg1) (.slice sam d.mem.length dm) (1 + (d.room : Int) % 16) (.slice sv1 (slpF (d.asl.take j)).length tv1) (.slice none 0 0)))) := by
          have q := Kp.setRow wr (w.heap.size + 1) (worA (.slice sc1 (1 + j) tc1) (.slice st1 (1 + j) tt1) (.slice (some ⟨gb9, 0, none⟩) (1 + j) tg1) (.slice sam d.mem.length dm) (1 + (d.room : Int) % 16) (.slice sv1 (slpF (d.asl.take j)).length tv1) (.slice none 0 0))
          have nn : ∀ {t sz n v xs}, wr.ownsRow w.heap.size t sz v n xs → t ≠ 40 → (wr.setRow (w.heap.size + 1) (worA (.slice sc1 (1 + j) tc1) (.slice st1 (1 + j) tt1) (.slice (some ⟨gb9, 0, none⟩) (1 + j) tg1) (.slice sam d.mem.length dm) (1 + (d.room : Int) % 16) (.slice sv1 (slpF (d.asl.take j)).length tv1) (.slice none 0 0))).ownsRow w.heap.size t sz v n xs := fun h1 h2 => own_kept h1 q (fun x hx z => own_aside h1 wk.hr h2 (mem_ob.2 (by rw [hx, show x = w.heap.size + 1 by simpa using z])))
          refine ⟨_, _, _, _, _, _, _, vbuf, _, _, B9, ⟨rfl, wk.gr.setRow (by omega) _⟩, ⟨by omega, by omega, hbg⟩, hB9.kept q (by simpa using hB9.apart wk.hr (by decide)), hB0, nn he (by decide), ?_, nn hmm (by decide)⟩
          have hs9 := nn hsl (by decide)
          rw [← hjn, List.take_length] at hs9 ⊢
          exact hs9
        have c9 := wk.hw
        have r9 := wk.hr
        have one9 : (worA (.slice sc1 (1 + j) tc1) (.slice st1 (1 + j) tt1) (.slice (some ⟨gb9, 0, none⟩) (1 + j) tg1) (.slice sam d.mem.length dm) (1 + (d.room : Int) % 16) (.slice sv1 (slpF (d.asl.take j)).length tv1) (.slice none 0 0)).all (·.oneCell') = true := by simp [Value.oneCell']
        have sz9 : (worA (.slice sc1 (1 + j) tc1) (.slice st1 (1 + j) tt1) (.slice (some ⟨gb9, 0, none⟩) (1 + j) tg1) (.slice sam d.mem.length dm) (1 + (d.room : Int) % 16) (.slice sv1 (slpF (d.asl.take j)).length tv1) (.slice none 0 0)).size = 8 := rfl
        clear wk hc ht hb he hsl hmm hgr hgc hB9 hB0 hbg
        generalize (worA (.slice sc1 (1 + j) tc1) (.slice st1 (1 + j) tt1) (.slice (some ⟨gb9, 0, none⟩) (1 + j) tg1) (.slice sam d.mem.length dm) (1 + (d.room : Int) % 16) (.slice sv1 (slpF (d.asl.take j)).length tv1) (.slice none 0 0)) = C9 at c9 hr2 WW one9 sz9
        go_wp2_with (first
          | (refine load_wor rfl _ rfl g rfl C9 c9 sz9 ?_)
          | (refine store_wor rfl _ _ rfl (w.heap.size + 1) rfl C9 rfl wor0 r9 sz9 rfl one9 ?_))
        exact bodyPost_ret (results_wor rfl _ _ (w.heap.size + 1) C9 rfl hr2 sz9) rfl WW.out
end Go.Proofs.YtbmlliohepidaaaDoor
