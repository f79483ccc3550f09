/-
  What the document's New makes of a program: its world. No condition but that the program lies in the world, with no more codes and words than there may be.
-/
import Derived.Test.YtfhplbmgjgfihaaGreatDoorZzaa
import Derived.Test.YtfhplbmgjgfihaaGreatDoorZzas
import Derived.Test.YtfhplbmgjgfihaaGreatDoorZzat
import Derived.Deep.CutRange
namespace Go.Proofs.YtfhplbmgjgfihaaGreatDoor.Wl
open Go.Proofs.YtfhplbmgjgfihaaGreatDoor.Mc Go.ChangeShapes Go.WideShapes Go.ChangeAt Go.RowKit
set_option linter.unusedVariables false
set_option maxRecDepth 20000
abbrev wz : Array Value := #[.slice none 0 0, .slice none 0 0, .slice none 0 0, .slice none 0 0, .int .i64 0, .slice none 0 0, .slice none 0 0, .bool false]
theorem infoW8 : (Tryz.prog.info? 41).map (·.size) = some 8 := by kernel_rfl
theorem infoBz : (Tryz.prog.info? 47).map (fun i => (i.zero, i.size, i.bytes)) = some (some (.slice none 0 0), 1, 24) := by kernel_rfl
theorem alloc_w {o : Oper} {a : Act} {w : World} (ho : o.op = .alloc 41) : (execOp a.eval o).run Tryz.prog w = .ok (.value (.pointer (some ⟨w.heap.size, 0, none⟩))) (w.alloc (.cells wz 41)) := by
  unfold execOp
  simp only [ho]
  go_simp
theorem build_w0 {o : Oper} {a : Act} {w : World} (ho : o.op = .buildSlice 23 0 #[]) : (execOp a.eval o).run Tryz.prog w = .ok (.value (.slice (some ⟨w.heap.size, 0, none⟩) 0 0)) (w.alloc (.cells #[] 43)) := by
  unfold execOp
  simp only [ho]
  go_simp
theorem wp_store_wor {o : Oper} {a : Act} {w : World} {K : Act → World → Prop} {Q : Exit → Act → World → Prop} (hd0 : o.dst = none) (x y : Operand) (ho : o.op = .store 41 x y) (g : Nat) (hx : a.eval x = .pointer (some ⟨g, 0, none⟩)) (C : Array Value) (hy : a.eval y = .agg C) (D : Array Value)
    (hg : Has w g D 41) (hC : C.size = 8) (hD : D.size = 8) (h1 : C.all (·.oneCell') = true) (h : K a (w.setRow g C)) : Oper.wp Tryz.prog o a w K Q :=
  wp_store_row 41 x y ho g C hx hy 41 D hg (by rw [hC]; exact infoW8) (by omega) h1 (by rw [hd0]; exact h)
theorem store_wor {ops : Array Oper} {rest : List Oper} {op : Oper} {a : Act} {w : World} {Q : Exit → Act → World → Prop} (hgd : op.guard = none) (x y : Operand) (ho : op.op = .store 41 x y) (g : Nat) (hx : a.eval x = .pointer (some ⟨g, 0, none⟩)) (C : Array Value) (hy : a.eval y = .agg C) (D : Array Value)
    (hg : Has w g D 41) (hC : C.size = 8) (hD : D.size = 8) (h1 : C.all (·.oneCell') = true) (h : wpList Tryz.prog ops Q rest (a.put op.dst undef) (w.setRow g C)) : wpList Tryz.prog ops Q (op :: rest) a w :=
  wpList_store_row hgd 41 x y ho g C hx hy 41 D hg (by rw [hC]; exact infoW8) (by omega) h1 h
theorem load_wor {ops : Array Oper} {rest : List Oper} {op : Oper} {a : Act} {w : World} {Q : Exit → Act → World → Prop} (hgd : op.guard = none) (x : Operand) (ho : op.op = .load 41 x) (g : Nat) (hx : a.eval x = .pointer (some ⟨g, 0, none⟩)) (C : Array Value)
    (hg : Has w g C 41) (hC : C.size = 8) (h : wpList Tryz.prog ops Q rest (a.put op.dst (.agg C)) w) : wpList Tryz.prog ops Q (op :: rest) a w :=
  wpList_load_row hgd 41 x ho g hx 41 C (0, 0) _ hg Tryz.underlying41 rfl (by rw [hC]; exact infoW8) h
theorem results_wor {fn : Func} {p : Tmp} (h : fn.results = #[.cell p 41]) (tmps : Array Value) (w : World) (g : Nat) (C : Array Value) (hp : tmps.getD p undef = .pointer (some ⟨g, 0, none⟩)) (hg : Has w g C 41) (hC : C.size = 8) :
    (results fn tmps).run Tryz.prog w = .ok (.agg C) w :=
  results_cell_row h tmps w g 41 C (0, 0) _ hp hg Tryz.underlying41 rfl (by rw [hC]; exact infoW8)

/-- slices of a world that is being made -/
abbrev vz (tv bv mv : Value) : Wv := ⟨tv, bv, mv, .slice none 0 0, .slice none 0 0, []⟩
/-- a world that is being made: so many threads are there -/
structure NwJ (w : World) (p : Pgm) (pb rb g : Nat) (j i : Nat) (tv bv mv : Value) (u : World) : Prop where
  gr : Gr w u
  hp : Has u pb (pgA p) 25
  hr : Has u rb wz 41
  hw : Has u g (wldA p (vz tv bv mv) p.room) 41
  th : u.ownsRow w.heap.size 46 10 tv j (flatOf thR (List.replicate j thZ))
  bf : u.ownsRow w.heap.size 47 1 bv i (List.replicate i (.slice none 0 0))
  mem : WordsO u w.heap.size mv p.mem
  lr : w.heap.size ≤ rb
  lg : w.heap.size ≤ g
  ne : rb ≠ g
  np : pb ≠ g
theorem NwJ.aside {w : World} {p : Pgm} {pb rb g j i : Nat} {tv bv mv : Value} {u u' : World} (h : NwJ w p pb rb g j i tv bv mv u) {t : TypeId} {sz n : Nat} {v : Value} {xs : List Value} (ho : u.ownsRow w.heap.size t sz v n xs) (ht1 : t ≠ 25) (ht2 : t ≠ 41) (q : u.grownBy u' v.ownBlock) :
    Has u' pb (pgA p) 25 ∧ Has u' rb wz 41 ∧ Has u' g (wldA p (vz tv bv mv) p.room) 41 ∧ Gr w u' ∧ ∀ {t' sz' n' v' xs'}, u.ownsRow w.heap.size t' sz' v' n' xs' → t' ≠ t → u'.ownsRow w.heap.size t' sz' v' n' xs' :=
  ⟨h.hp.kept (Kp.grown q) (own_aside ho h.hp ht1), h.hr.kept (Kp.grown q) (own_aside ho h.hr ht2), h.hw.kept (Kp.grown q) (own_aside ho h.hw ht2), grown_gr h.gr ho q (Nat.le_refl _), fun h' hne => own_kept h' (Kp.grown q) fun y h1 h2 => by
    obtain ⟨D, hD⟩ := own_has ho h2
    obtain ⟨E, hE⟩ := own_has h' (mem_ob.2 h1)
    exact hE.apart hD hne rfl⟩
theorem NwJ.later {w : World} {p : Pgm} {pb rb g j i : Nat} {tv bv mv : Value} {u u' : World} (h : NwJ w p pb rb g j i tv bv mv u) (q : Gr u u') : NwJ w p pb rb g j i tv bv mv u' :=
  ⟨h.gr.trans q, h.hp.later q, h.hr.later q, h.hw.later q, own_later h.th q, own_later h.bf q, own_later h.mem q, h.lr, h.lg, h.ne, h.np⟩
abbrev thz : Array Value := #[.int .i64 0, .int .u32 0, .int .u32 0, .int .u32 0, .int .u32 0, .int .u32 0, .int .u32 0, .int .u32 0, .int .u32 0, .int .i64 0]
theorem thR_one (t : Th) : ∀ u ∈ thR t, u.oneCell' = true := by
  intro u hu
  unfold thR at hu
  rcases List.mem_cons.1 hu with rfl | hu
  · rfl
  · rcases List.mem_append.1 hu with h | h
    · obtain ⟨x, _, rfl⟩ := List.mem_map.1 h; rfl
    · rw [List.mem_singleton.1 h]; rfl
/-- a thread more -/
theorem NwJ.thr {w : World} {p : Pgm} {pb rb g j i : Nat} {tv bv mv : Value} {u : World} (h : NwJ w p pb rb g j i tv bv mv u) (hj : j ≤ 8) :
    ∃ a c u', (Builtin.append_ #[36, 36] 36 #[tv, .slice (some ⟨u.heap.size, 0, none⟩) 1 1]).run Tryz.prog (u.alloc (.cells thz 46)) = .ok (.slice a (j + 1) c) u' ∧ u'.cell? ⟨g, 1, none⟩ = some tv ∧ u'.frozen? ⟨g, 1, none⟩ = false ∧ NwJ w p pb rb g (j + 1) i (.slice a (j + 1) c) bv mv (u'.setCell ⟨g, 1, none⟩ (.slice a (j + 1) c)) := by
  have h1 := h.later ((Gr.refl u).alloc thz 46)
  have ho := h.th
  have e : (List.replicate j thZ).length = j := List.length_replicate
  obtain ⟨v', u', hr, ho', hg, -⟩ := app_rec (l := List.replicate j thZ) (ty := 36) (T := 36) thR_len thR_one Tryz.underlying36 infoTz (by decide) (by decide) (by decide) (by rw [e]; exact ho) thZ thz rfl (by rw [e]; omega) h.gr.size
  have e2 : List.replicate j thZ ++ [thZ] = List.replicate (j + 1) thZ := List.replicate_succ'.symm
  rw [e2, List.length_replicate] at ho'
  obtain ⟨a, c, rfl, -⟩ := own_at ho'
  obtain ⟨k1, k2, k3, k4, k5⟩ := h1.aside h1.th (by decide) (by decide) hg
  have K := Kp.setCell u' g 1 (.slice a (j + 1) c)
  have row : ∀ {t sz n v xs}, u'.ownsRow w.heap.size t sz v n xs → t ≠ 41 → (u'.setCell ⟨g, 1, none⟩ (.slice a (j + 1) c)).ownsRow w.heap.size t sz v n xs := fun h1 h2 => own_kept h1 K (fun x hx z => own_aside h1 k3 h2 (mem_ob.2 (by rw [hx, show x = g by simpa using z])))
  exact ⟨a, c, u', hr, k3.cell (o := 1) rfl, k3.free 1, k4.setCell (a := ⟨g, 1, none⟩) h.lg _, k1.aside h.np 1 _, k2.aside h.ne 1 _, (k3.set 1 _).of rfl, row ho' (by decide), row (k5 h1.bf (by decide)) (by decide), row (k5 h1.mem (by decide)) (by decide), h.lr, h.lg, h.ne, h.np⟩
/-- a buffer more -/
theorem NwJ.bff {w : World} {p : Pgm} {pb rb g j i : Nat} {tv bv mv : Value} {u : World} (h : NwJ w p pb rb g j i tv bv mv u) (hj : i ≤ 8) :
    ∃ a c u', (Builtin.append_ #[37, 37] 37 #[bv, .slice (some ⟨u.heap.size, 0, none⟩) 1 1]).run Tryz.prog (u.alloc (.cells #[.slice none 0 0] 47)) = .ok (.slice a (i + 1) c) u' ∧ u'.cell? ⟨g, 2, none⟩ = some bv ∧ u'.frozen? ⟨g, 2, none⟩ = false ∧ NwJ w p pb rb g j (i + 1) tv (.slice a (i + 1) c) mv (u'.setCell ⟨g, 2, none⟩ (.slice a (i + 1) c)) := by
  have h1 := h.later ((Gr.refl u).alloc #[.slice none 0 0] 47)
  obtain ⟨v', u', hr, ho', hg, -⟩ := app_row (ty := 37) (T := 37) Tryz.underlying37 infoBz (by decide) (by decide) (by decide) h1.bf (some ⟨u.heap.size, 0, none⟩) 1 1 [.slice none 0 0] (Has.rowAt (Has.new u _ _)) (fun q => by cases q) rfl (by simp [Value.oneCell']) (by omega) (by have := h.gr.size; simp; omega)
  rw [show List.replicate i (Value.slice none 0 0) ++ [.slice none 0 0] = List.replicate (i + 1) (.slice none 0 0) from List.replicate_succ'.symm] at ho'
  obtain ⟨a, c, rfl, -⟩ := own_at ho'
  obtain ⟨k1, k2, k3, k4, k5⟩ := h1.aside h1.bf (by decide) (by decide) hg
  have K := Kp.setCell u' g 2 (.slice a (i + 1) c)
  have row : ∀ {t sz n v xs}, u'.ownsRow w.heap.size t sz v n xs → t ≠ 41 → (u'.setCell ⟨g, 2, none⟩ (.slice a (i + 1) c)).ownsRow w.heap.size t sz v n xs := fun h1 h2 => own_kept h1 K (fun x hx z => own_aside h1 k3 h2 (mem_ob.2 (by rw [hx, show x = g by simpa using z])))
  exact ⟨a, c, u', hr, k3.cell (o := 2) rfl, k3.free 2, k4.setCell (a := ⟨g, 2, none⟩) h.lg _, k1.aside h.np 2 _, k2.aside h.ne 2 _, (k3.set 2 _).of rfl, row (k5 h1.th (by decide)) (by decide), row ho' (by decide), row (k5 h1.mem (by decide)) (by decide), h.lr, h.lg, h.ne, h.np⟩
/-- what is so around New's loop -/
def NwR (w : World) (p : Pgm) (g : Nat) (mv : Value) (i : Value) (u : World) : Prop := ∃ (j : Nat) (tv bv : Value), j ≤ p.codes.length ∧ i = .int .i64 j ∧ NwJ w p w.heap.size (w.heap.size + 1) g j j tv bv mv u
theorem nwR_more {w : World} {p : Pgm} {g j : Nat} {mv tv bv : Value} {u : World} (hj : j < p.codes.length) (h : NwJ w p w.heap.size (w.heap.size + 1) g (j + 1) (j + 1) tv bv mv u) : NwR w p g mv (.int .i64 ((j : Int) + 1)) u := ⟨j + 1, tv, bv, by omega, by simp, h⟩
/-- what New answers -/
def NewsP (p : Pgm) (w : World) (r : Ending) (w' : World) : Prop :=
  ∃ tv bv mv, (r = .returned (.agg (wldA p (vz tv bv mv) p.room)) ∧ Gr w w') ∧ (w'.ownsRow w.heap.size 46 10 tv p.codes.length (flatOf thR (List.replicate p.codes.length thZ)) ∧
    w'.ownsRow w.heap.size 47 1 bv p.codes.length (List.replicate p.codes.length (.slice none 0 0))) ∧ WordsO w' w.heap.size mv p.mem

set_option maxHeartbeats 4000000 in
theorem news_calls (p : Pgm) (w : World) (h : PgAt p w) (hn : p.codes.length ≤ 8) (hm : p.mem.length ≤ 1024) :
    Calls Tryz.prog 16 #[.agg (pgA p), .bool false] w (NewsP p w) := by
  have hp := (Has.new w (pgA p) 25).alloc wz 41
  have hr := Has.new (w.alloc (.cells (pgA p) 25)) wz 41
  rw [World.size_alloc] at hr
  have gg := ((Gr.refl w).alloc (pgA p) 25).alloc wz 41
  have HN := hide h.nil
  have HMEM := hide h.mem
  clear h
  rw [show Value.agg (pgA p) = .agg #[.slice p.ca p.codes.length p.cc, .slice p.ma p.mem.length p.mc, .int .i64 p.room] from rfl]
  go_enter Tryz.func16, Tryz.ntmps16
  go_upto_region 1 with (fail)
  change Code.wp _ _ _ _ ((w.alloc (.cells (pgA p) 25)).alloc (.cells wz 41))
  have hsz : ((w.alloc (.cells (pgA p) 25)).alloc (.cells wz 41)).heap.size = w.heap.size + 2 := by simp
  generalize (w.alloc (.cells (pgA p) 25)).alloc (.cells wz 41) = u0 at hp hr gg hsz ⊢
  replace hp := hp.drew
  replace hr := hr.drew
  replace gg := gg.drew
  have hszd : u0.drew.heap.size = w.heap.size + 2 := hsz
  have hrw := HMEM.out.later gg
  have fin : ∀ (u : World) (mv : Value) (g : Nat), Gr u0.drew u → u0.drew.heap.size ≤ g → Has u g wz 41 → WordsO u w.heap.size mv p.mem → NwJ w p w.heap.size (w.heap.size + 1) g 0 0 (.slice none 0 0) (.slice none 0 0) mv (u.setRow g (wldA p (vz (.slice none 0 0) (.slice none 0 0) mv) p.room)) := by
    intro u mv g gu hg hG ho
    refine ⟨(gg.trans gu).setRow (by omega) _, (hp.later gu).rowAside (by omega) _, (hr.later gu).rowAside (by omega) _, hG.row _, own_nil _ _ _ _, own_nil _ _ _ _, ?_, by omega, by omega, by omega, by omega⟩
    exact own_kept ho (Kp.setRow u g _) fun x hx z => own_aside ho hG (by decide) (mem_ob.2 (by rw [hx, show x = g by simpa using z]))
  have FIN := hide fin
  clear fin
  refine begin_late 12 [11] (fun w' => Gr u0.drew w') (by kernel_rfl) rfl ?_
  have hH : Gr u0.drew u0.drew := Gr.refl _
  refine AnyL.pp 0 7 (.pointer (some ⟨w.heap.size, 0, none⟩)) rfl rfl (by kernel_rfl) (fun _ _ _ h => h) (fun _ => by go_simp) hH ?_
  simp only [pz, pz0, pzs]
  refine AnyL.tt 1 8 (.slice p.ca p.codes.length p.cc) rfl rfl (by kernel_rfl) (fun _ _ _ h => h) (fun w' hw' => by have c1 := (hp.later hw').cell (o := 0) (v := .slice p.ca p.codes.length p.cc) rfl; go_simp) hH ?_
  simp only [pz, pz0, pzs]
  refine AnyL.pp 3 10 (.pointer (some ⟨w.heap.size, 1, none⟩)) rfl rfl (by kernel_rfl) (fun _ _ _ h => h) (fun _ => by go_simp) hH ?_
  simp only [pz, pz0, pzs]
  refine AnyL.tt 4 11 (.slice p.ma p.mem.length p.mc) rfl rfl (by kernel_rfl) (fun _ _ _ h => h) (fun w' hw' => by have c1 := (hp.later hw').cell (o := 1) (v := .slice p.ma p.mem.length p.mc) rfl; go_simp) hH ?_
  simp only [pz, pz0, pzs]
  refine AnyL.pp 6 13 (.pointer (some ⟨w.heap.size, 2, none⟩)) rfl rfl (by kernel_rfl) (fun _ _ _ h => h) (fun _ => by go_simp) hH ?_
  simp only [pz, pz0, pzs]
  refine AnyL.tt 7 14 (.int .i64 p.room) rfl rfl (by kernel_rfl) (fun _ _ _ h => h) (fun w' hw' => by have c1 := (hp.later hw').cell (o := 2) (v := .int .i64 p.room) rfl; go_simp) hH ?_
  simp only [pz, pz0, pzs]
  refine AnyL.pp 8 15 (.bool false) rfl rfl (by kernel_rfl) (fun _ _ _ h => h) (fun _ => by go_simp) hH ?_
  simp only [pz, pz0, pzs]
  refine AnyL.two 2 10 (by kernel_rfl) rfl rfl (by kernel_rfl) ?_ ?_
  refine wp_made (some 9) rfl _ _ (build_w0 rfl) ?_
  have hown : WordsO (u0.drew.alloc (.cells #[] 43)) u0.drew.heap.size (.slice (some ⟨u0.drew.heap.size, 0, none⟩) 0 0) [] := World.ownsRow_made _ #[] 0 hH.size (Nat.zero_le _) rfl
  replace hH := hH.alloc #[] 43
  refine ⟨fun _ => hH, ?_⟩
  generalize u0.drew.alloc (.cells #[] 43) = u1 at hown hH ⊢
  simp only [pz, pz0, pzs]
  refine AnyL.two 5 10 (by kernel_rfl) rfl rfl (by kernel_rfl) ?_ ?_
  obtain ⟨v5, w5, r5, o5, q5, -⟩ := app_recs (ty := 23) wordL_len wordL_one (T := 23) Tryz.underlying23 infoWrd (by decide) (by decide) (by decide) hown p.ma p.mc p.mem (hrw.later hH) (fun q => HN.out q) (by simp; omega) (by have := hH.size; omega)
  have g5 : Gr u0.drew w5 := Below.grown hH q5 hH.size (fun x hx => by have := (hown.lt x hx).1; omega)
  rw [List.nil_append] at o5
  obtain ⟨sa5, sc5, rfl, -, -, -, -⟩ := own_at o5
  refine wp_app (some 12) rfl _ _ 23 rfl _ _ rfl rfl _ w5 r5 ?_
  refine ⟨fun _ => g5, ?_⟩
  simp only [pz, pz0, pzs]
  replace hH := g5
  refine AnyL.pp 9 16 (.agg (wldA p (vz (.slice none 0 0) (.slice none 0 0) (.slice sa5 p.mem.length sc5)) p.room)) rfl rfl (by kernel_rfl) (fun _ _ _ h => h) (fun _ => by go_simp) hH ?_
  simp only [pz, pz0, pzs]
  refine AnyL.one 10 (by kernel_rfl) rfl (by kernel_rfl) ?_
  refine wp_made (some 5) rfl _ _ (alloc_w rfl) ?_
  have hG := Has.new w5 wz 41
  have hgl : u0.drew.heap.size ≤ w5.heap.size := g5.size
  replace hH := hH.alloc wz 41
  replace o5 := own_later o5 ((Gr.refl w5).alloc wz 41)
  refine ⟨fun _ => hH, ?_⟩
  simp only [pz, pz0, pzs]
  generalize w5.alloc (.cells wz 41) = w6 at hG hH o5 ⊢
  generalize w5.heap.size = g at hG hgl ⊢
  refine AnyL.one 11 (by kernel_rfl) rfl (by kernel_rfl) ?_
  refine wp_store_wor rfl _ _ rfl g (by kernel_rfl) (wldA p (vz (.slice none 0 0) (.slice none 0 0) (.slice sa5 p.mem.length sc5)) p.room) (by kernel_rfl) wz hG rfl rfl (by simp [Value.oneCell']) ?_
  refine ⟨late (by kernel_rfl), ?_⟩
  refine AnyL.done (by kernel_rfl) ?_
  have NI := FIN.out _ (.slice sa5 p.mem.length sc5) g hH hgl hG (own_lower o5 (by omega))
  clear hH hown g5 r5 q5 hp hr gg hrw hsz hszd HN FIN HMEM hG hgl o5
  rotate_left
  refine wp_made (some 5) rfl _ _ (alloc_w rfl) ?_
  have hG := Has.new u1 wz 41
  have hgl : u0.drew.heap.size ≤ u1.heap.size := hH.size
  replace hown := own_later hown ((Gr.refl u1).alloc wz 41)
  replace hH := hH.alloc wz 41
  refine ⟨fun _ => hH, ?_⟩
  simp only [pz, pz0, pzs]
  generalize u1.alloc (.cells wz 41) = u2 at hG hH hown ⊢
  generalize u1.heap.size = g at hG hgl ⊢
  refine AnyL.one 5 (by kernel_rfl) rfl (by kernel_rfl) ?_
  obtain ⟨v5, w5, r5, o5, q5, -⟩ := app_recs (ty := 23) wordL_len wordL_one (T := 23) Tryz.underlying23 infoWrd (by decide) (by decide) (by decide) hown p.ma p.mc p.mem (hrw.later hH) (fun q => HN.out q) (by simp; omega) (by have := hH.size; omega)
  have g5 : Gr u0.drew w5 := Below.grown hH q5 hH.size (fun x hx => by have := (hown.lt x hx).1; omega)
  rw [List.nil_append] at o5
  obtain ⟨sa5, sc5, rfl, -, -, -, -⟩ := own_at o5
  replace hG : Has w5 g wz 41 := hG.kept (Kp.grown q5) (own_aside hown hG (by decide))
  refine wp_app (some 12) rfl _ _ 23 rfl _ _ rfl rfl _ w5 r5 ?_
  refine ⟨fun _ => g5, ?_⟩
  simp only [pz, pz0, pzs]
  replace hH := g5
  refine AnyL.pp 9 16 (.agg (wldA p (vz (.slice none 0 0) (.slice none 0 0) (.slice sa5 p.mem.length sc5)) p.room)) rfl rfl (by kernel_rfl) (fun _ _ _ h => h) (fun _ => by go_simp) hH ?_
  simp only [pz, pz0, pzs]
  refine AnyL.one 11 (by kernel_rfl) rfl (by kernel_rfl) ?_
  refine wp_store_wor rfl _ _ rfl g (by kernel_rfl) (wldA p (vz (.slice none 0 0) (.slice none 0 0) (.slice sa5 p.mem.length sc5)) p.room) (by kernel_rfl) wz hG rfl rfl (by simp [Value.oneCell']) ?_
  refine ⟨late (by kernel_rfl), ?_⟩
  refine AnyL.done (by kernel_rfl) ?_
  have NI := FIN.out _ (.slice sa5 p.mem.length sc5) g hH hgl hG (own_lower o5 (by omega))
  clear hH hown g5 r5 q5 hp hr gg hrw hsz hszd HN FIN HMEM hG hgl o5
  rotate_left
  refine wp_made (some 5) rfl _ _ (alloc_w rfl) ?_
  have hG := Has.new u0.drew wz 41
  have hgl : u0.drew.heap.size ≤ u0.drew.heap.size := Nat.le_refl _
  replace hH := hH.alloc wz 41
  refine ⟨fun _ => hH, ?_⟩
  simp only [pz, pz0, pzs]
  refine AnyL.one 2 (by kernel_rfl) rfl (by kernel_rfl) ?_
  refine wp_made (some 9) rfl _ _ (build_w0 rfl) ?_
  have hown : WordsO ((u0.drew.alloc (.cells wz 41)).alloc (.cells #[] 43)) u0.drew.heap.size (.slice (some ⟨(u0.drew.alloc (.cells wz 41)).heap.size, 0, none⟩) 0 0) [] := World.ownsRow_made _ #[] 0 hH.size (Nat.zero_le _) rfl
  replace hH := hH.alloc #[] 43
  replace hG := hG.alloc #[] 43
  refine ⟨fun _ => hH, ?_⟩
  simp only [pz, pz0, pzs]
  generalize (u0.drew.alloc (.cells wz 41)).alloc (.cells #[] 43) = u2 at hG hH hown ⊢
  generalize (u0.drew.alloc (.cells wz 41)).heap.size = z9 at hown ⊢
  refine AnyL.one 5 (by kernel_rfl) rfl (by kernel_rfl) ?_
  obtain ⟨v5, w5, r5, o5, q5, -⟩ := app_recs (ty := 23) wordL_len wordL_one (T := 23) Tryz.underlying23 infoWrd (by decide) (by decide) (by decide) hown p.ma p.mc p.mem (hrw.later hH) (fun q => HN.out q) (by simp; omega) (by have := hH.size; omega)
  have g5 : Gr u0.drew w5 := Below.grown hH q5 hH.size (fun x hx => by have := (hown.lt x hx).1; omega)
  rw [List.nil_append] at o5
  obtain ⟨sa5, sc5, rfl, -, -, -, -⟩ := own_at o5
  replace hG : Has w5 u0.drew.heap.size wz 41 := hG.kept (Kp.grown q5) (own_aside hown hG (by decide))
  refine wp_app (some 12) rfl _ _ 23 rfl _ _ rfl rfl _ w5 r5 ?_
  refine ⟨fun _ => g5, ?_⟩
  simp only [pz, pz0, pzs]
  replace hH := g5
  refine AnyL.pp 9 16 (.agg (wldA p (vz (.slice none 0 0) (.slice none 0 0) (.slice sa5 p.mem.length sc5)) p.room)) rfl rfl (by kernel_rfl) (fun _ _ _ h => h) (fun _ => by go_simp) hH ?_
  simp only [pz, pz0, pzs]
  refine AnyL.one 11 (by kernel_rfl) rfl (by kernel_rfl) ?_
  refine wp_store_wor rfl _ _ rfl u0.drew.heap.size (by kernel_rfl) (wldA p (vz (.slice none 0 0) (.slice none 0 0) (.slice sa5 p.mem.length sc5)) p.room) (by kernel_rfl) wz hG rfl rfl (by simp [Value.oneCell']) ?_
  refine ⟨late (by kernel_rfl), ?_⟩
  refine AnyL.done (by kernel_rfl) ?_
  have NI := FIN.out _ (.slice sa5 p.mem.length sc5) u0.drew.heap.size hH hgl hG (own_lower o5 (by omega))
  clear hH hown g5 r5 q5 hp hr gg hrw hsz hszd HN FIN HMEM hG hgl o5
  generalize u0.drew.heap.size = g at NI ⊢
  rotate_left
  all_goals
    (generalize Value.slice sa5 p.mem.length sc5 = mv at NI ⊢
     generalize World.setRow _ _ _ = u9 at NI ⊢
     have NI2 := hide NI
     clear NI
     go_wp2_with (fail)
     go_loopw [6] (fun i wr => NwR w p g mv i wr) (fun i _ => p.codes.length - (intOf i).toNat)
     case atStart => exact ⟨0, _, _, by omega, rfl, NI2.out⟩
     case round =>
       clear NI2
       obtain ⟨j, tv, bv, hj, rfl, h⟩ := hrel
       have k0 := h.hp.cell (o := 0) (v := .slice p.ca p.codes.length p.cc) rfl
       by_cases hlt : j < p.codes.length
       · have hlt' : (j : Int) < p.codes.length := by omega
         obtain ⟨st, dt, rfl, -⟩ := own_at h.th
         obtain ⟨sb, db, rfl, -⟩ := own_at h.bf
         obtain ⟨a1, c1, w1, r1, f1, f1', h1⟩ := h.thr (by omega)
         have kt := h.hw.cell (o := 1) (v := .slice st j dt) rfl
         have H1 := hide h1
         have R1 := hide r1
         clear h h1 r1
         go_upto_region 6 with (first
           | (refine step_app rfl (some 28) rfl _ _ _ rfl (.slice st j dt) (.slice (some ⟨wr.heap.size, 0, none⟩) 1 1) rfl rfl (.slice a1 (j + 1) c1) w1 (by exact R1.out) ?_))
         clear k0 kt f1 f1' R1
         have h1 := H1.out
         clear H1
         generalize w1.setCell ⟨g, 1, none⟩ (.slice a1 (j + 1) c1) = w2 at h1 ⊢
         obtain ⟨a2, c2, w3, r2, f2, f2', h2⟩ := h1.bff (by omega)
         have kb := h1.hw.cell (o := 2) (v := .slice sb j db) rfl
         have H2 := hide h2
         have R2 := hide r2
         clear h1 h2 r2
         go_wp2_with (first
           | (refine step_app rfl (some 33) rfl _ _ _ rfl (.slice sb j db) (.slice (some ⟨w2.heap.size, 0, none⟩) 1 1) rfl rfl (.slice a2 (j + 1) c2) w3 (by exact R2.out) ?_))
         go_roundw
         case rel => first | exact nwR_more hlt H2.out | exact ⟨_, _, _, _, _, _, _, _, _, _, _, _, _, _, _, _, _, _, _, nwR_more hlt H2.out, rfl⟩
         case measure => simp [intOf]; omega
       · obtain rfl : j = p.codes.length := by omega
         have HJ := hide h
         have hw := h.hw
         have hr := h.hr
         clear h
         go_wp2_with (first
           | (refine load_wor rfl _ rfl g rfl _ hw rfl ?_)
           | (refine store_wor rfl _ _ rfl (w.heap.size + 1) rfl (wldA p (vz tv bv mv) p.room) rfl wz hr rfl rfl (by obtain ⟨a, c, rfl, -⟩ := own_at HJ.out.th; obtain ⟨a, c, rfl, -⟩ := own_at HJ.out.bf; obtain ⟨a, c, rfl, -⟩ := own_at HJ.out.mem; simp [Value.oneCell']) ?_))
         have hr2 := hr.row (wldA p (vz tv bv mv) p.room)
         have K := Kp.setRow wr (w.heap.size + 1) (wldA p (vz tv bv mv) p.room)
         have row : ∀ {t sz n v xs}, wr.ownsRow w.heap.size t sz v n xs → t ≠ 41 → (wr.setRow (w.heap.size + 1) (wldA p (vz tv bv mv) p.room)).ownsRow w.heap.size t sz v n xs := fun h1 h2 => own_kept h1 K (fun x hx z => own_aside h1 hr h2 (mem_ob.2 (by rw [hx, show x = w.heap.size + 1 by simpa using z])))
         exact bodyPost_ret (results_wor rfl _ _ (w.heap.size + 1) _ rfl hr2 rfl) rfl ⟨tv, bv, mv, ⟨rfl, HJ.out.gr.setRow (by omega) _⟩, ⟨row HJ.out.th (by decide), row HJ.out.bf (by decide)⟩, row HJ.out.mem (by decide)⟩)
end Go.Proofs.YtfhplbmgjgfihaaGreatDoor.Wl
