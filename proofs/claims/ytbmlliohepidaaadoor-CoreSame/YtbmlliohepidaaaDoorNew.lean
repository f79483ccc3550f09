/-
  What the document's New answers of a program of one code. No condition but what each law names.
-/
import Derived.Test.YtbmlliohepidaaaDoorRec
import Derived.Test.YtbmlliohepidaaaDoorFrm
namespace Go.Proofs.YtbmlliohepidaaaDoor
open Go.ChangeShapes Go.WideShapes Go.ChangeAt Go.RowKit
set_option linter.unusedVariables false

abbrev wor0 : Array Value := #[.slice none 0 0, .slice none 0 0, .slice none 0 0, .slice none 0 0, .int .i64 0, .slice none 0 0, .slice none 0 0, .bool false]
/-- the cells of a world whose codes, threads, buffers, memory, room, sleepers and events are these -/
abbrev worA (cs ths bs vm : Value) (room : Int) (vs ve : Value) : Array Value := #[cs, ths, bs, vm, .int .i64 room, vs, ve, .bool false]
theorem infoW8 : (Tryd.prog.info? 40).map (·.size) = some 8 := by kernel_rfl
theorem infoTh : (Tryd.prog.info? 25).map (fun i => (i.zero, i.size, i.bytes)) = some (some (.agg th0A), 10, 48) := by kernel_rfl
theorem infoBs : (Tryd.prog.info? 27).map (fun i => (i.zero, i.size, i.bytes)) = some (some (.slice none 0 0), 1, 24) := by kernel_rfl
theorem infoCs : (Tryd.prog.info? 26).map (fun i => (i.zero, i.size, i.bytes)) = some (some (.slice none 0 0), 1, 24) := by kernel_rfl
theorem alloc_w {o : Oper} {a : Act} {w : World} (ho : o.op = .alloc 40) : (execOp a.eval o).run Tryd.prog w = .ok (.value (.pointer (some ⟨w.heap.size, 0, none⟩))) (w.alloc (.cells wor0 40)) := by
  unfold execOp
  simp only [ho]
  go_simp
theorem build_w0 {o : Oper} {a : Act} {w : World} (ho : o.op = .buildSlice 28 0 #[]) : (execOp a.eval o).run Tryd.prog w = .ok (.value (.slice (some ⟨w.heap.size, 0, none⟩) 0 0)) (w.alloc (.cells #[] 22)) := by
  unfold execOp
  simp only [ho]
  go_simp
/-- a world is written whole -/
theorem wp_store_wor {o : Oper} {a : Act} {w : World} {K : Act → World → Prop} {Q : Exit → Act → World → Prop} (hd0 : o.dst = none) (x y : Operand) (ho : o.op = .store 40 x y) (g : Nat) (hx : a.eval x = .pointer (some ⟨g, 0, none⟩)) (C : Array Value) (hy : a.eval y = .agg C) (D : Array Value)
    (hg : Has w g D 40) (hC : C.size = 8) (hD : D.size = 8) (h1 : C.all (·.oneCell') = true) (h : K a (w.setRow g C)) : Oper.wp Tryd.prog o a w K Q :=
  wp_store_row 40 x y ho g C hx hy 40 D hg (by rw [hC]; exact infoW8) (by omega) h1 (by rw [hd0]; exact h)
theorem store_wor {ops : Array Oper} {rest : List Oper} {op : Oper} {a : Act} {w : World} {Q : Exit → Act → World → Prop} (hgd : op.guard = none) (x y : Operand) (ho : op.op = .store 40 x y) (g : Nat) (hx : a.eval x = .pointer (some ⟨g, 0, none⟩)) (C : Array Value) (hy : a.eval y = .agg C) (D : Array Value)
    (hg : Has w g D 40) (hC : C.size = 8) (hD : D.size = 8) (h1 : C.all (·.oneCell') = true) (h : wpList Tryd.prog ops Q rest (a.put op.dst undef) (w.setRow g C)) : wpList Tryd.prog ops Q (op :: rest) a w :=
  wpList_store_row hgd 40 x y ho g C hx hy 40 D hg (by rw [hC]; exact infoW8) (by omega) h1 h
theorem load_wor {ops : Array Oper} {rest : List Oper} {op : Oper} {a : Act} {w : World} {Q : Exit → Act → World → Prop} (hgd : op.guard = none) (x : Operand) (ho : op.op = .load 40 x) (g : Nat) (hx : a.eval x = .pointer (some ⟨g, 0, none⟩)) (C : Array Value)
    (hg : Has w g C 40) (hC : C.size = 8) (h : wpList Tryd.prog ops Q rest (a.put op.dst (.agg C)) w) : wpList Tryd.prog ops Q (op :: rest) a w :=
  wpList_load_row hgd 40 x ho g hx 40 C (0, 0) _ hg Tryd.underlying40 rfl (by rw [hC]; exact infoW8) h
theorem results_wor {fn : Func} {p : Tmp} (h : fn.results = #[.cell p 40]) (tmps : Array Value) (w : World) (g : Nat) (C : Array Value) (hp : tmps.getD p undef = .pointer (some ⟨g, 0, none⟩)) (hg : Has w g C 40) (hC : C.size = 8) :
    (results fn tmps).run Tryd.prog w = .ok (.agg C) w :=
  results_cell_row h tmps w g 40 C (0, 0) _ hp hg Tryd.underlying40 rfl (by rw [hC]; exact infoW8)

/-- what New answers -/
def NewP (w : World) (cs : Value) (mem : List Int) (room : Int) (e : Ending) (w' : World) : Prop :=
  ∃ v1 v2 vm, (e = .returned (.agg (worA cs v1 v2 vm room (.slice none 0 0) (.slice none 0 0))) ∧ Gr w w') ∧ w'.ownsRow w.heap.size 25 10 v1 1 th0A.toList ∧ w'.ownsRow w.heap.size 27 1 v2 1 [.slice none 0 0] ∧ WordsO w' w.heap.size vm mem

/-- what is so ahead of New's loop -/
structure NewI (w : World) (cb : Nat) (ma : Option Addr) (mc : Nat) (mem : List Int) (room : Int) (vm : Value) (g : Nat) (u : World) : Prop where
  gr : Gr w u
  hp : Has u w.heap.size #[.slice (some ⟨cb, 0, none⟩) 1 1, .slice ma mem.length mc, .int .i64 room] 59
  hr : Has u (w.heap.size + 1) wor0 40
  hw : Has u g (worA (.slice (some ⟨cb, 0, none⟩) 1 1) (.slice none 0 0) (.slice none 0 0) vm room (.slice none 0 0) (.slice none 0 0)) 40
  mem : WordsO u w.heap.size vm mem
  lt : w.heap.size + 1 < g

/-- what is so behind New's loop -/
def NewJ (w : World) (cb : Nat) (ma : Option Addr) (mc : Nat) (room : Int) (vm : Value) (mem : List Int) (g : Nat) (u : World) : Prop :=
  ∃ v1 v2, Gr w u ∧ Has u (w.heap.size + 1) wor0 40 ∧ Has u g (worA (.slice (some ⟨cb, 0, none⟩) 1 1) v1 v2 vm room (.slice none 0 0) (.slice none 0 0)) 40 ∧
    u.ownsRow w.heap.size 25 10 v1 1 th0A.toList ∧ u.ownsRow w.heap.size 27 1 v2 1 [.slice none 0 0] ∧ WordsO u w.heap.size vm mem ∧ Has u w.heap.size #[.slice (some ⟨cb, 0, none⟩) 1 1, .slice ma mem.length mc, .int .i64 room] 59 ∧ w.heap.size + 1 < g

/-- what is so around New's loop -/
def NewR (w : World) (cb : Nat) (ma : Option Addr) (mc : Nat) (mem : List Int) (room : Int) (vm : Value) (g : Nat) (i : Value) (wr : World) : Prop :=
  (i = .int .i64 0 ∧ NewI w cb ma mc mem room vm g wr) ∨ (i = .int .i64 1 ∧ NewJ w cb ma mc room vm mem g wr)

theorem newR_one {w : World} {cb : Nat} {ma : Option Addr} {mc : Nat} {mem : List Int} {room : Int} {vm : Value} {g : Nat} {wr : World} (h : NewJ w cb ma mc room vm mem g wr) : NewR w cb ma mc mem room vm g (.int .i64 1) wr := Or.inr ⟨rfl, h⟩

set_option maxRecDepth 20000 in
set_option maxHeartbeats 1600000 in
theorem new_calls (cb : Nat) (ma : Option Addr) (mc : Nat) (mem : List Int) (room : Int) (hm : mem.length ≤ 1000) (hnil : ma = none → mc = 0 ∧ mem = []) (w : World) (hrow : RowAt w ma (flatOf wordL mem)) :
    Calls Tryd.prog 27 #[.agg #[.slice (some ⟨cb, 0, none⟩) 1 1, .slice ma mem.length mc, .int .i64 room], .bool false] w (NewP w (.slice (some ⟨cb, 0, none⟩) 1 1) mem room) := by
  have hp := (Has.new w #[.slice (some ⟨cb, 0, none⟩) 1 1, .slice ma mem.length mc, .int .i64 room] 59).alloc wor0 40
  have hr := Has.new (w.alloc (.cells #[.slice (some ⟨cb, 0, none⟩) 1 1, .slice ma mem.length mc, .int .i64 room] 59)) wor0 40
  rw [size1] at hr
  have gg := ((Gr.refl w).alloc #[.slice (some ⟨cb, 0, none⟩) 1 1, .slice ma mem.length mc, .int .i64 room] 59).alloc wor0 40
  have hsz : ((w.alloc (.cells #[.slice (some ⟨cb, 0, none⟩) 1 1, .slice ma mem.length mc, .int .i64 room] 59)).alloc (.cells wor0 40)).heap.size = w.heap.size + 1 + 1 := by rw [size1, size1]
  have HN := hide hnil
  clear hnil
  go_enter Tryd.func27, Tryd.ntmps27
  go_wp2_with (fail)
  change Code.wp _ _ _ _ ((w.alloc (.cells #[.slice (some ⟨cb, 0, none⟩) 1 1, .slice ma mem.length mc, .int .i64 room] 59)).alloc (.cells wor0 40))
  generalize (w.alloc (.cells #[.slice (some ⟨cb, 0, none⟩) 1 1, .slice ma mem.length mc, .int .i64 room] 59)).alloc (.cells wor0 40) = u0 at hp hr gg hsz ⊢
  replace hp := hp.drew
  replace hr := hr.drew
  replace gg := gg.drew
  have hszd : u0.drew.heap.size = w.heap.size + 1 + 1 := hsz
  have hrw := hrow.later gg
  have fin : ∀ (u : World) (vm : Value) (g : Nat) (D : Array Value), Gr u0.drew u → u0.drew.heap.size ≤ g → Has u g wor0 40 → WordsO u w.heap.size vm mem → NewI w cb ma mc mem room vm g (u.setRow g (worA (.slice (some ⟨cb, 0, none⟩) 1 1) (.slice none 0 0) (.slice none 0 0) vm room (.slice none 0 0) (.slice none 0 0))) := by
    intro u vm g D gu hg hG ho
    refine ⟨(gg.trans gu).setRow (by omega) _, (hp.later gu).rowAside (by omega) _, (hr.later gu).rowAside (by omega) _, hG.row _, ?_, by omega⟩
    exact own_kept ho (Kp.setRow u g _) fun x hx z => own_aside ho hG (by decide) (mem_ob.2 (by rw [hx, show x = g by simpa using z]))
  have FIN := hide fin
  clear fin
  refine begin_late 12 [11] (fun w' => Gr u0.drew w') (by kernel_rfl) rfl ?_
  have hH : Gr u0.drew u0.drew := Gr.refl _
  refine AnyL.takeP 0 (some 7) (.pointer (some ⟨w.heap.size, 0, none⟩)) rfl rfl (by kernel_rfl) (by kernel_rfl) (by kernel_rfl) (by kernel_rfl) (fun _ _ _ h => h) (by kernel_rfl) (fun w' => by go_simp) (fun _ => hH) ?_
  simp only [Act.put, List.setIfInBounds_toArray, List.set_cons_zero, List.set_cons_succ]
  refine AnyL.take 1 (some 8) (.slice (some ⟨cb, 0, none⟩) 1 1) rfl rfl (by kernel_rfl) (by kernel_rfl) (by kernel_rfl) (by kernel_rfl) (fun _ _ _ h => h) (yields_held _ (by kernel_rfl) (fun w' hw' => by have c1 := (hp.later hw').cell (o := 0) rfl; go_simp)) hH ?_
  simp only [Act.put, List.setIfInBounds_toArray, List.set_cons_zero, List.set_cons_succ]
  refine AnyL.takeP 3 (some 10) (.pointer (some ⟨w.heap.size, 1, none⟩)) rfl rfl (by kernel_rfl) (by kernel_rfl) (by kernel_rfl) (by kernel_rfl) (fun _ _ _ h => h) (by kernel_rfl) (fun w' => by go_simp) (fun _ => hH) ?_
  simp only [Act.put, List.setIfInBounds_toArray, List.set_cons_zero, List.set_cons_succ]
  refine AnyL.take 4 (some 11) (.slice ma mem.length mc) rfl rfl (by kernel_rfl) (by kernel_rfl) (by kernel_rfl) (by kernel_rfl) (fun _ _ _ h => h) (yields_held _ (by kernel_rfl) (fun w' hw' => by have c1 := (hp.later hw').cell (o := 1) rfl; go_simp)) hH ?_
  simp only [Act.put, List.setIfInBounds_toArray, List.set_cons_zero, List.set_cons_succ]
  refine AnyL.takeP 6 (some 13) (.pointer (some ⟨w.heap.size, 2, none⟩)) rfl rfl (by kernel_rfl) (by kernel_rfl) (by kernel_rfl) (by kernel_rfl) (fun _ _ _ h => h) (by kernel_rfl) (fun w' => by go_simp) (fun _ => hH) ?_
  simp only [Act.put, List.setIfInBounds_toArray, List.set_cons_zero, List.set_cons_succ]
  refine AnyL.take 7 (some 14) (.int .i64 room) rfl rfl (by kernel_rfl) (by kernel_rfl) (by kernel_rfl) (by kernel_rfl) (fun _ _ _ h => h) (yields_held _ (by kernel_rfl) (fun w' hw' => by have c1 := (hp.later hw').cell (o := 2) rfl; go_simp)) hH ?_
  simp only [Act.put, List.setIfInBounds_toArray, List.set_cons_zero, List.set_cons_succ]
  refine AnyL.takeP 8 (some 15) (.bool false) rfl rfl (by kernel_rfl) (by kernel_rfl) (by kernel_rfl) (by kernel_rfl) (fun _ _ _ h => h) (by kernel_rfl) (fun w' => by go_simp) (fun _ => hH) ?_
  simp only [Act.put, List.setIfInBounds_toArray, List.set_cons_zero, List.set_cons_succ]
  refine AnyL.two 2 10 (by kernel_rfl) rfl rfl (by kernel_rfl) ?_ ?_
  · refine wp_made (some 9) rfl _ _ (build_w0 rfl) ?_
    have gnew : Gr u0.drew (u0.drew.alloc (.cells #[] 22)) := (Gr.refl u0.drew).alloc _ _
    have hown : WordsO (u0.drew.alloc (.cells #[] 22)) u0.drew.heap.size (.slice (some ⟨u0.drew.heap.size, 0, none⟩) 0 0) [] := World.ownsRow_made _ #[] 0 (Gr.refl u0.drew).size (Nat.zero_le _) rfl
    have gcur := gnew
    refine ⟨fun _ => gcur, ?_⟩
    simp only [Act.put, List.setIfInBounds_toArray, List.set_cons_zero, List.set_cons_succ]
    refine AnyL.two 5 10 (by kernel_rfl) rfl rfl (by kernel_rfl) ?_ ?_
    · obtain ⟨v5, w5, r5, o5, q5, -⟩ := app_recs (ty := 28) wordL_len wordL_one (T := 28) Tryd.underlying28 infoWrd (by decide) (by decide) (by decide) hown ma mc mem (hrw.later gcur) (fun q => HN.out q) (by simp; omega) (by have := gcur.size; omega)
      have g5 : Gr u0.drew w5 := Below.grown gcur q5 gcur.size (fun x hx => by have := (hown.lt x hx).1; omega)
      rw [List.nil_append] at o5
      obtain ⟨sa5, sc5, rfl, -, -, -, -⟩ := own_at o5
      refine wp_app (some 12) rfl _ _ 28 rfl _ _ rfl rfl _ w5 r5 ?_
      refine ⟨fun _ => g5, ?_⟩
      simp only [Act.put, List.setIfInBounds_toArray, List.set_cons_zero, List.set_cons_succ]
      replace hH := g5
      refine AnyL.takeP 9 (some 16) (.agg (worA (.slice (some ⟨cb, 0, none⟩) 1 1) (.slice none 0 0) (.slice none 0 0) (.slice sa5 mem.length sc5) room (.slice none 0 0) (.slice none 0 0))) rfl rfl (by kernel_rfl) (by kernel_rfl) (by kernel_rfl) (by kernel_rfl) (fun _ _ _ h => h) (by kernel_rfl) (fun w' => by go_simp) (fun _ => hH) ?_
      simp only [Act.put, List.setIfInBounds_toArray, List.set_cons_zero, List.set_cons_succ]
      refine AnyL.one 10 (by kernel_rfl) rfl (by kernel_rfl) ?_
      refine wp_made (some 5) rfl _ _ (alloc_w rfl) ?_
      have galc : Gr u0.drew (w5.alloc (.cells wor0 40)) := g5.alloc _ _
      have hG := Has.new w5 wor0 40
      have hgl : u0.drew.heap.size ≤ w5.heap.size := g5.size
      refine ⟨fun _ => galc, ?_⟩
      simp only [Act.put, List.setIfInBounds_toArray, List.set_cons_zero, List.set_cons_succ]
      replace hH := galc
      refine AnyL.one 11 (by kernel_rfl) rfl (by kernel_rfl) ?_
      refine wp_store_wor rfl _ _ rfl w5.heap.size (by kernel_rfl) (worA (.slice (some ⟨cb, 0, none⟩) 1 1) (.slice none 0 0) (.slice none 0 0) (.slice sa5 mem.length sc5) room (.slice none 0 0) (.slice none 0 0)) (by kernel_rfl) wor0 hG rfl rfl (by simp [Value.oneCell']) ?_
      refine ⟨late (by kernel_rfl), ?_⟩
      refine AnyL.done (by kernel_rfl) ?_
      have NI := hide (FIN.out _ (.slice sa5 mem.length sc5) w5.heap.size wor0 galc hgl hG (own_lower (own_later o5 ((Gr.refl w5).alloc wor0 40)) (by omega)))
      generalize (w5.alloc (.cells wor0 40)).setRow w5.heap.size (worA (.slice (some ⟨cb, 0, none⟩) 1 1) (.slice none 0 0) (.slice none 0 0) (.slice sa5 mem.length sc5) room (.slice none 0 0) (.slice none 0 0)) = u1 at NI ⊢
      generalize w5.heap.size = g at NI ⊢
      have NJ := NI.out
      clear NI
      clear hH hown gcur gnew g5 r5 q5 o5 galc hG hgl hp hr gg hrw hsz hszd HN FIN
      go_wp2_with (fail)
      go_loopw [6] (fun i wr => NewR w cb ma mc mem room (.slice sa5 mem.length sc5) g i wr) (fun i _ => 1 - (intOf i).toNat)
      case atStart => unfold NewR; exact Or.inl ⟨rfl, NJ⟩
      case round =>
        clear NJ
        rcases hrel with ⟨rfl, ni⟩ | ⟨rfl, nj⟩
        · have NI := hide ni
          have c0 := ni.hp.cell (o := 0) rfl
          obtain ⟨z, hz⟩ : ∃ z, z = Value.slice none 0 0 := ⟨_, rfl⟩
          have HZ := hide hz
          clear hz
          have on : ∀ (u : World) (t : TypeId) (sz : Nat), u.ownsRow w.heap.size t sz z 0 [] := fun u t sz => by rw [HZ.out]; exact own_nil _ _ _ _
          have oz : ob z = [] := by rw [HZ.out]; simp [ob, Value.ownBlock]
          have c1 : wr.cell? ⟨g, 1, none⟩ = some z := by rw [HZ.out]; exact ni.hw.cell (o := 1) rfl
          have f1 := ni.hw.free 1
          obtain ⟨v1, w1, r1, o1, q1, b1⟩ := app_row (ty := 35) (T := 35) Tryd.underlying35 infoTh (by decide) (by decide) (by decide) (on (wr.alloc (.cells th0A 25)) 25 10) (some ⟨wr.heap.size, 0, none⟩) 1 1 th0A.toList (Has.rowAt (Has.new wr _ _)) (fun q => by cases q) rfl (by simp [Value.oneCell']) (by omega) (by have := ni.gr.size; simp; omega)
          have gg1 : Gr w w1 := grown_gr (ni.gr.alloc th0A 25) (on _ 25 10) q1 (Nat.le_refl _)
          have k1 : Kp [] wr w1 := (((Gr.refl wr).alloc th0A 25).kp []).trans (Kp.grown q1) (by simp) (by simp [oz])
          obtain ⟨s1, d1, rfl, -, -, -, -⟩ := own_at o1
          have hw1 := (ni.hw.kept k1 (by simp)).set 1 (.slice s1 1 d1)
          have hp1 := (ni.hp.kept k1 (by simp)).aside (k := g) (by have := ni.lt; omega) 1 (.slice s1 1 d1)
          have hr1 := (ni.hr.kept k1 (by simp)).aside (k := g) (by have := ni.lt; omega) 1 (.slice s1 1 d1)
          have m1 := own_kept (own_kept ni.mem k1 (by simp)) (Kp.setCell w1 g 1 (.slice s1 1 d1)) (fun x hx z => own_aside ni.mem ni.hw (by decide) (mem_ob.2 (by rw [hx, show x = g by simpa using z])))
          have o1' := own_kept o1 (Kp.setCell w1 g 1 (.slice s1 1 d1)) (fun x hx z => own_aside o1 (ni.hw.kept k1 (by simp)) (by decide) (mem_ob.2 (by rw [hx, show x = g by simpa using z])))
          have gg2 : Gr w (w1.setCell ⟨g, 1, none⟩ (.slice s1 1 d1)) := gg1.setCell (by show w.heap.size ≤ g; have := ni.lt; omega) _
          have c2 : (w1.setCell ⟨g, 1, none⟩ (.slice s1 1 d1)).cell? ⟨g, 2, none⟩ = some z := by rw [HZ.out]; exact hw1.cell (o := 2) rfl
          have f2 := hw1.free 2
          have e2 : w1.cell? ⟨g, 2, none⟩ = some z := by rw [HZ.out]; exact (ni.hw.kept k1 (by simp)).cell (o := 2) rfl
          have e1 : w1.cell? ⟨g, 1, none⟩ = some z := by rw [HZ.out]; exact (ni.hw.kept k1 (by simp)).cell (o := 1) rfl
          have e1f := (ni.hw.kept k1 (by simp)).free 1
          have e2f := (ni.hw.kept k1 (by simp)).free 2
          generalize hW : w1.setCell ⟨g, 1, none⟩ (.slice s1 1 d1) = W2 at hw1 hp1 hr1 m1 o1' gg2 c2 f2
          obtain ⟨v2, w2, r2, o2, q2, b2⟩ := app_row (ty := 36) (T := 36) Tryd.underlying36 infoBs (by decide) (by decide) (by decide) (on (W2.alloc (.cells #[.slice none 0 0] 27)) 27 1) (some ⟨W2.heap.size, 0, none⟩) 1 1 [.slice none 0 0] (Has.rowAt (Has.new W2 _ _)) (fun q => by cases q) rfl (by simp [Value.oneCell']) (by omega) (by have := gg2.size; simp; omega)
          have gg3 : Gr w w2 := grown_gr (gg2.alloc #[.slice none 0 0] 27) (on _ 27 1) q2 (Nat.le_refl _)
          have k2 : Kp [] W2 w2 := (((Gr.refl W2).alloc #[.slice none 0 0] 27).kp []).trans (Kp.grown q2) (by simp) (by simp [oz])
          obtain ⟨s2, d2, rfl, -, -, -, -⟩ := own_at o2
          have e3 : w2.cell? ⟨g, 2, none⟩ = some z := by rw [HZ.out]; exact (hw1.kept k2 (by simp)).cell (o := 2) rfl
          have e3f := (hw1.kept k2 (by simp)).free 2
          have JJ : Hid (NewJ w cb ma mc room (.slice sa5 mem.length sc5) mem g (w2.setCell ⟨g, 2, none⟩ (.slice s2 1 d2))) := by
            have hwk := hw1.kept k2 (by simp)
            have ng : ∀ {t sz n v xs}, w2.ownsRow w.heap.size t sz v n xs → t ≠ 40 → (w2.setCell ⟨g, 2, none⟩ (.slice s2 1 d2)).ownsRow w.heap.size t sz v n xs := fun h1 h2 => own_kept h1 (Kp.setCell w2 g 2 _) (fun x hx z => own_aside h1 hwk h2 (mem_ob.2 (by rw [hx, show x = g by simpa using z])))
            exact ⟨.slice s1 1 d1, .slice s2 1 d2, gg3.setCell (by show w.heap.size ≤ g; have := ni.lt; omega) _, (hr1.kept k2 (by simp)).aside (by have := ni.lt; omega) _ _, hwk.set 2 _, ng (own_kept o1' k2 (by simp)) (by decide), ng o2 (by decide), ng (own_kept m1 k2 (by simp)) (by decide), (hp1.kept k2 (by simp)).aside (by have := ni.lt; omega) _ _, ni.lt⟩
          subst hW
          have es : (w1.setCell ⟨g, 1, none⟩ (.slice s1 1 d1)).heap.size = w1.heap.size := by simp
          rw [es] at r2
          clear es
          clear hw1 hp1 hr1 m1 o1' o1 o2 gg1 gg2 gg3 k1 k2 q1 q2 b1 b2 ni on oz
          go_wp2_with (first
            | (refine step_app rfl (some 28) rfl _ _ _ rfl z (.slice (some ⟨wr.heap.size, 0, none⟩) 1 1) rfl rfl (.slice s1 1 d1) w1 (by exact r1) ?_)
            | (refine step_app rfl (some 33) rfl _ _ _ rfl z (.slice (some ⟨w1.heap.size, 0, none⟩) 1 1) rfl rfl (.slice s2 1 d2) w2 (by exact r2) ?_))
          go_roundw
          case rel => exact ⟨_, _, _, _, _, _, _, _, _, _, _, _, _, _, _, _, _, _, _, newR_one JJ.out, rfl⟩
          case measure => simp [intOf]
        · obtain ⟨v1, v2, gr, hr, hw, ot, ob', om, hp, hlt⟩ := nj
          have c0 := hp.cell (o := 0) rfl
          obtain ⟨s1, d1, rfl, -, -, -, -⟩ := own_at ot
          obtain ⟨s2, d2, rfl, -, -, -, -⟩ := own_at ob'
          have hr2 := hr.row (worA (.slice (some ⟨cb, 0, none⟩) 1 1) (.slice s1 1 d1) (.slice s2 1 d2) (.slice sa5 mem.length sc5) room (.slice none 0 0) (.slice none 0 0))
          have PP : Hid (Gr w (wr.setRow (w.heap.size + 1) (worA (.slice (some ⟨cb, 0, none⟩) 1 1) (.slice s1 1 d1) (.slice s2 1 d2) (.slice sa5 mem.length sc5) room (.slice none 0 0) (.slice none 0 0))) ∧ ∀ {t sz n v xs}, wr.ownsRow w.heap.size t sz v n xs → t ≠ 40 → (wr.setRow (w.heap.size + 1) (worA (.slice (some ⟨cb, 0, none⟩) 1 1) (.slice s1 1 d1) (.slice s2 1 d2) (.slice sa5 mem.length sc5) room (.slice none 0 0) (.slice none 0 0))).ownsRow w.heap.size t sz v n xs) :=
            ⟨gr.setRow (by omega) _, fun h1 h2 => own_kept h1 (Kp.setRow wr _ _) (fun x hx z => own_aside h1 hr h2 (mem_ob.2 (by rw [hx, show x = w.heap.size + 1 by simpa using z])))⟩
          have OT := hide ot
          have OB := hide ob'
          have OM := hide om
          clear ot ob' om gr
          go_wp2_with (first
            | (refine load_wor rfl _ rfl g rfl _ hw rfl ?_)
            | (refine store_wor rfl _ _ rfl (w.heap.size + 1) rfl _ rfl wor0 hr rfl rfl (by simp [Value.oneCell']) ?_))
          exact bodyPost_ret (results_wor rfl _ _ (w.heap.size + 1) _ rfl hr2 rfl) rfl ⟨_, _, _, ⟨rfl, PP.out.1⟩, PP.out.2 OT.out (by decide), PP.out.2 OB.out (by decide), PP.out.2 OM.out (by decide)⟩
    · refine wp_made (some 5) rfl _ _ (alloc_w rfl) ?_
      have galc : Gr u0.drew ((u0.drew.alloc (.cells #[] 22)).alloc (.cells wor0 40)) := gcur.alloc _ _
      have hG := Has.new (u0.drew.alloc (.cells #[] 22)) wor0 40
      have hgl : u0.drew.heap.size ≤ (u0.drew.alloc (.cells #[] 22)).heap.size := gcur.size
      refine ⟨fun _ => galc, ?_⟩
      simp only [Act.put, List.setIfInBounds_toArray, List.set_cons_zero, List.set_cons_succ]
      replace hown := own_later hown ((Gr.refl _).alloc wor0 40)
      replace gcur := galc
      obtain ⟨v5, w5, r5, o5, q5, -⟩ := app_recs (ty := 28) wordL_len wordL_one (T := 28) Tryd.underlying28 infoWrd (by decide) (by decide) (by decide) hown ma mc mem (hrw.later gcur) (fun q => HN.out q) (by simp; omega) (by have := gcur.size; omega)
      have g5 : Gr u0.drew w5 := Below.grown gcur q5 gcur.size (fun x hx => by have := (hown.lt x hx).1; omega)
      rw [List.nil_append] at o5
      obtain ⟨sa5, sc5, rfl, -, -, -, -⟩ := own_at o5
      refine AnyL.one 5 (by kernel_rfl) rfl (by kernel_rfl) ?_
      refine wp_app (some 12) rfl _ _ 28 rfl _ _ rfl rfl _ w5 r5 ?_
      refine ⟨fun _ => g5, ?_⟩
      simp only [Act.put, List.setIfInBounds_toArray, List.set_cons_zero, List.set_cons_succ]
      have hG5 : Has w5 (u0.drew.alloc (.cells #[] 22)).heap.size wor0 40 := hG.kept (Kp.grown q5) (own_aside hown hG (by decide))
      replace hH := g5
      refine AnyL.takeP 9 (some 16) (.agg (worA (.slice (some ⟨cb, 0, none⟩) 1 1) (.slice none 0 0) (.slice none 0 0) (.slice sa5 mem.length sc5) room (.slice none 0 0) (.slice none 0 0))) rfl rfl (by kernel_rfl) (by kernel_rfl) (by kernel_rfl) (by kernel_rfl) (fun _ _ _ h => h) (by kernel_rfl) (fun w' => by go_simp) (fun _ => hH) ?_
      simp only [Act.put, List.setIfInBounds_toArray, List.set_cons_zero, List.set_cons_succ]
      refine AnyL.one 11 (by kernel_rfl) rfl (by kernel_rfl) ?_
      refine wp_store_wor rfl _ _ rfl (u0.drew.alloc (.cells #[] 22)).heap.size (by kernel_rfl) (worA (.slice (some ⟨cb, 0, none⟩) 1 1) (.slice none 0 0) (.slice none 0 0) (.slice sa5 mem.length sc5) room (.slice none 0 0) (.slice none 0 0)) (by kernel_rfl) wor0 hG5 rfl rfl (by simp [Value.oneCell']) ?_
      refine ⟨late (by kernel_rfl), ?_⟩
      refine AnyL.done (by kernel_rfl) ?_
      have NI := hide (FIN.out _ (.slice sa5 mem.length sc5) (u0.drew.alloc (.cells #[] 22)).heap.size wor0 g5 hgl hG5 (own_lower o5 (by omega)))
      generalize w5.setRow (u0.drew.alloc (.cells #[] 22)).heap.size (worA (.slice (some ⟨cb, 0, none⟩) 1 1) (.slice none 0 0) (.slice none 0 0) (.slice sa5 mem.length sc5) room (.slice none 0 0) (.slice none 0 0)) = u1 at NI ⊢
      generalize (u0.drew.alloc (.cells #[] 22)).heap.size = g at NI ⊢
      have NJ := NI.out
      clear NI
      clear hH hown gcur gnew g5 r5 q5 o5 galc hG hG5 hgl hp hr gg hrw hsz hszd HN FIN
      go_wp2_with (fail)
      go_loopw [6] (fun i wr => NewR w cb ma mc mem room (.slice sa5 mem.length sc5) g i wr) (fun i _ => 1 - (intOf i).toNat)
      case atStart => unfold NewR; exact Or.inl ⟨rfl, NJ⟩
      case round =>
        clear NJ
        rcases hrel with ⟨rfl, ni⟩ | ⟨rfl, nj⟩
        · have NI := hide ni
          have c0 := ni.hp.cell (o := 0) rfl
          obtain ⟨z, hz⟩ : ∃ z, z = Value.slice none 0 0 := ⟨_, rfl⟩
          have HZ := hide hz
          clear hz
          have on : ∀ (u : World) (t : TypeId) (sz : Nat), u.ownsRow w.heap.size t sz z 0 [] := fun u t sz => by rw [HZ.out]; exact own_nil _ _ _ _
          have oz : ob z = [] := by rw [HZ.out]; simp [ob, Value.ownBlock]
          have c1 : wr.cell? ⟨g, 1, none⟩ = some z := by rw [HZ.out]; exact ni.hw.cell (o := 1) rfl
          have f1 := ni.hw.free 1
          obtain ⟨v1, w1, r1, o1, q1, b1⟩ := app_row (ty := 35) (T := 35) Tryd.underlying35 infoTh (by decide) (by decide) (by decide) (on (wr.alloc (.cells th0A 25)) 25 10) (some ⟨wr.heap.size, 0, none⟩) 1 1 th0A.toList (Has.rowAt (Has.new wr _ _)) (fun q => by cases q) rfl (by simp [Value.oneCell']) (by omega) (by have := ni.gr.size; simp; omega)
          have gg1 : Gr w w1 := grown_gr (ni.gr.alloc th0A 25) (on _ 25 10) q1 (Nat.le_refl _)
          have k1 : Kp [] wr w1 := (((Gr.refl wr).alloc th0A 25).kp []).trans (Kp.grown q1) (by simp) (by simp [oz])
          obtain ⟨s1, d1, rfl, -, -, -, -⟩ := own_at o1
          have hw1 := (ni.hw.kept k1 (by simp)).set 1 (.slice s1 1 d1)
          have hp1 := (ni.hp.kept k1 (by simp)).aside (k := g) (by have := ni.lt; omega) 1 (.slice s1 1 d1)
          have hr1 := (ni.hr.kept k1 (by simp)).aside (k := g) (by have := ni.lt; omega) 1 (.slice s1 1 d1)
          have m1 := own_kept (own_kept ni.mem k1 (by simp)) (Kp.setCell w1 g 1 (.slice s1 1 d1)) (fun x hx z => own_aside ni.mem ni.hw (by decide) (mem_ob.2 (by rw [hx, show x = g by simpa using z])))
          have o1' := own_kept o1 (Kp.setCell w1 g 1 (.slice s1 1 d1)) (fun x hx z => own_aside o1 (ni.hw.kept k1 (by simp)) (by decide) (mem_ob.2 (by rw [hx, show x = g by simpa using z])))
          have gg2 : Gr w (w1.setCell ⟨g, 1, none⟩ (.slice s1 1 d1)) := gg1.setCell (by show w.heap.size ≤ g; have := ni.lt; omega) _
          have c2 : (w1.setCell ⟨g, 1, none⟩ (.slice s1 1 d1)).cell? ⟨g, 2, none⟩ = some z := by rw [HZ.out]; exact hw1.cell (o := 2) rfl
          have f2 := hw1.free 2
          have e2 : w1.cell? ⟨g, 2, none⟩ = some z := by rw [HZ.out]; exact (ni.hw.kept k1 (by simp)).cell (o := 2) rfl
          have e1 : w1.cell? ⟨g, 1, none⟩ = some z := by rw [HZ.out]; exact (ni.hw.kept k1 (by simp)).cell (o := 1) rfl
          have e1f := (ni.hw.kept k1 (by simp)).free 1
          have e2f := (ni.hw.kept k1 (by simp)).free 2
          generalize hW : w1.setCell ⟨g, 1, none⟩ (.slice s1 1 d1) = W2 at hw1 hp1 hr1 m1 o1' gg2 c2 f2
          obtain ⟨v2, w2, r2, o2, q2, b2⟩ := app_row (ty := 36) (T := 36) Tryd.underlying36 infoBs (by decide) (by decide) (by decide) (on (W2.alloc (.cells #[.slice none 0 0] 27)) 27 1) (some ⟨W2.heap.size, 0, none⟩) 1 1 [.slice none 0 0] (Has.rowAt (Has.new W2 _ _)) (fun q => by cases q) rfl (by simp [Value.oneCell']) (by omega) (by have := gg2.size; simp; omega)
          have gg3 : Gr w w2 := grown_gr (gg2.alloc #[.slice none 0 0] 27) (on _ 27 1) q2 (Nat.le_refl _)
          have k2 : Kp [] W2 w2 := (((Gr.refl W2).alloc #[.slice none 0 0] 27).kp []).trans (Kp.grown q2) (by simp) (by simp [oz])
          obtain ⟨s2, d2, rfl, -, -, -, -⟩ := own_at o2
          have e3 : w2.cell? ⟨g, 2, none⟩ = some z := by rw [HZ.out]; exact (hw1.kept k2 (by simp)).cell (o := 2) rfl
          have e3f := (hw1.kept k2 (by simp)).free 2
          have JJ : Hid (NewJ w cb ma mc room (.slice sa5 mem.length sc5) mem g (w2.setCell ⟨g, 2, none⟩ (.slice s2 1 d2))) := by
            have hwk := hw1.kept k2 (by simp)
            have ng : ∀ {t sz n v xs}, w2.ownsRow w.heap.size t sz v n xs → t ≠ 40 → (w2.setCell ⟨g, 2, none⟩ (.slice s2 1 d2)).ownsRow w.heap.size t sz v n xs := fun h1 h2 => own_kept h1 (Kp.setCell w2 g 2 _) (fun x hx z => own_aside h1 hwk h2 (mem_ob.2 (by rw [hx, show x = g by simpa using z])))
            exact ⟨.slice s1 1 d1, .slice s2 1 d2, gg3.setCell (by show w.heap.size ≤ g; have := ni.lt; omega) _, (hr1.kept k2 (by simp)).aside (by have := ni.lt; omega) _ _, hwk.set 2 _, ng (own_kept o1' k2 (by simp)) (by decide), ng o2 (by decide), ng (own_kept m1 k2 (by simp)) (by decide), (hp1.kept k2 (by simp)).aside (by have := ni.lt; omega) _ _, ni.lt⟩
          subst hW
          have es : (w1.setCell ⟨g, 1, none⟩ (.slice s1 1 d1)).heap.size = w1.heap.size := by simp
          rw [es] at r2
          clear es
          clear hw1 hp1 hr1 m1 o1' o1 o2 gg1 gg2 gg3 k1 k2 q1 q2 b1 b2 ni on oz
          go_wp2_with (first
            | (refine step_app rfl (some 28) rfl _ _ _ rfl z (.slice (some ⟨wr.heap.size, 0, none⟩) 1 1) rfl rfl (.slice s1 1 d1) w1 (by exact r1) ?_)
            | (refine step_app rfl (some 33) rfl _ _ _ rfl z (.slice (some ⟨w1.heap.size, 0, none⟩) 1 1) rfl rfl (.slice s2 1 d2) w2 (by exact r2) ?_))
          go_roundw
          case rel => exact ⟨_, _, _, _, _, _, _, _, _, _, _, _, _, _, _, _, _, _, _, newR_one JJ.out, rfl⟩
          case measure => simp [intOf]
        · obtain ⟨v1, v2, gr, hr, hw, ot, ob', om, hp, hlt⟩ := nj
          have c0 := hp.cell (o := 0) rfl
          obtain ⟨s1, d1, rfl, -, -, -, -⟩ := own_at ot
          obtain ⟨s2, d2, rfl, -, -, -, -⟩ := own_at ob'
          have hr2 := hr.row (worA (.slice (some ⟨cb, 0, none⟩) 1 1) (.slice s1 1 d1) (.slice s2 1 d2) (.slice sa5 mem.length sc5) room (.slice none 0 0) (.slice none 0 0))
          have PP : Hid (Gr w (wr.setRow (w.heap.size + 1) (worA (.slice (some ⟨cb, 0, none⟩) 1 1) (.slice s1 1 d1) (.slice s2 1 d2) (.slice sa5 mem.length sc5) room (.slice none 0 0) (.slice none 0 0))) ∧ ∀ {t sz n v xs}, wr.ownsRow w.heap.size t sz v n xs → t ≠ 40 → (wr.setRow (w.heap.size + 1) (worA (.slice (some ⟨cb, 0, none⟩) 1 1) (.slice s1 1 d1) (.slice s2 1 d2) (.slice sa5 mem.length sc5) room (.slice none 0 0) (.slice none 0 0))).ownsRow w.heap.size t sz v n xs) :=
            ⟨gr.setRow (by omega) _, fun h1 h2 => own_kept h1 (Kp.setRow wr _ _) (fun x hx z => own_aside h1 hr h2 (mem_ob.2 (by rw [hx, show x = w.heap.size + 1 by simpa using z])))⟩
          have OT := hide ot
          have OB := hide ob'
          have OM := hide om
          clear ot ob' om gr
          go_wp2_with (first
            | (refine load_wor rfl _ rfl g rfl _ hw rfl ?_)
            | (refine store_wor rfl _ _ rfl (w.heap.size + 1) rfl _ rfl wor0 hr rfl rfl (by simp [Value.oneCell']) ?_))
          exact bodyPost_ret (results_wor rfl _ _ (w.heap.size + 1) _ rfl hr2 rfl) rfl ⟨_, _, _, ⟨rfl, PP.out.1⟩, PP.out.2 OT.out (by decide), PP.out.2 OB.out (by decide), PP.out.2 OM.out (by decide)⟩
  · refine wp_made (some 5) rfl _ _ (alloc_w rfl) ?_
    have galc : Gr u0.drew (u0.drew.alloc (.cells wor0 40)) := (Gr.refl u0.drew).alloc _ _
    have hG := Has.new u0.drew wor0 40
    have hgl : u0.drew.heap.size ≤ u0.drew.heap.size := (Gr.refl u0.drew).size
    refine ⟨fun _ => galc, ?_⟩
    simp only [Act.put, List.setIfInBounds_toArray, List.set_cons_zero, List.set_cons_succ]
    refine AnyL.one 2 (by kernel_rfl) rfl (by kernel_rfl) ?_
    refine wp_made (some 9) rfl _ _ (build_w0 rfl) ?_
    have gnew : Gr u0.drew ((u0.drew.alloc (.cells wor0 40)).alloc (.cells #[] 22)) := galc.alloc _ _
    have hown : WordsO ((u0.drew.alloc (.cells wor0 40)).alloc (.cells #[] 22)) u0.drew.heap.size (.slice (some ⟨(u0.drew.alloc (.cells wor0 40)).heap.size, 0, none⟩) 0 0) [] := World.ownsRow_made _ #[] 0 galc.size (Nat.zero_le _) rfl
    have gcur := gnew
    refine ⟨fun _ => gcur, ?_⟩
    simp only [Act.put, List.setIfInBounds_toArray, List.set_cons_zero, List.set_cons_succ]
    obtain ⟨v5, w5, r5, o5, q5, -⟩ := app_recs (ty := 28) wordL_len wordL_one (T := 28) Tryd.underlying28 infoWrd (by decide) (by decide) (by decide) hown ma mc mem (hrw.later gcur) (fun q => HN.out q) (by simp; omega) (by have := gcur.size; omega)
    have g5 : Gr u0.drew w5 := Below.grown gcur q5 gcur.size (fun x hx => by have := (hown.lt x hx).1; omega)
    rw [List.nil_append] at o5
    obtain ⟨sa5, sc5, rfl, -, -, -, -⟩ := own_at o5
    refine AnyL.one 5 (by kernel_rfl) rfl (by kernel_rfl) ?_
    refine wp_app (some 12) rfl _ _ 28 rfl _ _ rfl rfl _ w5 r5 ?_
    refine ⟨fun _ => g5, ?_⟩
    simp only [Act.put, List.setIfInBounds_toArray, List.set_cons_zero, List.set_cons_succ]
    have hG5 : Has w5 u0.drew.heap.size wor0 40 := (hG.alloc #[] 22).kept (Kp.grown q5) (own_aside hown (hG.alloc #[] 22) (by decide))
    replace hH := g5
    refine AnyL.takeP 9 (some 16) (.agg (worA (.slice (some ⟨cb, 0, none⟩) 1 1) (.slice none 0 0) (.slice none 0 0) (.slice sa5 mem.length sc5) room (.slice none 0 0) (.slice none 0 0))) rfl rfl (by kernel_rfl) (by kernel_rfl) (by kernel_rfl) (by kernel_rfl) (fun _ _ _ h => h) (by kernel_rfl) (fun w' => by go_simp) (fun _ => hH) ?_
    simp only [Act.put, List.setIfInBounds_toArray, List.set_cons_zero, List.set_cons_succ]
    refine AnyL.one 11 (by kernel_rfl) rfl (by kernel_rfl) ?_
    refine wp_store_wor rfl _ _ rfl u0.drew.heap.size (by kernel_rfl) (worA (.slice (some ⟨cb, 0, none⟩) 1 1) (.slice none 0 0) (.slice none 0 0) (.slice sa5 mem.length sc5) room (.slice none 0 0) (.slice none 0 0)) (by kernel_rfl) wor0 hG5 rfl rfl (by simp [Value.oneCell']) ?_
    refine ⟨late (by kernel_rfl), ?_⟩
    refine AnyL.done (by kernel_rfl) ?_
    have NI := hide (FIN.out _ (.slice sa5 mem.length sc5) u0.drew.heap.size wor0 g5 hgl hG5 (own_lower o5 (by omega)))
    generalize w5.setRow u0.drew.heap.size (worA (.slice (some ⟨cb, 0, none⟩) 1 1) (.slice none 0 0) (.slice none 0 0) (.slice sa5 mem.length sc5) room (.slice none 0 0) (.slice none 0 0)) = u1 at NI ⊢
    generalize u0.drew.heap.size = g at NI ⊢
    have NJ := NI.out
    clear NI
    clear hH hown gcur gnew g5 r5 q5 o5 galc hG hG5 hgl hp hr gg hrw hsz hszd HN FIN
    generalize (u0.drew.alloc (.cells wor0 40)).heap.size = n9
    go_wp2_with (fail)
    go_loopw [6] (fun i wr => NewR w cb ma mc mem room (.slice sa5 mem.length sc5) g i wr) (fun i _ => 1 - (intOf i).toNat)
    case atStart => unfold NewR; exact Or.inl ⟨rfl, NJ⟩
    case round =>
      clear NJ
      rcases hrel with ⟨rfl, ni⟩ | ⟨rfl, nj⟩
      · have NI := hide ni
        have c0 := ni.hp.cell (o := 0) rfl
        obtain ⟨z, hz⟩ : ∃ z, z = Value.slice none 0 0 := ⟨_, rfl⟩
        have HZ := hide hz
        clear hz
        have on : ∀ (u : World) (t : TypeId) (sz : Nat), u.ownsRow w.heap.size t sz z 0 [] := fun u t sz => by rw [HZ.out]; exact own_nil _ _ _ _
        have oz : ob z = [] := by rw [HZ.out]; simp [ob, Value.ownBlock]
        have c1 : wr.cell? ⟨g, 1, none⟩ = some z := by rw [HZ.out]; exact ni.hw.cell (o := 1) rfl
        have f1 := ni.hw.free 1
        obtain ⟨v1, w1, r1, o1, q1, b1⟩ := app_row (ty := 35) (T := 35) Tryd.underlying35 infoTh (by decide) (by decide) (by decide) (on (wr.alloc (.cells th0A 25)) 25 10) (some ⟨wr.heap.size, 0, none⟩) 1 1 th0A.toList (Has.rowAt (Has.new wr _ _)) (fun q => by cases q) rfl (by simp [Value.oneCell']) (by omega) (by have := ni.gr.size; simp; omega)
        have gg1 : Gr w w1 := grown_gr (ni.gr.alloc th0A 25) (on _ 25 10) q1 (Nat.le_refl _)
        have k1 : Kp [] wr w1 := (((Gr.refl wr).alloc th0A 25).kp []).trans (Kp.grown q1) (by simp) (by simp [oz])
        obtain ⟨s1, d1, rfl, -, -, -, -⟩ := own_at o1
        have hw1 := (ni.hw.kept k1 (by simp)).set 1 (.slice s1 1 d1)
        have hp1 := (ni.hp.kept k1 (by simp)).aside (k := g) (by have := ni.lt; omega) 1 (.slice s1 1 d1)
        have hr1 := (ni.hr.kept k1 (by simp)).aside (k := g) (by have := ni.lt; omega) 1 (.slice s1 1 d1)
        have m1 := own_kept (own_kept ni.mem k1 (by simp)) (Kp.setCell w1 g 1 (.slice s1 1 d1)) (fun x hx z => own_aside ni.mem ni.hw (by decide) (mem_ob.2 (by rw [hx, show x = g by simpa using z])))
        have o1' := own_kept o1 (Kp.setCell w1 g 1 (.slice s1 1 d1)) (fun x hx z => own_aside o1 (ni.hw.kept k1 (by simp)) (by decide) (mem_ob.2 (by rw [hx, show x = g by simpa using z])))
        have gg2 : Gr w (w1.setCell ⟨g, 1, none⟩ (.slice s1 1 d1)) := gg1.setCell (by show w.heap.size ≤ g; have := ni.lt; omega) _
        have c2 : (w1.setCell ⟨g, 1, none⟩ (.slice s1 1 d1)).cell? ⟨g, 2, none⟩ = some z := by rw [HZ.out]; exact hw1.cell (o := 2) rfl
        have f2 := hw1.free 2
        have e2 : w1.cell? ⟨g, 2, none⟩ = some z := by rw [HZ.out]; exact (ni.hw.kept k1 (by simp)).cell (o := 2) rfl
        have e1 : w1.cell? ⟨g, 1, none⟩ = some z := by rw [HZ.out]; exact (ni.hw.kept k1 (by simp)).cell (o := 1) rfl
        have e1f := (ni.hw.kept k1 (by simp)).free 1
        have e2f := (ni.hw.kept k1 (by simp)).free 2
        generalize hW : w1.setCell ⟨g, 1, none⟩ (.slice s1 1 d1) = W2 at hw1 hp1 hr1 m1 o1' gg2 c2 f2
        obtain ⟨v2, w2, r2, o2, q2, b2⟩ := app_row (ty := 36) (T := 36) Tryd.underlying36 infoBs (by decide) (by decide) (by decide) (on (W2.alloc (.cells #[.slice none 0 0] 27)) 27 1) (some ⟨W2.heap.size, 0, none⟩) 1 1 [.slice none 0 0] (Has.rowAt (Has.new W2 _ _)) (fun q => by cases q) rfl (by simp [Value.oneCell']) (by omega) (by have := gg2.size; simp; omega)
        have gg3 : Gr w w2 := grown_gr (gg2.alloc #[.slice none 0 0] 27) (on _ 27 1) q2 (Nat.le_refl _)
        have k2 : Kp [] W2 w2 := (((Gr.refl W2).alloc #[.slice none 0 0] 27).kp []).trans (Kp.grown q2) (by simp) (by simp [oz])
        obtain ⟨s2, d2, rfl, -, -, -, -⟩ := own_at o2
        have e3 : w2.cell? ⟨g, 2, none⟩ = some z := by rw [HZ.out]; exact (hw1.kept k2 (by simp)).cell (o := 2) rfl
        have e3f := (hw1.kept k2 (by simp)).free 2
        have JJ : Hid (NewJ w cb ma mc room (.slice sa5 mem.length sc5) mem g (w2.setCell ⟨g, 2, none⟩ (.slice s2 1 d2))) := by
          have hwk := hw1.kept k2 (by simp)
          have ng : ∀ {t sz n v xs}, w2.ownsRow w.heap.size t sz v n xs → t ≠ 40 → (w2.setCell ⟨g, 2, none⟩ (.slice s2 1 d2)).ownsRow w.heap.size t sz v n xs := fun h1 h2 => own_kept h1 (Kp.setCell w2 g 2 _) (fun x hx z => own_aside h1 hwk h2 (mem_ob.2 (by rw [hx, show x = g by simpa using z])))
          exact ⟨.slice s1 1 d1, .slice s2 1 d2, gg3.setCell (by show w.heap.size ≤ g; have := ni.lt; omega) _, (hr1.kept k2 (by simp)).aside (by have := ni.lt; omega) _ _, hwk.set 2 _, ng (own_kept o1' k2 (by simp)) (by decide), ng o2 (by decide), ng (own_kept m1 k2 (by simp)) (by decide), (hp1.kept k2 (by simp)).aside (by have := ni.lt; omega) _ _, ni.lt⟩
        subst hW
        have es : (w1.setCell ⟨g, 1, none⟩ (.slice s1 1 d1)).heap.size = w1.heap.size := by simp
        rw [es] at r2
        clear es
        clear hw1 hp1 hr1 m1 o1' o1 o2 gg1 gg2 gg3 k1 k2 q1 q2 b1 b2 ni on oz
        go_wp2_with (first
          | (refine step_app rfl (some 28) rfl _ _ _ rfl z (.slice (some ⟨wr.heap.size, 0, none⟩) 1 1) rfl rfl (.slice s1 1 d1) w1 (by exact r1) ?_)
          | (refine step_app rfl (some 33) rfl _ _ _ rfl z (.slice (some ⟨w1.heap.size, 0, none⟩) 1 1) rfl rfl (.slice s2 1 d2) w2 (by exact r2) ?_))
        go_roundw
        case rel => exact newR_one JJ.out
        case measure => simp [intOf]
      · obtain ⟨v1, v2, gr, hr, hw, ot, ob', om, hp, hlt⟩ := nj
        have c0 := hp.cell (o := 0) rfl
        obtain ⟨s1, d1, rfl, -, -, -, -⟩ := own_at ot
        obtain ⟨s2, d2, rfl, -, -, -, -⟩ := own_at ob'
        have hr2 := hr.row (worA (.slice (some ⟨cb, 0, none⟩) 1 1) (.slice s1 1 d1) (.slice s2 1 d2) (.slice sa5 mem.length sc5) room (.slice none 0 0) (.slice none 0 0))
        have PP : Hid (Gr w (wr.setRow (w.heap.size + 1) (worA (.slice (some ⟨cb, 0, none⟩) 1 1) (.slice s1 1 d1) (.slice s2 1 d2) (.slice sa5 mem.length sc5) room (.slice none 0 0) (.slice none 0 0))) ∧ ∀ {t sz n v xs}, wr.ownsRow w.heap.size t sz v n xs → t ≠ 40 → (wr.setRow (w.heap.size + 1) (worA (.slice (some ⟨cb, 0, none⟩) 1 1) (.slice s1 1 d1) (.slice s2 1 d2) (.slice sa5 mem.length sc5) room (.slice none 0 0) (.slice none 0 0))).ownsRow w.heap.size t sz v n xs) :=
          ⟨gr.setRow (by omega) _, fun h1 h2 => own_kept h1 (Kp.setRow wr _ _) (fun x hx z => own_aside h1 hr h2 (mem_ob.2 (by rw [hx, show x = w.heap.size + 1 by simpa using z])))⟩
        have OT := hide ot
        have OB := hide ob'
        have OM := hide om
        clear ot ob' om gr
        go_wp2_with (first
          | (refine load_wor rfl _ rfl g rfl _ hw rfl ?_)
          | (refine store_wor rfl _ _ rfl (w.heap.size + 1) rfl _ rfl wor0 hr rfl rfl (by simp [Value.oneCell']) ?_))
        exact bodyPost_ret (results_wor rfl _ _ (w.heap.size + 1) _ rfl hr2 rfl) rfl ⟨_, _, _, ⟨rfl, PP.out.1⟩, PP.out.2 OT.out (by decide), PP.out.2 OB.out (by decide), PP.out.2 OM.out (by decide)⟩
end Go.Proofs.YtbmlliohepidaaaDoor
