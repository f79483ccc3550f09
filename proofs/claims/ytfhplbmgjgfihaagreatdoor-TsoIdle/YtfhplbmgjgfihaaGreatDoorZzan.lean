/-
  What note of a side does: an event is appended to the machine's. No condition but what each law names.
-/
import Derived.Test.YtfhplbmgjgfihaaGreatDoorZzaa
import Derived.Test.YtfhplbmgjgfihaaGreatDoorZzam
import Derived.Deep.CutBlock
namespace Go.Proofs.YtfhplbmgjgfihaaGreatDoor.Mc
open Go.ChangeShapes Go.WideShapes Go.ChangeAt Go.RowKit
set_option linter.unusedVariables false
set_option maxRecDepth 20000
theorem build_ev {o : Oper} {a : Act} {w : World} (x : Operand) (ho : o.op = .buildSlice 39 1 #[(0, x)]) (e : Ev) (hx : a.eval x = .agg (evA e)) :
    (execOp a.eval o).run Tryz.prog w = .ok (.value (.slice (some ⟨w.heap.size, 0, none⟩) 1 1)) (w.alloc (.cells (evA e) 79)) := by
  unfold execOp
  simp only [ho, List.map_toArray, List.map_cons, List.map_nil, hx]
  clear hx
  go_simp
theorem infoE8 : (Tryz.prog.info? 79).map (·.size) = some 8 := by kernel_rfl
theorem take_ev {ops : Array Oper} {S : World → Prop} {op : Oper} {a : Act} (hw : Region.wanted op (yielded ops a.tmps) = true) (x : Operand) (ho : op.op = .load 79 x)
    (g : Nat) (hx : a.eval x = .pointer (some ⟨g, 0, none⟩)) (e : Ev) (hS : ∀ w, S w → Has w g (evA e) 79) : YieldsIf Tryz.prog ops S op (.agg (evA e)) a :=
  .inl ⟨hw, fun w hw' => by
    unfold execOp
    simp only [ho, hx, Instr.loadAt, Instr.sureAddr, Sem.run_bind, Sem.run_pure, Result.andThen_ok, run_loadVar_row w g 79 79 (evA e) (0, 0) _ (hS w hw') Tryz.underlying79 rfl infoE8]⟩
theorem wp_store_evs {o : Oper} {a : Act} {w : World} {K : Act → World → Prop} {Q : Exit → Act → World → Prop} (hd0 : o.dst = none) (x y : Operand) (ho : o.op = .store 39 x y) (g j : Nat) (hx : a.eval x = .pointer (some ⟨g, j, none⟩)) (sa : Option Addr) (sn sc : Nat) (hy : a.eval y = .slice sa sn sc)
    (oa : Option Addr) (on oc : Nat) (hc : w.cell? ⟨g, j, none⟩ = some (.slice oa on oc)) (hf : w.frozen? ⟨g, j, none⟩ = false) (h : K a (w.setCell ⟨g, j, none⟩ (.slice sa sn sc))) : Oper.wp Tryz.prog o a w K Q := by
  unfold Oper.wp execOp
  simp only [ho, hx, hy]
  go_simp
  exact h

/-- the machine's events are others -/
theorem Mw.setE {k : Mk} {s : Ms} {e e' : Value} {u u' : World} {l : List Ev} (h : Mw k s e u) (kg : Kp (ob e) u u') (ho : EvsO u' 0 e' l) (hp : 0 ∉ ob e') : Mw k ⟨s.sides, s.mem, s.slp, l, s.room⟩ e' (u'.setCell ⟨k.mb, 19, none⟩ e') := by
  have q := Kp.setCell u' k.mb 19 e'
  obtain ⟨C, hC, iC⟩ := id h.q
  have n0 : 0 ∉ ob e := fun z => h.pos (mem_foot.2 (.inr (.inr (.inr (.inl z)))))
  have a1 : ∀ {t sz n v xs}, u.ownsRow 0 t sz v n xs → t ≠ 79 → ∀ g, v.ownBlock = some g → g ∉ ob e := fun hr ht g hg z => own_apart hr h.evs ht (mem_ob.2 hg) z
  have a2 : ∀ {g C t}, Has u g C t → t ≠ 79 → g ∉ ob e := fun {g C t} hg ht z => own_aside h.evs hg (fun y => ht y.symm) z
  have hC' := hC.kept kg (a2 hC (by decide))
  have b1 : ∀ {t sz n v xs}, u'.ownsRow 0 t sz v n xs → t ≠ 66 → ∀ g, v.ownBlock = some g → g ∉ [k.mb] := fun hr ht g hg z => own_aside hr hC' ht (mem_ob.2 (by rw [hg, show g = k.mb by simpa using z]))
  have b2 : ∀ {g D t}, Has u' g D t → t ≠ 66 → g ∉ [k.mb] := fun {g D t} hg ht z => hg.apart hC' ht (by simpa using z)
  have m0 : 0 ∉ [k.mb] := fun z => h.pos (mem_foot.2 (.inl (by simpa using z)))
  have r1 := own_kept h.row kg (a1 h.row (by decide))
  have r2 := own_kept h.mem kg (a1 h.mem (by decide))
  refine ⟨Laid.kept (Laid.kept h.laid kg n0) q m0, ⟨C, (hC'.set 19 e').of (Kq.mach_setE iC.size e'), iC⟩, own_kept r1 q (b1 r1 (by decide)), h.len, fun i x hx => ?_, h.nod, own_kept r2 q (b1 r2 (by decide)), own_kept ho q (b1 ho (by decide)), h.num, h.most, h.wrd, h.ok, h.slp, h.few, fun z => ?_⟩
  · have hs := h.side i x hx
    obtain ⟨B, hB, -⟩ := hs.hs
    have hs1 := Si.kept hs kg (a2 hB (by decide)) (fun y hy => a1 hs.code (by decide) y (mem_ob.1 hy))
    obtain ⟨B2, hB2, -⟩ := hs1.hs
    exact Si.kept hs1 q (b2 hB2 (by decide)) (fun y hy => b1 hs1.code (by decide) y (mem_ob.1 hy))
  · rcases mem_foot.1 z with y | y | y | y | y | y
    · exact h.pos (mem_foot.2 (.inl y))
    · exact h.pos (mem_foot.2 (.inr (.inl y)))
    · exact h.pos (mem_foot.2 (.inr (.inr (.inl y))))
    · exact hp y
    · exact h.pos (mem_foot.2 (.inr (.inr (.inr (.inr (.inl y))))))
    · exact h.pos (mem_foot.2 (.inr (.inr (.inr (.inr (.inr y))))))

set_option maxHeartbeats 1000000 in
theorem note_does (k : Mk) (i : Nat) (x : Sk) (hx : k.ss[i]? = some x) (s : Ms) (v : Ev) (hq : s.evs.length ≤ 95000) (w : World) :
    Does (MI k) s w 36 #[.pointer (some ⟨x.g, 0, none⟩), .agg (evA v)] (.tuple #[]) (s.note i v) := by
  rintro F ⟨e, h, rfl⟩
  have HH := hide h
  have hl := hq
  have hw0 := h.laid.lt
  obtain ⟨B, sr, -⟩ := h.sr hx
  have hb0 := Has.new w (evA v) 79
  have ga := (Gr.refl w).alloc (evA v) 79
  have c1 := (sr.later ga).c1
  have cf := hb0.free 1
  have cz := hb0.cell (o := 1) (v := .int .i64 v.who) rfl
  have hb1 := Has.new w (evA (evOf v i)) 79
  have gb := (Gr.refl w).alloc (evA (evOf v i)) 79
  have hxe : w.heap.size ∉ ob e := fun z => Nat.lt_irrefl _ (own_lt h.evs z)
  have szu : (w.alloc (.cells (evA (evOf v i)) 79)).heap.size = w.heap.size + 1 := by simp
  clear h sr
  go_enter Tryz.func36, Tryz.ntmps36
  go_upto_region 2 with (fail)
  change Code.wp _ _ _ _ (w.alloc (.cells (evA (evOf v i)) 79))
  generalize w.alloc (.cells (evA (evOf v i)) 79) = u0 at gb hb1 szu ⊢
  clear c1 cf cz hb0 ga
  have h1 := HH.out.later gb.drew
  obtain ⟨B1, sr1, -⟩ := h1.sr hx
  obtain ⟨C1, hC1, iC1⟩ := id h1.q
  have hbx := hb1.drew
  obtain ⟨ad, cap, he, -, -, -, -⟩ := own_at h1.evs
  have ns : x.g ∉ ob e := fun z => own_aside h1.evs sr1.has (by decide) z
  have nm : k.mb ∉ ob e := fun z => own_aside h1.evs hC1 (by decide) z
  refine begin_late 17 [16] (fun w' => Kp (ob e) u0.drew w') (by kernel_rfl) rfl ?_
  have hH : Kp (ob e) u0.drew u0.drew := Kp.refl _ _
  refine AnyL.pp 0 9 (.pointer (some ⟨x.g, 0, none⟩)) rfl rfl (by kernel_rfl) (fun _ _ _ h => h) (fun _ => by go_simp) hH ?_
  simp only [pz, pz0, pzs]
  refine AnyL.pp 1 10 (.pointer (some ⟨x.g, 0, none⟩)) rfl rfl (by kernel_rfl) (fun _ _ _ h => h) (fun _ => by go_simp) hH ?_
  simp only [pz, pz0, pzs]
  refine AnyL.pp 2 11 (.pointer (some ⟨x.g, 0, none⟩)) rfl rfl (by kernel_rfl) (fun _ _ _ h => h) (fun _ => by go_simp) hH ?_
  simp only [pz, pz0, pzs]
  refine AnyL.tt 3 12 (.pointer (some ⟨k.mb, 0, none⟩)) rfl rfl (by kernel_rfl) (fun _ _ _ h => h) (fun w' hw' => by have c1 := (sr1.has.kept hw' ns).cell side_0; go_simp) hH ?_
  simp only [pz, pz0, pzs]
  refine AnyL.pp 4 13 (.pointer (some ⟨x.g, 0, none⟩)) rfl rfl (by kernel_rfl) (fun _ _ _ h => h) (fun _ => by go_simp) hH ?_
  simp only [pz, pz0, pzs]
  refine AnyL.pp 5 14 (.pointer (some ⟨x.g, 0, none⟩)) rfl rfl (by kernel_rfl) (fun _ _ _ h => h) (fun _ => by go_simp) hH ?_
  simp only [pz, pz0, pzs]
  refine AnyL.pp 6 15 (.pointer (some ⟨x.g, 0, none⟩)) rfl rfl (by kernel_rfl) (fun _ _ _ h => h) (fun _ => by go_simp) hH ?_
  simp only [pz, pz0, pzs]
  refine AnyL.tt 7 16 (.pointer (some ⟨k.mb, 0, none⟩)) rfl rfl (by kernel_rfl) (fun _ _ _ h => h) (fun w' hw' => by have c1 := (sr1.has.kept hw' ns).cell side_0; go_simp) hH ?_
  simp only [pz, pz0, pzs]
  refine AnyL.pp 8 17 (.pointer (some ⟨k.mb, 0, none⟩)) rfl rfl (by kernel_rfl) (fun _ _ _ h => h) (fun _ => by go_simp) hH ?_
  simp only [pz, pz0, pzs]
  refine AnyL.pp 9 18 (.pointer (some ⟨k.mb, 19, none⟩)) rfl rfl (by kernel_rfl) (fun _ _ _ h => h) (fun _ => by go_simp) hH ?_
  simp only [pz, pz0, pzs]
  refine AnyL.tt 10 19 (e) rfl rfl (by kernel_rfl) (fun _ _ _ h => h) (fun w' hw' => by have c1 := (hC1.kept hw' nm).cell (Kq.mach_e iC1.size); go_simp) hH ?_
  simp only [pz, pz0, pzs]
  refine AnyL.yy 11 20 (.agg (evA (evOf v i))) rfl rfl (by kernel_rfl) (fun _ _ _ h => h) (take_ev (by kernel_rfl) _ rfl w.heap.size rfl (evOf v i) (fun w' hw' => hbx.kept hw' hxe)) hH ?_
  simp only [pz, pz0, pzs]
  refine AnyL.one 12 (by kernel_rfl) rfl (by kernel_rfl) ?_
  refine wp_made (some 21) rfl _ _ (build_ev _ rfl (evOf v i) (by kernel_rfl)) ?_
  refine ⟨fun _ => (((Gr.refl u0.drew).alloc (evA (evOf v i)) 79).kp _), ?_⟩
  simp only [pz, pz0, pzs]
  obtain ⟨e', w', hr, ho, hgr, hb⟩ := app_rec (ty := 39) evL_len evL_one (T := 39) Tryz.underlying39 infoEv (by decide) (by decide) (by decide) h1.evs (evOf v i) (evA (evOf v i)) rfl (by omega) (by omega)
  refine AnyL.one 13 (by kernel_rfl) rfl (by kernel_rfl) ?_
  refine wp_app (some 22) rfl _ _ 39 rfl e _ (by kernel_rfl) rfl e' w' hr ?_
  have kg : Kp (ob e) u0.drew w' := (((Gr.refl u0.drew).alloc (evA (evOf v i)) 79).kp (ob e)).trans (Kp.grown hgr) (fun _ h => h) (fun _ h => .inl h)
  refine ⟨fun _ => kg, ?_⟩
  simp only [pz, pz0, pzs]
  replace hH := kg
  refine AnyL.pp 14 23 (.pointer (some ⟨k.mb, 0, none⟩)) rfl rfl (by kernel_rfl) (fun _ _ _ h => h) (fun _ => by go_simp) hH ?_
  simp only [pz, pz0, pzs]
  refine AnyL.pp 15 24 (.pointer (some ⟨k.mb, 19, none⟩)) rfl rfl (by kernel_rfl) (fun _ _ _ h => h) (fun _ => by go_simp) hH ?_
  simp only [pz, pz0, pzs]
  refine AnyL.one 16 (by kernel_rfl) rfl (by kernel_rfl) ?_
  obtain ⟨ad', cap', hve', -, -, -, -⟩ := own_at ho
  have cy := (hC1.kept kg nm).cell (Kq.mach_e iC1.size)
  rw [he] at cy
  refine wp_store_evs rfl _ _ rfl k.mb 19 (by kernel_rfl) ad' _ cap' hve' _ _ _ cy ((hC1.kept kg nm).free 19) ?_
  refine ⟨late (by kernel_rfl), ?_⟩
  refine AnyL.done (by kernel_rfl) ?_
  rw [← hve']
  have hpos : 0 ∉ ob e' := fun z => by
    rw [mem_ob] at z
    rcases hb with y | y
    · exact h1.pos (mem_foot.2 (.inr (.inr (.inr (.inl (by rw [mem_ob, ← y, z]))))))
    · rw [y] at z; simp at z
  have h2 := h1.setE kg ho hpos
  have hp := mi_post HH.out h2 (((gb.drew.kp []).trans kg (by simp) (fun y hy => .inl (mem_foot.2 (.inr (.inr (.inr (.inl hy))))))).trans (Kp.setCell w' k.mb 19 e') (fun _ h => h) (fun y hy => .inl (mem_foot.2 (.inl (by simpa using hy))))) (fun y hy => by
    rw [mem_ob] at hy
    rcases hb with z | z
    · exact .inl (mem_foot.2 (.inr (.inr (.inr (.inl (by rw [mem_ob, ← z, hy]))))))
    · rw [z] at hy
      have hy' : u0.drew.heap.size + 1 = y := by simpa using hy
      have : u0.drew.heap.size = u0.heap.size := rfl
      right; omega)
  clear cy hr ho hgr hb kg hH h1 h2 ns nm hbx hb1 gb hxe sr1 hC1
  generalize w'.setCell ⟨k.mb, 19, none⟩ e' = u at hp ⊢
  go_wp2_with (fail)
  go_end0
  exact ⟨rfl, hp⟩
theorem side_set {s : Ms} {i : Nat} (hi : i < s.sides.length) (d : Sd) (j : Nat) : (s.setS i d).side j = if j = i then d else s.side j := by
  unfold Ms.side Ms.setS
  simp only [List.getD_eq_getElem?_getD, List.getElem?_set]
  by_cases h : i = j
  · subst h; simp [hi]
  · have h' : ¬ j = i := fun e => h e.symm
    simp [h, h']
theorem Mw.lt {k : Mk} {s : Ms} {e : Value} {w : World} (h : Mw k s e w) {i : Nat} {x : Sk} (hx : k.ss[i]? = some x) : i < s.sides.length := by
  rw [← h.len]
  exact (List.getElem?_eq_some_iff.1 hx).1
theorem nod_ne {l : List Sk} (h : (l.map Sk.g).Nodup) {i j : Nat} {x y : Sk} (hx : l[i]? = some x) (hy : l[j]? = some y) (hij : j ≠ i) : y.g ≠ x.g := by
  intro e
  obtain ⟨hi, rfl⟩ := List.getElem?_eq_some_iff.1 hx
  obtain ⟨hj, rfl⟩ := List.getElem?_eq_some_iff.1 hy
  have := (List.getElem_inj (i := j) (j := i) (h₀ := by simpa using hj) (h₁ := by simpa using hi) h).1 (by simpa using e)
  exact hij this
/-- a side is another one -/
theorem Mw.setS {k : Mk} {s : Ms} {e : Value} {w : World} (h : Mw k s e w) {i : Nat} {x : Sk} (hx : k.ss[i]? = some x) {w' : World} (q : Kp [x.g] w w') {B : Array Value} {d : Sd} (hB : Has w' x.g (sideA k.mb i x.cv d.t B k.N x.g) 92) (iB : Bf.IsB B s.room d.buf)
    (hc : d.code = (s.side i).code) (ht : ThOk d.t) (he : ∀ c ∈ d.buf, (0 ≤ c.a ∧ c.a < k.N) ∧ U32 c.v) : Mw k (s.setS i d) e w' := by
  have hi := h.lt hx
  obtain ⟨B0, sr, -⟩ := h.sr hx
  obtain ⟨C, hC, -⟩ := id h.q
  have n1 : ∀ {t sz n v xs}, w.ownsRow 0 t sz v n xs → t ≠ 92 → ∀ g, v.ownBlock = some g → g ∉ [x.g] := fun hr ht g hg z => own_aside hr sr.has ht (mem_ob.2 (by rw [hg, show g = x.g by simpa using z]))
  have n2 : ∀ {g C t}, Has w g C t → t ≠ 92 → g ∉ [x.g] := fun {g C t} hg ht z => hg.apart sr.has ht (by simpa using z)
  have h0 : 0 ∉ [x.g] := fun z => h.pos (mem_foot.2 (.inr (.inr (.inr (.inr (.inl ⟨x, mem_get hx, by rw [show 0 = x.g by simpa using z]⟩))))))
  have hok : (s.setS i d).okB = true := by
    refine ok_set ?_ h.ok
    obtain ⟨r, f, ib⟩ := iB
    exact Nat.le_trans ib.len ib.most
  refine ⟨Laid.kept h.laid q h0, h.q.kept q (n2 hC (by decide)), own_kept h.row q (n1 h.row (by decide)), by rw [h.len]; simp [Ms.setS], fun j y hy => ?_, h.nod, own_kept h.mem q (n1 h.mem (by decide)), own_kept h.evs q (n1 h.evs (by decide)), h.num, h.most, h.wrd, hok, h.slp, by simpa [Ms.setS] using h.few, h.pos⟩
  rw [side_set hi]
  have hsj := h.side j y hy
  by_cases hj : j = i
  · subst hj
    rw [if_pos rfl]
    obtain rfl : y = x := Option.some.inj (hy.symm.trans hx)
    refine ⟨⟨B, hB, iB⟩, ?_, ht, ?_, he⟩
    · rw [hc]; exact own_kept hsj.code q (n1 hsj.code (by decide))
    · rw [hc]; exact hsj.ins
  · rw [if_neg hj]
    exact Si.kept hsj q (fun z => nod_ne h.nod hx hy hj (by simpa using z)) (fun z hz => n1 hsj.code (by decide) z (mem_ob.1 hz))
theorem kp_side {k : Mk} {s : Ms} {e : Value} {w w' : World} (h : Mw k s e w) {i : Nat} {x : Sk} (hx : k.ss[i]? = some x) (q : Kp [x.g] w w') : Kp (k.foot e) w w' :=
  q.trans (Kp.refl (k.foot e) w') (fun y hy => mem_foot.2 (.inr (.inr (.inr (.inr (.inl ⟨x, mem_get hx, by rw [show y = x.g by simpa using hy]⟩)))))) (fun y hy => .inl hy)
/-- a side's buffer is another one -/
theorem Mw.setB {k : Mk} {s : Ms} {e : Value} {w : World} (h : Mw k s e w) {i : Nat} {x : Sk} (hx : k.ss[i]? = some x) {D : Array Value} {l : List Ent} (iD : Bf.IsB D s.room l) (he : ∀ c ∈ l, (0 ≤ c.a ∧ c.a < k.N) ∧ U32 c.v) :
    Mw k (s.setB i l) e (w.setCells x.g 13 D.toList) ∧ Kp [x.g] w (w.setCells x.g 13 D.toList) := by
  obtain ⟨B0, sr, -⟩ := h.sr hx
  have hD : D.size = 35 := by obtain ⟨r, f, ib⟩ := iD; rw [ib.cells]; exact Bf.bufC_size ib.ring _ _ _
  have q := Kq.kp_setCells (b := x.g) D.toList 13 w
  refine ⟨h.setS hx q (B := D) ?_ iD rfl sr.th he, q⟩
  have := Kq.setCells_has D.toList 13 w _ sr.has
  rwa [side_setB sr.th sr.sz hD] at this
theorem bf_one {D : Array Value} {room : Nat} {l : List Ent} (h : Bf.IsB D room l) : D.all (·.oneCell') = true := by
  obtain ⟨r, f, ib⟩ := h; rw [ib.cells]; exact Bf.bufC_one _ _ _ _
theorem bf_size {D : Array Value} {room : Nat} {l : List Ent} (h : Bf.IsB D room l) : D.size = 35 := by
  obtain ⟨r, f, ib⟩ := h; rw [ib.cells]; exact Bf.bufC_size ib.ring _ _ _
theorem infoBs {D : Array Value} (h : D.size = 35) : (Tryz.prog.info? 83).map (·.size) = some D.size := by rw [h]; exact infoBf
theorem Sr.thr {k : Mk} {x : Sk} {i : Nat} {d : Sd} {B : Array Value} {w : World} (h : Sr k x i d B w) {n : Nat} (hn : n = 35) : w.there x.g 13 n := h.has.there 13 n (by rw [side_size h.th h.sz]; omega)

set_option maxHeartbeats 400000 in
theorem store_does (k : Mk) (i : Nat) (x : Sk) (hx : k.ss[i]? = some x) (s : Ms) (m v : Int) (h0 : 0 ≤ m) (hm : m < k.N) (hu : U32 v) (w : World) :
    Does (MI k) s w 44 #[.pointer (some ⟨x.g, 0, none⟩), .int .i64 m, .int .u32 v] (.tuple #[]) (s.store i m v) := by
  rintro F ⟨e, h, rfl⟩
  obtain ⟨B, sr, iB⟩ := h.sr hx
  have rB := sr.rB
  have ib := infoBl sr.sz
  have HH := hide h
  have HB := hide iB
  have HU := hide hu
  clear h iB sr hu
  go_enter Tryz.func44, Tryz.ntmps44
  go_wp2_with (first
    | (refine wpList_load_mid rfl 83 _ rfl x.g 13 rfl B.toList _ rB Tryz.underlying83 rfl ib ?_))
  refine (Bf.put_any HB.out ⟨m, v⟩ w).mono ?_
  rintro r w1 ⟨D, ⟨rfl, g1⟩, iD⟩
  have h1 := HH.out.later g1
  obtain ⟨B1, sr1, -⟩ := h1.sr hx
  have hee : ∀ c ∈ Bf.putL s.room (s.side i).buf ⟨m, v⟩, (0 ≤ c.a ∧ c.a < k.N) ∧ U32 c.v := fun c hc => by
    unfold Bf.putL at hc
    have hs := (h1.side i x hx).ent
    split at hc
    · rcases List.mem_append.1 hc with hc | hc
      · exact hs c hc
      · obtain rfl := List.mem_singleton.1 hc
        exact ⟨⟨h0, hm⟩, HU.out⟩
    · exact hs c hc
  obtain ⟨h2, k2⟩ := h1.setB hx iD hee
  have HP := hide (mi_post HH.out h2 ((g1.kp (k.foot e)).trans (kp_side h1 hx k2) (fun _ h => h) (fun _ h => .inl h)) foot_evs)
  have thr := sr1.thr (bf_size iD)
  have i1 := infoBs (bf_size iD)
  have o1 := bf_one iD
  clear h1 sr1 h2 k2 hee iD rB
  go_wp2_with (first
    | (refine wpList_store_mid rfl 83 _ _ rfl x.g 13 D rfl rfl thr i1 o1 ?_))
  go_end0
  exact ⟨rfl, HP.out⟩
/-- the queue is another one -/
theorem Mw.setQ {k : Mk} {s : Ms} {e : Value} {w w' : World} {l : List Ent} (h : Mw k s e w) (q : Kp [k.mb] w w') (hQ : Kq.Q w' k.mb k.sv k.bv e l) (ok : Kn.Ok l) (few : ∀ x ∈ l, x.a < s.sides.length) : Mw k (s.setQ l) e w' := by
  obtain ⟨C, hC, -⟩ := id h.q
  have n1 : ∀ {t sz n v xs}, w.ownsRow 0 t sz v n xs → t ≠ 66 → ∀ g, v.ownBlock = some g → g ∉ [k.mb] := fun hr ht g hg z => own_aside hr hC ht (mem_ob.2 (by rw [hg, show g = k.mb by simpa using z]))
  have n2 : ∀ {g D t}, Has w g D t → t ≠ 66 → g ∉ [k.mb] := fun {g D t} hg ht z => hg.apart hC ht (by simpa using z)
  have h0 : 0 ∉ [k.mb] := fun z => h.pos (mem_foot.2 (.inl (by simpa using z)))
  refine ⟨Laid.kept h.laid q h0, hQ, own_kept h.row q (n1 h.row (by decide)), h.len, fun i x hx => ?_, h.nod, own_kept h.mem q (n1 h.mem (by decide)), own_kept h.evs q (n1 h.evs (by decide)), h.num, h.most, h.wrd, h.ok, ok, few, h.pos⟩
  have hs := h.side i x hx
  obtain ⟨B, hB, -⟩ := hs.hs
  exact Si.kept hs q (n2 hB (by decide)) (fun y hy => n1 hs.code (by decide) y (mem_ob.1 hy))

set_option maxHeartbeats 400000 in
theorem sleep_does (k : Mk) (i : Nat) (x : Sk) (hx : k.ss[i]? = some x) (s : Ms) (m : Int) (w : World) :
    Does (MI k) s w 47 #[.pointer (some ⟨x.g, 0, none⟩), .int .i64 m] (.tuple #[]) (s.sleep i m) := by
  rintro F ⟨e, h, rfl⟩
  have h1 := h.later (Gr.refl w).drew
  obtain ⟨B, sr, -⟩ := h1.sr hx
  have HH := hide h
  have H1 := hide h1
  have c0 := sr.c0
  have c1 := sr.c1
  clear h h1
  go_enter Tryz.func47, Tryz.ntmps47
  go_wp2_with (fail)
  refine begin_late 12 [11] (fun w' => w' = w.drew) (by kernel_rfl) rfl ?_
  have hH : w.drew = w.drew := rfl
  refine AnyL.pp 0 4 (.pointer (some ⟨x.g, 0, none⟩)) rfl rfl (by kernel_rfl) (fun _ _ _ h => h) (fun _ => by go_simp) hH ?_
  simp only [pz, pz0, pzs]
  refine AnyL.pp 1 5 (.pointer (some ⟨x.g, 0, none⟩)) rfl rfl (by kernel_rfl) (fun _ _ _ h => h) (fun _ => by go_simp) hH ?_
  simp only [pz, pz0, pzs]
  refine AnyL.pp 2 6 (.pointer (some ⟨x.g, 0, none⟩)) rfl rfl (by kernel_rfl) (fun _ _ _ h => h) (fun _ => by go_simp) hH ?_
  simp only [pz, pz0, pzs]
  refine AnyL.tt 3 7 (.pointer (some ⟨k.mb, 0, none⟩)) rfl rfl (by kernel_rfl) (fun _ _ _ h => h) (fun w' hw' => by subst hw'; go_simp) hH ?_
  simp only [pz, pz0, pzs]
  refine AnyL.pp 4 8 (.pointer (some ⟨k.mb, 0, none⟩)) rfl rfl (by kernel_rfl) (fun _ _ _ h => h) (fun _ => by go_simp) hH ?_
  simp only [pz, pz0, pzs]
  refine AnyL.pp 5 9 (.pointer (some ⟨k.mb, 2, none⟩)) rfl rfl (by kernel_rfl) (fun _ _ _ h => h) (fun _ => by go_simp) hH ?_
  simp only [pz, pz0, pzs]
  refine AnyL.pp 6 10 (.pointer (some ⟨x.g, 0, none⟩)) rfl rfl (by kernel_rfl) (fun _ _ _ h => h) (fun _ => by go_simp) hH ?_
  simp only [pz, pz0, pzs]
  refine AnyL.pp 7 11 (.pointer (some ⟨x.g, 0, none⟩)) rfl rfl (by kernel_rfl) (fun _ _ _ h => h) (fun _ => by go_simp) hH ?_
  simp only [pz, pz0, pzs]
  refine AnyL.pp 8 12 (.pointer (some ⟨x.g, 1, none⟩)) rfl rfl (by kernel_rfl) (fun _ _ _ h => h) (fun _ => by go_simp) hH ?_
  simp only [pz, pz0, pzs]
  refine AnyL.tt 9 13 (.int .i64 i) rfl rfl (by kernel_rfl) (fun _ _ _ h => h) (fun w' hw' => by subst hw'; go_simp) hH ?_
  simp only [pz, pz0, pzs]
  refine AnyL.pp 10 14 (.int .i64 m) rfl rfl (by kernel_rfl) (fun _ _ _ h => h) (fun _ => by go_simp) hH ?_
  simp only [pz, pz0, pzs]
  refine AnyL.one 11 (by kernel_rfl) rfl (by kernel_rfl) ?_
  have HC := Kq.sleep_calls H1.out.q H1.out.slp (i : Int) m
  refine wp_call (some 15) rfl _ _ (by kernel_rfl) HC ?_
  rintro r u ⟨⟨rfl, k2⟩, q2⟩
  refine ⟨_, rfl, late (by kernel_rfl), ?_⟩
  refine AnyL.done (by kernel_rfl) ?_
  have hi := H1.out.lt hx
  have few : ∀ y ∈ Kq.sleepL (i : Int) m s.slp, y.a < s.sides.length := fun y hy => by
    unfold Kq.sleepL at hy
    split at hy
    · rcases List.mem_append.1 hy with hy | hy
      · exact H1.out.few y hy
      · obtain rfl := List.mem_singleton.1 hy
        show (i : Int) < _
        omega
    · exact H1.out.few y hy
  have h2 := H1.out.setQ k2 q2 (Kq.Ok.sleep H1.out.slp (i : Int) m) few
  have HP := hide (mi_post HH.out h2 (((Gr.refl w).drew.kp (k.foot e)).trans k2 (fun _ h => h) (fun y hy => .inl (mem_foot.2 (.inl (by simpa using hy))))) foot_evs)
  clear HC k2 q2 c0 c1 sr h2 hH
  go_wp2_with (fail)
  go_end0
  exact ⟨rfl, HP.out⟩
end Go.Proofs.YtfhplbmgjgfihaaGreatDoor.Mc
