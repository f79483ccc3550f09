/-
  A side is another one; what store and sleep of a side do. No condition but what each law names.
-/
import Derived.Test.YthbenfnanhpcoaaGreatDoorZtbaMchN
namespace Go.Proofs.YthbenfnanhpcoaaGreatDoor.Mc
open Go.ChangeShapes Go.WideShapes Go.ChangeAt Go.RowKit
set_option linter.unusedVariables false
set_option maxRecDepth 20000

theorem side_set {s : Ms} {i : Nat} (hi : i < s.sides.length) (d : Sd) (j : Nat) : (s.setS i d).side j = if j = i then d else s.side j := by
  unfold Ms.side Ms.setS
  simp only [List.getD_eq_getElem?_getD, List.getElem?_set]
  by_cases h : i = j
  · subst h; simp [hi]
  · have h' : ¬ j = i := fun e => h e.symm
    simp [h, h']
theorem Mw.lt {k : Mk} {s : Ms} {e : Value} {w : World} (h : Mw k s e w) {i : Nat} {x : Sk} (hx : k.ss[i]? = some x) : i < s.sides.length := by
  rw [← h.len]
  exact (List.getElem?_eq_some_iff.1 hx).1
theorem nod_ne {l : List Sk} (h : (l.map Sk.g).Nodup) {i j : Nat} {x y : Sk} (hx : l[i]? = some x) (hy : l[j]? = some y) (hij : j ≠ i) : y.g ≠ x.g := by
  intro e
  obtain ⟨hi, rfl⟩ := List.getElem?_eq_some_iff.1 hx
  obtain ⟨hj, rfl⟩ := List.getElem?_eq_some_iff.1 hy
  have := (List.getElem_inj (i := j) (j := i) (h₀ := by simpa using hj) (h₁ := by simpa using hi) h).1 (by simpa using e)
  exact hij this
/-- a side is another one -/
theorem Mw.setS {k : Mk} {s : Ms} {e : Value} {w : World} (h : Mw k s e w) {i : Nat} {x : Sk} (hx : k.ss[i]? = some x) {w' : World} (q : Kp [x.g] w w') {B : Array Value} {d : Sd} (hB : Has w' x.g (sideA k.mb i x.cv d.t B k.N x.g) 105) (iB : Bf.IsB B s.room d.buf)
    (hc : d.code = (s.side i).code) (ht : ThOk d.t) (he : ∀ c ∈ d.buf, (0 ≤ c.a ∧ c.a < k.N) ∧ U32 c.v) : Mw k (s.setS i d) e w' := by
  have hi := h.lt hx
  obtain ⟨B0, sr, -⟩ := h.sr hx
  obtain ⟨C, hC, -⟩ := id h.q
  have n1 : ∀ {t sz n v xs}, w.ownsRow 0 t sz v n xs → t ≠ 105 → ∀ g, v.ownBlock = some g → g ∉ [x.g] := fun hr ht g hg z => own_aside hr sr.has ht (mem_ob.2 (by rw [hg, show g = x.g by simpa using z]))
  have n2 : ∀ {g C t}, Has w g C t → t ≠ 105 → g ∉ [x.g] := fun {g C t} hg ht z => hg.apart sr.has ht (by simpa using z)
  have h0 : 0 ∉ [x.g] := fun z => h.pos (mem_foot.2 (.inr (.inr (.inr (.inr (.inl ⟨x, mem_get hx, by rw [show 0 = x.g by simpa using z]⟩))))))
  have hok : (s.setS i d).okB = true := by
    refine ok_set ?_ h.ok
    obtain ⟨r, f, ib⟩ := iB
    exact Nat.le_trans ib.len ib.most
  refine ⟨Laid.kept h.laid q h0, h.q.kept q (n2 hC (by decide)), own_kept h.row q (n1 h.row (by decide)), by rw [h.len]; simp [Ms.setS], fun j y hy => ?_, h.nod, own_kept h.mem q (n1 h.mem (by decide)), own_kept h.evs q (n1 h.evs (by decide)), h.num, h.most, h.wrd, hok, h.slp, by simpa [Ms.setS] using h.few, h.pos⟩
  rw [side_set hi]
  have hsj := h.side j y hy
  by_cases hj : j = i
  · subst hj
    rw [if_pos rfl]
    obtain rfl : y = x := Option.some.inj (hy.symm.trans hx)
    refine ⟨⟨B, hB, iB⟩, ?_, ht, ?_, he⟩
    · rw [hc]; exact own_kept hsj.code q (n1 hsj.code (by decide))
    · rw [hc]; exact hsj.ins
  · rw [if_neg hj]
    exact Si.kept hsj q (fun z => nod_ne h.nod hx hy hj (by simpa using z)) (fun z hz => n1 hsj.code (by decide) z (mem_ob.1 hz))
theorem kp_side {k : Mk} {s : Ms} {e : Value} {w w' : World} (h : Mw k s e w) {i : Nat} {x : Sk} (hx : k.ss[i]? = some x) (q : Kp [x.g] w w') : Kp (k.foot e) w w' :=
  q.trans (Kp.refl (k.foot e) w') (fun y hy => mem_foot.2 (.inr (.inr (.inr (.inr (.inl ⟨x, mem_get hx, by rw [show y = x.g by simpa using hy]⟩)))))) (fun y hy => .inl hy)
/-- a side's buffer is another one -/
theorem Mw.setB {k : Mk} {s : Ms} {e : Value} {w : World} (h : Mw k s e w) {i : Nat} {x : Sk} (hx : k.ss[i]? = some x) {D : Array Value} {l : List Ent} (iD : Bf.IsB D s.room l) (he : ∀ c ∈ l, (0 ≤ c.a ∧ c.a < k.N) ∧ U32 c.v) :
    Mw k (s.setB i l) e (w.setCells x.g 13 D.toList) ∧ Kp [x.g] w (w.setCells x.g 13 D.toList) := by
  obtain ⟨B0, sr, -⟩ := h.sr hx
  have hD : D.size = 35 := by obtain ⟨r, f, ib⟩ := iD; rw [ib.cells]; exact Bf.bufC_size ib.ring _ _ _
  have q := Kq.kp_setCells (b := x.g) D.toList 13 w
  refine ⟨h.setS hx q (B := D) ?_ iD rfl sr.th he, q⟩
  have := Kq.setCells_has D.toList 13 w _ sr.has
  rwa [side_setB sr.th sr.sz hD] at this
theorem bf_one {D : Array Value} {room : Nat} {l : List Ent} (h : Bf.IsB D room l) : D.all (·.oneCell') = true := by
  obtain ⟨r, f, ib⟩ := h; rw [ib.cells]; exact Bf.bufC_one _ _ _ _
theorem bf_size {D : Array Value} {room : Nat} {l : List Ent} (h : Bf.IsB D room l) : D.size = 35 := by
  obtain ⟨r, f, ib⟩ := h; rw [ib.cells]; exact Bf.bufC_size ib.ring _ _ _
theorem infoBs {D : Array Value} (h : D.size = 35) : (Tryz.prog.info? 96).map (·.size) = some D.size := by rw [h]; exact infoBf
theorem Sr.thr {k : Mk} {x : Sk} {i : Nat} {d : Sd} {B : Array Value} {w : World} (h : Sr k x i d B w) {n : Nat} (hn : n = 35) : w.there x.g 13 n := h.has.there 13 n (by rw [side_size h.th h.sz]; omega)

set_option maxHeartbeats 400000 in
theorem store_does (k : Mk) (i : Nat) (x : Sk) (hx : k.ss[i]? = some x) (s : Ms) (m v : Int) (h0 : 0 ≤ m) (hm : m < k.N) (hu : U32 v) (w : World) :
    Does (MI k) s w 76 #[.pointer (some ⟨x.g, 0, none⟩), .int .i64 m, .int .u32 v] (.tuple #[]) (s.store i m v) := by
  rintro F ⟨e, h, rfl⟩
  obtain ⟨B, sr, iB⟩ := h.sr hx
  have rB := sr.rB
  have ib := infoBl sr.sz
  have HH := hide h
  have HB := hide iB
  have HU := hide hu
  clear h iB sr hu
  go_enter Tryz.func76, Tryz.ntmps76
  go_wp2_with (first
    | (refine wpList_load_mid rfl 96 _ rfl x.g 13 rfl B.toList _ rB Tryz.underlying96 rfl ib ?_))
  refine (Bf.put_any HB.out ⟨m, v⟩ w).mono ?_
  rintro r w1 ⟨D, ⟨rfl, g1⟩, iD⟩
  have h1 := HH.out.later g1
  obtain ⟨B1, sr1, -⟩ := h1.sr hx
  have hee : ∀ c ∈ Bf.putL s.room (s.side i).buf ⟨m, v⟩, (0 ≤ c.a ∧ c.a < k.N) ∧ U32 c.v := fun c hc => by
    unfold Bf.putL at hc
    have hs := (h1.side i x hx).ent
    split at hc
    · rcases List.mem_append.1 hc with hc | hc
      · exact hs c hc
      · obtain rfl := List.mem_singleton.1 hc
        exact ⟨⟨h0, hm⟩, HU.out⟩
    · exact hs c hc
  obtain ⟨h2, k2⟩ := h1.setB hx iD hee
  have HP := hide (mi_post HH.out h2 ((g1.kp (k.foot e)).trans (kp_side h1 hx k2) (fun _ h => h) (fun _ h => .inl h)) foot_evs)
  have thr := sr1.thr (bf_size iD)
  have i1 := infoBs (bf_size iD)
  have o1 := bf_one iD
  clear h1 sr1 h2 k2 hee iD rB
  go_wp2_with (first
    | (refine wpList_store_mid rfl 96 _ _ rfl x.g 13 D rfl rfl thr i1 o1 ?_))
  go_end0
  exact ⟨rfl, HP.out⟩
end Go.Proofs.YthbenfnanhpcoaaGreatDoor.Mc

namespace Go.Proofs.YthbenfnanhpcoaaGreatDoor.Mc
open Go.ChangeShapes Go.WideShapes Go.ChangeAt Go.RowKit
set_option linter.unusedVariables false
set_option maxRecDepth 20000

/-- the queue is another one -/
theorem Mw.setQ {k : Mk} {s : Ms} {e : Value} {w w' : World} {l : List Ent} (h : Mw k s e w) (q : Kp [k.mb] w w') (hQ : Kq.Q w' k.mb k.sv k.bv e l) (ok : Kn.Ok l) (few : ∀ x ∈ l, x.a < s.sides.length) : Mw k (s.setQ l) e w' := by
  obtain ⟨C, hC, -⟩ := id h.q
  have n1 : ∀ {t sz n v xs}, w.ownsRow 0 t sz v n xs → t ≠ 88 → ∀ g, v.ownBlock = some g → g ∉ [k.mb] := fun hr ht g hg z => own_aside hr hC ht (mem_ob.2 (by rw [hg, show g = k.mb by simpa using z]))
  have n2 : ∀ {g D t}, Has w g D t → t ≠ 88 → g ∉ [k.mb] := fun {g D t} hg ht z => hg.apart hC ht (by simpa using z)
  have h0 : 0 ∉ [k.mb] := fun z => h.pos (mem_foot.2 (.inl (by simpa using z)))
  refine ⟨Laid.kept h.laid q h0, hQ, own_kept h.row q (n1 h.row (by decide)), h.len, fun i x hx => ?_, h.nod, own_kept h.mem q (n1 h.mem (by decide)), own_kept h.evs q (n1 h.evs (by decide)), h.num, h.most, h.wrd, h.ok, ok, few, h.pos⟩
  have hs := h.side i x hx
  obtain ⟨B, hB, -⟩ := hs.hs
  exact Si.kept hs q (n2 hB (by decide)) (fun y hy => n1 hs.code (by decide) y (mem_ob.1 hy))

set_option maxHeartbeats 400000 in
theorem sleep_does (k : Mk) (i : Nat) (x : Sk) (hx : k.ss[i]? = some x) (s : Ms) (m : Int) (w : World) :
    Does (MI k) s w 79 #[.pointer (some ⟨x.g, 0, none⟩), .int .i64 m] (.tuple #[]) (s.sleep i m) := by
  rintro F ⟨e, h, rfl⟩
  have h1 := h.later (Gr.refl w).drew
  obtain ⟨B, sr, -⟩ := h1.sr hx
  have HH := hide h
  have H1 := hide h1
  have c0 := sr.c0
  have c1 := sr.c1
  clear h h1
  go_enter Tryz.func79, Tryz.ntmps79
  go_wp2_with (fail)
  refine begin_late 12 [11] (fun w' => w' = w.drew) (by kernel_rfl) rfl ?_
  have hH : w.drew = w.drew := rfl
  refine AnyL.takeP 0 (some 4) (.pointer (some ⟨x.g, 0, none⟩)) rfl rfl (by kernel_rfl) (by kernel_rfl) (by kernel_rfl) (by kernel_rfl) (fun _ _ _ h => h) (by kernel_rfl) (fun w' => by go_simp) (fun _ => hH) ?_
  simp only [Act.put, List.setIfInBounds_toArray, List.set_cons_zero, List.set_cons_succ]
  refine AnyL.takeP 1 (some 5) (.pointer (some ⟨x.g, 0, none⟩)) rfl rfl (by kernel_rfl) (by kernel_rfl) (by kernel_rfl) (by kernel_rfl) (fun _ _ _ h => h) (by kernel_rfl) (fun w' => by go_simp) (fun _ => hH) ?_
  simp only [Act.put, List.setIfInBounds_toArray, List.set_cons_zero, List.set_cons_succ]
  refine AnyL.takeP 2 (some 6) (.pointer (some ⟨x.g, 0, none⟩)) rfl rfl (by kernel_rfl) (by kernel_rfl) (by kernel_rfl) (by kernel_rfl) (fun _ _ _ h => h) (by kernel_rfl) (fun w' => by go_simp) (fun _ => hH) ?_
  simp only [Act.put, List.setIfInBounds_toArray, List.set_cons_zero, List.set_cons_succ]
  refine AnyL.take 3 (some 7) (.pointer (some ⟨k.mb, 0, none⟩)) rfl rfl (by kernel_rfl) (by kernel_rfl) (by kernel_rfl) (by kernel_rfl) (fun _ _ _ h => h) (yields_held _ (by kernel_rfl) (fun w' hw' => by subst hw'; go_simp)) hH ?_
  simp only [Act.put, List.setIfInBounds_toArray, List.set_cons_zero, List.set_cons_succ]
  refine AnyL.takeP 4 (some 8) (.pointer (some ⟨k.mb, 0, none⟩)) rfl rfl (by kernel_rfl) (by kernel_rfl) (by kernel_rfl) (by kernel_rfl) (fun _ _ _ h => h) (by kernel_rfl) (fun w' => by go_simp) (fun _ => hH) ?_
  simp only [Act.put, List.setIfInBounds_toArray, List.set_cons_zero, List.set_cons_succ]
  refine AnyL.takeP 5 (some 9) (.pointer (some ⟨k.mb, 2, none⟩)) rfl rfl (by kernel_rfl) (by kernel_rfl) (by kernel_rfl) (by kernel_rfl) (fun _ _ _ h => h) (by kernel_rfl) (fun w' => by go_simp) (fun _ => hH) ?_
  simp only [Act.put, List.setIfInBounds_toArray, List.set_cons_zero, List.set_cons_succ]
  refine AnyL.takeP 6 (some 10) (.pointer (some ⟨x.g, 0, none⟩)) rfl rfl (by kernel_rfl) (by kernel_rfl) (by kernel_rfl) (by kernel_rfl) (fun _ _ _ h => h) (by kernel_rfl) (fun w' => by go_simp) (fun _ => hH) ?_
  simp only [Act.put, List.setIfInBounds_toArray, List.set_cons_zero, List.set_cons_succ]
  refine AnyL.takeP 7 (some 11) (.pointer (some ⟨x.g, 0, none⟩)) rfl rfl (by kernel_rfl) (by kernel_rfl) (by kernel_rfl) (by kernel_rfl) (fun _ _ _ h => h) (by kernel_rfl) (fun w' => by go_simp) (fun _ => hH) ?_
  simp only [Act.put, List.setIfInBounds_toArray, List.set_cons_zero, List.set_cons_succ]
  refine AnyL.takeP 8 (some 12) (.pointer (some ⟨x.g, 1, none⟩)) rfl rfl (by kernel_rfl) (by kernel_rfl) (by kernel_rfl) (by kernel_rfl) (fun _ _ _ h => h) (by kernel_rfl) (fun w' => by go_simp) (fun _ => hH) ?_
  simp only [Act.put, List.setIfInBounds_toArray, List.set_cons_zero, List.set_cons_succ]
  refine AnyL.take 9 (some 13) (.int .i64 i) rfl rfl (by kernel_rfl) (by kernel_rfl) (by kernel_rfl) (by kernel_rfl) (fun _ _ _ h => h) (yields_held _ (by kernel_rfl) (fun w' hw' => by subst hw'; go_simp)) hH ?_
  simp only [Act.put, List.setIfInBounds_toArray, List.set_cons_zero, List.set_cons_succ]
  refine AnyL.takeP 10 (some 14) (.int .i64 m) rfl rfl (by kernel_rfl) (by kernel_rfl) (by kernel_rfl) (by kernel_rfl) (fun _ _ _ h => h) (by kernel_rfl) (fun w' => by go_simp) (fun _ => hH) ?_
  simp only [Act.put, List.setIfInBounds_toArray, List.set_cons_zero, List.set_cons_succ]
  refine AnyL.one 11 (by kernel_rfl) rfl (by kernel_rfl) ?_
  have HC := Kq.sleep_calls H1.out.q H1.out.slp (i : Int) m
  refine wp_call (some 15) rfl _ _ (by kernel_rfl) HC ?_
  rintro r u ⟨⟨rfl, k2⟩, q2⟩
  refine ⟨_, rfl, late (by kernel_rfl), ?_⟩
  refine AnyL.done (by kernel_rfl) ?_
  have hi := H1.out.lt hx
  have few : ∀ y ∈ Kq.sleepL (i : Int) m s.slp, y.a < s.sides.length := fun y hy => by
    unfold Kq.sleepL at hy
    split at hy
    · rcases List.mem_append.1 hy with hy | hy
      · exact H1.out.few y hy
      · obtain rfl := List.mem_singleton.1 hy
        show (i : Int) < _
        omega
    · exact H1.out.few y hy
  have h2 := H1.out.setQ k2 q2 (Kq.Ok.sleep H1.out.slp (i : Int) m) few
  have HP := hide (mi_post HH.out h2 (((Gr.refl w).drew.kp (k.foot e)).trans k2 (fun _ h => h) (fun y hy => .inl (mem_foot.2 (.inl (by simpa using hy))))) foot_evs)
  clear HC k2 q2 c0 c1 sr h2 hH
  go_wp2_with (fail)
  go_end0
  exact ⟨rfl, HP.out⟩
end Go.Proofs.YthbenfnanhpcoaaGreatDoor.Mc
