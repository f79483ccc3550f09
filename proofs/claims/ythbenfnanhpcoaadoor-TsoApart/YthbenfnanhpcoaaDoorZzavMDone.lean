/-
  What done does where the instruction is halt, jumps, asks memory, or is done alone. No condition but that the port's functions are such, and have room.
-/
import Derived.Test.YthbenfnanhpcoaaDoorZzar
import Derived.Test.YthbenfnanhpcoaaDoorZzatMAskd
import Derived.Test.YthbenfnanhpcoaaDoorZzauMAlon
namespace Go.Proofs.YthbenfnanhpcoaaDoor.Mp
open Go.ChangeShapes Go.WideShapes Go.ChangeAt Go.RowKit
set_option linter.unusedVariables false
set_option maxRecDepth 20000

set_option maxHeartbeats 2000000 in
theorem done_end {S : Type} {I : List Nat → S → World → Prop} {M : Prt S} {f : Fns} (P : PortOk I M f) {t : Th} (ht : ThOk t) (hp : 0 ≤ t.pc) (hp' : t.pc < 4611686018427387904) (i : Ins) (hi : InsOk i) (ha : regB i.a = true) (s : S) (h0 : i.op = 0) (hq : 600 ≤ M.fuel s) (w : World) :
    Does I s w 73 #[.agg (thC t), .agg (insA i), .agg (portA M.size f)] (.agg (thC (doneM M t i s).1)) (doneM M t i s).2 := by
  intro F hI
  have fr := Fr4.start P.inv hI t i M.size f
  have HV := hide P.inv
  have HT := hide ht
  have HL := hide (fr.p.laid P.inv)
  have HX : Hid (doneM M t i s = endM M t s 2 12) := by show _ = _; simp [doneM, h0]
  have HD : Hid (∀ w, Does I s w 68 #[.agg (thC t), .agg (portA M.size f), .int .i64 2, .int .i64 12] (.agg (thC (endM M t s 2 12).1)) (endM M t s 2 12).2) := fun w => ended_does P ht 2 12 s (by omega) w
  have HO : Hid (ThOk (endM M t s 2 12).1) := ht.is 2
  rw [HX.out]
  generalize endM M t s 2 12 = r at HD HO ⊢
  clear P hI ht hi ha hq hp hp' HX
  obtain ⟨op, a, b, c, k⟩ := i
  have h0 : op = 0 := h0
  subst h0
  go_enter Tryd.func73, Tryd.ntmps73
  go_wp2_with (first
    | (refine load_th rfl _ rfl w.heap.size rfl t fr.b0 HT.out ?_)
    | (refine load_port rfl _ rfl (w.heap.size + 1 + 1) rfl M.size f fr.b2 ?_)
    | (go_at_call 68; refine ((HD.out _).go fr.p).mono ?_; rintro e u2 ⟨⟨rfl, k1⟩, p1⟩; replace fr := fr.loc k1 p1; clear k1 p1)
    | (refine store_th rfl _ _ rfl (w.heap.size + 1 + 1 + 1) rfl r.1 rfl th0 fr.b3 HO.out th0_ok ?_))
  have FR := hide (fr.res HV.out r.1)
  exact bodyPost_ret (results_th rfl _ _ (w.heap.size + 1 + 1 + 1) r.1 rfl FR.out.b3 HO.out) rfl ⟨rfl, FR.out.p.end⟩

set_option maxHeartbeats 2000000 in
theorem done_jump {S : Type} {I : List Nat → S → World → Prop} {M : Prt S} {f : Fns} (P : PortOk I M f) {t : Th} (ht : ThOk t) (hp : 0 ≤ t.pc) (hp' : t.pc < 4611686018427387904) (i : Ins) (hi : InsOk i) (ha : regB i.a = true) (s : S) (h0 : (i.op == 0) = false) (hj : jumpB i.op = true) (hq : 600 ≤ M.fuel s) (w : World) :
    Does I s w 73 #[.agg (thC t), .agg (insA i), .agg (portA M.size f)] (.agg (thC (doneM M t i s).1)) (doneM M t i s).2 := by
  intro F hI
  have fr := Fr4.start P.inv hI t i M.size f
  have HV := hide P.inv
  have HT := hide ht
  have HL := hide (fr.p.laid P.inv)
  have HX : Hid (doneM M t i s = (t.at (nextM t i), s)) := by show _ = _; simp [doneM, h0, hj]
  have HN := hide (next_calls ht i hi ha hp hp')
  rw [HX.out]
  generalize nextM t i = n at HN ⊢
  clear P hI ht hi ha hq hp hp' HX
  obtain ⟨op, a, b, c, k⟩ := i
  have h0 : (op == 0) = false := h0
  have hj : jumpB op = true := hj
  go_enter Tryd.func73, Tryd.ntmps73
  go_wp2_with (first
    | (go_at_call 101; refine (jumps_calls _ _ HL.out).mono ?_; rw [hj]; rintro e u1 ⟨rfl, rfl⟩)
    | (refine load_th rfl _ rfl w.heap.size rfl t fr.b0 HT.out ?_)
    | (refine load_ins rfl _ rfl (w.heap.size + 1) rfl ⟨op, a, b, c, k⟩ fr.b1 ?_)
    | (go_at_call 102; refine (HN.out _).mono ?_; rintro e u1 ⟨rfl, g1⟩; replace fr := fr.gr HV.out g1; clear g1; have c0 := fr.b0.cell (thC_pc t); have f0 := fr.b0.free 0; have fr1 := fr.set HV.out 0 (.int .i64 n) (thC_at t n))
    | (refine load_th rfl _ rfl w.heap.size rfl (t.at n) fr1.b0 (HT.out.at n) ?_)
    | (refine store_th rfl _ _ rfl (w.heap.size + 1 + 1 + 1) rfl (t.at n) rfl th0 fr1.b3 (HT.out.at n) th0_ok ?_))
  have FR := hide (fr1.res HV.out (t.at n))
  exact bodyPost_ret (results_th rfl _ _ (w.heap.size + 1 + 1 + 1) (t.at n) rfl FR.out.b3 (HT.out.at n)) rfl ⟨rfl, FR.out.p.end⟩

set_option maxHeartbeats 2000000 in
theorem done_ask {S : Type} {I : List Nat → S → World → Prop} {M : Prt S} {f : Fns} (P : PortOk I M f) {t : Th} (ht : ThOk t) (hp : 0 ≤ t.pc) (hp' : t.pc < 4611686018427387904) (i : Ins) (hi : InsOk i) (ha : regB i.a = true) (s : S) (h0 : (i.op == 0) = false) (hj : jumpB i.op = false) (hk : askB i.op = true) (hc : regB i.c = true) (h1 : addrM t i < M.size) (hr : i.op = 17 → M.room s = true) (hq : 600 ≤ M.fuel s) (w : World) :
    Does I s w 73 #[.agg (thC t), .agg (insA i), .agg (portA M.size f)] (.agg (thC (doneM M t i s).1)) (doneM M t i s).2 := by
  intro F hI
  have fr := Fr4.start P.inv hI t i M.size f
  have HV := hide P.inv
  have HT := hide ht
  have HL := hide (fr.p.laid P.inv)
  have HX : Hid (doneM M t i s = onM (askedM M t i s)) := by show _ = _; simp [doneM, h0, hj, hk]
  have HD : Hid (∀ w, Does I s w 103 #[.agg (thC t), .agg (insA i), .agg (portA M.size f)] (.agg (thC (askedM M t i s).1)) (askedM M t i s).2) := fun w => asked_does P ht i hi ha hc h1 s hr hq w
  have HO := hide (askedM_ok P hI ht i)
  have hw : IntKind.i64.wrap ((askedM M t i s).1.pc + 1) = (askedM M t i s).1.pc + 1 := by
    rw [askedM_pc, IntKind.wrap_i64]; omega
  rw [HX.out]
  generalize askedM M t i s = r at HD HO hw ⊢
  obtain ⟨op, a, b, c, k⟩ := i
  have h0 : (op == 0) = false := h0
  have hj : jumpB op = false := hj
  have hk : askB op = true := hk
  clear hc h1 hr
  clear P hI ht hi ha hq hp hp' HX
  go_enter Tryd.func73, Tryd.ntmps73
  go_wp2_with (first
    | (go_at_call 101; refine (jumps_calls _ _ HL.out).mono ?_; rw [hj]; rintro e u1 ⟨rfl, rfl⟩)
    | (go_at_call 69; refine (asks_calls _ _ HL.out).mono ?_; rw [hk]; rintro e u1 ⟨rfl, rfl⟩)
    | (refine load_ins rfl _ rfl (w.heap.size + 1) rfl ⟨op, a, b, c, k⟩ fr.b1 ?_)
    | (refine load_port rfl _ rfl (w.heap.size + 1 + 1) rfl M.size f fr.b2 ?_)
    | (refine load_th rfl _ rfl w.heap.size rfl t fr.b0 HT.out ?_)
    | (go_at_call 103; refine ((HD.out _).go fr.p).mono ?_; rintro e u2 ⟨⟨rfl, k1⟩, p1⟩; replace fr := fr.loc k1 p1; clear k1 p1; have fr2 := fr.all HV.out r.1; have c0 := fr2.b0.cell (thC_pc r.1); have f0 := fr2.b0.free 0; have fr3 := fr2.set HV.out 0 (.int .i64 (r.1.pc + 1)) (thC_at r.1 (r.1.pc + 1)))
    | (refine store_th rfl _ _ rfl w.heap.size rfl r.1 rfl t fr.b0 HO.out HT.out ?_)
    | (refine load_th rfl _ rfl w.heap.size rfl (r.1.at (r.1.pc + 1)) fr3.b0 (HO.out.at (r.1.pc + 1)) ?_)
    | (refine store_th rfl _ _ rfl (w.heap.size + 1 + 1 + 1) rfl (r.1.at (r.1.pc + 1)) rfl th0 fr3.b3 (HO.out.at (r.1.pc + 1)) th0_ok ?_))
  have FR := hide (fr3.res HV.out (r.1.at (r.1.pc + 1)))
  exact bodyPost_ret (results_th rfl _ _ (w.heap.size + 1 + 1 + 1) (r.1.at (r.1.pc + 1)) rfl FR.out.b3 (HO.out.at (r.1.pc + 1))) rfl ⟨rfl, FR.out.p.end⟩

set_option maxHeartbeats 2000000 in
theorem done_alone {S : Type} {I : List Nat → S → World → Prop} {M : Prt S} {f : Fns} (P : PortOk I M f) {t : Th} (ht : ThOk t) (hp : 0 ≤ t.pc) (hp' : t.pc < 4611686018427387904) (i : Ins) (hi : InsOk i) (ha : regB i.a = true) (s : S) (h0 : (i.op == 0) = false) (hj : jumpB i.op = false) (hk : askB i.op = false) (hl : aluB i.op = false) (hb : i.op = 2 → regB i.b = true) (hq : 600 ≤ M.fuel s) (w : World) :
    Does I s w 73 #[.agg (thC t), .agg (insA i), .agg (portA M.size f)] (.agg (thC (doneM M t i s).1)) (doneM M t i s).2 := by
  intro F hI
  have fr := Fr4.start P.inv hI t i M.size f
  have HV := hide P.inv
  have HT := hide ht
  have HL := hide (fr.p.laid P.inv)
  have HX : Hid (doneM M t i s = onM (aloneM M t i s)) := by show _ = _; simp [doneM, h0, hj, hk, hl]
  have HD : Hid (∀ w, Does I s w 106 #[.agg (thC t), .agg (insA i), .agg (portA M.size f)] (.agg (thC (aloneM M t i s).1)) (aloneM M t i s).2) := fun w => alone_does P ht i hi ha hb s (by omega) w
  have HO := hide (aloneM_ok M ht i hi s)
  have hw : IntKind.i64.wrap ((aloneM M t i s).1.pc + 1) = (aloneM M t i s).1.pc + 1 := by
    rw [aloneM_pc, IntKind.wrap_i64]; omega
  rw [HX.out]
  generalize aloneM M t i s = r at HD HO hw ⊢
  obtain ⟨op, a, b, c, k⟩ := i
  have h0 : (op == 0) = false := h0
  have hj : jumpB op = false := hj
  have hk : askB op = false := hk
  have hl : (decide (3 ≤ op) && decide (op ≤ 12)) = false := hl
  clear hb
  clear P hI ht hi ha hq hp hp' HX
  go_enter Tryd.func73, Tryd.ntmps73
  go_wp2_with (first
    | (go_at_call 101; refine (jumps_calls _ _ HL.out).mono ?_; rw [hj]; rintro e u1 ⟨rfl, rfl⟩)
    | (go_at_call 69; refine (asks_calls _ _ HL.out).mono ?_; rw [hk]; rintro e u1 ⟨rfl, rfl⟩)
    | (go_at_call 104; refine (aluis_calls _ _).mono ?_; rw [hl]; rintro e u1 ⟨rfl, rfl⟩)
    | (refine load_ins rfl _ rfl (w.heap.size + 1) rfl ⟨op, a, b, c, k⟩ fr.b1 ?_)
    | (refine load_port rfl _ rfl (w.heap.size + 1 + 1) rfl M.size f fr.b2 ?_)
    | (refine load_th rfl _ rfl w.heap.size rfl t fr.b0 HT.out ?_)
    | (go_at_call 106; refine ((HD.out _).go fr.p).mono ?_; rintro e u2 ⟨⟨rfl, k1⟩, p1⟩; replace fr := fr.loc k1 p1; clear k1 p1; have fr2 := fr.all HV.out r.1; have c0 := fr2.b0.cell (thC_pc r.1); have f0 := fr2.b0.free 0; have fr3 := fr2.set HV.out 0 (.int .i64 (r.1.pc + 1)) (thC_at r.1 (r.1.pc + 1)))
    | (refine store_th rfl _ _ rfl w.heap.size rfl r.1 rfl t fr.b0 HO.out HT.out ?_)
    | (refine load_th rfl _ rfl w.heap.size rfl (r.1.at (r.1.pc + 1)) fr3.b0 (HO.out.at (r.1.pc + 1)) ?_)
    | (refine store_th rfl _ _ rfl (w.heap.size + 1 + 1 + 1) rfl (r.1.at (r.1.pc + 1)) rfl th0 fr3.b3 (HO.out.at (r.1.pc + 1)) th0_ok ?_))
  have FR := hide (fr3.res HV.out (r.1.at (r.1.pc + 1)))
  exact bodyPost_ret (results_th rfl _ _ (w.heap.size + 1 + 1 + 1) (r.1.at (r.1.pc + 1)) rfl FR.out.b3 (HO.out.at (r.1.pc + 1))) rfl ⟨rfl, FR.out.p.end⟩

end Go.Proofs.YthbenfnanhpcoaaDoor.Mp
