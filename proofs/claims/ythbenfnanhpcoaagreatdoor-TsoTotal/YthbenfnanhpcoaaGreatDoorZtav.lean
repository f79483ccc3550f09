/-
  What done does where the instruction is halt, jumps, asks memory, or is done alone. No condition but that the port's functions are such, and have room.
-/
import Derived.Test.YthbenfnanhpcoaaGreatDoorZtar
import Derived.Test.YthbenfnanhpcoaaGreatDoorZtatMAskd
import Derived.Test.YthbenfnanhpcoaaGreatDoorZtauMAlon
import Derived.Test.YthbenfnanhpcoaaGreatDoorZtaqMFrm
namespace Go.Proofs.YthbenfnanhpcoaaGreatDoor.Mp
open Go.ChangeShapes Go.WideShapes Go.ChangeAt Go.RowKit
set_option linter.unusedVariables false
set_option maxRecDepth 20000

set_option maxHeartbeats 2000000 in
theorem done_end {S : Type} {I : List Nat → S → World → Prop} {M : Prt S} {f : Fns} (P : PortOk I M f) {t : Th} (ht : ThOk t) (hp : 0 ≤ t.pc) (hp' : t.pc < 4611686018427387904) (i : Ins) (hi : InsOk i) (ha : regB i.a = true) (s : S) (h0 : i.op = 0) (hq : 600 ≤ M.fuel s) (w : World) :
    Does I s w 96 #[.agg (thC t), .agg (insA i), .agg (portA M.size f)] (.agg (thC (doneM M t i s).1)) (doneM M t i s).2 := by
  intro F hI
  have fr := Fr4.start P.inv hI t i M.size f
  have HV := hide P.inv
  have HT := hide ht
  have HL := hide (fr.p.laid P.inv)
  have HX : Hid (doneM M t i s = endM M t s 2 12) := by show _ = _; simp [doneM, h0]
  have HD : Hid (∀ w, Does I s w 91 #[.agg (thC t), .agg (portA M.size f), .int .i64 2, .int .i64 12] (.agg (thC (endM M t s 2 12).1)) (endM M t s 2 12).2) := fun w => ended_does P ht 2 12 s (by omega) w
  have HO : Hid (ThOk (endM M t s 2 12).1) := ht.is 2
  rw [HX.out]
  generalize endM M t s 2 12 = r at HD HO ⊢
  clear P hI ht hi ha hq hp hp' HX
  obtain ⟨op, a, b, c, k⟩ := i
  have h0 : op = 0 := h0
  subst h0
  go_enter Tryz.func96, Tryz.ntmps96
  go_wp2_with (first
    | (refine load_th rfl _ rfl w.heap.size rfl t fr.b0 HT.out ?_)
    | (refine load_port rfl _ rfl (w.heap.size + 1 + 1) rfl M.size f fr.b2 ?_)
    | (go_at_call 91; refine ((HD.out _).go fr.p).mono ?_; rintro e u2 ⟨⟨rfl, k1⟩, p1⟩; replace fr := fr.loc k1 p1; clear k1 p1)
    | (refine store_th rfl _ _ rfl (w.heap.size + 1 + 1 + 1) rfl r.1 rfl th0 fr.b3 HO.out th0_ok ?_))
  have FR := hide (fr.res HV.out r.1)
  exact bodyPost_ret (results_th rfl _ _ (w.heap.size + 1 + 1 + 1) r.1 rfl FR.out.b3 HO.out) rfl ⟨rfl, FR.out.p.end⟩

set_option maxHeartbeats 2000000 in
theorem done_jump {S : Type} {I : List Nat → S → World → Prop} {M : Prt S} {f : Fns} (P : PortOk I M f) {t : Th} (ht : ThOk t) (hp : 0 ≤ t.pc) (hp' : t.pc < 4611686018427387904) (i : Ins) (hi : InsOk i) (ha : regB i.a = true) (s : S) (h0 : (i.op == 0) = false) (hj : jumpB i.op = true) (hq : 600 ≤ M.fuel s) (w : World) :
    Does I s w 96 #[.agg (thC t), .agg (insA i), .agg (portA M.size f)] (.agg (thC (doneM M t i s).1)) (doneM M t i s).2 := by
  intro F hI
  have fr := Fr4.start P.inv hI t i M.size f
  have HV := hide P.inv
  have HT := hide ht
  have HL := hide (fr.p.laid P.inv)
  have HX : Hid (doneM M t i s = (t.at (nextM t i), s)) := by show _ = _; simp [doneM, h0, hj]
  have HN := hide (next_calls ht i hi ha hp hp')
  rw [HX.out]
  generalize nextM t i = n at HN ⊢
  clear P hI ht hi ha hq hp hp' HX
  obtain ⟨op, a, b, c, k⟩ := i
  have h0 : (op == 0) = false := h0
  have hj : jumpB op = true := hj
  go_enter Tryz.func96, Tryz.ntmps96
  go_wp2_with (first
    | (go_at_call 132; refine (jumps_calls _ _ HL.out).mono ?_; rw [hj]; rintro e u1 ⟨rfl, rfl⟩)
    | (refine load_th rfl _ rfl w.heap.size rfl t fr.b0 HT.out ?_)
    | (refine load_ins rfl _ rfl (w.heap.size + 1) rfl ⟨op, a, b, c, k⟩ fr.b1 ?_)
    | (go_at_call 133; refine (HN.out _).mono ?_; rintro e u1 ⟨rfl, g1⟩; replace fr := fr.gr HV.out g1; clear g1; have c0 := fr.b0.cell (thC_pc t); have f0 := fr.b0.free 0; have fr1 := fr.set HV.out 0 (.int .i64 n) (thC_at t n))
    | (refine load_th rfl _ rfl w.heap.size rfl (t.at n) fr1.b0 (HT.out.at n) ?_)
    | (refine store_th rfl _ _ rfl (w.heap.size + 1 + 1 + 1) rfl (t.at n) rfl th0 fr1.b3 (HT.out.at n) th0_ok ?_))
  have FR := hide (fr1.res HV.out (t.at n))
  exact bodyPost_ret (results_th rfl _ _ (w.heap.size + 1 + 1 + 1) (t.at n) rfl FR.out.b3 (HT.out.at n)) rfl ⟨rfl, FR.out.p.end⟩

set_option maxHeartbeats 2000000 in
theorem done_ask {S : Type} {I : List Nat → S → World → Prop} {M : Prt S} {f : Fns} (P : PortOk I M f) {t : Th} (ht : ThOk t) (hp : 0 ≤ t.pc) (hp' : t.pc < 4611686018427387904) (i : Ins) (hi : InsOk i) (ha : regB i.a = true) (s : S) (h0 : (i.op == 0) = false) (hj : jumpB i.op = false) (hk : askB i.op = true) (hc : regB i.c = true) (h1 : addrM t i < M.size) (hr : i.op = 17 → M.room s = true) (hq : 600 ≤ M.fuel s) (w : World) :
    Does I s w 96 #[.agg (thC t), .agg (insA i), .agg (portA M.size f)] (.agg (thC (doneM M t i s).1)) (doneM M t i s).2 := by
  intro F hI
  have fr := Fr4.start P.inv hI t i M.size f
  have HV := hide P.inv
  have HT := hide ht
  have HL := hide (fr.p.laid P.inv)
  have HX : Hid (doneM M t i s = onM (askedM M t i s)) := by show _ = _; simp [doneM, h0, hj, hk]
  have HD : Hid (∀ w, Does I s w 134 #[.agg (thC t), .agg (insA i), .agg (portA M.size f)] (.agg (thC (askedM M t i s).1)) (askedM M t i s).2) := fun w => asked_does P ht i hi ha hc h1 s hr hq w
  have HO := hide (askedM_ok P hI ht i)
  have hw : IntKind.i64.wrap ((askedM M t i s).1.pc + 1) = (askedM M t i s).1.pc + 1 := by
    rw [askedM_pc, IntKind.wrap_i64]; omega
  rw [HX.out]
  generalize askedM M t i s = r at HD HO hw ⊢
  obtain ⟨op, a, b, c, k⟩ := i
  have h0 : (op == 0) = false := h0
  have hj : jumpB op = false := hj
  have hk : askB op = true := hk
  clear hc h1 hr
  clear P hI ht hi ha hq hp hp' HX
  go_enter Tryz.func96, Tryz.ntmps96
  go_wp2_with (first
    | (go_at_call 132; refine (jumps_calls _ _ HL.out).mono ?_; rw [hj]; rintro e u1 ⟨rfl, rfl⟩)
    | (go_at_call 92; refine (asks_calls _ _ HL.out).mono ?_; rw [hk]; rintro e u1 ⟨rfl, rfl⟩)
    | (refine load_ins rfl _ rfl (w.heap.size + 1) rfl ⟨op, a, b, c, k⟩ fr.b1 ?_)
    | (refine load_port rfl _ rfl (w.heap.size + 1 + 1) rfl M.size f fr.b2 ?_)
    | (refine load_th rfl _ rfl w.heap.size rfl t fr.b0 HT.out ?_)
    | (go_at_call 134; refine ((HD.out _).go fr.p).mono ?_; rintro e u2 ⟨⟨rfl, k1⟩, p1⟩; replace fr := fr.loc k1 p1; clear k1 p1; have fr2 := fr.all HV.out r.1; have c0 := fr2.b0.cell (thC_pc r.1); have f0 := fr2.b0.free 0; have fr3 := fr2.set HV.out 0 (.int .i64 (r.1.pc + 1)) (thC_at r.1 (r.1.pc + 1)))
    | (refine store_th rfl _ _ rfl w.heap.size rfl r.1 rfl t fr.b0 HO.out HT.out ?_)
    | (refine load_th rfl _ rfl w.heap.size rfl (r.1.at (r.1.pc + 1)) fr3.b0 (HO.out.at (r.1.pc + 1)) ?_)
    | (refine store_th rfl _ _ rfl (w.heap.size + 1 + 1 + 1) rfl (r.1.at (r.1.pc + 1)) rfl th0 fr3.b3 (HO.out.at (r.1.pc + 1)) th0_ok ?_))
  have FR := hide (fr3.res HV.out (r.1.at (r.1.pc + 1)))
  exact bodyPost_ret (results_th rfl _ _ (w.heap.size + 1 + 1 + 1) (r.1.at (r.1.pc + 1)) rfl FR.out.b3 (HO.out.at (r.1.pc + 1))) rfl ⟨rfl, FR.out.p.end⟩

set_option maxHeartbeats 2000000 in
theorem done_alone {S : Type} {I : List Nat → S → World → Prop} {M : Prt S} {f : Fns} (P : PortOk I M f) {t : Th} (ht : ThOk t) (hp : 0 ≤ t.pc) (hp' : t.pc < 4611686018427387904) (i : Ins) (hi : InsOk i) (ha : regB i.a = true) (s : S) (h0 : (i.op == 0) = false) (hj : jumpB i.op = false) (hk : askB i.op = false) (hl : aluB i.op = false) (hb : i.op = 2 → regB i.b = true) (hq : 600 ≤ M.fuel s) (w : World) :
    Does I s w 96 #[.agg (thC t), .agg (insA i), .agg (portA M.size f)] (.agg (thC (doneM M t i s).1)) (doneM M t i s).2 := by
  intro F hI
  have fr := Fr4.start P.inv hI t i M.size f
  have HV := hide P.inv
  have HT := hide ht
  have HL := hide (fr.p.laid P.inv)
  have HX : Hid (doneM M t i s = onM (aloneM M t i s)) := by show _ = _; simp [doneM, h0, hj, hk, hl]
  have HD : Hid (∀ w, Does I s w 137 #[.agg (thC t), .agg (insA i), .agg (portA M.size f)] (.agg (thC (aloneM M t i s).1)) (aloneM M t i s).2) := fun w => alone_does P ht i hi ha hb s (by omega) w
  have HO := hide (aloneM_ok M ht i hi s)
  have hw : IntKind.i64.wrap ((aloneM M t i s).1.pc + 1) = (aloneM M t i s).1.pc + 1 := by
    rw [aloneM_pc, IntKind.wrap_i64]; omega
  rw [HX.out]
  generalize aloneM M t i s = r at HD HO hw ⊢
  obtain ⟨op, a, b, c, k⟩ := i
  have h0 : (op == 0) = false := h0
  have hj : jumpB op = false := hj
  have hk : askB op = false := hk
  have hl : (decide (3 ≤ op) && decide (op ≤ 12)) = false := hl
  clear hb
  clear P hI ht hi ha hq hp hp' HX
  go_enter Tryz.func96, Tryz.ntmps96
  go_wp2_with (first
    | (go_at_call 132; refine (jumps_calls _ _ HL.out).mono ?_; rw [hj]; rintro e u1 ⟨rfl, rfl⟩)
    | (go_at_call 92; refine (asks_calls _ _ HL.out).mono ?_; rw [hk]; rintro e u1 ⟨rfl, rfl⟩)
    | (go_at_call 135; refine (aluis_calls _ _).mono ?_; rw [hl]; rintro e u1 ⟨rfl, rfl⟩)
    | (refine load_ins rfl _ rfl (w.heap.size + 1) rfl ⟨op, a, b, c, k⟩ fr.b1 ?_)
    | (refine load_port rfl _ rfl (w.heap.size + 1 + 1) rfl M.size f fr.b2 ?_)
    | (refine load_th rfl _ rfl w.heap.size rfl t fr.b0 HT.out ?_)
    | (go_at_call 137; refine ((HD.out _).go fr.p).mono ?_; rintro e u2 ⟨⟨rfl, k1⟩, p1⟩; replace fr := fr.loc k1 p1; clear k1 p1; have fr2 := fr.all HV.out r.1; have c0 := fr2.b0.cell (thC_pc r.1); have f0 := fr2.b0.free 0; have fr3 := fr2.set HV.out 0 (.int .i64 (r.1.pc + 1)) (thC_at r.1 (r.1.pc + 1)))
    | (refine store_th rfl _ _ rfl w.heap.size rfl r.1 rfl t fr.b0 HO.out HT.out ?_)
    | (refine load_th rfl _ rfl w.heap.size rfl (r.1.at (r.1.pc + 1)) fr3.b0 (HO.out.at (r.1.pc + 1)) ?_)
    | (refine store_th rfl _ _ rfl (w.heap.size + 1 + 1 + 1) rfl (r.1.at (r.1.pc + 1)) rfl th0 fr3.b3 (HO.out.at (r.1.pc + 1)) th0_ok ?_))
  have FR := hide (fr3.res HV.out (r.1.at (r.1.pc + 1)))
  exact bodyPost_ret (results_th rfl _ _ (w.heap.size + 1 + 1 + 1) (r.1.at (r.1.pc + 1)) rfl FR.out.b3 (HO.out.at (r.1.pc + 1))) rfl ⟨rfl, FR.out.p.end⟩

end Go.Proofs.YthbenfnanhpcoaaGreatDoor.Mp

namespace Go.Proofs.YthbenfnanhpcoaaGreatDoor.Mp
open Go.ChangeShapes Go.WideShapes Go.ChangeAt Go.RowKit
set_option linter.unusedVariables false
set_option maxRecDepth 20000

set_option maxRecDepth 20000 in
set_option maxHeartbeats 2000000 in
theorem done_alu {S : Type} {I : List Nat → S → World → Prop} {M : Prt S} {f : Fns} (P : PortOk I M f) {t : Th} (ht : ThOk t) (hp : 0 ≤ t.pc) (hp' : t.pc < 4611686018427387904) (i : Ins) (h0 : (i.op == 0) = false) (hj : jumpB i.op = false) (hk : askB i.op = false) (hl : aluB i.op = true)
    (ha : regB i.a = true) (hb : regB i.b = true) (hc : regB i.c = true) (s : S) (w : World) :
    Does I s w 96 #[.agg (thC t), .agg (insA i), .agg (portA M.size f)] (.agg (thC (doneM M t i s).1)) (doneM M t i s).2 := by
  intro F hI
  have HX : Hid (doneM M t i s = onM (t.put i.a (doI i.op (t.reg i.b) (t.reg i.c)), s)) := by show _ = _; simp [doneM, h0, hj, hk, hl]
  rw [HX.out]
  clear HX
  obtain ⟨op, a, b, c, k⟩ := i
  obtain ⟨n, rfl, hn⟩ := reg_nat ha
  obtain ⟨m, rfl, hm⟩ := reg_nat hb
  obtain ⟨q, rfl, hq⟩ := reg_nat hc
  have hn' : (n : Int) < 8 := by omega
  have hm' : (m : Int) < 8 := by omega
  have hq' : (q : Int) < 8 := by omega
  have fr := Fr4.start P.inv hI t ⟨op, n, m, q, k⟩ M.size f
  have HV := hide P.inv
  have HT := hide ht
  have HL := hide (fr.p.laid P.inv)
  have cr := thC_reg ht n hn
  have cm := thC_reg ht m hm
  have cq := thC_reg ht q hq
  have HR := hide (ht.reg m)
  have HS := hide (ht.reg q)
  have hw : IntKind.i64.wrap (t.pc + 1) = t.pc + 1 := by rw [IntKind.wrap_i64]; omega
  have h0 : (op == 0) = false := h0
  have hj : jumpB op = false := hj
  have hk : askB op = false := hk
  have hl : (decide (3 ≤ op) && decide (op ≤ 12)) = true := hl
  have h3 : 3 ≤ op ∧ op ≤ 12 := by simpa using hl
  have H3 := hide h3
  show Calls Tryz.prog _ _ _ fun e w' => e = .returned (.agg (thC ((t.put n (doI op (t.reg m) (t.reg q))).at (t.pc + 1)))) ∧ Pst I F w [] s w'
  generalize t.reg m = x at cm HR ⊢
  generalize t.reg q = y at cq HS ⊢
  have HD : Hid (∀ w, Calls Tryz.prog 136 #[.int .i64 op, .int .u32 x, .int .u32 y] w fun e w' => e = .returned (.tuple #[.int .u32 (doI op x y), .bool true]) ∧ Gr w w') := fun w => aluDo_calls op x y H3.out.1 H3.out.2 HR.out HS.out w
  have HU := hide (u32_doI op x y)
  generalize doI op x y = v at HD HU ⊢
  clear P hI ht ha hb hc hp hp' h3 H3
  go_enter Tryz.func96, Tryz.ntmps96
  go_wp2_with (first
    | (go_at_call 132; refine (jumps_calls _ _ HL.out).mono ?_; rw [hj]; rintro e u1 ⟨rfl, rfl⟩)
    | (go_at_call 92; refine (asks_calls _ _ HL.out).mono ?_; rw [hk]; rintro e u1 ⟨rfl, rfl⟩)
    | (go_at_call 135; refine (aluis_calls _ _).mono ?_; rw [hl]; rintro e u1 ⟨rfl, rfl⟩))
  change Code.wp _ _ _ _ ((((w.alloc (.cells (thC t) 42)).alloc (.cells (insA ⟨op, n, m, q, k⟩) 72)).alloc (.cells (portA M.size f) 103)).alloc (.cells th0A 42))
  generalize ((((w.alloc (.cells (thC t) 42)).alloc (.cells (insA ⟨op, n, m, q, k⟩) 72)).alloc (.cells (portA M.size f) 103)).alloc (.cells th0A 42)) = u0 at fr ⊢
  replace fr := fr.gr HV.out (Gr.refl u0).drew
  refine begin_late 21 [20] (fun w' => Gr u0.drew w') (by kernel_rfl) rfl ?_
  have hH : Gr u0.drew u0.drew := Gr.refl _
  refine AnyL.takeP 0 (some 38) (.pointer (some ⟨w.heap.size + 1, 1, none⟩)) rfl rfl (by kernel_rfl) (by kernel_rfl) (by kernel_rfl) (by kernel_rfl) (fun _ _ _ h => h) (by kernel_rfl) (fun w' => by go_simp) (fun _ => hH) ?_
  simp only [Act.put, List.setIfInBounds_toArray, List.set_cons_zero, List.set_cons_succ]
  refine AnyL.take 1 (some 39) (.int .i64 n) rfl rfl (by kernel_rfl) (by kernel_rfl) (by kernel_rfl) (by kernel_rfl) (fun _ _ _ h => h) (yields_held _ (by kernel_rfl) (fun w' hw' => by have h1 := (fr.b1.later hw').cell (o := 1) rfl; go_simp)) hH ?_
  simp only [Act.put, List.setIfInBounds_toArray, List.set_cons_zero, List.set_cons_succ]
  refine AnyL.takeP 2 (some 40) (.pointer (some ⟨w.heap.size + 1, 0, none⟩)) rfl rfl (by kernel_rfl) (by kernel_rfl) (by kernel_rfl) (by kernel_rfl) (fun _ _ _ h => h) (by kernel_rfl) (fun w' => by go_simp) (fun _ => hH) ?_
  simp only [Act.put, List.setIfInBounds_toArray, List.set_cons_zero, List.set_cons_succ]
  refine AnyL.take 3 (some 41) (.int .i64 op) rfl rfl (by kernel_rfl) (by kernel_rfl) (by kernel_rfl) (by kernel_rfl) (fun _ _ _ h => h) (yields_held _ (by kernel_rfl) (fun w' hw' => by have h1 := (fr.b1.later hw').cell (o := 0) rfl; go_simp)) hH ?_
  simp only [Act.put, List.setIfInBounds_toArray, List.set_cons_zero, List.set_cons_succ]
  refine AnyL.takeP 4 (some 42) (.pointer (some ⟨w.heap.size + 1, 2, none⟩)) rfl rfl (by kernel_rfl) (by kernel_rfl) (by kernel_rfl) (by kernel_rfl) (fun _ _ _ h => h) (by kernel_rfl) (fun w' => by go_simp) (fun _ => hH) ?_
  simp only [Act.put, List.setIfInBounds_toArray, List.set_cons_zero, List.set_cons_succ]
  refine AnyL.take 5 (some 43) (.int .i64 m) rfl rfl (by kernel_rfl) (by kernel_rfl) (by kernel_rfl) (by kernel_rfl) (fun _ _ _ h => h) (yields_held _ (by kernel_rfl) (fun w' hw' => by have h1 := (fr.b1.later hw').cell (o := 2) rfl; go_simp)) hH ?_
  simp only [Act.put, List.setIfInBounds_toArray, List.set_cons_zero, List.set_cons_succ]
  refine AnyL.takeP 6 (some 44) (.pointer (some ⟨w.heap.size, 1, none⟩)) rfl rfl (by kernel_rfl) (by kernel_rfl) (by kernel_rfl) (by kernel_rfl) (fun _ _ _ h => h) (by kernel_rfl) (fun w' => by go_simp) (fun _ => hH) ?_
  simp only [Act.put, List.setIfInBounds_toArray, List.set_cons_zero, List.set_cons_succ]
  refine AnyL.takeP 7 (some 45) (.pointer (some ⟨w.heap.size, 1 + m, none⟩)) rfl rfl (by kernel_rfl) (by kernel_rfl) (by kernel_rfl) (by kernel_rfl) (fun _ _ _ h => h) (by kernel_rfl) (fun w' => by go_simp) (fun _ => hH) ?_
  simp only [Act.put, List.setIfInBounds_toArray, List.set_cons_zero, List.set_cons_succ]
  refine AnyL.take 8 (some 46) (.int .u32 x) rfl rfl (by kernel_rfl) (by kernel_rfl) (by kernel_rfl) (by kernel_rfl) (fun _ _ _ h => h) (yields_held _ (by kernel_rfl) (fun w' hw' => by have h1 := (fr.b0.later hw').cell cm; go_simp)) hH ?_
  simp only [Act.put, List.setIfInBounds_toArray, List.set_cons_zero, List.set_cons_succ]
  refine AnyL.takeP 9 (some 47) (.pointer (some ⟨w.heap.size + 1, 3, none⟩)) rfl rfl (by kernel_rfl) (by kernel_rfl) (by kernel_rfl) (by kernel_rfl) (fun _ _ _ h => h) (by kernel_rfl) (fun w' => by go_simp) (fun _ => hH) ?_
  simp only [Act.put, List.setIfInBounds_toArray, List.set_cons_zero, List.set_cons_succ]
  refine AnyL.take 10 (some 48) (.int .i64 q) rfl rfl (by kernel_rfl) (by kernel_rfl) (by kernel_rfl) (by kernel_rfl) (fun _ _ _ h => h) (yields_held _ (by kernel_rfl) (fun w' hw' => by have h1 := (fr.b1.later hw').cell (o := 3) rfl; go_simp)) hH ?_
  simp only [Act.put, List.setIfInBounds_toArray, List.set_cons_zero, List.set_cons_succ]
  refine AnyL.takeP 11 (some 49) (.pointer (some ⟨w.heap.size, 1, none⟩)) rfl rfl (by kernel_rfl) (by kernel_rfl) (by kernel_rfl) (by kernel_rfl) (fun _ _ _ h => h) (by kernel_rfl) (fun w' => by go_simp) (fun _ => hH) ?_
  simp only [Act.put, List.setIfInBounds_toArray, List.set_cons_zero, List.set_cons_succ]
  refine AnyL.takeP 12 (some 50) (.pointer (some ⟨w.heap.size, 1 + q, none⟩)) rfl rfl (by kernel_rfl) (by kernel_rfl) (by kernel_rfl) (by kernel_rfl) (fun _ _ _ h => h) (by kernel_rfl) (fun w' => by go_simp) (fun _ => hH) ?_
  simp only [Act.put, List.setIfInBounds_toArray, List.set_cons_zero, List.set_cons_succ]
  refine AnyL.take 13 (some 51) (.int .u32 y) rfl rfl (by kernel_rfl) (by kernel_rfl) (by kernel_rfl) (by kernel_rfl) (fun _ _ _ h => h) (yields_held _ (by kernel_rfl) (fun w' hw' => by have h1 := (fr.b0.later hw').cell cq; go_simp)) hH ?_
  simp only [Act.put, List.setIfInBounds_toArray, List.set_cons_zero, List.set_cons_succ]
  refine AnyL.takeP 18 (some 55) (.pointer (some ⟨w.heap.size, 1, none⟩)) rfl rfl (by kernel_rfl) (by kernel_rfl) (by kernel_rfl) (by kernel_rfl) (fun _ _ _ h => h) (by kernel_rfl) (fun w' => by go_simp) (fun _ => hH) ?_
  simp only [Act.put, List.setIfInBounds_toArray, List.set_cons_zero, List.set_cons_succ]
  refine AnyL.one 14 (by kernel_rfl) rfl (by kernel_rfl) ?_
  refine wp_call (some 52) rfl 136 #[.int .i64 op, .int .u32 x, .int .u32 y] (by kernel_rfl) (HD.out _) ?_
  rintro e u1 ⟨rfl, g1⟩
  refine ⟨_, rfl, fun _ => g1, ?_⟩
  replace fr := fr.gr HV.out g1
  simp only [Act.put, List.setIfInBounds_toArray, List.set_cons_zero, List.set_cons_succ]
  refine AnyL.one 15 (by kernel_rfl) rfl (by kernel_rfl) ?_
  refine wp_value (some 37) rfl (.tuple #[.int .u32 v, .bool true]) (by go_simp) ?_
  refine ⟨fun _ => g1, ?_⟩
  simp only [Act.put, List.setIfInBounds_toArray, List.set_cons_zero, List.set_cons_succ]
  replace hH := g1
  refine AnyL.takeP 16 (some 53) (.int .u32 v) rfl rfl (by kernel_rfl) (by kernel_rfl) (by kernel_rfl) (by kernel_rfl) (fun _ _ _ h => h) (by kernel_rfl) (fun w' => by go_simp) (fun _ => hH) ?_
  simp only [Act.put, List.setIfInBounds_toArray, List.set_cons_zero, List.set_cons_succ]
  refine AnyL.takeP 17 (some 54) (.bool true) rfl rfl (by kernel_rfl) (by kernel_rfl) (by kernel_rfl) (by kernel_rfl) (fun _ _ _ h => h) (by kernel_rfl) (fun w' => by go_simp) (fun _ => hH) ?_
  simp only [Act.put, List.setIfInBounds_toArray, List.set_cons_zero, List.set_cons_succ]
  refine AnyL.takeP 19 (some 56) (.pointer (some ⟨w.heap.size, 1 + n, none⟩)) rfl rfl (by kernel_rfl) (by kernel_rfl) (by kernel_rfl) (by kernel_rfl) (fun _ _ _ h => h) (by kernel_rfl) (fun w' => by go_simp) (fun _ => hH) ?_
  simp only [Act.put, List.setIfInBounds_toArray, List.set_cons_zero, List.set_cons_succ]
  refine AnyL.one 20 (by kernel_rfl) rfl (by kernel_rfl) ?_
  have c4 := fr.b0.cell cr
  have f4 := fr.b0.free (1 + n)
  refine wp_store_word rfl _ _ rfl w.heap.size (1 + n) (by kernel_rfl) v (by kernel_rfl) _ c4 f4 ?_
  refine ⟨late (by kernel_rfl), ?_⟩
  refine AnyL.done (by kernel_rfl) ?_
  have fr1 := fr.set HV.out (1 + n) (.int .u32 v) (thC_put HT.out n hn v)
  have ok1 := HT.out.put n v HU.out
  have c0 := fr1.b0.cell (thC_pc (t.put n v))
  have f0 := fr1.b0.free 0
  have fr2 := fr1.set HV.out 0 (.int .i64 (t.pc + 1)) (thC_at (t.put n v) (t.pc + 1))
  have ok2 := ok1.at (t.pc + 1)
  have FR := hide (fr2.res HV.out ((t.put n v).at (t.pc + 1)))
  have e0 : (t.put n v).pc = t.pc := rfl
  rw [e0] at c0
  clear cr cm cq c4 f4 fr fr1 g1 hH
  go_wp2_with (first
    | (refine load_th rfl _ rfl w.heap.size rfl ((t.put n v).at (t.pc + 1)) fr2.b0 ok2 ?_)
    | (refine store_th rfl _ _ rfl (w.heap.size + 1 + 1 + 1) rfl ((t.put n v).at (t.pc + 1)) rfl th0 fr2.b3 ok2 th0_ok ?_))
  exact bodyPost_ret (results_th rfl _ _ (w.heap.size + 1 + 1 + 1) ((t.put n v).at (t.pc + 1)) rfl FR.out.b3 ok2) rfl ⟨rfl, FR.out.p.end⟩
end Go.Proofs.YthbenfnanhpcoaaGreatDoor.Mp
