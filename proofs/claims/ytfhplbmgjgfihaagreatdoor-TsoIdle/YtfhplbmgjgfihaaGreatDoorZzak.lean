/-
  What done does where the instruction is halt, jumps, asks memory, or is done alone. No condition but that the port's functions are such, and have room.
-/
import Derived.Test.YtfhplbmgjgfihaaGreatDoorZzai
import Derived.Test.YtfhplbmgjgfihaaGreatDoorZzaj
import Derived.Test.YtfhplbmgjgfihaaGreatDoorZzaa
import Derived.Test.YtfhplbmgjgfihaaGreatDoorZzah
namespace Go.Proofs.YtfhplbmgjgfihaaGreatDoor.Mp
open Go.ChangeShapes Go.WideShapes Go.ChangeAt Go.RowKit
set_option linter.unusedVariables false
set_option maxRecDepth 20000
set_option maxHeartbeats 2000000 in
theorem done_end {S : Type} {I : List Nat → S → World → Prop} {M : Prt S} {f : Fns} (P : PortOk I M f) {t : Th} (ht : ThOk t) (hp : 0 ≤ t.pc) (hp' : t.pc < 4611686018427387904) (i : Ins) (hi : InsOk i) (ha : regB i.a = true) (s : S) (h0 : i.op = 0) (hq : 600 ≤ M.fuel s) (w : World) :
    Does I s w 64 #[.agg (thC t), .agg (insA i), .agg (portA M.size f)] (.agg (thC (doneM M t i s).1)) (doneM M t i s).2 := by
  intro F hI
  have fr := Fr4.start P.inv hI t i M.size f
  have HV := hide P.inv
  have HT := hide ht
  have HL := hide (fr.p.laid P.inv)
  have HX : Hid (doneM M t i s = endM M t s 2 12) := by show _ = _; simp [doneM, h0]
  have HD : Hid (∀ w, Does I s w 59 #[.agg (thC t), .agg (portA M.size f), .int .i64 2, .int .i64 12] (.agg (thC (endM M t s 2 12).1)) (endM M t s 2 12).2) := fun w => ended_does P ht 2 12 s (by omega) w
  have HO : Hid (ThOk (endM M t s 2 12).1) := ht.is 2
  rw [HX.out]
  generalize endM M t s 2 12 = r at HD HO ⊢
  clear P hI ht hi ha hq hp hp' HX
  obtain ⟨op, a, b, c, k⟩ := i
  have h0 : op = 0 := h0
  subst h0
  go_enter Tryz.func64, Tryz.ntmps64
  go_wp2_with (first
    | (refine load_th rfl _ rfl w.heap.size rfl t fr.b0 HT.out ?_)
    | (refine load_port rfl _ rfl (w.heap.size + 1 + 1) rfl M.size f fr.b2 ?_)
    | (go_at_call 59; refine ((HD.out _).go fr.p).mono ?_; rintro e u2 ⟨⟨rfl, k1⟩, p1⟩; replace fr := fr.loc k1 p1; clear k1 p1)
    | (refine store_th rfl _ _ rfl (w.heap.size + 1 + 1 + 1) rfl r.1 rfl th0 fr.b3 HO.out th0_ok ?_))
  have FR := hide (fr.res HV.out r.1)
  exact bodyPost_ret (results_th rfl _ _ (w.heap.size + 1 + 1 + 1) r.1 rfl FR.out.b3 HO.out) rfl ⟨rfl, FR.out.p.end⟩

set_option maxHeartbeats 2000000 in
theorem done_jump {S : Type} {I : List Nat → S → World → Prop} {M : Prt S} {f : Fns} (P : PortOk I M f) {t : Th} (ht : ThOk t) (hp : 0 ≤ t.pc) (hp' : t.pc < 4611686018427387904) (i : Ins) (hi : InsOk i) (ha : regB i.a = true) (s : S) (h0 : (i.op == 0) = false) (hj : jumpB i.op = true) (hq : 600 ≤ M.fuel s) (w : World) :
    Does I s w 64 #[.agg (thC t), .agg (insA i), .agg (portA M.size f)] (.agg (thC (doneM M t i s).1)) (doneM M t i s).2 := by
  intro F hI
  have fr := Fr4.start P.inv hI t i M.size f
  have HV := hide P.inv
  have HT := hide ht
  have HL := hide (fr.p.laid P.inv)
  have HX : Hid (doneM M t i s = (t.at (nextM t i), s)) := by show _ = _; simp [doneM, h0, hj]
  have HN := hide (next_calls ht i hi ha hp hp')
  rw [HX.out]
  generalize nextM t i = n at HN ⊢
  clear P hI ht hi ha hq hp hp' HX
  obtain ⟨op, a, b, c, k⟩ := i
  have h0 : (op == 0) = false := h0
  have hj : jumpB op = true := hj
  go_enter Tryz.func64, Tryz.ntmps64
  go_wp2_with (first
    | (go_at_call 94; refine (jumps_calls _ _ HL.out).mono ?_; rw [hj]; rintro e u1 ⟨rfl, rfl⟩)
    | (refine load_th rfl _ rfl w.heap.size rfl t fr.b0 HT.out ?_)
    | (refine load_ins rfl _ rfl (w.heap.size + 1) rfl ⟨op, a, b, c, k⟩ fr.b1 ?_)
    | (go_at_call 95; refine (HN.out _).mono ?_; rintro e u1 ⟨rfl, g1⟩; replace fr := fr.gr HV.out g1; clear g1; have c0 := fr.b0.cell (thC_pc t); have f0 := fr.b0.free 0; have fr1 := fr.set HV.out 0 (.int .i64 n) (thC_at t n))
    | (refine load_th rfl _ rfl w.heap.size rfl (t.at n) fr1.b0 (HT.out.at n) ?_)
    | (refine store_th rfl _ _ rfl (w.heap.size + 1 + 1 + 1) rfl (t.at n) rfl th0 fr1.b3 (HT.out.at n) th0_ok ?_))
  have FR := hide (fr1.res HV.out (t.at n))
  exact bodyPost_ret (results_th rfl _ _ (w.heap.size + 1 + 1 + 1) (t.at n) rfl FR.out.b3 (HT.out.at n)) rfl ⟨rfl, FR.out.p.end⟩

set_option maxHeartbeats 2000000 in
theorem done_ask {S : Type} {I : List Nat → S → World → Prop} {M : Prt S} {f : Fns} (P : PortOk I M f) {t : Th} (ht : ThOk t) (hp : 0 ≤ t.pc) (hp' : t.pc < 4611686018427387904) (i : Ins) (hi : InsOk i) (ha : regB i.a = true) (s : S) (h0 : (i.op == 0) = false) (hj : jumpB i.op = false) (hk : askB i.op = true) (hc : regB i.c = true) (h1 : addrM t i < M.size) (hr : i.op = 17 → M.room s = true) (hq : 600 ≤ M.fuel s) (w : World) :
    Does I s w 64 #[.agg (thC t), .agg (insA i), .agg (portA M.size f)] (.agg (thC (doneM M t i s).1)) (doneM M t i s).2 := by
  intro F hI
  have fr := Fr4.start P.inv hI t i M.size f
  have HV := hide P.inv
  have HT := hide ht
  have HL := hide (fr.p.laid P.inv)
  have HX : Hid (doneM M t i s = onM (askedM M t i s)) := by show _ = _; simp [doneM, h0, hj, hk]
  have HD : Hid (∀ w, Does I s w 96 #[.agg (thC t), .agg (insA i), .agg (portA M.size f)] (.agg (thC (askedM M t i s).1)) (askedM M t i s).2) := fun w => asked_does P ht i hi ha hc h1 s hr hq w
  have HO := hide (askedM_ok P hI ht i)
  have hw : IntKind.i64.wrap ((askedM M t i s).1.pc + 1) = (askedM M t i s).1.pc + 1 := by
    rw [askedM_pc, IntKind.wrap_i64]; omega
  rw [HX.out]
  generalize askedM M t i s = r at HD HO hw ⊢
  obtain ⟨op, a, b, c, k⟩ := i
  have h0 : (op == 0) = false := h0
  have hj : jumpB op = false := hj
  have hk : askB op = true := hk
  clear hc h1 hr
  clear P hI ht hi ha hq hp hp' HX
  go_enter Tryz.func64, Tryz.ntmps64
  go_wp2_with (first
    | (go_at_call 94; refine (jumps_calls _ _ HL.out).mono ?_; rw [hj]; rintro e u1 ⟨rfl, rfl⟩)
    | (go_at_call 60; refine (asks_calls _ _ HL.out).mono ?_; rw [hk]; rintro e u1 ⟨rfl, rfl⟩)
    | (refine load_ins rfl _ rfl (w.heap.size + 1) rfl ⟨op, a, b, c, k⟩ fr.b1 ?_)
    | (refine load_port rfl _ rfl (w.heap.size + 1 + 1) rfl M.size f fr.b2 ?_)
    | (refine load_th rfl _ rfl w.heap.size rfl t fr.b0 HT.out ?_)
    | (go_at_call 96; refine ((HD.out _).go fr.p).mono ?_; rintro e u2 ⟨⟨rfl, k1⟩, p1⟩; replace fr := fr.loc k1 p1; clear k1 p1; have fr2 := fr.all HV.out r.1; have c0 := fr2.b0.cell (thC_pc r.1); have f0 := fr2.b0.free 0; have fr3 := fr2.set HV.out 0 (.int .i64 (r.1.pc + 1)) (thC_at r.1 (r.1.pc + 1)))
    | (refine store_th rfl _ _ rfl w.heap.size rfl r.1 rfl t fr.b0 HO.out HT.out ?_)
    | (refine load_th rfl _ rfl w.heap.size rfl (r.1.at (r.1.pc + 1)) fr3.b0 (HO.out.at (r.1.pc + 1)) ?_)
    | (refine store_th rfl _ _ rfl (w.heap.size + 1 + 1 + 1) rfl (r.1.at (r.1.pc + 1)) rfl th0 fr3.b3 (HO.out.at (r.1.pc + 1)) th0_ok ?_))
  have FR := hide (fr3.res HV.out (r.1.at (r.1.pc + 1)))
  exact bodyPost_ret (results_th rfl _ _ (w.heap.size + 1 + 1 + 1) (r.1.at (r.1.pc + 1)) rfl FR.out.b3 (HO.out.at (r.1.pc + 1))) rfl ⟨rfl, FR.out.p.end⟩

set_option maxHeartbeats 2000000 in
theorem done_alone {S : Type} {I : List Nat → S → World → Prop} {M : Prt S} {f : Fns} (P : PortOk I M f) {t : Th} (ht : ThOk t) (hp : 0 ≤ t.pc) (hp' : t.pc < 4611686018427387904) (i : Ins) (hi : InsOk i) (ha : regB i.a = true) (s : S) (h0 : (i.op == 0) = false) (hj : jumpB i.op = false) (hk : askB i.op = false) (hl : aluB i.op = false) (hb : i.op = 2 → regB i.b = true) (hq : 600 ≤ M.fuel s) (w : World) :
    Does I s w 64 #[.agg (thC t), .agg (insA i), .agg (portA M.size f)] (.agg (thC (doneM M t i s).1)) (doneM M t i s).2 := by
  intro F hI
  have fr := Fr4.start P.inv hI t i M.size f
  have HV := hide P.inv
  have HT := hide ht
  have HL := hide (fr.p.laid P.inv)
  have HX : Hid (doneM M t i s = onM (aloneM M t i s)) := by show _ = _; simp [doneM, h0, hj, hk, hl]
  have HD : Hid (∀ w, Does I s w 99 #[.agg (thC t), .agg (insA i), .agg (portA M.size f)] (.agg (thC (aloneM M t i s).1)) (aloneM M t i s).2) := fun w => alone_does P ht i hi ha hb s (by omega) w
  have HO := hide (aloneM_ok M ht i hi s)
  have hw : IntKind.i64.wrap ((aloneM M t i s).1.pc + 1) = (aloneM M t i s).1.pc + 1 := by
    rw [aloneM_pc, IntKind.wrap_i64]; omega
  rw [HX.out]
  generalize aloneM M t i s = r at HD HO hw ⊢
  obtain ⟨op, a, b, c, k⟩ := i
  have h0 : (op == 0) = false := h0
  have hj : jumpB op = false := hj
  have hk : askB op = false := hk
  have hl : (decide (3 ≤ op) && decide (op ≤ 12)) = false := hl
  clear hb
  clear P hI ht hi ha hq hp hp' HX
  go_enter Tryz.func64, Tryz.ntmps64
  go_wp2_with (first
    | (go_at_call 94; refine (jumps_calls _ _ HL.out).mono ?_; rw [hj]; rintro e u1 ⟨rfl, rfl⟩)
    | (go_at_call 60; refine (asks_calls _ _ HL.out).mono ?_; rw [hk]; rintro e u1 ⟨rfl, rfl⟩)
    | (go_at_call 97; refine (aluis_calls _ _).mono ?_; rw [hl]; rintro e u1 ⟨rfl, rfl⟩)
    | (refine load_ins rfl _ rfl (w.heap.size + 1) rfl ⟨op, a, b, c, k⟩ fr.b1 ?_)
    | (refine load_port rfl _ rfl (w.heap.size + 1 + 1) rfl M.size f fr.b2 ?_)
    | (refine load_th rfl _ rfl w.heap.size rfl t fr.b0 HT.out ?_)
    | (go_at_call 99; refine ((HD.out _).go fr.p).mono ?_; rintro e u2 ⟨⟨rfl, k1⟩, p1⟩; replace fr := fr.loc k1 p1; clear k1 p1; have fr2 := fr.all HV.out r.1; have c0 := fr2.b0.cell (thC_pc r.1); have f0 := fr2.b0.free 0; have fr3 := fr2.set HV.out 0 (.int .i64 (r.1.pc + 1)) (thC_at r.1 (r.1.pc + 1)))
    | (refine store_th rfl _ _ rfl w.heap.size rfl r.1 rfl t fr.b0 HO.out HT.out ?_)
    | (refine load_th rfl _ rfl w.heap.size rfl (r.1.at (r.1.pc + 1)) fr3.b0 (HO.out.at (r.1.pc + 1)) ?_)
    | (refine store_th rfl _ _ rfl (w.heap.size + 1 + 1 + 1) rfl (r.1.at (r.1.pc + 1)) rfl th0 fr3.b3 (HO.out.at (r.1.pc + 1)) th0_ok ?_))
  have FR := hide (fr3.res HV.out (r.1.at (r.1.pc + 1)))
  exact bodyPost_ret (results_th rfl _ _ (w.heap.size + 1 + 1 + 1) (r.1.at (r.1.pc + 1)) rfl FR.out.b3 (HO.out.at (r.1.pc + 1))) rfl ⟨rfl, FR.out.p.end⟩
set_option maxRecDepth 20000 in
set_option maxHeartbeats 2000000 in
theorem done_alu {S : Type} {I : List Nat → S → World → Prop} {M : Prt S} {f : Fns} (P : PortOk I M f) {t : Th} (ht : ThOk t) (hp : 0 ≤ t.pc) (hp' : t.pc < 4611686018427387904) (i : Ins) (h0 : (i.op == 0) = false) (hj : jumpB i.op = false) (hk : askB i.op = false) (hl : aluB i.op = true)
    (ha : regB i.a = true) (hb : regB i.b = true) (hc : regB i.c = true) (s : S) (w : World) :
    Does I s w 64 #[.agg (thC t), .agg (insA i), .agg (portA M.size f)] (.agg (thC (doneM M t i s).1)) (doneM M t i s).2 := by
  intro F hI
  have HX : Hid (doneM M t i s = onM (t.put i.a (doI i.op (t.reg i.b) (t.reg i.c)), s)) := by show _ = _; simp [doneM, h0, hj, hk, hl]
  rw [HX.out]
  clear HX
  obtain ⟨op, a, b, c, k⟩ := i
  obtain ⟨n, rfl, hn⟩ := reg_nat ha
  obtain ⟨m, rfl, hm⟩ := reg_nat hb
  obtain ⟨q, rfl, hq⟩ := reg_nat hc
  have hn' : (n : Int) < 8 := by omega
  have hm' : (m : Int) < 8 := by omega
  have hq' : (q : Int) < 8 := by omega
  have fr := Fr4.start P.inv hI t ⟨op, n, m, q, k⟩ M.size f
  have HV := hide P.inv
  have HT := hide ht
  have HL := hide (fr.p.laid P.inv)
  have cr := thC_reg ht n hn
  have cm := thC_reg ht m hm
  have cq := thC_reg ht q hq
  have HR := hide (ht.reg m)
  have HS := hide (ht.reg q)
  have hw : IntKind.i64.wrap (t.pc + 1) = t.pc + 1 := by rw [IntKind.wrap_i64]; omega
  have h0 : (op == 0) = false := h0
  have hj : jumpB op = false := hj
  have hk : askB op = false := hk
  have hl : (decide (3 ≤ op) && decide (op ≤ 12)) = true := hl
  have h3 : 3 ≤ op ∧ op ≤ 12 := by simpa using hl
  have H3 := hide h3
  show Calls Tryz.prog _ _ _ fun e w' => e = .returned (.agg (thC ((t.put n (doI op (t.reg m) (t.reg q))).at (t.pc + 1)))) ∧ Pst I F w [] s w'
  generalize t.reg m = x at cm HR ⊢
  generalize t.reg q = y at cq HS ⊢
  have HD : Hid (∀ w, Calls Tryz.prog 98 #[.int .i64 op, .int .u32 x, .int .u32 y] w fun e w' => e = .returned (.tuple #[.int .u32 (doI op x y), .bool true]) ∧ Gr w w') := fun w => aluDo_calls op x y H3.out.1 H3.out.2 HR.out HS.out w
  have HU := hide (u32_doI op x y)
  generalize doI op x y = v at HD HU ⊢
  clear P hI ht ha hb hc hp hp' h3 H3
  go_enter Tryz.func64, Tryz.ntmps64
  go_wp2_with (first
    | (go_at_call 94; refine (jumps_calls _ _ HL.out).mono ?_; rw [hj]; rintro e u1 ⟨rfl, rfl⟩)
    | (go_at_call 60; refine (asks_calls _ _ HL.out).mono ?_; rw [hk]; rintro e u1 ⟨rfl, rfl⟩)
    | (go_at_call 97; refine (aluis_calls _ _).mono ?_; rw [hl]; rintro e u1 ⟨rfl, rfl⟩))
  change Code.wp _ _ _ _ ((((w.alloc (.cells (thC t) 46)).alloc (.cells (insA ⟨op, n, m, q, k⟩) 53)).alloc (.cells (portA M.size f) 90)).alloc (.cells th0A 46))
  generalize ((((w.alloc (.cells (thC t) 46)).alloc (.cells (insA ⟨op, n, m, q, k⟩) 53)).alloc (.cells (portA M.size f) 90)).alloc (.cells th0A 46)) = u0 at fr ⊢
  replace fr := fr.gr HV.out (Gr.refl u0).drew
  refine begin_late 21 [20] (fun w' => Gr u0.drew w') (by kernel_rfl) rfl ?_
  have hH : Gr u0.drew u0.drew := Gr.refl _
  refine AnyL.pp 0 38 (.pointer (some ⟨w.heap.size + 1, 1, none⟩)) rfl rfl (by kernel_rfl) (fun _ _ _ h => h) (fun _ => by go_simp) hH ?_
  simp only [pz, pz0, pzs]
  refine AnyL.tt 1 39 (.int .i64 n) rfl rfl (by kernel_rfl) (fun _ _ _ h => h) (fun w' hw' => by have h1 := (fr.b1.later hw').cell (o := 1) rfl; go_simp) hH ?_
  simp only [pz, pz0, pzs]
  refine AnyL.pp 2 40 (.pointer (some ⟨w.heap.size + 1, 0, none⟩)) rfl rfl (by kernel_rfl) (fun _ _ _ h => h) (fun _ => by go_simp) hH ?_
  simp only [pz, pz0, pzs]
  refine AnyL.tt 3 41 (.int .i64 op) rfl rfl (by kernel_rfl) (fun _ _ _ h => h) (fun w' hw' => by have h1 := (fr.b1.later hw').cell (o := 0) rfl; go_simp) hH ?_
  simp only [pz, pz0, pzs]
  refine AnyL.pp 4 42 (.pointer (some ⟨w.heap.size + 1, 2, none⟩)) rfl rfl (by kernel_rfl) (fun _ _ _ h => h) (fun _ => by go_simp) hH ?_
  simp only [pz, pz0, pzs]
  refine AnyL.tt 5 43 (.int .i64 m) rfl rfl (by kernel_rfl) (fun _ _ _ h => h) (fun w' hw' => by have h1 := (fr.b1.later hw').cell (o := 2) rfl; go_simp) hH ?_
  simp only [pz, pz0, pzs]
  refine AnyL.pp 6 44 (.pointer (some ⟨w.heap.size, 1, none⟩)) rfl rfl (by kernel_rfl) (fun _ _ _ h => h) (fun _ => by go_simp) hH ?_
  simp only [pz, pz0, pzs]
  refine AnyL.pp 7 45 (.pointer (some ⟨w.heap.size, 1 + m, none⟩)) rfl rfl (by kernel_rfl) (fun _ _ _ h => h) (fun _ => by go_simp) hH ?_
  simp only [pz, pz0, pzs]
  refine AnyL.tt 8 46 (.int .u32 x) rfl rfl (by kernel_rfl) (fun _ _ _ h => h) (fun w' hw' => by have h1 := (fr.b0.later hw').cell cm; go_simp) hH ?_
  simp only [pz, pz0, pzs]
  refine AnyL.pp 9 47 (.pointer (some ⟨w.heap.size + 1, 3, none⟩)) rfl rfl (by kernel_rfl) (fun _ _ _ h => h) (fun _ => by go_simp) hH ?_
  simp only [pz, pz0, pzs]
  refine AnyL.tt 10 48 (.int .i64 q) rfl rfl (by kernel_rfl) (fun _ _ _ h => h) (fun w' hw' => by have h1 := (fr.b1.later hw').cell (o := 3) rfl; go_simp) hH ?_
  simp only [pz, pz0, pzs]
  refine AnyL.pp 11 49 (.pointer (some ⟨w.heap.size, 1, none⟩)) rfl rfl (by kernel_rfl) (fun _ _ _ h => h) (fun _ => by go_simp) hH ?_
  simp only [pz, pz0, pzs]
  refine AnyL.pp 12 50 (.pointer (some ⟨w.heap.size, 1 + q, none⟩)) rfl rfl (by kernel_rfl) (fun _ _ _ h => h) (fun _ => by go_simp) hH ?_
  simp only [pz, pz0, pzs]
  refine AnyL.tt 13 51 (.int .u32 y) rfl rfl (by kernel_rfl) (fun _ _ _ h => h) (fun w' hw' => by have h1 := (fr.b0.later hw').cell cq; go_simp) hH ?_
  simp only [pz, pz0, pzs]
  refine AnyL.pp 18 55 (.pointer (some ⟨w.heap.size, 1, none⟩)) rfl rfl (by kernel_rfl) (fun _ _ _ h => h) (fun _ => by go_simp) hH ?_
  simp only [pz, pz0, pzs]
  refine AnyL.one 14 (by kernel_rfl) rfl (by kernel_rfl) ?_
  refine wp_call (some 52) rfl 98 #[.int .i64 op, .int .u32 x, .int .u32 y] (by kernel_rfl) (HD.out _) ?_
  rintro e u1 ⟨rfl, g1⟩
  refine ⟨_, rfl, fun _ => g1, ?_⟩
  replace fr := fr.gr HV.out g1
  simp only [pz, pz0, pzs]
  refine AnyL.one 15 (by kernel_rfl) rfl (by kernel_rfl) ?_
  refine wp_value (some 37) rfl (.tuple #[.int .u32 v, .bool true]) (by go_simp) ?_
  refine ⟨fun _ => g1, ?_⟩
  simp only [pz, pz0, pzs]
  replace hH := g1
  refine AnyL.pp 16 53 (.int .u32 v) rfl rfl (by kernel_rfl) (fun _ _ _ h => h) (fun _ => by go_simp) hH ?_
  simp only [pz, pz0, pzs]
  refine AnyL.pp 17 54 (.bool true) rfl rfl (by kernel_rfl) (fun _ _ _ h => h) (fun _ => by go_simp) hH ?_
  simp only [pz, pz0, pzs]
  refine AnyL.pp 19 56 (.pointer (some ⟨w.heap.size, 1 + n, none⟩)) rfl rfl (by kernel_rfl) (fun _ _ _ h => h) (fun _ => by go_simp) hH ?_
  simp only [pz, pz0, pzs]
  refine AnyL.one 20 (by kernel_rfl) rfl (by kernel_rfl) ?_
  have c4 := fr.b0.cell cr
  have f4 := fr.b0.free (1 + n)
  refine wp_store_word rfl _ _ rfl w.heap.size (1 + n) (by kernel_rfl) v (by kernel_rfl) _ c4 f4 ?_
  refine ⟨late (by kernel_rfl), ?_⟩
  refine AnyL.done (by kernel_rfl) ?_
  have fr1 := fr.set HV.out (1 + n) (.int .u32 v) (thC_put HT.out n hn v)
  have ok1 := HT.out.put n v HU.out
  have c0 := fr1.b0.cell (thC_pc (t.put n v))
  have f0 := fr1.b0.free 0
  have fr2 := fr1.set HV.out 0 (.int .i64 (t.pc + 1)) (thC_at (t.put n v) (t.pc + 1))
  have ok2 := ok1.at (t.pc + 1)
  have FR := hide (fr2.res HV.out ((t.put n v).at (t.pc + 1)))
  have e0 : (t.put n v).pc = t.pc := rfl
  rw [e0] at c0
  clear cr cm cq c4 f4 fr fr1 g1 hH
  go_wp2_with (first
    | (refine load_th rfl _ rfl w.heap.size rfl ((t.put n v).at (t.pc + 1)) fr2.b0 ok2 ?_)
    | (refine store_th rfl _ _ rfl (w.heap.size + 1 + 1 + 1) rfl ((t.put n v).at (t.pc + 1)) rfl th0 fr2.b3 ok2 th0_ok ?_))
  exact bodyPost_ret (results_th rfl _ _ (w.heap.size + 1 + 1 + 1) ((t.put n v).at (t.pc + 1)) rfl FR.out.b3 ok2) rfl ⟨rfl, FR.out.p.end⟩
/-- the cells of the zero port -/
abbrev port0 : Array Value := #[.int .i64 0, .nilFunc, .nilFunc, .nilFunc, .nilFunc, .nilFunc, .nilFunc, .nilFunc, .nilFunc, .nilFunc, .nilFunc]
/-- a port is written whole -/
theorem store_port {ops : Array Oper} {rest : List Oper} {op : Oper} {a : Act} {w : World} {Q : Exit → Act → World → Prop} (hgd : op.guard = none) (x y : Operand) (ho : op.op = .store 90 x y)
    (g : Nat) (hx : a.eval x = .pointer (some ⟨g, 0, none⟩)) (z : Int) (f : Fns) (hy : a.eval y = .agg (portA z f)) (C : Array Value) (hg : Has w g C 90) (hC : C.size = 11)
    (h : wpList Tryz.prog ops Q rest (a.put op.dst undef) (w.setRow g (portA z f))) : wpList Tryz.prog ops Q (op :: rest) a w :=
  wpList_store_row hgd 90 x y ho g (portA z f) hx hy 90 C hg infoP11 (by rw [hC]; rfl) (by simp [Value.oneCell']) h
theorem results_port {fn : Func} {p : Tmp} (h : fn.results = #[.cell p 90]) (tmps : Array Value) (w : World) (g : Nat) (z : Int) (f : Fns) (hp : tmps.getD p undef = .pointer (some ⟨g, 0, none⟩)) (hg : Has w g (portA z f) 90) :
    (results fn tmps).run Tryz.prog w = .ok (.agg (portA z f)) w :=
  results_cell_row h tmps w g 90 (portA z f) (0, 0) _ hp hg Tryz.underlying90 rfl infoP11

set_option maxRecDepth 20000 in
set_option maxHeartbeats 1000000 in
theorem whole_calls (z : Int) (f : Fns) (w : World) : Calls Tryz.prog 58 #[.agg (portA z f)] w fun e w' => e = .returned (.agg (portA z f)) ∧ Gr w w' := by
  obtain ⟨f1, f2, f3, f4, f5, f6, f7, f8, f9, f10, r⟩ := f
  have e1 : ∀ w, (binOp .eql 84 (.func (.func f1) #[r] #[]) .nilFunc).run Tryz.prog w = .ok (.bool false) w := fun w => by kernel_rfl
  have e2 : ∀ w, (binOp .eql 29 (.func (.func f2) #[r] #[]) .nilFunc).run Tryz.prog w = .ok (.bool false) w := fun w => by kernel_rfl
  have e3 : ∀ w, (binOp .eql 85 (.func (.func f3) #[r] #[]) .nilFunc).run Tryz.prog w = .ok (.bool false) w := fun w => by kernel_rfl
  have e4 : ∀ w, (binOp .eql 29 (.func (.func f4) #[r] #[]) .nilFunc).run Tryz.prog w = .ok (.bool false) w := fun w => by kernel_rfl
  have e5 : ∀ w, (binOp .eql 1 (.func (.func f5) #[r] #[]) .nilFunc).run Tryz.prog w = .ok (.bool false) w := fun w => by kernel_rfl
  have e6 : ∀ w, (binOp .eql 86 (.func (.func f6) #[r] #[]) .nilFunc).run Tryz.prog w = .ok (.bool false) w := fun w => by kernel_rfl
  have e7 : ∀ w, (binOp .eql 87 (.func (.func f7) #[r] #[]) .nilFunc).run Tryz.prog w = .ok (.bool false) w := fun w => by kernel_rfl
  have e8 : ∀ w, (binOp .eql 86 (.func (.func f8) #[r] #[]) .nilFunc).run Tryz.prog w = .ok (.bool false) w := fun w => by kernel_rfl
  have e9 : ∀ w, (binOp .eql 1 (.func (.func f9) #[r] #[]) .nilFunc).run Tryz.prog w = .ok (.bool false) w := fun w => by kernel_rfl
  have e10 : ∀ w, (binOp .eql 88 (.func (.func f10) #[r] #[]) .nilFunc).run Tryz.prog w = .ok (.bool false) w := fun w => by kernel_rfl
  have b0 := (Has.new w (portA z ⟨f1, f2, f3, f4, f5, f6, f7, f8, f9, f10, r⟩) 90).alloc port0 90
  have b1 := Has.new (w.alloc (.cells (portA z ⟨f1, f2, f3, f4, f5, f6, f7, f8, f9, f10, r⟩) 90)) port0 90
  rw [size1] at b1
  have FG := hide ((((Gr.refl w).alloc (portA z ⟨f1, f2, f3, f4, f5, f6, f7, f8, f9, f10, r⟩) 90).alloc port0 90).setRow (g := w.heap.size + 1) (by omega) (portA z ⟨f1, f2, f3, f4, f5, f6, f7, f8, f9, f10, r⟩))
  have FB := hide (b1.row (portA z ⟨f1, f2, f3, f4, f5, f6, f7, f8, f9, f10, r⟩))
  go_enter Tryz.func58, Tryz.ntmps58
  go_wp2_with (first
    | (refine load_port rfl _ rfl w.heap.size rfl z ⟨f1, f2, f3, f4, f5, f6, f7, f8, f9, f10, r⟩ b0 ?_)
    | (refine store_port rfl _ _ rfl (w.heap.size + 1) rfl z ⟨f1, f2, f3, f4, f5, f6, f7, f8, f9, f10, r⟩ rfl port0 b1 rfl ?_))
  exact bodyPost_ret (results_port rfl _ _ (w.heap.size + 1) z ⟨f1, f2, f3, f4, f5, f6, f7, f8, f9, f10, r⟩ rfl FB.out) rfl ⟨rfl, FG.out⟩
theorem regs28 : ∀ n : Fin 28, (kA n = 0 ∨ kA n = 1) ∧ (kC n = 0 ∨ kC n = 1) ∧ ((n.val = 2 ∨ (3 ≤ n.val ∧ n.val ≤ 12)) → kB n = 1) := by decide +kernel
theorem fits_reg {u n : Int} (h : u = 0 ∨ u = 1) (hf : fitsB u n = true) : regB n = true := by
  rcases h with rfl | rfl
  · have : n = 0 := by simpa [fitsB] using hf
    subst this; rfl
  · simpa [fitsB] using hf
theorem right_regs {op a b c k n : Int} (h : rightB op a b c k n = true) : regB a = true ∧ regB c = true ∧ (op = 2 ∨ aluB op = true → regB b = true) := by
  simp only [rightB, Bool.and_eq_true] at h
  obtain ⟨h0, ⟨⟨h1, h2⟩, h3⟩, h4⟩ := h
  obtain ⟨m, rfl, hm⟩ := isB_nat h0
  obtain ⟨q1, q2, q3⟩ := regs28 ⟨m, hm⟩
  simp only [Int.toNat_natCast] at h1 h2 h3
  refine ⟨fits_reg q1 h1, fits_reg q2 h3, fun q => fits_reg (.inr (q3 ?_)) h2⟩
  show m = 2 ∨ (3 ≤ m ∧ m ≤ 12)
  rcases q with q | q
  · left; omega
  · right; simp [aluB] at q; omega

theorem done_does {S : Type} {I : List Nat → S → World → Prop} {M : Prt S} {f : Fns} (P : PortOk I M f) {t : Th} (ht : ThOk t) (hp : 0 ≤ t.pc) (hp' : t.pc < 4611686018427387904) (i : Ins) (hi : InsOk i) {n : Int} (hright : rightB i.op i.a i.b i.c i.k n = true) (s : S)
    (hm : askB i.op = true → addrM t i < M.size) (hr : i.op = 17 → M.room s = true) (hq : 600 ≤ M.fuel s) (w : World) :
    Does I s w 64 #[.agg (thC t), .agg (insA i), .agg (portA M.size f)] (.agg (thC (doneM M t i s).1)) (doneM M t i s).2 := by
  obtain ⟨ha, hc, hb⟩ := right_regs hright
  cases h0 : (i.op == 0)
  · cases hj : jumpB i.op
    · cases hk : askB i.op
      · cases hl : aluB i.op
        · exact done_alone P ht hp hp' i hi ha s h0 hj hk hl (fun q => hb (.inl q)) hq w
        · exact done_alu P ht hp hp' i h0 hj hk hl ha (hb (.inr hl)) hc s w
      · exact done_ask P ht hp hp' i hi ha s h0 hj hk hc (hm hk) hr hq w
    · exact done_jump P ht hp hp' i hi ha s h0 hj hq w
  · exact done_end P ht hp hp' i hi ha s (by simpa using h0) hq w
theorem doneM_ok {S : Type} {I : List Nat → S → World → Prop} {M : Prt S} {f : Fns} (P : PortOk I M f) {F : List Nat} {s : S} {w : World} (hI : I F s w) {t : Th} (ht : ThOk t) (i : Ins) (hi : InsOk i) : ThOk (doneM M t i s).1 := by
  unfold doneM
  split
  · exact ht.is 2
  split
  · exact ht.at _
  · unfold onM
    refine ThOk.at ?_ _
    split
    · exact askedM_ok P hI ht i
    split
    · exact ht.put _ _ (u32_doI _ _ _)
    · exact aloneM_ok M ht i hi s
set_option maxRecDepth 20000 in
set_option maxHeartbeats 2000000 in
theorem step_not {S : Type} {I : List Nat → S → World → Prop} {M : Prt S} {f : Fns} (P : PortOk I M f) {t : Th} (ht : ThOk t) (code : List Ins) (ad : Option Addr) (cap : Nat) (h0 : (t.st != 0) = true) (s : S) (hq : 1000 ≤ M.fuel s) (w : World) (hrow : RowAt w ad (flatOf insL code)) :
    Does I s w 34 #[.agg (thC t), .slice ad code.length cap, .agg (portA M.size f)] (.agg (thC (stepM M t code s).1)) (stepM M t code s).2 := by
  intro F hI
  have fr := Fr3.start P.inv hI t M.size f
  have HP := hide P
  have HV := hide P.inv
  have HT := hide ht
  have HQ := hide hq
  have HX : Hid (stepM M t code s = (t, s)) := by show _ = _; simp [stepM, h0]
  rw [HX.out]
  have c9 := thC_st ht
  have FR := hide (fr.res HV.out t)
  clear P hI ht hq HX hrow
  go_enter Tryz.func34, Tryz.ntmps34
  go_wp2_with (first
    | (refine load_th rfl _ rfl w.heap.size rfl t fr.b0 HT.out ?_)
    | (refine store_th rfl _ _ rfl (w.heap.size + 1 + 1) rfl t rfl th0 fr.b2 HT.out th0_ok ?_))
  exact bodyPost_ret (results_th rfl _ _ (w.heap.size + 1 + 1) t rfl FR.out.b2 HT.out) rfl ⟨rfl, FR.out.p.end⟩

set_option maxRecDepth 20000 in
set_option maxHeartbeats 2000000 in
theorem step_end {S : Type} {I : List Nat → S → World → Prop} {M : Prt S} {f : Fns} (P : PortOk I M f) {t : Th} (ht : ThOk t) (code : List Ins) (ad : Option Addr) (cap : Nat) (hs : (t.st != 0) = false) (h0 : (decide (t.pc < 0) || decide ((code.length : Int) ≤ t.pc)) = true) (s : S) (hq : 1000 ≤ M.fuel s) (w : World) (hrow : RowAt w ad (flatOf insL code)) :
    Does I s w 34 #[.agg (thC t), .slice ad code.length cap, .agg (portA M.size f)] (.agg (thC (stepM M t code s).1)) (stepM M t code s).2 := by
  intro F hI
  have fr := Fr3.start P.inv hI t M.size f
  have HP := hide P
  have HV := hide P.inv
  have HT := hide ht
  have HQ := hide hq
  have HX : Hid (stepM M t code s = endM M t s 2 12) := by show _ = _; simp only [stepM, hs, h0]; rfl
  have HD : Hid (∀ w, Does I s w 59 #[.agg (thC t), .agg (portA M.size f), .int .i64 2, .int .i64 12] (.agg (thC (endM M t s 2 12).1)) (endM M t s 2 12).2) := fun w => ended_does P ht 2 12 s (by omega) w
  have HO : Hid (ThOk (endM M t s 2 12).1) := ht.is 2
  rw [HX.out]
  generalize endM M t s 2 12 = r at HD HO ⊢
  have c9 := thC_st ht
  clear P hI ht hq HX hrow
  by_cases h1 : t.pc < 0
  · clear h0
    go_enter Tryz.func34, Tryz.ntmps34
    go_wp2_with (first
    | (refine load_port rfl _ rfl (w.heap.size + 1) rfl M.size f fr.b1 ?_)
    | (go_at_call 58; refine (whole_calls M.size f _).mono ?_; rintro e u1 ⟨rfl, g1⟩; replace fr := fr.gr HV.out g1; have fr2 := fr.port HV.out; have c0 := fr2.b0.cell (thC_pc t))
    | (refine store_port rfl _ _ rfl (w.heap.size + 1) rfl M.size f rfl _ fr.b1 rfl ?_)
    | (refine load_th rfl _ rfl w.heap.size rfl t fr2.b0 HT.out ?_)
    | (refine load_port rfl _ rfl (w.heap.size + 1) rfl M.size f fr2.b1 ?_)
    | (go_at_call 59; refine ((HD.out _).go fr2.p).mono ?_; rintro e u2 ⟨⟨rfl, k1⟩, p1⟩; have fr3 := fr2.loc k1 p1; clear k1 p1)
    | (refine store_th rfl _ _ rfl (w.heap.size + 1 + 1) rfl r.1 rfl th0 fr3.b2 HO.out th0_ok ?_))
    have FR := hide (fr3.res HV.out r.1)
    exact bodyPost_ret (results_th rfl _ _ (w.heap.size + 1 + 1) r.1 rfl FR.out.b2 HO.out) rfl ⟨rfl, FR.out.p.end⟩
  · have h2 : (code.length : Int) ≤ t.pc := by simpa [h1] using h0
    clear h0
    go_enter Tryz.func34, Tryz.ntmps34
    go_wp2_with (first
    | (refine load_port rfl _ rfl (w.heap.size + 1) rfl M.size f fr.b1 ?_)
    | (go_at_call 58; refine (whole_calls M.size f _).mono ?_; rintro e u1 ⟨rfl, g1⟩; replace fr := fr.gr HV.out g1; have fr2 := fr.port HV.out; have c0 := fr2.b0.cell (thC_pc t))
    | (refine store_port rfl _ _ rfl (w.heap.size + 1) rfl M.size f rfl _ fr.b1 rfl ?_)
    | (refine load_th rfl _ rfl w.heap.size rfl t fr2.b0 HT.out ?_)
    | (refine load_port rfl _ rfl (w.heap.size + 1) rfl M.size f fr2.b1 ?_)
    | (go_at_call 59; refine ((HD.out _).go fr2.p).mono ?_; rintro e u2 ⟨⟨rfl, k1⟩, p1⟩; have fr3 := fr2.loc k1 p1; clear k1 p1)
    | (refine store_th rfl _ _ rfl (w.heap.size + 1 + 1) rfl r.1 rfl th0 fr3.b2 HO.out th0_ok ?_))
    have FR := hide (fr3.res HV.out r.1)
    exact bodyPost_ret (results_th rfl _ _ (w.heap.size + 1 + 1) r.1 rfl FR.out.b2 HO.out) rfl ⟨rfl, FR.out.p.end⟩
end Go.Proofs.YtfhplbmgjgfihaaGreatDoor.Mp
