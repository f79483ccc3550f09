/-
  What Step does at an instruction. No condition but that the port's functions are such, and have room.
-/
import Derived.Test.YtfhplbmgjgfihaaGreatDoorZzaa
import Derived.Test.YtfhplbmgjgfihaaGreatDoorZzak
import Derived.Test.YtfhplbmgjgfihaaGreatDoorZzac
namespace Go.Proofs.YtfhplbmgjgfihaaGreatDoor.Mp
open Go.ChangeShapes Go.WideShapes Go.ChangeAt Go.RowKit
set_option linter.unusedVariables false
set_option maxRecDepth 20000
theorem held_room {S : Type} {M : Prt S} {i : Ins} {s : S} (h : heldM M i s = false) (q : i.op = 17) : M.room s = true := by
  unfold heldM at h
  rw [q, show drainB 17 = false from rfl] at h
  simpa using h
set_option maxRecDepth 20000 in
set_option maxHeartbeats 4000000 in
theorem step_at {S : Type} {I : List Nat → S → World → Prop} {M : Prt S} {f : Fns} (P : PortOk I M f) {t : Th} (ht : ThOk t) (code : List Ins) (ad : Option Addr) (cap : Nat) (s : S) (hq : 1000 ≤ M.fuel s) (w : World) (hrow : RowAt w ad (flatOf insL code)) (hs : (t.st != 0) = false) (n : Nat) (hpc : t.pc = n) (hn : n < code.length) (hlen : code.length < 4611686018427387904) (hi : InsOk (code.getD n ins0)) :
    Does I s w 34 #[.agg (thC t), .slice ad code.length cap, .agg (portA M.size f)] (.agg (thC (stepM M t code s).1)) (stepM M t code s).2 := by
  intro F hI
  have fr := Fr3.start P.inv hI t M.size f
  have HP := hide P
  have HV := hide P.inv
  have HT := hide ht
  have HQ := hide hq
  obtain ⟨b, off, rfl, -⟩ := hrow.get (by rw [flatOf_length insL_len]; omega)
  have hx : ∀ j, j < 5 → w.cell? ⟨b, off + (n * 5 + j), none⟩ = (insL (code.getD n ins0))[j]? := fun j hj => hrow.cell insL_len hn ins0 j hj
  have hblt := hrow.lt (by rw [flatOf_length insL_len]; omega)
  have HX : Hid (stepM M t code s = atM M t (code.getD n ins0) code.length s) := by
    show _ = _
    have e1 : (decide (t.pc < 0) || decide ((code.length : Int) ≤ t.pc)) = false := by rw [hpc]; simp; omega
    rw [hpc] at e1
    simp only [stepM, hs, hpc, Int.toNat_natCast, e1, Bool.false_eq_true, if_false]
  rw [HX.out]
  generalize code.getD n ins0 = x at hx hi ⊢
  obtain ⟨op, a, b', c, k⟩ := x
  have x0 : w.cell? ⟨b, off + n * 5, none⟩ = some (.int .i64 op) := by have := hx 0 (by omega); rw [Nat.add_zero] at this; exact this
  have x1 : w.cell? ⟨b, off + n * 5 + 1, none⟩ = some (.int .i64 a) := by have := hx 1 (by omega); rw [← Nat.add_assoc] at this; exact this
  have x2 : w.cell? ⟨b, off + n * 5 + 2, none⟩ = some (.int .i64 b') := by have := hx 2 (by omega); rw [← Nat.add_assoc] at this; exact this
  have x3 : w.cell? ⟨b, off + n * 5 + 3, none⟩ = some (.int .i64 c) := by have := hx 3 (by omega); rw [← Nat.add_assoc] at this; exact this
  have x4 : w.cell? ⟨b, off + n * 5 + 4, none⟩ = some (.int .u32 k) := by have := hx 4 (by omega); rw [← Nat.add_assoc] at this; exact this
  have HB : Hid (∀ u1, Gr (((w.alloc (.cells (thC t) 46)).alloc (.cells (portA M.size f) 90)).alloc (.cells th0A 46)) u1 → ∀ o, (u1.setRow (w.heap.size + 1) (portA M.size f)).cell? ⟨b, o, none⟩ = w.cell? ⟨b, o, none⟩) := fun u1 g o =>
    cell_same o ((setRow_other u1 (w.heap.size + 1) b _ (by omega)).trans (((((Gr.refl w).alloc (thC t) 46).alloc (portA M.size f) 90).alloc th0A 46).trans g |>.block b hblt))
  have HI := hide hi
  have HIV := hide hI
  have c9 := thC_st ht
  have hpc0 := thC_pc t
  rw [hpc] at hpc0
  have hn' : (n : Int) < code.length := by omega
  have hn0 : ¬ (n : Int) < 0 := by omega
  have HPC := hide hpc
  have HLN := hide hlen
  generalize code.length = len at hn hn' hlen HLN HX ⊢
  clear P hI ht hq hrow hx hi hlen HX
  go_enter Tryz.func34, Tryz.ntmps34
  go_wp2_with (first
    | (refine load_port rfl _ rfl (w.heap.size + 1) rfl M.size f fr.b1 ?_)
    | (go_at_call 58; refine (whole_calls M.size f _).mono ?_; rintro e u1 ⟨rfl, g1⟩; replace fr := fr.gr HV.out g1; have fr2 := fr.port HV.out; have c0 := fr2.b0.cell hpc0; have y0 := (HB.out u1 g1 _).trans x0; have y1 := (HB.out u1 g1 _).trans x1; have y2 := (HB.out u1 g1 _).trans x2; have y3 := (HB.out u1 g1 _).trans x3; have y4 := (HB.out u1 g1 _).trans x4)
    | (refine store_port rfl _ _ rfl (w.heap.size + 1) rfl M.size f rfl _ fr.b1 rfl ?_))
  have frs := fr2.ins HV.out ⟨op, a, b', c, k⟩
  rw [size_setRow] at frs
  change Code.wp _ _ _ _ ((u1.setRow (w.heap.size + 1) (portA M.size f)).alloc (.cells (insA ⟨op, a, b', c, k⟩) 53))
  generalize (u1.setRow (w.heap.size + 1) (portA M.size f)).alloc (.cells (insA ⟨op, a, b', c, k⟩) 53) = u2 at frs ⊢
  generalize u1.heap.size = g at frs ⊢
  clear fr fr2 g1 c0 y0 y1 y2 y3 y4 x0 x1 x2 x3 x4 hpc0 c9
  have HE : Hid (∀ w, Does I s w 59 #[.agg (thC t), .agg (portA M.size f), .int .i64 3, .int .i64 13] (.agg (thC (endM M t s 3 13).1)) (endM M t s 3 13).2) := fun w => ended_does HP.out HT.out 3 13 s (by have := HQ.out; omega) w
  have HOE : Hid (ThOk (endM M t s 3 13).1) := HT.out.is 3
  replace frs := frs.gr HV.out (Gr.refl u2).drew
  have HRT := hide (fun w L => right_calls op a b' c k len HI.out.k0 HI.out.k1 w L)
  refine begin_late 18 [] (fun w' => Gr u2.drew w') (by kernel_rfl) rfl ?_
  have hH : Gr u2.drew u2.drew := Gr.refl _
  refine AnyL.yy 0 32 (.agg (insA ⟨op, a, b', c, k⟩)) rfl rfl (by kernel_rfl) (fun _ _ _ h => h) (take_ins (by kernel_rfl) _ rfl g rfl ⟨op, a, b', c, k⟩ (fun w' hw' => frs.b3.later hw')) hH ?_
  simp only [pz, pz0, pzs]
  refine AnyL.pp 1 33 (.slice (some ⟨b, off, none⟩) len cap) rfl rfl (by kernel_rfl) (fun _ _ _ h => h) (fun _ => by go_simp) hH ?_
  simp only [pz, pz0, pzs]
  refine AnyL.pp 2 34 (.int .i64 len) rfl rfl (by kernel_rfl) (fun _ _ _ h => h) (fun _ => by go_simp) hH ?_
  simp only [pz, pz0, pzs]
  refine AnyL.one 3 (by kernel_rfl) rfl (by kernel_rfl) ?_
  refine wp_call (some 35) rfl 41 #[.agg (insA ⟨op, a, b', c, k⟩), .int .i64 len] (by kernel_rfl) (HRT.out _ (frs.p.laid HV.out)) ?_
  rintro e u3 ⟨rfl, g3⟩
  refine ⟨_, rfl, fun _ => g3, ?_⟩
  simp only [pz, pz0, pzs]
  have frs00 := frs
  replace frs := frs.gr HV.out g3
  replace hH := g3
  clear HRT
  cases hr : rightB op a b' c k len
  · have HX : Hid (atM M t ⟨op, a, b', c, k⟩ len s = endM M t s 3 13) := by show _ = _; simp [atM, hr]
    refine AnyL.one 4 (by kernel_rfl) rfl (by kernel_rfl) ?_
    refine wp_value (some 36) rfl (.bool true) (by go_simp) ?_
    refine ⟨fun _ => hH, ?_⟩
    simp only [pz, pz0, pzs]
    refine AnyL.one 5 (by kernel_rfl) rfl (by kernel_rfl) ?_
    refine wp_value (some 37) rfl (.bool true) (by go_simp) ?_
    refine ⟨fun _ => hH, ?_⟩
    simp only [pz, pz0, pzs]
    refine AnyL.sk 6 38 rfl rfl (by kernel_rfl) (fun _ _ _ h => h) hH ?_
    simp only [pz, pz0, pzs]
    refine AnyL.sk 7 39 rfl rfl (by kernel_rfl) (fun _ _ _ h => h) hH ?_
    simp only [pz, pz0, pzs]
    refine AnyL.sk 8 40 rfl rfl (by kernel_rfl) (fun _ _ _ h => h) hH ?_
    simp only [pz, pz0, pzs]
    refine AnyL.sk 9 41 rfl rfl (by kernel_rfl) (fun _ _ _ h => h) hH ?_
    simp only [pz, pz0, pzs]
    refine AnyL.sk 10 42 rfl rfl (by kernel_rfl) (fun _ _ _ h => h) hH ?_
    simp only [pz, pz0, pzs]
    refine AnyL.sk 11 43 rfl rfl (by kernel_rfl) (fun _ _ _ h => h) hH ?_
    simp only [pz, pz0, pzs]
    refine AnyL.sk 12 44 rfl rfl (by kernel_rfl) (fun _ _ _ h => h) hH ?_
    simp only [pz, pz0, pzs]
    refine AnyL.sk 13 45 rfl rfl (by kernel_rfl) (fun _ _ _ h => h) hH ?_
    simp only [pz, pz0, pzs]
    refine AnyL.sk 14 46 rfl rfl (by kernel_rfl) (fun _ _ _ h => h) hH ?_
    simp only [pz, pz0, pzs]
    refine AnyL.sk 15 47 rfl rfl (by kernel_rfl) (fun _ _ _ h => h) hH ?_
    simp only [pz, pz0, pzs]
    refine AnyL.sk 16 48 rfl rfl (by kernel_rfl) (fun _ _ _ h => h) hH ?_
    simp only [pz, pz0, pzs]
    refine AnyL.one 17 (by kernel_rfl) rfl (by kernel_rfl) ?_
    refine wp_value (some 49) rfl (.bool true) (by go_simp) ?_
    refine ⟨fun _ => hH, ?_⟩
    simp only [pz, pz0, pzs]
    refine AnyL.done (by kernel_rfl) ?_
    clear hH g3 HIV HI HPC HLN
    generalize endM M t s 3 13 = r at HE HOE HX
    go_wp2_with (first
      | (refine load_th rfl _ rfl w.heap.size rfl t frs.b0 HT.out ?_)
      | (refine load_port rfl _ rfl (w.heap.size + 1) rfl M.size f frs.b1 ?_)
      | (refine load_ins rfl _ rfl g rfl ⟨op, a, b', c, k⟩ frs.b3 ?_)
      | (go_at_call 59; refine ((HE.out _).go frs.p).mono ?_; rintro e u9 ⟨⟨rfl, k1⟩, p1⟩; have frs1 := frs.loc k1 p1; clear k1 p1)
      | (refine store_th rfl _ _ rfl (w.heap.size + 1 + 1) rfl r.1 rfl th0 frs1.b2 HOE.out th0_ok ?_))
    have FR := hide (frs1.res HV.out (r.1))
    rw [HX.out]
    exact bodyPost_ret (results_th rfl _ _ (w.heap.size + 1 + 1) (r.1) rfl FR.out.b2 HOE.out) rfl ⟨rfl, FR.out.p.end⟩
  · refine AnyL.one 4 (by kernel_rfl) rfl (by kernel_rfl) ?_
    refine wp_value (some 36) rfl (.bool false) (by go_simp) ?_
    refine ⟨fun _ => hH, ?_⟩
    simp only [pz, pz0, pzs]
    refine AnyL.one 5 (by kernel_rfl) rfl (by kernel_rfl) ?_
    refine wp_value (some 37) rfl (.bool false) (by go_simp) ?_
    refine ⟨fun _ => hH, ?_⟩
    simp only [pz, pz0, pzs]
    have frs0 := frs
    have HAK := hide (fun w L => asks_calls op w L)
    refine AnyL.pp 6 38 (.pointer (some ⟨g, 0, none⟩)) rfl rfl (by kernel_rfl) (fun _ _ _ h => h) (fun _ => by go_simp) hH ?_
    simp only [pz, pz0, pzs]
    refine AnyL.tt 7 39 (.int .i64 op) rfl rfl (by kernel_rfl) (fun _ _ _ h => h) (fun w' hw' => by have h1 := (frs00.b3.later hw').cell (o := 0) rfl; go_simp) hH ?_
    simp only [pz, pz0, pzs]
    refine AnyL.one 8 (by kernel_rfl) rfl (by kernel_rfl) ?_
    refine wp_call (some 40) rfl 60 #[.int .i64 op] (by kernel_rfl) (HAK.out _ (frs.p.laid HV.out)) ?_
    rintro e u4 ⟨rfl, rfl⟩
    refine ⟨_, rfl, fun _ => hH, ?_⟩
    simp only [pz, pz0, pzs]
    clear HAK
    cases hk : askB op
    · have HX : Hid (atM M t ⟨op, a, b', c, k⟩ len s = if heldM M ⟨op, a, b', c, k⟩ s then (t, M.flush s) else doneM M t ⟨op, a, b', c, k⟩ s) := by show _ = _; simp [atM, hr, hk]
      have HM : Hid (askB op = true → addrM t ⟨op, a, b', c, k⟩ < M.size) := fun q => by rw [hk] at q; cases q
      refine AnyL.one 9 (by kernel_rfl) rfl (by kernel_rfl) ?_
      refine wp_value (some 41) rfl (.bool false) (by go_simp) ?_
      refine ⟨fun _ => hH, ?_⟩
      simp only [pz, pz0, pzs]
      refine AnyL.sk 10 42 rfl rfl (by kernel_rfl) (fun _ _ _ h => h) hH ?_
      simp only [pz, pz0, pzs]
      refine AnyL.sk 11 43 rfl rfl (by kernel_rfl) (fun _ _ _ h => h) hH ?_
      simp only [pz, pz0, pzs]
      refine AnyL.sk 12 44 rfl rfl (by kernel_rfl) (fun _ _ _ h => h) hH ?_
      simp only [pz, pz0, pzs]
      refine AnyL.sk 13 45 rfl rfl (by kernel_rfl) (fun _ _ _ h => h) hH ?_
      simp only [pz, pz0, pzs]
      refine AnyL.sk 14 46 rfl rfl (by kernel_rfl) (fun _ _ _ h => h) hH ?_
      simp only [pz, pz0, pzs]
      refine AnyL.sk 15 47 rfl rfl (by kernel_rfl) (fun _ _ _ h => h) hH ?_
      simp only [pz, pz0, pzs]
      refine AnyL.one 16 (by kernel_rfl) rfl (by kernel_rfl) ?_
      refine wp_value (some 48) rfl (.bool false) (by go_simp) ?_
      refine ⟨fun _ => hH, ?_⟩
      simp only [pz, pz0, pzs]
      refine AnyL.one 17 (by kernel_rfl) rfl (by kernel_rfl) ?_
      refine wp_value (some 49) rfl (.bool false) (by go_simp) ?_
      refine ⟨fun _ => hH, ?_⟩
      simp only [pz, pz0, pzs]
      refine AnyL.done (by kernel_rfl) ?_
      clear hH g3
      have HH : Hid (∀ w, Does I s w 63 #[.agg (insA ⟨op, a, b', c, k⟩), .agg (portA M.size f)] (.bool (heldM M ⟨op, a, b', c, k⟩ s)) s) := fun w => held_does HP.out _ s (by have := HQ.out; omega) w
      cases hh : heldM M ⟨op, a, b', c, k⟩ s
      · have HX2 : Hid (atM M t ⟨op, a, b', c, k⟩ len s = doneM M t ⟨op, a, b', c, k⟩ s) := by show _ = _; rw [HX.out, hh]; rfl
        have HD : Hid (∀ w, Does I s w 64 #[.agg (thC t), .agg (insA ⟨op, a, b', c, k⟩), .agg (portA M.size f)] (.agg (thC (doneM M t ⟨op, a, b', c, k⟩ s).1)) (doneM M t ⟨op, a, b', c, k⟩ s).2) := fun w =>
          done_does HP.out HT.out (by rw [HPC.out]; omega) (by rw [HPC.out]; have := HLN.out; omega) _ HI.out hr s HM.out (fun q => held_room hh q) (by have := HQ.out; omega) w
        have HO : Hid (ThOk (doneM M t ⟨op, a, b', c, k⟩ s).1) := doneM_ok HP.out HIV.out HT.out _ HI.out
        rw [hh] at HH
        generalize doneM M t ⟨op, a, b', c, k⟩ s = r at HD HO HX2
        clear HX hh
        go_wp2_with (first
          | (refine load_th rfl _ rfl w.heap.size rfl t frs.b0 HT.out ?_)
          | (refine load_port rfl _ rfl (w.heap.size + 1) rfl M.size f frs.b1 ?_)
          | (refine load_ins rfl _ rfl g rfl ⟨op, a, b', c, k⟩ frs.b3 ?_)
          | (go_at_call 63; refine ((HH.out _).go frs.p).mono ?_; rintro e u8 ⟨⟨rfl, k1⟩, p1⟩; replace frs := frs.loc k1 p1; clear k1 p1)
          | (go_at_call 64; refine ((HD.out _).go frs.p).mono ?_; rintro e u9 ⟨⟨rfl, k1⟩, p1⟩; have frs1 := frs.loc k1 p1; clear k1 p1)
          | (refine store_th rfl _ _ rfl (w.heap.size + 1 + 1) rfl r.1 rfl th0 frs1.b2 HO.out th0_ok ?_))
        have FR := hide (frs1.res HV.out (r.1))
        rw [HX2.out]
        exact bodyPost_ret (results_th rfl _ _ (w.heap.size + 1 + 1) (r.1) rfl FR.out.b2 HO.out) rfl ⟨rfl, FR.out.p.end⟩
      · have HX2 : Hid (atM M t ⟨op, a, b', c, k⟩ len s = (t, M.flush s)) := by show _ = _; rw [HX.out, hh]; rfl
        rw [hh] at HH
        clear HX hh
        go_wp2_with (first
          | (refine load_th rfl _ rfl w.heap.size rfl t frs.b0 HT.out ?_)
          | (refine load_port rfl _ rfl (w.heap.size + 1) rfl M.size f frs.b1 ?_)
          | (refine load_ins rfl _ rfl g rfl ⟨op, a, b', c, k⟩ frs.b3 ?_)
          | (go_at_call 63; refine ((HH.out _).go frs.p).mono ?_; rintro e u8 ⟨⟨rfl, k1⟩, p1⟩; replace frs := frs.loc k1 p1; clear k1 p1; have c5 := frs.b1.cell (o := 5) rfl))
        have q2 : 200 ≤ M.fuel s := by have := HQ.out; omega
        rw [(HP.out.flush s w q2).run, Oper.upon_enter]
        have hfl := (HP.out.flush s _ q2).does.go frs.p
        refine hfl.mono ?_
        clear hfl q2
        rintro e u9 ⟨⟨rfl, k1⟩, p1⟩
        have frs1 := frs.loc k1 p1
        clear k1 p1 c5 frs
        go_wp2_with (first
          | (refine load_th rfl _ rfl w.heap.size rfl t frs1.b0 HT.out ?_)
          | (refine store_th rfl _ _ rfl (w.heap.size + 1 + 1) rfl t rfl th0 frs1.b2 HT.out th0_ok ?_))
        have FR := hide (frs1.res HV.out (t))
        rw [HX2.out]
        exact bodyPost_ret (results_th rfl _ _ (w.heap.size + 1 + 1) (t) rfl FR.out.b2 HT.out) rfl ⟨rfl, FR.out.p.end⟩
    · have HAD := hide (address_calls HT.out ⟨op, a, b', c, k⟩)
      have HIM := hide (fun w => inMemory_calls (addrM t ⟨op, a, b', c, k⟩) M.size f (addr_u32 HT.out HI.out) w)
      have HIE : Hid (inMemM M t ⟨op, a, b', c, k⟩ = decide (addrM t ⟨op, a, b', c, k⟩ < M.size)) := rfl
      refine AnyL.one 9 (by kernel_rfl) rfl (by kernel_rfl) ?_
      refine wp_value (some 41) rfl (.bool true) (by go_simp) ?_
      refine ⟨fun _ => hH, ?_⟩
      simp only [pz, pz0, pzs]
      refine AnyL.yy 10 42 (.agg (thC t)) rfl rfl (by kernel_rfl) (fun _ _ _ h => h) (take_th (by kernel_rfl) _ rfl w.heap.size rfl t (fun w' hw' => frs00.b0.later hw') HT.out) hH ?_
      simp only [pz, pz0, pzs]
      refine AnyL.yy 11 43 (.agg (insA ⟨op, a, b', c, k⟩)) rfl rfl (by kernel_rfl) (fun _ _ _ h => h) (take_ins (by kernel_rfl) _ rfl g rfl ⟨op, a, b', c, k⟩ (fun w' hw' => frs00.b3.later hw')) hH ?_
      simp only [pz, pz0, pzs]
      refine AnyL.yy 13 45 (.agg (portA M.size f)) rfl rfl (by kernel_rfl) (fun _ _ _ h => h) (take_port (by kernel_rfl) _ rfl (w.heap.size + 1) rfl M.size f (fun w' hw' => frs00.b1.later hw')) hH ?_
      simp only [pz, pz0, pzs]
      refine AnyL.one 12 (by kernel_rfl) rfl (by kernel_rfl) ?_
      refine wp_call (some 44) rfl 62 #[.agg (thC t), .agg (insA ⟨op, a, b', c, k⟩)] (by kernel_rfl) (HAD.out _) ?_
      rintro e u5 ⟨rfl, g5⟩
      refine ⟨_, rfl, fun _ => hH.trans g5, ?_⟩
      simp only [pz, pz0, pzs]
      replace frs := frs.gr HV.out g5
      replace hH := hH.trans g5
      refine AnyL.one 14 (by kernel_rfl) rfl (by kernel_rfl) ?_
      refine wp_call (some 46) rfl 61 #[.int .u32 (addrM t ⟨op, a, b', c, k⟩), .agg (portA M.size f)] (by kernel_rfl) (HIM.out _) ?_
      rintro e u6 ⟨rfl, g6⟩
      refine ⟨_, rfl, fun _ => hH.trans g6, ?_⟩
      simp only [pz, pz0, pzs]
      replace frs := frs.gr HV.out g6
      replace hH := hH.trans g6
      clear HAD HIM g5 g6
      cases hm : decide (addrM t ⟨op, a, b', c, k⟩ < M.size)
      · have HX : Hid (atM M t ⟨op, a, b', c, k⟩ len s = endM M t s 3 13) := by show _ = _; simp only [atM, hr, hk, HIE.out, hm]; rfl
        refine AnyL.one 15 (by kernel_rfl) rfl (by kernel_rfl) ?_
        refine wp_value (some 47) rfl (.bool true) (by go_simp) ?_
        refine ⟨fun _ => hH, ?_⟩
        simp only [pz, pz0, pzs]
        refine AnyL.one 16 (by kernel_rfl) rfl (by kernel_rfl) ?_
        refine wp_value (some 48) rfl (.bool true) (by go_simp) ?_
        refine ⟨fun _ => hH, ?_⟩
        simp only [pz, pz0, pzs]
        refine AnyL.one 17 (by kernel_rfl) rfl (by kernel_rfl) ?_
        refine wp_value (some 49) rfl (.bool true) (by go_simp) ?_
        refine ⟨fun _ => hH, ?_⟩
        simp only [pz, pz0, pzs]
        refine AnyL.done (by kernel_rfl) ?_
        clear hH g3 HIV HI HPC HLN HIE
        generalize endM M t s 3 13 = r at HE HOE HX
        go_wp2_with (first
          | (refine load_th rfl _ rfl w.heap.size rfl t frs.b0 HT.out ?_)
          | (refine load_port rfl _ rfl (w.heap.size + 1) rfl M.size f frs.b1 ?_)
          | (refine load_ins rfl _ rfl g rfl ⟨op, a, b', c, k⟩ frs.b3 ?_)
          | (go_at_call 59; refine ((HE.out _).go frs.p).mono ?_; rintro e u9 ⟨⟨rfl, k1⟩, p1⟩; have frs1 := frs.loc k1 p1; clear k1 p1)
          | (refine store_th rfl _ _ rfl (w.heap.size + 1 + 1) rfl r.1 rfl th0 frs1.b2 HOE.out th0_ok ?_))
        have FR := hide (frs1.res HV.out (r.1))
        rw [HX.out]
        exact bodyPost_ret (results_th rfl _ _ (w.heap.size + 1 + 1) (r.1) rfl FR.out.b2 HOE.out) rfl ⟨rfl, FR.out.p.end⟩
      · have HX : Hid (atM M t ⟨op, a, b', c, k⟩ len s = if heldM M ⟨op, a, b', c, k⟩ s then (t, M.flush s) else doneM M t ⟨op, a, b', c, k⟩ s) := by show _ = _; simp only [atM, hr, hk, HIE.out, hm]; rfl
        have HM : Hid (askB op = true → addrM t ⟨op, a, b', c, k⟩ < M.size) := fun _ => by simpa using hm
        refine AnyL.one 15 (by kernel_rfl) rfl (by kernel_rfl) ?_
        refine wp_value (some 47) rfl (.bool false) (by go_simp) ?_
        refine ⟨fun _ => hH, ?_⟩
        simp only [pz, pz0, pzs]
        refine AnyL.one 16 (by kernel_rfl) rfl (by kernel_rfl) ?_
        refine wp_value (some 48) rfl (.bool false) (by go_simp) ?_
        refine ⟨fun _ => hH, ?_⟩
        simp only [pz, pz0, pzs]
        refine AnyL.one 17 (by kernel_rfl) rfl (by kernel_rfl) ?_
        refine wp_value (some 49) rfl (.bool false) (by go_simp) ?_
        refine ⟨fun _ => hH, ?_⟩
        simp only [pz, pz0, pzs]
        refine AnyL.done (by kernel_rfl) ?_
        clear hH g3 HIE
        have HH : Hid (∀ w, Does I s w 63 #[.agg (insA ⟨op, a, b', c, k⟩), .agg (portA M.size f)] (.bool (heldM M ⟨op, a, b', c, k⟩ s)) s) := fun w => held_does HP.out _ s (by have := HQ.out; omega) w
        cases hh : heldM M ⟨op, a, b', c, k⟩ s
        · have HX2 : Hid (atM M t ⟨op, a, b', c, k⟩ len s = doneM M t ⟨op, a, b', c, k⟩ s) := by show _ = _; rw [HX.out, hh]; rfl
          have HD : Hid (∀ w, Does I s w 64 #[.agg (thC t), .agg (insA ⟨op, a, b', c, k⟩), .agg (portA M.size f)] (.agg (thC (doneM M t ⟨op, a, b', c, k⟩ s).1)) (doneM M t ⟨op, a, b', c, k⟩ s).2) := fun w =>
            done_does HP.out HT.out (by rw [HPC.out]; omega) (by rw [HPC.out]; have := HLN.out; omega) _ HI.out hr s HM.out (fun q => held_room hh q) (by have := HQ.out; omega) w
          have HO : Hid (ThOk (doneM M t ⟨op, a, b', c, k⟩ s).1) := doneM_ok HP.out HIV.out HT.out _ HI.out
          rw [hh] at HH
          generalize doneM M t ⟨op, a, b', c, k⟩ s = r at HD HO HX2
          clear HX hh
          go_wp2_with (first
            | (refine load_th rfl _ rfl w.heap.size rfl t frs.b0 HT.out ?_)
            | (refine load_port rfl _ rfl (w.heap.size + 1) rfl M.size f frs.b1 ?_)
            | (refine load_ins rfl _ rfl g rfl ⟨op, a, b', c, k⟩ frs.b3 ?_)
            | (go_at_call 63; refine ((HH.out _).go frs.p).mono ?_; rintro e u8 ⟨⟨rfl, k1⟩, p1⟩; replace frs := frs.loc k1 p1; clear k1 p1)
            | (go_at_call 64; refine ((HD.out _).go frs.p).mono ?_; rintro e u9 ⟨⟨rfl, k1⟩, p1⟩; have frs1 := frs.loc k1 p1; clear k1 p1)
            | (refine store_th rfl _ _ rfl (w.heap.size + 1 + 1) rfl r.1 rfl th0 frs1.b2 HO.out th0_ok ?_))
          have FR := hide (frs1.res HV.out (r.1))
          rw [HX2.out]
          exact bodyPost_ret (results_th rfl _ _ (w.heap.size + 1 + 1) (r.1) rfl FR.out.b2 HO.out) rfl ⟨rfl, FR.out.p.end⟩
        · have HX2 : Hid (atM M t ⟨op, a, b', c, k⟩ len s = (t, M.flush s)) := by show _ = _; rw [HX.out, hh]; rfl
          rw [hh] at HH
          clear HX hh
          go_wp2_with (first
            | (refine load_th rfl _ rfl w.heap.size rfl t frs.b0 HT.out ?_)
            | (refine load_port rfl _ rfl (w.heap.size + 1) rfl M.size f frs.b1 ?_)
            | (refine load_ins rfl _ rfl g rfl ⟨op, a, b', c, k⟩ frs.b3 ?_)
            | (go_at_call 63; refine ((HH.out _).go frs.p).mono ?_; rintro e u8 ⟨⟨rfl, k1⟩, p1⟩; replace frs := frs.loc k1 p1; clear k1 p1; have c5 := frs.b1.cell (o := 5) rfl))
          have q2 : 200 ≤ M.fuel s := by have := HQ.out; omega
          rw [(HP.out.flush s w q2).run, Oper.upon_enter]
          have hfl := (HP.out.flush s _ q2).does.go frs.p
          refine hfl.mono ?_
          clear hfl q2
          rintro e u9 ⟨⟨rfl, k1⟩, p1⟩
          have frs1 := frs.loc k1 p1
          clear k1 p1 c5 frs
          go_wp2_with (first
            | (refine load_th rfl _ rfl w.heap.size rfl t frs1.b0 HT.out ?_)
            | (refine store_th rfl _ _ rfl (w.heap.size + 1 + 1) rfl t rfl th0 frs1.b2 HT.out th0_ok ?_))
          have FR := hide (frs1.res HV.out (t))
          rw [HX2.out]
          exact bodyPost_ret (results_th rfl _ _ (w.heap.size + 1 + 1) (t) rfl FR.out.b2 HT.out) rfl ⟨rfl, FR.out.p.end⟩
end Go.Proofs.YtfhplbmgjgfihaaGreatDoor.Mp
