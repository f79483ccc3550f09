/-
  What whole answers: the port, as it was. No condition but that the port's functions are such, and have room.
-/
import Derived.Test.YthbenfnanhpcoaaGreatDoorZtaqMFrm
import Derived.Test.YthbenfnanhpcoaaGreatDoorZtar
import Derived.Test.YthbenfnanhpcoaaGreatDoorZtav
namespace Go.Proofs.YthbenfnanhpcoaaGreatDoor.Mp
open Go.ChangeShapes Go.WideShapes Go.ChangeAt Go.RowKit
set_option linter.unusedVariables false
set_option maxRecDepth 20000

/-- the cells of the zero port -/
abbrev port0 : Array Value := #[.int .i64 0, .nilFunc, .nilFunc, .nilFunc, .nilFunc, .nilFunc, .nilFunc, .nilFunc, .nilFunc, .nilFunc, .nilFunc]
/-- a port is written whole -/
theorem store_port {ops : Array Oper} {rest : List Oper} {op : Oper} {a : Act} {w : World} {Q : Exit → Act → World → Prop} (hgd : op.guard = none) (x y : Operand) (ho : op.op = .store 103 x y)
    (g : Nat) (hx : a.eval x = .pointer (some ⟨g, 0, none⟩)) (z : Int) (f : Fns) (hy : a.eval y = .agg (portA z f)) (C : Array Value) (hg : Has w g C 103) (hC : C.size = 11)
    (h : wpList Tryz.prog ops Q rest (a.put op.dst undef) (w.setRow g (portA z f))) : wpList Tryz.prog ops Q (op :: rest) a w :=
  wpList_store_row hgd 103 x y ho g (portA z f) hx hy 103 C hg infoP11 (by rw [hC]; rfl) (by simp [Value.oneCell']) h
theorem results_port {fn : Func} {p : Tmp} (h : fn.results = #[.cell p 103]) (tmps : Array Value) (w : World) (g : Nat) (z : Int) (f : Fns) (hp : tmps.getD p undef = .pointer (some ⟨g, 0, none⟩)) (hg : Has w g (portA z f) 103) :
    (results fn tmps).run Tryz.prog w = .ok (.agg (portA z f)) w :=
  results_cell_row h tmps w g 103 (portA z f) (0, 0) _ hp hg Tryz.underlying103 rfl infoP11

set_option maxRecDepth 20000 in
set_option maxHeartbeats 1000000 in
theorem whole_calls (z : Int) (f : Fns) (w : World) : Calls Tryz.prog 90 #[.agg (portA z f)] w fun e w' => e = .returned (.agg (portA z f)) ∧ Gr w w' := by
  obtain ⟨f1, f2, f3, f4, f5, f6, f7, f8, f9, f10, r⟩ := f
  have e1 : ∀ w, (binOp .eql 97 (.func (.func f1) #[r] #[]) .nilFunc).run Tryz.prog w = .ok (.bool false) w := fun w => by kernel_rfl
  have e2 : ∀ w, (binOp .eql 23 (.func (.func f2) #[r] #[]) .nilFunc).run Tryz.prog w = .ok (.bool false) w := fun w => by kernel_rfl
  have e3 : ∀ w, (binOp .eql 98 (.func (.func f3) #[r] #[]) .nilFunc).run Tryz.prog w = .ok (.bool false) w := fun w => by kernel_rfl
  have e4 : ∀ w, (binOp .eql 23 (.func (.func f4) #[r] #[]) .nilFunc).run Tryz.prog w = .ok (.bool false) w := fun w => by kernel_rfl
  have e5 : ∀ w, (binOp .eql 1 (.func (.func f5) #[r] #[]) .nilFunc).run Tryz.prog w = .ok (.bool false) w := fun w => by kernel_rfl
  have e6 : ∀ w, (binOp .eql 99 (.func (.func f6) #[r] #[]) .nilFunc).run Tryz.prog w = .ok (.bool false) w := fun w => by kernel_rfl
  have e7 : ∀ w, (binOp .eql 100 (.func (.func f7) #[r] #[]) .nilFunc).run Tryz.prog w = .ok (.bool false) w := fun w => by kernel_rfl
  have e8 : ∀ w, (binOp .eql 99 (.func (.func f8) #[r] #[]) .nilFunc).run Tryz.prog w = .ok (.bool false) w := fun w => by kernel_rfl
  have e9 : ∀ w, (binOp .eql 1 (.func (.func f9) #[r] #[]) .nilFunc).run Tryz.prog w = .ok (.bool false) w := fun w => by kernel_rfl
  have e10 : ∀ w, (binOp .eql 101 (.func (.func f10) #[r] #[]) .nilFunc).run Tryz.prog w = .ok (.bool false) w := fun w => by kernel_rfl
  have b0 := (Has.new w (portA z ⟨f1, f2, f3, f4, f5, f6, f7, f8, f9, f10, r⟩) 103).alloc port0 103
  have b1 := Has.new (w.alloc (.cells (portA z ⟨f1, f2, f3, f4, f5, f6, f7, f8, f9, f10, r⟩) 103)) port0 103
  rw [size1] at b1
  have FG := hide ((((Gr.refl w).alloc (portA z ⟨f1, f2, f3, f4, f5, f6, f7, f8, f9, f10, r⟩) 103).alloc port0 103).setRow (g := w.heap.size + 1) (by omega) (portA z ⟨f1, f2, f3, f4, f5, f6, f7, f8, f9, f10, r⟩))
  have FB := hide (b1.row (portA z ⟨f1, f2, f3, f4, f5, f6, f7, f8, f9, f10, r⟩))
  go_enter Tryz.func90, Tryz.ntmps90
  go_wp2_with (first
    | (refine load_port rfl _ rfl w.heap.size rfl z ⟨f1, f2, f3, f4, f5, f6, f7, f8, f9, f10, r⟩ b0 ?_)
    | (refine store_port rfl _ _ rfl (w.heap.size + 1) rfl z ⟨f1, f2, f3, f4, f5, f6, f7, f8, f9, f10, r⟩ rfl port0 b1 rfl ?_))
  exact bodyPost_ret (results_port rfl _ _ (w.heap.size + 1) z ⟨f1, f2, f3, f4, f5, f6, f7, f8, f9, f10, r⟩ rfl FB.out) rfl ⟨rfl, FG.out⟩
end Go.Proofs.YthbenfnanhpcoaaGreatDoor.Mp

namespace Go.Proofs.YthbenfnanhpcoaaGreatDoor.Mp
open Go.ChangeShapes Go.WideShapes Go.ChangeAt Go.RowKit
set_option linter.unusedVariables false
set_option maxRecDepth 20000

theorem regs28 : ∀ n : Fin 28, (kA n = 0 ∨ kA n = 1) ∧ (kC n = 0 ∨ kC n = 1) ∧ ((n.val = 2 ∨ (3 ≤ n.val ∧ n.val ≤ 12)) → kB n = 1) := by decide +kernel
theorem fits_reg {u n : Int} (h : u = 0 ∨ u = 1) (hf : fitsB u n = true) : regB n = true := by
  rcases h with rfl | rfl
  · have : n = 0 := by simpa [fitsB] using hf
    subst this; rfl
  · simpa [fitsB] using hf
theorem right_regs {op a b c k n : Int} (h : rightB op a b c k n = true) : regB a = true ∧ regB c = true ∧ (op = 2 ∨ aluB op = true → regB b = true) := by
  simp only [rightB, Bool.and_eq_true] at h
  obtain ⟨h0, ⟨⟨h1, h2⟩, h3⟩, h4⟩ := h
  obtain ⟨m, rfl, hm⟩ := isB_nat h0
  obtain ⟨q1, q2, q3⟩ := regs28 ⟨m, hm⟩
  simp only [Int.toNat_natCast] at h1 h2 h3
  refine ⟨fits_reg q1 h1, fits_reg q2 h3, fun q => fits_reg (.inr (q3 ?_)) h2⟩
  show m = 2 ∨ (3 ≤ m ∧ m ≤ 12)
  rcases q with q | q
  · left; omega
  · right; simp [aluB] at q; omega

theorem done_does {S : Type} {I : List Nat → S → World → Prop} {M : Prt S} {f : Fns} (P : PortOk I M f) {t : Th} (ht : ThOk t) (hp : 0 ≤ t.pc) (hp' : t.pc < 4611686018427387904) (i : Ins) (hi : InsOk i) {n : Int} (hright : rightB i.op i.a i.b i.c i.k n = true) (s : S)
    (hm : askB i.op = true → addrM t i < M.size) (hr : i.op = 17 → M.room s = true) (hq : 600 ≤ M.fuel s) (w : World) :
    Does I s w 96 #[.agg (thC t), .agg (insA i), .agg (portA M.size f)] (.agg (thC (doneM M t i s).1)) (doneM M t i s).2 := by
  obtain ⟨ha, hc, hb⟩ := right_regs hright
  cases h0 : (i.op == 0)
  · cases hj : jumpB i.op
    · cases hk : askB i.op
      · cases hl : aluB i.op
        · exact done_alone P ht hp hp' i hi ha s h0 hj hk hl (fun q => hb (.inl q)) hq w
        · exact done_alu P ht hp hp' i h0 hj hk hl ha (hb (.inr hl)) hc s w
      · exact done_ask P ht hp hp' i hi ha s h0 hj hk hc (hm hk) hr hq w
    · exact done_jump P ht hp hp' i hi ha s h0 hj hq w
  · exact done_end P ht hp hp' i hi ha s (by simpa using h0) hq w
theorem doneM_ok {S : Type} {I : List Nat → S → World → Prop} {M : Prt S} {f : Fns} (P : PortOk I M f) {F : List Nat} {s : S} {w : World} (hI : I F s w) {t : Th} (ht : ThOk t) (i : Ins) (hi : InsOk i) : ThOk (doneM M t i s).1 := by
  unfold doneM
  split
  · exact ht.is 2
  split
  · exact ht.at _
  · unfold onM
    refine ThOk.at ?_ _
    split
    · exact askedM_ok P hI ht i
    split
    · exact ht.put _ _ (u32_doI _ _ _)
    · exact aloneM_ok M ht i hi s
end Go.Proofs.YthbenfnanhpcoaaGreatDoor.Mp

namespace Go.Proofs.YthbenfnanhpcoaaGreatDoor.Mp
open Go.ChangeShapes Go.WideShapes Go.ChangeAt Go.RowKit
set_option linter.unusedVariables false
set_option maxRecDepth 20000

set_option maxRecDepth 20000 in
set_option maxHeartbeats 2000000 in
theorem step_not {S : Type} {I : List Nat → S → World → Prop} {M : Prt S} {f : Fns} (P : PortOk I M f) {t : Th} (ht : ThOk t) (code : List Ins) (ad : Option Addr) (cap : Nat) (h0 : (t.st != 0) = true) (s : S) (hq : 1000 ≤ M.fuel s) (w : World) (hrow : RowAt w ad (flatOf insL code)) :
    Does I s w 62 #[.agg (thC t), .slice ad code.length cap, .agg (portA M.size f)] (.agg (thC (stepM M t code s).1)) (stepM M t code s).2 := by
  intro F hI
  have fr := Fr3.start P.inv hI t M.size f
  have HP := hide P
  have HV := hide P.inv
  have HT := hide ht
  have HQ := hide hq
  have HX : Hid (stepM M t code s = (t, s)) := by show _ = _; simp [stepM, h0]
  rw [HX.out]
  have c9 := thC_st ht
  have FR := hide (fr.res HV.out t)
  clear P hI ht hq HX hrow
  go_enter Tryz.func62, Tryz.ntmps62
  go_wp2_with (first
    | (refine load_th rfl _ rfl w.heap.size rfl t fr.b0 HT.out ?_)
    | (refine store_th rfl _ _ rfl (w.heap.size + 1 + 1) rfl t rfl th0 fr.b2 HT.out th0_ok ?_))
  exact bodyPost_ret (results_th rfl _ _ (w.heap.size + 1 + 1) t rfl FR.out.b2 HT.out) rfl ⟨rfl, FR.out.p.end⟩

set_option maxRecDepth 20000 in
set_option maxHeartbeats 2000000 in
theorem step_end {S : Type} {I : List Nat → S → World → Prop} {M : Prt S} {f : Fns} (P : PortOk I M f) {t : Th} (ht : ThOk t) (code : List Ins) (ad : Option Addr) (cap : Nat) (hs : (t.st != 0) = false) (h0 : (decide (t.pc < 0) || decide ((code.length : Int) ≤ t.pc)) = true) (s : S) (hq : 1000 ≤ M.fuel s) (w : World) (hrow : RowAt w ad (flatOf insL code)) :
    Does I s w 62 #[.agg (thC t), .slice ad code.length cap, .agg (portA M.size f)] (.agg (thC (stepM M t code s).1)) (stepM M t code s).2 := by
  intro F hI
  have fr := Fr3.start P.inv hI t M.size f
  have HP := hide P
  have HV := hide P.inv
  have HT := hide ht
  have HQ := hide hq
  have HX : Hid (stepM M t code s = endM M t s 2 12) := by show _ = _; simp only [stepM, hs, h0]; rfl
  have HD : Hid (∀ w, Does I s w 91 #[.agg (thC t), .agg (portA M.size f), .int .i64 2, .int .i64 12] (.agg (thC (endM M t s 2 12).1)) (endM M t s 2 12).2) := fun w => ended_does P ht 2 12 s (by omega) w
  have HO : Hid (ThOk (endM M t s 2 12).1) := ht.is 2
  rw [HX.out]
  generalize endM M t s 2 12 = r at HD HO ⊢
  have c9 := thC_st ht
  clear P hI ht hq HX hrow
  by_cases h1 : t.pc < 0
  · clear h0
    go_enter Tryz.func62, Tryz.ntmps62
    go_wp2_with (first
    | (refine load_port rfl _ rfl (w.heap.size + 1) rfl M.size f fr.b1 ?_)
    | (go_at_call 90; refine (whole_calls M.size f _).mono ?_; rintro e u1 ⟨rfl, g1⟩; replace fr := fr.gr HV.out g1; have fr2 := fr.port HV.out; have c0 := fr2.b0.cell (thC_pc t))
    | (refine store_port rfl _ _ rfl (w.heap.size + 1) rfl M.size f rfl _ fr.b1 rfl ?_)
    | (refine load_th rfl _ rfl w.heap.size rfl t fr2.b0 HT.out ?_)
    | (refine load_port rfl _ rfl (w.heap.size + 1) rfl M.size f fr2.b1 ?_)
    | (go_at_call 91; refine ((HD.out _).go fr2.p).mono ?_; rintro e u2 ⟨⟨rfl, k1⟩, p1⟩; have fr3 := fr2.loc k1 p1; clear k1 p1)
    | (refine store_th rfl _ _ rfl (w.heap.size + 1 + 1) rfl r.1 rfl th0 fr3.b2 HO.out th0_ok ?_))
    have FR := hide (fr3.res HV.out r.1)
    exact bodyPost_ret (results_th rfl _ _ (w.heap.size + 1 + 1) r.1 rfl FR.out.b2 HO.out) rfl ⟨rfl, FR.out.p.end⟩
  · have h2 : (code.length : Int) ≤ t.pc := by simpa [h1] using h0
    clear h0
    go_enter Tryz.func62, Tryz.ntmps62
    go_wp2_with (first
    | (refine load_port rfl _ rfl (w.heap.size + 1) rfl M.size f fr.b1 ?_)
    | (go_at_call 90; refine (whole_calls M.size f _).mono ?_; rintro e u1 ⟨rfl, g1⟩; replace fr := fr.gr HV.out g1; have fr2 := fr.port HV.out; have c0 := fr2.b0.cell (thC_pc t))
    | (refine store_port rfl _ _ rfl (w.heap.size + 1) rfl M.size f rfl _ fr.b1 rfl ?_)
    | (refine load_th rfl _ rfl w.heap.size rfl t fr2.b0 HT.out ?_)
    | (refine load_port rfl _ rfl (w.heap.size + 1) rfl M.size f fr2.b1 ?_)
    | (go_at_call 91; refine ((HD.out _).go fr2.p).mono ?_; rintro e u2 ⟨⟨rfl, k1⟩, p1⟩; have fr3 := fr2.loc k1 p1; clear k1 p1)
    | (refine store_th rfl _ _ rfl (w.heap.size + 1 + 1) rfl r.1 rfl th0 fr3.b2 HO.out th0_ok ?_))
    have FR := hide (fr3.res HV.out r.1)
    exact bodyPost_ret (results_th rfl _ _ (w.heap.size + 1 + 1) r.1 rfl FR.out.b2 HO.out) rfl ⟨rfl, FR.out.p.end⟩
end Go.Proofs.YthbenfnanhpcoaaGreatDoor.Mp
