/-
  What newPort of a side answers. No condition but what each law names.
-/
import Derived.Test.YtfhplbmgjgfihaaGreatDoorZzap
import Derived.Test.YtfhplbmgjgfihaaGreatDoorZzas
namespace Go.Proofs.YtfhplbmgjgfihaaGreatDoor.Mc
open Go.ChangeShapes Go.WideShapes Go.ChangeAt Go.RowKit
set_option linter.unusedVariables false
set_option maxRecDepth 20000
theorem infoPt : (Tryz.prog.info? 90).map (·.size) = some 11 := by kernel_rfl
theorem cell_later {w w' : World} (g : Gr w w') {b o : Nat} {v : Value} (h : w.cell? ⟨b, o, none⟩ = some v) : w'.cell? ⟨b, o, none⟩ = some v := (cell_same o (g.block b (World.block_lt_of_cell? w _ h))).trans h
set_option maxHeartbeats 400000 in
theorem newPort_calls (w : World) (g mb : Nat) (a : Option Addr) (N c : Nat) (c0 : w.cell? ⟨g, 0, none⟩ = some (.pointer (some ⟨mb, 0, none⟩))) (c1 : w.cell? ⟨mb, 1, none⟩ = some (.slice a N c)) :
    Calls Tryz.prog 29 #[.pointer (some ⟨g, 0, none⟩)] w fun r w' => r = .returned (.agg (Mp.portA N (fnsT g))) ∧ Gr w w' := by
  have gg := Gr.refl w
  have b0 := World.block_lt_of_cell? w _ c0
  have b1 := World.block_lt_of_cell? w _ c1
  go_enter Tryz.func29, Tryz.ntmps29
  go_wp2_with (fail)
  exact bodyPost_ret (results_cell_row rfl _ _ w.heap.size 90 (Mp.portA N (fnsT g)) (0, 0) _ rfl (Has.new w _ _) Tryz.underlying90 rfl infoPt) rfl ⟨rfl, gg.alloc _ _⟩

abbrev th00 : Th := ⟨0, List.replicate 8 0, 0⟩
abbrev portZ : Array Value := #[.int .i64 0, .nilFunc, .nilFunc, .nilFunc, .nilFunc, .nilFunc, .nilFunc, .nilFunc, .nilFunc, .nilFunc, .nilFunc]
/-- a side's cells, whatever its buffer's and its port's are -/
def sideZ (mb i : Nat) (cv : Value) (B P : List Value) : Array Value := ([.pointer (some ⟨mb, 0, none⟩), .int .i64 i, cv] ++ (thL th00 ++ (B ++ P))).toArray
theorem sideZ_buf {mb i : Nat} {cv : Value} {B C P : List Value} (h : B.length = C.length) : Kq.setA (sideZ mb i cv B P) 13 C = sideZ mb i cv C P := by
  have := Kq.setA_seg C ([.pointer (some ⟨mb, 0, none⟩), .int .i64 i, cv] ++ thL th00) B P h
  unfold sideZ
  simpa [thL] using this
theorem sideZ_port {mb i : Nat} {cv : Value} {B P R : List Value} (hB : B.length = 35) (h : P.length = R.length) : Kq.setA (sideZ mb i cv B P) 48 R = sideZ mb i cv B R := by
  have := Kq.setA_seg R ([.pointer (some ⟨mb, 0, none⟩), .int .i64 i, cv] ++ thL th00 ++ B) P [] h
  unfold sideZ
  simpa [thL, hB] using this
theorem sideZ_size {mb i : Nat} {cv : Value} {B P : List Value} (hB : B.length = 35) (hP : P.length = 11) : (sideZ mb i cv B P).size = 59 := by
  simp [sideZ, thL, hB, hP]
/-- a new side's cells, one by one -/
abbrev sideN (mb i : Nat) (cv : Value) : Array Value := #[.pointer (some ⟨mb, 0, none⟩), .int .i64 i, cv, .int .i64 0, .int .u32 0, .int .u32 0, .int .u32 0, .int .u32 0, .int .u32 0, .int .u32 0, .int .u32 0, .int .u32 0, .int .i64 0, .int .i64 0, .int .u32 0, .int .i64 0, .int .u32 0, .int .i64 0, .int .u32 0, .int .i64 0, .int .u32 0, .int .i64 0, .int .u32 0, .int .i64 0, .int .u32 0, .int .i64 0, .int .u32 0, .int .i64 0, .int .u32 0, .int .i64 0, .int .u32 0, .int .i64 0, .int .u32 0, .int .i64 0, .int .u32 0, .int .i64 0, .int .u32 0, .int .i64 0, .int .u32 0, .int .i64 0, .int .u32 0, .int .i64 0, .int .u32 0, .int .i64 0, .int .u32 0, .int .i64 0, .int .i64 0, .int .i64 0, .int .i64 0, .nilFunc, .nilFunc, .nilFunc, .nilFunc, .nilFunc, .nilFunc, .nilFunc, .nilFunc, .nilFunc, .nilFunc]
theorem sideN_is (mb i : Nat) (cv : Value) : sideN mb i cv = sideZ mb i cv Bf.zeroC.toList portZ.toList := by rfl
theorem zeroB_len : Bf.zeroC.toList.length = 35 := by rfl
theorem sideZ_A (mb i : Nat) (cv : Value) (B : Array Value) (N g : Nat) : sideZ mb i cv B.toList (Mp.portA N (fnsT g)).toList = sideA mb i cv th00 B N g := by rfl
theorem sideZ_0 (mb i : Nat) (cv : Value) (B P : List Value) : (sideZ mb i cv B P)[0]? = some (.pointer (some ⟨mb, 0, none⟩)) := by rfl
def NewSideP (w : World) (mb who : Nat) (N : Nat) (l : List Ins) (room : Int) (r : Ending) (w' : World) : Prop :=
  ∃ g cv, (r = .returned (.pointer (some ⟨g, 0, none⟩)) ∧ Has w' g (sideA mb who cv th00 (Bf.newC room) N g) 92) ∧ (InssO w' w.heap.size cv l ∧ w.heap.size ≤ g) ∧ Gr w w'
theorem portA_one (z : Int) (g : Nat) : (Mp.portA z (fnsT g)).all (·.oneCell') = true := by
  simp [Value.oneCell']

set_option maxHeartbeats 1000000 in
theorem newSide_calls (w : World) (mb who : Nat) (a : Option Addr) (N c : Nat) (x : Cd) (room : Int) (h1 : 1 ≤ room) (h2 : room ≤ 16) (c1 : w.cell? ⟨mb, 1, none⟩ = some (.slice a N c)) (hx : CdAt x w) (hl : x.l.length ≤ 4000) :
    Calls Tryz.prog 15 #[.pointer (some ⟨mb, 0, none⟩), .int .i64 who, .slice x.a x.l.length x.c, .int .i64 room] w (NewSideP w mb who N x.l room) := by
  have HC := hide (cloneI_calls x.a x.c x.l w hx.row hx.nil (by omega))
  have gg := Gr.refl w
  have hmb := World.block_lt_of_cell? w _ c1
  clear hx
  go_enter Tryz.func15, Tryz.ntmps15
  go_wp2_with (fail)
  refine HC.out.mono ?_
  rintro r u ⟨cv, rfl, ho, g2⟩
  have c2 := cell_later g2 c1
  obtain ⟨ad, cap, rfl, -, -, -, -⟩ := own_at ho
  have HN := hide (fun wx => Bf.new_yes room h1 h2 wx)
  clear c1 HC
  go_wp2_with (fail)
  have k0 := Has.new u (sideN mb who (.slice ad x.l.length cap)) 92
  have k1 := own_later ho ((Gr.refl u).alloc (sideN mb who (.slice ad x.l.length cap)) 92)
  have k2 := g2.alloc (sideN mb who (.slice ad x.l.length cap)) 92
  have k3 := cell_later ((Gr.refl u).alloc (sideN mb who (.slice ad x.l.length cap)) 92) c2
  have hsz := g2.size
  change Calls _ _ _ (u.alloc (.cells (sideN mb who (.slice ad x.l.length cap)) 92)) _
  generalize u.alloc (.cells (sideN mb who (.slice ad x.l.length cap)) 92) = u1 at k0 k1 k2 k3 ⊢
  generalize u.heap.size = g at k0 hsz ⊢
  generalize Value.agg (sideN mb who (.slice ad x.l.length cap)) = z14
  refine (HN.out u1).mono ?_
  rintro r u2 ⟨rfl, g3⟩
  have k0' := (k0.later g3).of (sideN_is mb who (.slice ad x.l.length cap))
  have k1' := own_later k1 g3
  have k3' := cell_later g3 k3
  have k2' := k2.trans g3
  have thr := k0'.there 13 35 (by rw [sideZ_size zeroB_len rfl]; omega)
  have thr' : u2.there g 13 (Bf.newC room).size := by rw [Bf.newC_size]; exact thr
  have inf' : (Tryz.prog.info? 83).map (·.size) = some (Bf.newC room).size := by rw [Bf.newC_size]; exact infoBf
  have one' := Bf.newC_one room
  have hnl : (Bf.newC room).toList.length = 35 := by rw [Array.length_toList, Bf.newC_size]
  generalize hNC0 : Bf.newC room = NC at thr' inf' one' hnl ⊢
  have hNC := hide hNC0
  clear hNC0
  clear k0 k1 k2 k3 ho c2 g2 g3 HN thr
  go_wp2_with (first
    | (refine wpList_store_mid rfl 83 _ _ rfl g 13 NC rfl rfl thr' inf' one' ?_))
  have e1 := Kq.setCells_has NC.toList 13 u2 _ k0'
  rw [sideZ_buf (by rw [zeroB_len, hnl])] at e1
  have q := Kq.kp_setCells (b := g) NC.toList 13 u2
  generalize u2.setCells g 13 NC.toList = u3 at e1 q ⊢
  have k4 := own_kept k1' q (fun y hy z => own_aside k1' k0' (by decide) (mem_ob.2 (by rw [hy, show y = g by simpa using z])))
  have k5 : u3.cell? ⟨mb, 1, none⟩ = some (.slice a N c) := (cell_same 1 (q.block mb (World.block_lt_of_cell? u2 _ k3') (by simp; omega))).trans k3'
  have k6 := Kp.gr k2' q (by simpa using hsz)
  have k7 : u3.cell? ⟨g, 0, none⟩ = some (.pointer (some ⟨mb, 0, none⟩)) := e1.cell (sideZ_0 _ _ _ _ _)
  clear k0' k1' k3' k2' q thr' inf' one'
  refine (newPort_calls u3 g mb a N c k7 k5).mono ?_
  rintro r u4 ⟨rfl, g4⟩
  have e2 := e1.later g4
  have k8 := own_later k4 g4
  have k9 := k6.trans g4
  have thr : u4.there g 48 (Mp.portA N (fnsT g)).size := e2.there 48 11 (by rw [sideZ_size hnl rfl]; omega)
  have inf : (Tryz.prog.info? 90).map (·.size) = some (Mp.portA N (fnsT g)).size := infoPt
  have one := portA_one N g
  have hpl : portZ.toList.length = (Mp.portA N (fnsT g)).toList.length := rfl
  generalize hPA0 : Mp.portA N (fnsT g) = PA at thr inf one hpl ⊢
  have hPA := hide hPA0
  clear hPA0 e1 k4 k5 k6 k7 g4
  go_wp2_with (first
    | (refine wpList_store_mid rfl 90 _ _ rfl g 48 PA rfl rfl thr inf one ?_))
  have e3 := Kq.setCells_has PA.toList 48 u4 _ e2
  have q2 := Kq.kp_setCells (b := g) PA.toList 48 u4
  have k10 := own_kept k8 q2 (fun y hy z => own_aside k8 e2 (by decide) (mem_ob.2 (by rw [hy, show y = g by simpa using z])))
  have k11 := Kp.gr k9 q2 (by simpa using hsz)
  generalize u4.setCells g 48 PA.toList = u5 at e3 k10 k11 ⊢
  rw [sideZ_port hnl hpl, ← hPA.out, ← hNC.out, sideZ_A] at e3
  have HF := hide e3
  clear e3 e2 k8 k9 q2 thr inf one
  go_ret
  exact ⟨g, _, ⟨rfl, HF.out⟩, ⟨k10, hsz⟩, k11⟩
theorem mach_set0 (a b : Value) (C : Array Value) (e a' : Value) : (Kq.machC a b C e).setIfInBounds 0 a' = Kq.machC a' b C e := by simp [Kq.machC]
theorem is_th00 : ThOk th00 := ⟨rfl, fun x hx => by
  have : x = 0 := by simpa [th00] using hx
  subst this
  exact ⟨Int.le_refl 0, by omega⟩⟩
theorem side_push (s : Ms) (d : Sd) (i : Nat) : (⟨s.sides ++ [d], s.mem, s.slp, s.evs, s.room⟩ : Ms).side i = if i = s.sides.length then d else s.side i := by
  unfold Ms.side
  simp only [List.getD_eq_getElem?_getD]
  split
  · rename_i e; subst e; simp
  · rename_i e
    by_cases h : i < s.sides.length
    · rw [List.getElem?_append_left h]
    · rw [List.getElem?_eq_none (by simp; omega), List.getElem?_eq_none (by omega)]
/-- a side more -/
theorem Mw.push {k : Mk} {s : Ms} {e : Value} {u u' : World} (h : Mw k s e u) {x : Sk} {l : List Ins} (hB : Has u x.g (sideA k.mb k.ss.length x.cv th00 (Bf.newC s.room) k.N x.g) 92) (hcode : InssO u 0 x.cv l) (hins : ∀ c ∈ l, InsOk c)
    (hgn : x.g ∉ k.ss.map Sk.g) (hp0 : 0 ≠ x.g ∧ 0 ∉ ob x.cv) (h8 : k.ss.length < 8) (h16 : s.room ≤ 16) {sv' : Value} (kg : Kp (ob k.sv) u u')
    (ho : u'.ownsRow 0 67 1 sv' (k.ss ++ [x]).length ((k.ss ++ [x]).map fun x => .pointer (some ⟨x.g, 0, none⟩))) (hp : 0 ∉ ob sv') :
    Mw ⟨k.mb, sv', k.bv, k.N, k.ss ++ [x]⟩ ⟨s.sides ++ [⟨l, th00, []⟩], s.mem, s.slp, s.evs, s.room⟩ e (u'.setCell ⟨k.mb, 0, none⟩ sv') := by
  have q := Kp.setCell u' k.mb 0 sv'
  obtain ⟨C, hC, iC⟩ := id h.q
  have n0 : 0 ∉ ob k.sv := fun z => h.pos (mem_foot.2 (.inr (.inl z)))
  have a1 : ∀ {t sz n v xs}, u.ownsRow 0 t sz v n xs → t ≠ 67 → ∀ g, v.ownBlock = some g → g ∉ ob k.sv := fun hr ht g hg z => own_apart hr h.row ht (mem_ob.2 hg) z
  have a2 : ∀ {g C t}, Has u g C t → t ≠ 67 → g ∉ ob k.sv := fun {g C t} hg ht z => own_aside h.row hg (fun y => ht y.symm) z
  have hC' := hC.kept kg (a2 hC (by decide))
  have b1 : ∀ {t sz n v xs}, u'.ownsRow 0 t sz v n xs → t ≠ 66 → ∀ g, v.ownBlock = some g → g ∉ [k.mb] := fun hr ht g hg z => own_aside hr hC' ht (mem_ob.2 (by rw [hg, show g = k.mb by simpa using z]))
  have b2 : ∀ {g D t}, Has u' g D t → t ≠ 66 → g ∉ [k.mb] := fun {g D t} hg ht z => hg.apart hC' ht (by simpa using z)
  have m0 : 0 ∉ [k.mb] := fun z => h.pos (mem_foot.2 (.inl (by simpa using z)))
  have r2 := own_kept h.mem kg (a1 h.mem (by decide))
  have r3 := own_kept h.evs kg (a1 h.evs (by decide))
  have hok := h.ok
  have hll := h.len
  refine ⟨Laid.kept (Laid.kept h.laid kg n0) q m0, ⟨C, (hC'.set 0 sv').of (mach_set0 _ _ _ _ _), iC⟩, own_kept ho q (b1 ho (by decide)), by simp [hll], fun i y hy => ?_, ?_, own_kept r2 q (b1 r2 (by decide)), own_kept r3 q (b1 r3 (by decide)), h.num, h.most, h.wrd, ?_, h.slp, fun y hy => ?_, fun z => ?_⟩
  · rw [side_push]
    by_cases hi : i < k.ss.length
    · rw [if_neg (by omega)]
      have hy' : k.ss[i]? = some y := by rw [← hy]; show _ = (k.ss ++ [x])[i]?; rw [List.getElem?_append_left hi]
      have hs := h.side i y hy'
      obtain ⟨B, hB', -⟩ := hs.hs
      have hs1 := Si.kept hs kg (a2 hB' (by decide)) (fun z hz => a1 hs.code (by decide) z (mem_ob.1 hz))
      obtain ⟨B2, hB2, -⟩ := hs1.hs
      have hs2 := Si.kept hs1 q (b2 hB2 (by decide)) (fun z hz => b1 hs1.code (by decide) z (mem_ob.1 hz))
      exact ⟨hs2.hs, hs2.code, hs2.th, hs2.ins, hs2.ent⟩
    · have hii : i = k.ss.length := by
        have := (List.getElem?_eq_some_iff.1 hy).1
        have : i < (k.ss ++ [x]).length := this
        rw [List.length_append] at this
        simp at this
        omega
      subst hii
      have hyx : x = y := by
        have : (k.ss ++ [x])[k.ss.length]? = some y := hy
        simpa using this
      subst hyx
      rw [if_pos hll]
      have c1 := hB.kept kg (a2 hB (by decide))
      have c2 := own_kept hcode kg (a1 hcode (by decide))
      exact ⟨⟨_, c1.kept q (b2 c1 (by decide)), Bf.is_newC s.room h16⟩, own_kept c2 q (b1 c2 (by decide)), is_th00, hins, fun c hc => by cases hc⟩
  · rw [List.map_append]
    refine List.nodup_append.2 ⟨h.nod, by simp, fun a ha b hb hab => ?_⟩
    rw [show b = x.g by simpa using hb] at hab
    exact hgn (hab ▸ ha)
  · unfold Ms.okB at hok ⊢
    simp only [Bool.and_eq_true, decide_eq_true_eq, List.all_eq_true] at hok ⊢
    refine ⟨by simp; omega, hok.2.1, fun d hd => ?_⟩
    rcases List.mem_append.1 hd with hd | hd
    · exact hok.2.2 d hd
    · rw [show d = ⟨l, th00, []⟩ by simpa using hd]; exact Nat.zero_le 16
  · have := h.few y hy
    show y.a < ((s.sides ++ [_]).length : Int)
    rw [List.length_append]
    simp
    omega
  · rcases mem_foot.1 z with y | y | y | y | ⟨w, hw, y⟩ | ⟨w, hw, y⟩
    · exact h.pos (mem_foot.2 (.inl y))
    · exact hp y
    · exact h.pos (mem_foot.2 (.inr (.inr (.inl y))))
    · exact h.pos (mem_foot.2 (.inr (.inr (.inr (.inl y)))))
    · rcases List.mem_append.1 hw with hw | hw
      · exact h.pos (mem_foot.2 (.inr (.inr (.inr (.inr (.inl ⟨w, hw, y⟩))))))
      · rw [show w = x by simpa using hw] at y
        exact hp0.1 y.symm
    · rcases List.mem_append.1 hw with hw | hw
      · exact h.pos (mem_foot.2 (.inr (.inr (.inr (.inr (.inr ⟨w, hw, y⟩))))))
      · rw [show w = x by simpa using hw] at y
        exact hp0.2 y
/-- a machine of no side -/
theorem Mw.start {w : World} (L : Laid w) {g : Nat} {bv : Value} {m : List Int} (hC : Has w g (Kq.machC (.slice none 0 0) bv Kn.zeroC (.slice none 0 0)) 66) (ho : WordsO w 0 bv m) (hm : m.length ≤ 1024) (hu : ∀ x ∈ m, U32 x) (room : Nat) (hr : room ≤ 16) (hp : 0 ≠ g ∧ 0 ∉ ob bv) :
    Mw ⟨g, .slice none 0 0, bv, m.length, []⟩ ⟨[], m, [], [], room⟩ (.slice none 0 0) w := by
  refine ⟨L, ⟨_, hC, Kn.is_zeroC⟩, own_nil _ _ _ _, rfl, fun i x hx => (by simp at hx), List.nodup_nil, ho, own_nil _ _ _ _, rfl, ?_, hu, ?_, ⟨List.nodup_nil, fun x hx => by cases hx⟩, fun x hx => (by cases hx), fun z => ?_⟩
  · show m.length ≤ 100000; omega
  · unfold Ms.okB
    simp [hr]
  · rcases mem_foot.1 z with y | y | y | y | ⟨w, hw, y⟩ | ⟨w, hw, y⟩
    · exact hp.1 y
    · simp [ob, Value.ownBlock] at y
    · exact hp.2 y
    · simp [ob, Value.ownBlock] at y
    · cases hw
    · cases hw
/-- the machine of a program that did nothing yet -/
def newM (p : Pgm) : Ms := ⟨p.codes.map fun x => ⟨x.l, th00, []⟩, p.mem, [], [], p.room.toNat⟩
def newJ (p : Pgm) (j : Nat) : Ms := ⟨(p.codes.take j).map fun x => ⟨x.l, th00, []⟩, p.mem, [], [], p.room.toNat⟩
theorem newJ_snoc {p : Pgm} {j : Nat} (h : j < p.codes.length) : newJ p (j + 1) = ⟨(newJ p j).sides ++ [⟨(p.codes.getD j cd0).l, th00, []⟩], (newJ p j).mem, (newJ p j).slp, (newJ p j).evs, (newJ p j).room⟩ := by
  have e : p.codes.take (j + 1) = p.codes.take j ++ [p.codes.getD j cd0] := by
    rw [List.take_add_one, List.getElem?_eq_getElem h, List.getD_eq_getElem?_getD, List.getElem?_eq_getElem h]
    rfl
  unfold newJ
  rw [e, List.map_append]
  rfl
end Go.Proofs.YtfhplbmgjgfihaaGreatDoor.Mc
