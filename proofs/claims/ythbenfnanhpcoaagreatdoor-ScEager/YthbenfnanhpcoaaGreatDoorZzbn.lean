/-
  A machine of no side yet; a machine and one side more. No condition but what each law names.
-/
import Derived.Test.YthbenfnanhpcoaaGreatDoorZzbl
import Derived.Test.YthbenfnanhpcoaaGreatDoorZzbmSNwp
namespace Go.Proofs.YthbenfnanhpcoaaGreatDoor.Mc
open Go.ChangeShapes Go.WideShapes Go.ChangeAt Go.RowKit
set_option linter.unusedVariables false
set_option maxRecDepth 20000

theorem mach_set0 (a b : Value) (C : Array Value) (e a' : Value) : (Kq.machC a b C e).setIfInBounds 0 a' = Kq.machC a' b C e := by simp [Kq.machC]
theorem is_th00 : ThOk th00 := ⟨rfl, fun x hx => by
  have : x = 0 := by simpa [th00] using hx
  subst this
  exact ⟨Int.le_refl 0, by omega⟩⟩
theorem side_push (s : Ms) (d : Sd) (i : Nat) : (⟨s.sides ++ [d], s.mem, s.slp, s.evs, s.room⟩ : Ms).side i = if i = s.sides.length then d else s.side i := by
  unfold Ms.side
  simp only [List.getD_eq_getElem?_getD]
  split
  · rename_i e; subst e; simp
  · rename_i e
    by_cases h : i < s.sides.length
    · rw [List.getElem?_append_left h]
    · rw [List.getElem?_eq_none (by simp; omega), List.getElem?_eq_none (by omega)]
/-- a side more -/
theorem Mw.push {k : Mk} {s : Ms} {e : Value} {u u' : World} (h : Mw k s e u) {x : Sk} {l : List Ins} (hB : Has u x.g (sideA k.mb k.ss.length x.cv th00 (Bf.newC s.room) k.N x.g) 105) (hcode : InssO u 0 x.cv l) (hins : ∀ c ∈ l, InsOk c)
    (hgn : x.g ∉ k.ss.map Sk.g) (hp0 : 0 ≠ x.g ∧ 0 ∉ ob x.cv) (h8 : k.ss.length < 8) (h16 : s.room ≤ 16) {sv' : Value} (kg : Kp (ob k.sv) u u')
    (ho : u'.ownsRow 0 89 1 sv' (k.ss ++ [x]).length ((k.ss ++ [x]).map fun x => .pointer (some ⟨x.g, 0, none⟩))) (hp : 0 ∉ ob sv') :
    Mw ⟨k.mb, sv', k.bv, k.N, k.ss ++ [x]⟩ ⟨s.sides ++ [⟨l, th00, []⟩], s.mem, s.slp, s.evs, s.room⟩ e (u'.setCell ⟨k.mb, 0, none⟩ sv') := by
  have q := Kp.setCell u' k.mb 0 sv'
  obtain ⟨C, hC, iC⟩ := id h.q
  have n0 : 0 ∉ ob k.sv := fun z => h.pos (mem_foot.2 (.inr (.inl z)))
  have a1 : ∀ {t sz n v xs}, u.ownsRow 0 t sz v n xs → t ≠ 89 → ∀ g, v.ownBlock = some g → g ∉ ob k.sv := fun hr ht g hg z => own_apart hr h.row ht (mem_ob.2 hg) z
  have a2 : ∀ {g C t}, Has u g C t → t ≠ 89 → g ∉ ob k.sv := fun {g C t} hg ht z => own_aside h.row hg (fun y => ht y.symm) z
  have hC' := hC.kept kg (a2 hC (by decide))
  have b1 : ∀ {t sz n v xs}, u'.ownsRow 0 t sz v n xs → t ≠ 88 → ∀ g, v.ownBlock = some g → g ∉ [k.mb] := fun hr ht g hg z => own_aside hr hC' ht (mem_ob.2 (by rw [hg, show g = k.mb by simpa using z]))
  have b2 : ∀ {g D t}, Has u' g D t → t ≠ 88 → g ∉ [k.mb] := fun {g D t} hg ht z => hg.apart hC' ht (by simpa using z)
  have m0 : 0 ∉ [k.mb] := fun z => h.pos (mem_foot.2 (.inl (by simpa using z)))
  have r2 := own_kept h.mem kg (a1 h.mem (by decide))
  have r3 := own_kept h.evs kg (a1 h.evs (by decide))
  have hok := h.ok
  have hll := h.len
  refine ⟨Laid.kept (Laid.kept h.laid kg n0) q m0, ⟨C, (hC'.set 0 sv').of (mach_set0 _ _ _ _ _), iC⟩, own_kept ho q (b1 ho (by decide)), by simp [hll], fun i y hy => ?_, ?_, own_kept r2 q (b1 r2 (by decide)), own_kept r3 q (b1 r3 (by decide)), h.num, h.most, h.wrd, ?_, h.slp, fun y hy => ?_, fun z => ?_⟩
  · rw [side_push]
    by_cases hi : i < k.ss.length
    · rw [if_neg (by omega)]
      have hy' : k.ss[i]? = some y := by rw [← hy]; show _ = (k.ss ++ [x])[i]?; rw [List.getElem?_append_left hi]
      have hs := h.side i y hy'
      obtain ⟨B, hB', -⟩ := hs.hs
      have hs1 := Si.kept hs kg (a2 hB' (by decide)) (fun z hz => a1 hs.code (by decide) z (mem_ob.1 hz))
      obtain ⟨B2, hB2, -⟩ := hs1.hs
      have hs2 := Si.kept hs1 q (b2 hB2 (by decide)) (fun z hz => b1 hs1.code (by decide) z (mem_ob.1 hz))
      exact ⟨hs2.hs, hs2.code, hs2.th, hs2.ins, hs2.ent⟩
    · have hii : i = k.ss.length := by
        have := (List.getElem?_eq_some_iff.1 hy).1
        have : i < (k.ss ++ [x]).length := this
        rw [List.length_append] at this
        simp at this
        omega
      subst hii
      have hyx : x = y := by
        have : (k.ss ++ [x])[k.ss.length]? = some y := hy
        simpa using this
      subst hyx
      rw [if_pos hll]
      have c1 := hB.kept kg (a2 hB (by decide))
      have c2 := own_kept hcode kg (a1 hcode (by decide))
      exact ⟨⟨_, c1.kept q (b2 c1 (by decide)), Bf.is_newC s.room h16⟩, own_kept c2 q (b1 c2 (by decide)), is_th00, hins, fun c hc => by cases hc⟩
  · rw [List.map_append]
    refine List.nodup_append.2 ⟨h.nod, by simp, fun a ha b hb hab => ?_⟩
    rw [show b = x.g by simpa using hb] at hab
    exact hgn (hab ▸ ha)
  · unfold Ms.okB at hok ⊢
    simp only [Bool.and_eq_true, decide_eq_true_eq, List.all_eq_true] at hok ⊢
    refine ⟨by simp; omega, hok.2.1, fun d hd => ?_⟩
    rcases List.mem_append.1 hd with hd | hd
    · exact hok.2.2 d hd
    · rw [show d = ⟨l, th00, []⟩ by simpa using hd]; exact Nat.zero_le 16
  · have := h.few y hy
    show y.a < ((s.sides ++ [_]).length : Int)
    rw [List.length_append]
    simp
    omega
  · rcases mem_foot.1 z with y | y | y | y | ⟨w, hw, y⟩ | ⟨w, hw, y⟩
    · exact h.pos (mem_foot.2 (.inl y))
    · exact hp y
    · exact h.pos (mem_foot.2 (.inr (.inr (.inl y))))
    · exact h.pos (mem_foot.2 (.inr (.inr (.inr (.inl y)))))
    · rcases List.mem_append.1 hw with hw | hw
      · exact h.pos (mem_foot.2 (.inr (.inr (.inr (.inr (.inl ⟨w, hw, y⟩))))))
      · rw [show w = x by simpa using hw] at y
        exact hp0.1 y.symm
    · rcases List.mem_append.1 hw with hw | hw
      · exact h.pos (mem_foot.2 (.inr (.inr (.inr (.inr (.inr ⟨w, hw, y⟩))))))
      · rw [show w = x by simpa using hw] at y
        exact hp0.2 y
/-- a machine of no side -/
theorem Mw.start {w : World} (L : Laid w) {g : Nat} {bv : Value} {m : List Int} (hC : Has w g (Kq.machC (.slice none 0 0) bv Kn.zeroC (.slice none 0 0)) 88) (ho : WordsO w 0 bv m) (hm : m.length ≤ 1024) (hu : ∀ x ∈ m, U32 x) (room : Nat) (hr : room ≤ 16) (hp : 0 ≠ g ∧ 0 ∉ ob bv) :
    Mw ⟨g, .slice none 0 0, bv, m.length, []⟩ ⟨[], m, [], [], room⟩ (.slice none 0 0) w := by
  refine ⟨L, ⟨_, hC, Kn.is_zeroC⟩, own_nil _ _ _ _, rfl, fun i x hx => (by simp at hx), List.nodup_nil, ho, own_nil _ _ _ _, rfl, ?_, hu, ?_, ⟨List.nodup_nil, fun x hx => by cases hx⟩, fun x hx => (by cases hx), fun z => ?_⟩
  · show m.length ≤ 100000; omega
  · unfold Ms.okB
    simp [hr]
  · rcases mem_foot.1 z with y | y | y | y | ⟨w, hw, y⟩ | ⟨w, hw, y⟩
    · exact hp.1 y
    · simp [ob, Value.ownBlock] at y
    · exact hp.2 y
    · simp [ob, Value.ownBlock] at y
    · cases hw
    · cases hw
/-- the machine of a program that did nothing yet -/
def newM (p : Pgm) : Ms := ⟨p.codes.map fun x => ⟨x.l, th00, []⟩, p.mem, [], [], p.room.toNat⟩
def newJ (p : Pgm) (j : Nat) : Ms := ⟨(p.codes.take j).map fun x => ⟨x.l, th00, []⟩, p.mem, [], [], p.room.toNat⟩
theorem newJ_snoc {p : Pgm} {j : Nat} (h : j < p.codes.length) : newJ p (j + 1) = ⟨(newJ p j).sides ++ [⟨(p.codes.getD j cd0).l, th00, []⟩], (newJ p j).mem, (newJ p j).slp, (newJ p j).evs, (newJ p j).room⟩ := by
  have e : p.codes.take (j + 1) = p.codes.take j ++ [p.codes.getD j cd0] := by
    rw [List.take_add_one, List.getElem?_eq_getElem h, List.getD_eq_getElem?_getD, List.getElem?_eq_getElem h]
    rfl
  unfold newJ
  rw [e, List.map_append]
  rfl
end Go.Proofs.YthbenfnanhpcoaaGreatDoor.Mc

namespace Go.Proofs.YthbenfnanhpcoaaGreatDoor.Sc
open Go.Proofs.YthbenfnanhpcoaaGreatDoor.Mc Go.ChangeShapes Go.WideShapes Go.ChangeAt Go.RowKit
set_option linter.unusedVariables false
set_option maxRecDepth 20000

/-- a side more -/
theorem Mw.push {k : Mk} {s : Ms} {e : Value} {u u' : World} (h : Mw k s e u) {x : Sk} {l : List Ins} (hB : Has u x.g (sideA k.mb k.ss.length x.cv th00 #[] k.N x.g) 117) (hcode : InssO u 0 x.cv l) (hins : ∀ c ∈ l, InsOk c)
    (hgn : x.g ∉ k.ss.map Sk.g) (hp0 : 0 ≠ x.g ∧ 0 ∉ ob x.cv) (h8 : k.ss.length < 8) (h16 : s.room ≤ 16) {sv' : Value} (kg : Kp (ob k.sv) u u')
    (ho : u'.ownsRow 0 114 1 sv' (k.ss ++ [x]).length ((k.ss ++ [x]).map fun x => .pointer (some ⟨x.g, 0, none⟩))) (hp : 0 ∉ ob sv') :
    Mw ⟨k.mb, sv', k.bv, k.N, k.ss ++ [x]⟩ ⟨s.sides ++ [⟨l, th00, []⟩], s.mem, s.slp, s.evs, s.room⟩ e (u'.setCell ⟨k.mb, 0, none⟩ sv') := by
  have q := Kp.setCell u' k.mb 0 sv'
  obtain ⟨C, hC, iC⟩ := id h.q
  have n0 : 0 ∉ ob k.sv := fun z => h.pos (mem_foot.2 (.inr (.inl z)))
  have a1 : ∀ {t sz n v xs}, u.ownsRow 0 t sz v n xs → t ≠ 114 → ∀ g, v.ownBlock = some g → g ∉ ob k.sv := fun hr ht g hg z => own_apart hr h.row ht (mem_ob.2 hg) z
  have a2 : ∀ {g C t}, Has u g C t → t ≠ 114 → g ∉ ob k.sv := fun {g C t} hg ht z => own_aside h.row hg (fun y => ht y.symm) z
  have hC' := hC.kept kg (a2 hC (by decide))
  have b1 : ∀ {t sz n v xs}, u'.ownsRow 0 t sz v n xs → t ≠ 113 → ∀ g, v.ownBlock = some g → g ∉ [k.mb] := fun hr ht g hg z => own_aside hr hC' ht (mem_ob.2 (by rw [hg, show g = k.mb by simpa using z]))
  have b2 : ∀ {g D t}, Has u' g D t → t ≠ 113 → g ∉ [k.mb] := fun {g D t} hg ht z => hg.apart hC' ht (by simpa using z)
  have m0 : 0 ∉ [k.mb] := fun z => h.pos (mem_foot.2 (.inl (by simpa using z)))
  have r2 := own_kept h.mem kg (a1 h.mem (by decide))
  have r3 := own_kept h.evs kg (a1 h.evs (by decide))
  have hok := h.ok
  have hll := h.len
  refine ⟨Laid.kept (Laid.kept h.laid kg n0) q m0, ⟨C, (hC'.set 0 sv').of (mach_set0 _ _ _ _ _), iC⟩, own_kept ho q (b1 ho (by decide)), by simp [hll], fun i y hy => ?_, ?_, own_kept r2 q (b1 r2 (by decide)), own_kept r3 q (b1 r3 (by decide)), h.num, h.most, h.wrd, ?_, h.slp, fun y hy => ?_, fun z => ?_⟩
  · rw [side_push]
    by_cases hi : i < k.ss.length
    · rw [if_neg (by omega)]
      have hy' : k.ss[i]? = some y := by rw [← hy]; show _ = (k.ss ++ [x])[i]?; rw [List.getElem?_append_left hi]
      have hs := h.side i y hy'
      obtain ⟨B, hB', -⟩ := hs.hs
      have hs1 := Si.kept hs kg (a2 hB' (by decide)) (fun z hz => a1 hs.code (by decide) z (mem_ob.1 hz))
      obtain ⟨B2, hB2, -⟩ := hs1.hs
      have hs2 := Si.kept hs1 q (b2 hB2 (by decide)) (fun z hz => b1 hs1.code (by decide) z (mem_ob.1 hz))
      exact ⟨hs2.hs, hs2.code, hs2.th, hs2.ins, hs2.ent⟩
    · have hii : i = k.ss.length := by
        have := (List.getElem?_eq_some_iff.1 hy).1
        have : i < (k.ss ++ [x]).length := this
        rw [List.length_append] at this
        simp at this
        omega
      subst hii
      have hyx : x = y := by
        have : (k.ss ++ [x])[k.ss.length]? = some y := hy
        simpa using this
      subst hyx
      rw [if_pos hll]
      have c1 := hB.kept kg (a2 hB (by decide))
      have c2 := own_kept hcode kg (a1 hcode (by decide))
      exact ⟨⟨_, c1.kept q (b2 c1 (by decide)), rfl⟩, own_kept c2 q (b1 c2 (by decide)), is_th00, hins, fun c hc => by cases hc⟩
  · rw [List.map_append]
    refine List.nodup_append.2 ⟨h.nod, by simp, fun a ha b hb hab => ?_⟩
    rw [show b = x.g by simpa using hb] at hab
    exact hgn (hab ▸ ha)
  · unfold Ms.okB at hok ⊢
    simp only [Bool.and_eq_true, decide_eq_true_eq, List.all_eq_true] at hok ⊢
    refine ⟨by simp; omega, hok.2.1, fun d hd => ?_⟩
    rcases List.mem_append.1 hd with hd | hd
    · exact hok.2.2 d hd
    · rw [show d = ⟨l, th00, []⟩ by simpa using hd]; exact Nat.zero_le 16
  · have := h.few y hy
    show y.a < ((s.sides ++ [_]).length : Int)
    rw [List.length_append]
    simp
    omega
  · rcases mem_foot.1 z with y | y | y | y | ⟨w, hw, y⟩ | ⟨w, hw, y⟩
    · exact h.pos (mem_foot.2 (.inl y))
    · exact hp y
    · exact h.pos (mem_foot.2 (.inr (.inr (.inl y))))
    · exact h.pos (mem_foot.2 (.inr (.inr (.inr (.inl y)))))
    · rcases List.mem_append.1 hw with hw | hw
      · exact h.pos (mem_foot.2 (.inr (.inr (.inr (.inr (.inl ⟨w, hw, y⟩))))))
      · rw [show w = x by simpa using hw] at y
        exact hp0.1 y.symm
    · rcases List.mem_append.1 hw with hw | hw
      · exact h.pos (mem_foot.2 (.inr (.inr (.inr (.inr (.inr ⟨w, hw, y⟩))))))
      · rw [show w = x by simpa using hw] at y
        exact hp0.2 y
/-- a machine of no side -/
theorem Mw.start {w : World} (L : Laid w) {g : Nat} {bv : Value} {m : List Int} (hC : Has w g (Kq.machC (.slice none 0 0) bv Kn.zeroC (.slice none 0 0)) 113) (ho : WordsO w 0 bv m) (hm : m.length ≤ 1024) (hu : ∀ x ∈ m, U32 x) (room : Nat) (hr : room ≤ 16) (hp : 0 ≠ g ∧ 0 ∉ ob bv) :
    Mw ⟨g, .slice none 0 0, bv, m.length, []⟩ ⟨[], m, [], [], room⟩ (.slice none 0 0) w := by
  refine ⟨L, ⟨_, hC, Kn.is_zeroC⟩, own_nil _ _ _ _, rfl, fun i x hx => (by simp at hx), List.nodup_nil, ho, own_nil _ _ _ _, rfl, ?_, hu, ?_, ⟨List.nodup_nil, fun x hx => by cases hx⟩, fun x hx => (by cases hx), fun z => ?_⟩
  · show m.length ≤ 100000; omega
  · unfold Ms.okB
    simp [hr]
  · rcases mem_foot.1 z with y | y | y | y | ⟨w, hw, y⟩ | ⟨w, hw, y⟩
    · exact hp.1 y
    · simp [ob, Value.ownBlock] at y
    · exact hp.2 y
    · simp [ob, Value.ownBlock] at y
    · cases hw
    · cases hw
end Go.Proofs.YthbenfnanhpcoaaGreatDoor.Sc
