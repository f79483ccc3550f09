/-
  What Wake and Rouse do to a queue in memory. No condition but that it is one.
-/
import Derived.Test.YthbenfnanhpcoaaGreatDoorZzal
import Derived.Test.YthbenfnanhpcoaaGreatDoorZzbd
import Derived.Test.YthbenfnanhpcoaaGreatDoorZzas
namespace Go.Proofs.YthbenfnanhpcoaaGreatDoor.Ks
open Go.Proofs.YthbenfnanhpcoaaGreatDoor.Kq Go.ChangeShapes Go.WideShapes Go.ChangeAt Go.RowKit
open Go.Proofs.YthbenfnanhpcoaaGreatDoor.Kn
set_option linter.unusedVariables false
set_option maxRecDepth 20000

set_option maxHeartbeats 1000000 in
theorem wake_calls {g : Nat} {a b e : Value} {l : List Ent} {w : World} (h : Q w g a b e l) (addr : Int) (n : Nat) (hn : n < 4294967296) :
    Calls Tryz.prog 114 #[.pointer (some ⟨g, 2, none⟩), .int .i64 addr, .int .u32 (n : Int)] w fun r w' => ∃ v, (r = .returned v ∧ Kp [g] w w') ∧ Nown w' w.heap.size v (siftS (stW addr) (nxW addr) n l).out ∧ Q w' g a b e (siftS (stW addr) (nxW addr) n l).left := by
  have HK := hide h
  have hgs := h.lt
  have g2 := ((Gr.refl w).alloc #[.int .i64 addr] 3).alloc #[.int .u32 (n : Int)] 39
  have bA := (Has.new w #[.int .i64 addr] 3).alloc #[.int .u32 (n : Int)] 39
  have bN := Has.new (w.alloc (.cells #[.int .i64 addr] 3)) #[.int .u32 (n : Int)] 39
  rw [show (w.alloc (.cells #[.int .i64 addr] 3)).heap.size = w.heap.size + 1 by simp] at bN
  clear h
  go_enter Tryz.func114, Tryz.ntmps114
  go_wp2_with (fail)
  generalize (w.alloc (.cells #[.int .i64 addr] 3)).alloc (.cells #[.int .u32 (n : Int)] 39) = w2 at g2 bA bN ⊢
  refine (sift_calls (HK.out.later g2) 141 #[.pointer (some ⟨w.heap.size, 0, none⟩), .pointer (some ⟨w.heap.size + 1, 0, none⟩)] (stW addr) (nxW addr) (InvW w.heap.size (w.heap.size + 1) addr) (w.heap.size + 1) n run19 (clo19 _ _ _)
    (fun n u u' hu hb => ?_) ⟨bA, bN, hn⟩ bN.lt (by omega)).mono ?_
  · have lA := bA.lt
    have lN := bN.lt
    exact ⟨(hb.block _ lA).trans hu.1, (hb.block _ lN).trans hu.2.1, hu.2.2⟩
  rintro r w3 ⟨v, ⟨rfl, k3⟩, o3, q3⟩
  go_wp2_with (fail)
  go_ret
  refine ⟨v, ⟨rfl, (g2.kp []).trans k3 (by simp) ?_⟩, o3.lower g2.size, q3⟩
  intro x hx
  simp only [List.mem_cons, List.not_mem_nil, or_false] at hx
  rcases hx with rfl | rfl
  · exact .inr (by omega)
  · exact .inl (by simp)

set_option maxHeartbeats 1000000 in
theorem rouse_calls {g : Nat} {a b e : Value} {l : List Ent} {w : World} (h : Q w g a b e l) (who : Int) :
    Calls Tryz.prog 65 #[.pointer (some ⟨g, 2, none⟩), .int .i64 who] w fun r w' => (r = .returned (.bool (decide (idx who l < l.length))) ∧ Kp [g] w w') ∧ Q w' g a b e (rouseL who l) := by
  have HK := hide h
  have hgs := h.lt
  have g2 := (Gr.refl w).alloc #[.int .i64 who] 3
  have bA := Has.new w #[.int .i64 who] 3
  clear h
  go_enter Tryz.func65, Tryz.ntmps65
  go_wp2_with (fail)
  generalize w.alloc (.cells #[.int .i64 who] 3) = w2 at g2 bA ⊢
  refine (sift_calls (HK.out.later g2) 98 #[.pointer (some ⟨w.heap.size, 0, none⟩)] (stR who) nxR (InvR w.heap.size who) w.heap.size 0 run20 (clo20 _ _)
    (fun n u u' hu hb => ?_) bA bA.lt (by omega)).mono ?_
  · have lA := bA.lt
    exact (hb.block _ lA).trans hu
  rintro r w3 ⟨v, ⟨rfl, k3⟩, o3, q3⟩
  have HR := hide (rouse_out who l)
  rw [rouse_left] at q3
  obtain ⟨a, c, rfl, -, -, -⟩ := o3.at
  generalize (siftS (stR who) nxR 0 l).out.length = m at HR
  go_wp2_with (fail)
  go_ret
  refine ⟨⟨by rw [← HR.out]; rfl, (g2.kp []).trans k3 (by simp) ?_⟩, q3⟩
  intro x hx
  simp only [List.mem_cons, List.not_mem_nil, or_false] at hx
  rcases hx with rfl | rfl
  · exact .inr (by omega)
  · exact .inl (by simp)
end Go.Proofs.YthbenfnanhpcoaaGreatDoor.Ks

namespace Go.Proofs.YthbenfnanhpcoaaGreatDoor.Sc
open Go.Proofs.YthbenfnanhpcoaaGreatDoor.Mc Go.ChangeShapes Go.WideShapes Go.ChangeAt Go.RowKit
set_option linter.unusedVariables false
set_option maxRecDepth 20000

def fnsT (mb g : Nat) : Sp.Fns := ⟨99, #[.pointer (some ⟨mb, 0, none⟩)], 100, #[], 101, #[.pointer (some ⟨mb, 0, none⟩)], 100, #[], 102, #[], 103, #[.pointer (some ⟨mb, 0, none⟩)], 104, #[.pointer (some ⟨g, 0, none⟩)], 105, #[.pointer (some ⟨mb, 0, none⟩)], 102, #[], 68, #[.pointer (some ⟨g, 0, none⟩)]⟩
/-- a side's cells -/
def sideL (mb i : Nat) (cv : Value) (t : Th) (B : Array Value) (z : Int) (g : Nat) : List Value := [.pointer (some ⟨mb, 0, none⟩), .int .i64 i, cv] ++ (thL t ++ (Sp.portA z (fnsT mb g)).toList)
def sideA (mb i : Nat) (cv : Value) (t : Th) (B : Array Value) (z : Int) (g : Nat) : Array Value := (sideL mb i cv t B z g).toArray

/-- a side lies in the world -/
structure Si (k : Mk) (room : Nat) (i : Nat) (x : Sk) (d : Sd) (w : World) : Prop where
  hs : ∃ B : Array Value, Has w x.g (sideA k.mb i x.cv d.t B k.N x.g) 117 ∧ d.buf = []
  code : InssO w 0 x.cv d.code
  th : ThOk d.t
  ins : ∀ c ∈ d.code, InsOk c
  ent : ∀ c ∈ d.buf, (0 ≤ c.a ∧ c.a < k.N) ∧ U32 c.v
/-- the machine lies in the world -/
structure Mw (k : Mk) (s : Ms) (e : Value) (w : World) : Prop where
  laid : Laid w
  q : Ks.Q w k.mb k.sv k.bv e s.slp
  row : w.ownsRow 0 114 1 k.sv k.ss.length (k.ss.map fun x => .pointer (some ⟨x.g, 0, none⟩))
  len : k.ss.length = s.sides.length
  side : ∀ i x, k.ss[i]? = some x → Si k s.room i x (s.side i) w
  nod : (k.ss.map Sk.g).Nodup
  mem : WordsO w 0 k.bv s.mem
  evs : EvsO w 0 e s.evs
  num : s.mem.length = k.N
  most : k.N ≤ 100000
  wrd : ∀ x ∈ s.mem, U32 x
  ok : s.okB = true
  slp : Kn.Ok s.slp
  few : ∀ x ∈ s.slp, x.a < s.sides.length
  pos : 0 ∉ k.foot e

theorem Si.kept {k : Mk} {room i : Nat} {x : Sk} {d : Sd} {w w' : World} {G : List Nat} (h : Si k room i x d w) (q : Kp G w w') (hg : x.g ∉ G) (hc : ∀ y ∈ ob x.cv, y ∉ G) : Si k room i x d w' := by
  obtain ⟨B, hB, iB⟩ := h.hs
  exact ⟨⟨B, hB.kept q hg, iB⟩, own_kept h.code q fun y e => hc y (mem_ob.2 e), h.th, h.ins, h.ent⟩
theorem Mw.kept {k : Mk} {s : Ms} {e : Value} {w w' : World} {G : List Nat} (h : Mw k s e w) (q : Kp G w w') (hG : ∀ x ∈ G, x ∉ k.foot e ∧ x ≠ 0) : Mw k s e w' := by
  have n : ∀ {x}, x ∈ k.foot e → x ∉ G := fun hx hg => (hG _ hg).1 hx
  exact ⟨Laid.kept h.laid q (fun hg => (hG 0 hg).2 rfl), h.q.kept q (n (mem_foot.2 (.inl rfl))), own_kept h.row q fun g y => n (mem_foot.2 (.inr (.inl (mem_ob.2 y)))), h.len,
    fun i x hx => (h.side i x hx).kept q (n (mem_foot.2 (.inr (.inr (.inr (.inr (.inl ⟨x, mem_get hx, rfl⟩))))))) (fun y hy => n (mem_foot.2 (.inr (.inr (.inr (.inr (.inr ⟨x, mem_get hx, hy⟩))))))), h.nod,
    own_kept h.mem q fun g y => n (mem_foot.2 (.inr (.inr (.inl (mem_ob.2 y))))), own_kept h.evs q fun g y => n (mem_foot.2 (.inr (.inr (.inr (.inl (mem_ob.2 y)))))), h.num, h.most, h.wrd, h.ok, h.slp, h.few, h.pos⟩
theorem Mw.later {k : Mk} {s : Ms} {e : Value} {w w' : World} (h : Mw k s e w) (g : Gr w w') : Mw k s e w' := h.kept (g.kp []) (by simp)
theorem Mw.bnd {k : Mk} {s : Ms} {e : Value} {w : World} (h : Mw k s e w) : ∀ x ∈ k.foot e, x < w.heap.size := by
  intro x hx
  rcases mem_foot.1 hx with rfl | y | y | y | ⟨y, hy, rfl⟩ | ⟨y, hy, hc⟩
  · exact h.q.lt
  · exact own_lt h.row y
  · exact own_lt h.mem y
  · exact own_lt h.evs y
  · obtain ⟨i, hi⟩ := get_of_mem hy
    obtain ⟨B, hB, -⟩ := (h.side i y hi).hs
    exact hB.lt
  · obtain ⟨i, hi⟩ := get_of_mem hy
    exact own_lt (h.side i y hi).code hc
/-- the machine, whose blocks are these -/
def MI (k : Mk) (F : List Nat) (s : Ms) (w : World) : Prop := ∃ e, Mw k s e w ∧ F = k.foot e
theorem mi_inv (k : Mk) : Inv (MI k) where
  stab := by
    rintro F s w w' G ⟨e, h, rfl⟩ q hG
    exact ⟨e, h.kept q hG, rfl⟩
  bnd := by
    rintro F s w ⟨e, h, rfl⟩ x hx
    exact h.bnd x hx
  laid := by
    rintro F s w ⟨e, h, rfl⟩
    exact h.laid
/-- behind a call: the machine as it is then -/
theorem mi_post {k : Mk} {s s' : Ms} {e e' : Value} {w w' : World} (h : Mw k s e w) (h' : Mw k s' e' w') (q : Kp (k.foot e) w w') (he : ∀ x ∈ ob e', x ∈ k.foot e ∨ w.heap.size ≤ x) : Pst (MI k) (k.foot e) w [] s' w' := by
  refine ⟨k.foot e', ⟨e', h', rfl⟩, q, fun x hx => ⟨?_, by simp⟩, by simp, h.laid.lt⟩
  rcases mem_foot.1 hx with y | y | y | y | y | y
  · exact .inl (mem_foot.2 (.inl y))
  · exact .inl (mem_foot.2 (.inr (.inl y)))
  · exact .inl (mem_foot.2 (.inr (.inr (.inl y))))
  · exact he x y
  · exact .inl (mem_foot.2 (.inr (.inr (.inr (.inr (.inl y))))))
  · exact .inl (mem_foot.2 (.inr (.inr (.inr (.inr (.inr y))))))
/-- a call that leaves the machine as it is -/
theorem mi_same {k : Mk} {s : Ms} {e : Value} {w w' : World} (h : Mw k s e w) (g : Gr w w') : Pst (MI k) (k.foot e) w [] s w' := mi_post h (h.later g) (g.kp _) foot_evs
end Go.Proofs.YthbenfnanhpcoaaGreatDoor.Sc

namespace Go.Proofs.YthbenfnanhpcoaaGreatDoor.Sc
open Go.Proofs.YthbenfnanhpcoaaGreatDoor.Mc Go.ChangeShapes Go.WideShapes Go.ChangeAt Go.RowKit
set_option linter.unusedVariables false
set_option maxRecDepth 20000

section
variable {mb i : Nat} {cv : Value} {t : Th} {B : Array Value} {z : Int} {g : Nat}
theorem side_0 : (sideA mb i cv t B z g)[0]? = some (.pointer (some ⟨mb, 0, none⟩)) := by simp [sideA, sideL]
theorem side_1 : (sideA mb i cv t B z g)[1]? = some (.int .i64 i) := by simp [sideA, sideL]
theorem side_2 : (sideA mb i cv t B z g)[2]? = some cv := by simp [sideA, sideL]
theorem side_th (h : ThOk t) {j : Nat} (hj : j < 10) : (sideA mb i cv t B z g)[3 + j]? = (thL t)[j]? := by
  simp only [sideA, sideL, List.getElem?_toArray]
  rw [List.getElem?_append_right (by simp), List.getElem?_append_left (by rw [thL_len h]; simp; omega)]
  simp
theorem side_port (h : ThOk t) {j : Nat} (hj : j < 11) : (sideA mb i cv t B z g)[13 + j]? = (Sp.portA z (fnsT mb g))[j]? := by
  simp only [sideA, sideL, List.getElem?_toArray]
  rw [List.getElem?_append_right (by simp; omega), List.getElem?_append_right (by rw [thL_len h]; simp; omega), thL_len h]
  simp
  rw [show 13 + j - 3 - 10 = j from by omega]
theorem side_size (h : ThOk t) : (sideA mb i cv t B z g).size = 24 := by
  simp [sideA, sideL, thL_len h]
theorem side_setT (h : ThOk t) {t' : Th} (h' : ThOk t') : Kq.setA (sideA mb i cv t B z g) 3 (thL t') = sideA mb i cv t' B z g := by
  have e := Kq.setA_seg (thL t') [.pointer (some ⟨mb, 0, none⟩), .int .i64 i, cv] (thL t) (Sp.portA z (fnsT mb g)).toList (by rw [thL_len h, thL_len h'])
  simpa [sideA, sideL] using e
end

/-- a side's parts in the world -/
structure Sr (k : Mk) (x : Sk) (i : Nat) (d : Sd) (B : Array Value) (w : World) : Prop where
  has : Has w x.g (sideA k.mb i x.cv d.t B k.N x.g) 117
  th : ThOk d.t
theorem Sr.c0 {k : Mk} {x : Sk} {i : Nat} {d : Sd} {B : Array Value} {w : World} (h : Sr k x i d B w) : w.cell? ⟨x.g, 0, none⟩ = some (.pointer (some ⟨k.mb, 0, none⟩)) := h.has.cell side_0
theorem Sr.c1 {k : Mk} {x : Sk} {i : Nat} {d : Sd} {B : Array Value} {w : World} (h : Sr k x i d B w) : w.cell? ⟨x.g, 1, none⟩ = some (.int .i64 i) := h.has.cell side_1
theorem Sr.c2 {k : Mk} {x : Sk} {i : Nat} {d : Sd} {B : Array Value} {w : World} (h : Sr k x i d B w) : w.cell? ⟨x.g, 2, none⟩ = some x.cv := h.has.cell side_2
theorem Sr.rT {k : Mk} {x : Sk} {i : Nat} {d : Sd} {B : Array Value} {w : World} (h : Sr k x i d B w) : w.rangeAt x.g 3 (thL d.t) := fun j v hv =>
  h.has.cell (by rw [side_th h.th (by have := (List.getElem?_eq_some_iff.1 hv).1; rw [thL_len h.th] at this; exact this)]; exact hv)
theorem Sr.rP {k : Mk} {x : Sk} {i : Nat} {d : Sd} {B : Array Value} {w : World} (h : Sr k x i d B w) : w.rangeAt x.g 13 (Sp.portA k.N (fnsT k.mb x.g)).toList := fun j v hv =>
  h.has.cell (by rw [side_port h.th (by have := (List.getElem?_eq_some_iff.1 hv).1; simpa using this)]; simpa using hv)
theorem Sr.later {k : Mk} {x : Sk} {i : Nat} {d : Sd} {B : Array Value} {w w' : World} (h : Sr k x i d B w) (g : Gr w w') : Sr k x i d B w' := ⟨h.has.later g, h.th⟩
theorem Mw.sr {k : Mk} {s : Ms} {e : Value} {w : World} (h : Mw k s e w) {i : Nat} {x : Sk} (hx : k.ss[i]? = some x) : ∃ B, Sr k x i (s.side i) B w ∧ (s.side i).buf = [] := by
  obtain ⟨B, hB, iB⟩ := (h.side i x hx).hs
  exact ⟨B, ⟨hB, (h.side i x hx).th⟩, iB⟩
end Go.Proofs.YthbenfnanhpcoaaGreatDoor.Sc

namespace Go.Proofs.YthbenfnanhpcoaaGreatDoor.Sc
open Go.Proofs.YthbenfnanhpcoaaGreatDoor.Mc Go.ChangeShapes Go.WideShapes Go.ChangeAt Go.RowKit
set_option linter.unusedVariables false
set_option maxRecDepth 20000

/-- where a word of memory lies -/
theorem Mw.memAt {k : Mk} {s : Ms} {e : Value} {w : World} (h : Mw k s e w) {m : Nat} (hm : m < k.N) : ∃ b c, k.bv = .slice (some ⟨b, 0, none⟩) k.N c ∧ w.cell? ⟨b, m, none⟩ = some (.int .u32 (s.mem.getD m 0)) ∧ w.frozen? ⟨b, m, none⟩ = false := by
  obtain ⟨a, c, hv, hr, -, -, hb⟩ := own_at h.mem
  obtain ⟨b, o, rfl, -⟩ := hr.get (by rw [flatOf_length wordL_len, h.num]; omega)
  obtain ⟨-, ho, hob⟩ := hb _ rfl
  cases ho
  have hc := hr.cell wordL_len (i := m) (by rw [h.num]; exact hm) 0 0 (by omega)
  obtain ⟨D, hD⟩ := own_has h.mem (k := b) (mem_ob.2 hob)
  refine ⟨b, c, by rw [hv, h.num], ?_, hD.free m⟩
  simpa [wordL] using hc
/-- a word of memory is set -/
theorem Mw.setM {k : Mk} {s : Ms} {e : Value} {w : World} (h : Mw k s e w) {b c : Nat} (hv : k.bv = .slice (some ⟨b, 0, none⟩) k.N c) {m : Nat} (hm : m < k.N) (v : Int) (hu : U32 v) : Mw k (s.setM m v) e (w.setCell ⟨b, m, none⟩ (.int .u32 v)) := by
  have q := Kp.setCell w b m (.int .u32 v)
  have hob : b ∈ ob k.bv := by rw [hv, mem_ob]; rfl
  have n1 : ∀ {t sz n v xs}, w.ownsRow 0 t sz v n xs → t ≠ 39 → ∀ g, v.ownBlock = some g → g ∉ [b] := fun hr ht g hg z => own_apart hr h.mem ht (mem_ob.2 hg) (by rw [show g = b by simpa using z]; exact hob)
  have n2 : ∀ {g C t}, Has w g C t → t ≠ 39 → g ∉ [b] := fun {g C t} hg ht z => own_aside h.mem hg (fun e => ht e.symm) (by rw [show g = b by simpa using z]; exact hob)
  have h0 : 0 ∉ [b] := fun z => h.pos (mem_foot.2 (.inr (.inr (.inl (by rw [show 0 = b by simpa using z]; exact hob)))))
  obtain ⟨C, hC, -⟩ := id h.q
  have hmem : WordsO (w.setCell ⟨b, m, none⟩ (.int .u32 v)) 0 k.bv (s.mem.set m v) := by
    have h1 : w.ownsRow 0 39 1 k.bv s.mem.length (flatOf wordL s.mem) := h.mem
    rw [hv] at h1 ⊢
    show World.ownsRow _ _ _ _ _ (s.mem.set m v).length (flatOf wordL (s.mem.set m v))
    rw [words_set, List.length_set]
    have hn : s.mem.length = k.N := h.num
    rw [hn] at h1 ⊢
    exact own_set h1 m _ (by omega)
  refine ⟨Laid.kept h.laid q h0, h.q.kept q (n2 hC (by decide)), own_kept h.row q (n1 h.row (by decide)), h.len, fun i x hx => ?_, h.nod, ?_, own_kept h.evs q (n1 h.evs (by decide)), by rw [← h.num]; simp [Ms.setM], h.most, ?_, h.ok, h.slp, h.few, h.pos⟩
  · have hs := h.side i x hx
    obtain ⟨B, hB, -⟩ := hs.hs
    exact Si.kept hs q (n2 hB (by decide)) (fun y hy => n1 hs.code (by decide) y (mem_ob.1 hy))
  · have e1 : (s.setM m v).mem = s.mem.set m v := by simp [Ms.setM]
    rw [e1]
    exact hmem
  · intro y hy
    rcases List.mem_or_eq_of_mem_set hy with h1 | rfl
    · exact h.wrd y h1
    · exact hu
theorem Mw.mach {k : Mk} {s : Ms} {e : Value} {w : World} (h : Mw k s e w) : w.cell? ⟨k.mb, 1, none⟩ = some k.bv ∧ w.cell? ⟨k.mb, 0, none⟩ = some k.sv ∧ w.cell? ⟨k.mb, 19, none⟩ = some e ∧ w.frozen? ⟨k.mb, 19, none⟩ = false := by
  obtain ⟨C, hC, iC⟩ := h.q
  exact ⟨hC.cell (Kq.mach_1 _ _ _ _), hC.cell (Kq.mach_0 _ _ _ _), hC.cell (Kq.mach_e iC.size), hC.free 19⟩


set_option maxHeartbeats 400000 in
theorem swap_does (k : Mk) (s : Ms) (m : Nat) (hm : m < k.N) (v : Int) (hu : U32 v) (w : World) :
    Does (MI k) s w 103 #[.pointer (some ⟨k.mb, 0, none⟩), .int .i64 m, .int .u32 v] (.int .u32 (s.mem.getD m 0)) (s.setM m v) := by
  rintro F ⟨e, h, rfl⟩
  obtain ⟨b, c, hv, hc, hf⟩ := h.memAt hm
  have hm' : (m : Int) < k.N := by omega
  have hm0 : ¬ (m : Int) < 0 := by omega
  have c1 := h.mach.1
  rw [hv] at c1
  have hob : b ∈ ob k.bv := by rw [hv, mem_ob]; rfl
  have HP := hide (mi_post h (h.setM hv hm v hu) ((Kp.setCell w b m (.int .u32 v)).trans (Kp.refl (k.foot e) _) (fun y hy => mem_foot.2 (.inr (.inr (.inl (by rw [show y = b by simpa using hy]; exact hob))))) (fun y hy => .inl hy)) foot_evs)
  generalize s.mem.getD m 0 = old at hc ⊢
  clear h hu hv hob
  go_enter Tryz.func103, Tryz.ntmps103
  go_wp2_with (fail)
  go_ret
  exact ⟨rfl, HP.out⟩
set_option maxHeartbeats 400000 in
theorem store_does (k : Mk) (s : Ms) (m : Nat) (hm : m < k.N) (v : Int) (hu : U32 v) (w : World) :
    Does (MI k) s w 101 #[.pointer (some ⟨k.mb, 0, none⟩), .int .i64 m, .int .u32 v] (.tuple #[]) (s.setM m v) := by
  rintro F ⟨e, h, rfl⟩
  obtain ⟨b, c, hv, hc, hf⟩ := h.memAt hm
  have hm' : (m : Int) < k.N := by omega
  have hm0 : ¬ (m : Int) < 0 := by omega
  have c1 := h.mach.1
  rw [hv] at c1
  have hob : b ∈ ob k.bv := by rw [hv, mem_ob]; rfl
  have HP := hide (mi_post h (h.setM hv hm v hu) ((Kp.setCell w b m (.int .u32 v)).trans (Kp.refl (k.foot e) _) (fun y hy => mem_foot.2 (.inr (.inr (.inl (by rw [show y = b by simpa using hy]; exact hob))))) (fun y hy => .inl hy)) foot_evs)
  clear h hu hv hob
  go_enter Tryz.func101, Tryz.ntmps101
  go_wp2_with (fail)
  go_end0
  exact ⟨rfl, HP.out⟩
set_option maxHeartbeats 400000 in
theorem load_does (k : Mk) (s : Ms) (m : Nat) (hm : m < k.N) (w : World) :
    Does (MI k) s w 99 #[.pointer (some ⟨k.mb, 0, none⟩), .int .i64 m] (.int .u32 (s.mem.getD m 0)) s := by
  rintro F ⟨e, h, rfl⟩
  obtain ⟨b, c, hv, hc, -⟩ := h.memAt hm
  have hm' : (m : Int) < k.N := by omega
  have hm0 : ¬ (m : Int) < 0 := by omega
  have c1 := h.mach.1
  rw [hv] at c1
  have HP := hide (mi_same h (Gr.refl w))
  generalize s.mem.getD m 0 = v at hc ⊢
  clear h hv
  go_enter Tryz.func99, Tryz.ntmps99
  go_wp2_with (fail)
  go_ret
  exact ⟨rfl, HP.out⟩
theorem yes_does (k : Mk) (s : Ms) (w : World) : Does (MI k) s w 100 #[] (.bool true) s := by
  rintro F ⟨e, h, rfl⟩
  have HP := hide (mi_same h (Gr.refl w))
  clear h
  go_enter Tryz.func100, Tryz.ntmps100
  go_wp2_with (fail)
  go_ret
  exact ⟨rfl, HP.out⟩
theorem nothing_does (k : Mk) (s : Ms) (w : World) : Does (MI k) s w 102 #[] (.tuple #[]) s := by
  rintro F ⟨e, h, rfl⟩
  have HP := hide (mi_same h (Gr.refl w))
  clear h
  go_enter Tryz.func102, Tryz.ntmps102
  go_wp2_with (fail)
  go_end0
  exact ⟨rfl, HP.out⟩
end Go.Proofs.YthbenfnanhpcoaaGreatDoor.Sc
