/-
  Two yards beside each other: what In.world makes, and a box around it, twice; what a step of the one leaves of the other. No condition but what each law names.
-/
import Derived.Test.YtbmlliohepidaaaDoorYst
namespace Go.Proofs.YtbmlliohepidaaaDoor
open Go.ChangeShapes Go.WideShapes Go.ChangeAt Go.RowKit
set_option linter.unusedVariables false

/-- where a yard's parts lie -/
structure Yg where
  gb : Nat
  vm : Value
  cs : Value
  ta : Option Addr
  nt : Nat
  ct : Nat
  nb : Nat
  cb : Nat
  vbuf : Value
  vs : Value
  B : Array Value
def Yg.k (p : Yg) (d : InD) (y : Nat) : Yc := yc0 d y p.gb p.vm p.cs p.ta p.nt p.ct p.nb p.cb
/-- the blocks but the box -/
def Yg.pt (p : Yg) : List Nat := p.gb :: (ob p.vm ++ (ob p.vbuf ++ ob p.vs))
abbrev Yg.W (p : Yg) (d : InD) : Array Value := worA p.cs (.slice p.ta p.nt p.ct) (.slice (some ⟨p.gb, 0, none⟩) p.nb p.cb) p.vm (1 + (d.room : Int) % 16) p.vs (.slice none 0 0)
abbrev Yg.A (p : Yg) (d : InD) : Array Value := yardA p.cs (.slice p.ta p.nt p.ct) p.gb p.nb p.cb p.vm (1 + (d.room : Int) % 16) p.vs
theorem mem_pt {p : Yg} {x : Nat} : x ∈ p.pt ↔ x = p.gb ∨ x ∈ ob p.vm ∨ x ∈ ob p.vbuf ∨ x ∈ ob p.vs := by simp [Yg.pt]

/-- a world that In.world made lies there -/
structure Wf (d : InD) (w : World) (p : Yg) (u : World) : Prop where
  gr : Gr w u
  nt : 0 < p.nt
  nb : 0 < p.nb
  gb : w.heap.size ≤ p.gb
  hB : Has u p.gb p.B 27
  hB0 : p.B[0]? = some p.vbuf
  he : EntsO u w.heap.size p.vbuf (pickF d.mem.length (roomN d.room) d.buf)
  hs : SlpsO u w.heap.size p.vs (slpF d.asl)
  hv : WordsO u w.heap.size p.vm d.mem
theorem Wf.later {d : InD} {w : World} {p : Yg} {u u' : World} (h : Wf d w p u) (k : Gr u u') : Wf d w p u' :=
  ⟨h.gr.trans k, h.nt, h.nb, h.gb, h.hB.later k, h.hB0, own_later h.he k, own_later h.hs k, own_later h.hv k⟩
/-- its blocks are new, and there -/
theorem Wf.bnd {d : InD} {w : World} {p : Yg} {u : World} (h : Wf d w p u) : ∀ x ∈ p.pt, w.heap.size ≤ x ∧ x < u.heap.size := by
  intro x hx
  rcases mem_pt.1 hx with rfl | e | e | e
  · exact ⟨h.gb, h.hB.lt⟩
  · exact h.hv.lt x (mem_ob.1 e)
  · exact h.he.lt x (mem_ob.1 e)
  · exact h.hs.lt x (mem_ob.1 e)
theorem Wf.of {d : InD} {w : World} {e : Ending} {u : World} (h : WorldP d w e u) : ∃ p : Yg, e = .returned (.agg (p.W d)) ∧ Wf d w p u := by
  obtain ⟨cs, ta, nt, ct, gb, nb, cb, vbuf, vs, vm, B, ⟨rfl, g3⟩, ⟨hnt, hnb, hgb⟩, hB, hB0, he, hs, hv⟩ := h
  exact ⟨⟨gb, vm, cs, ta, nt, ct, nb, cb, vbuf, vs, B⟩, rfl, g3, hnt, hnb, hgb, hB, hB0, he, hs, hv⟩
/-- the box around it -/
theorem Wf.box {d : InD} {w : World} {p : Yg} {u : World} (h : Wf d w p u) (hat : InAt d w) (hm : d.mem.length ≤ 300) (hw : Laid w) :
    Y0 (p.k d u.heap.size) (ys0 d) p.vbuf p.vs (.slice none 0 0) p.B (u.alloc (.cells (p.A d) 43)) :=
  y0_of hat hm hw h.gr h.nt h.nb h.gb h.hB h.hB0 h.he h.hs h.hv

/-- a yard ahead of its port, of an input -/
abbrev Y1 (d : InD) (p : Yg) (y : Nat) (u : World) : Prop := Y0 (p.k d y) (ys0 d) p.vbuf p.vs (.slice none 0 0) p.B u
theorem Y0.kept {k : Yc} {s : Ys} {vbuf vs ve : Value} {B : Array Value} {w w' : World} {G : List Nat} (h : Y0 k s vbuf vs ve B w) (q : Kp G w w') (h0 : 0 ∉ G) (hy : k.y ∉ G) (hg : k.gb ∉ G) (hm : ∀ x ∈ ob k.vm, x ∉ G) (hb : ∀ x ∈ ob vbuf, x ∉ G) (hs : ∀ x ∈ ob vs, x ∉ G) (he : ∀ x ∈ ob ve, x ∉ G) : Y0 k s vbuf vs ve B w' :=
  ⟨h.laid.kept q h0, h.hy.kept q hy, h.hgb.kept q hg, h.hB, h.hnb, h.hnt, own_kept h.buf q fun g e => hb g (mem_ob.2 e), own_kept h.slp q fun g e => hs g (mem_ob.2 e), own_kept h.evs q fun g e => he g (mem_ob.2 e), own_kept h.mem q fun g e => hm g (mem_ob.2 e), h.num, h.most, h.rng, h.wrd, h.room, h.pos⟩
theorem Y1.kept {d : InD} {p : Yg} {y : Nat} {w w' : World} {G : List Nat} (h : Y1 d p y w) (q : Kp G w w') (h0 : 0 ∉ G) (hG : ∀ x ∈ y :: p.pt, x ∉ G) : Y1 d p y w' :=
  Y0.kept h q h0 (hG _ (by show y ∈ _; simp)) (hG _ (by show p.gb ∈ _; simp [Yg.pt])) (fun x (hx : x ∈ ob p.vm) => hG x (by simp [Yg.pt, hx])) (fun x hx => hG x (by simp [Yg.pt, hx])) (fun x hx => hG x (by simp [Yg.pt, hx])) (fun x hx => by simp [ob, Value.ownBlock] at hx)
theorem Y1.bnd {d : InD} {p : Yg} {y : Nat} {w : World} (h : Y1 d p y w) : ∀ x ∈ y :: p.pt, x < w.heap.size := by
  intro x hx
  rcases List.mem_cons.1 hx with rfl | hx
  · exact h.hy.lt
  rcases mem_pt.1 hx with rfl | e | e | e
  · exact h.hgb.lt
  · exact own_lt h.mem e
  · exact own_lt h.buf e
  · exact own_lt h.slp e
/-- the yard's blocks behind its port: the box, the parts, and new ones -/
theorem foot_of {d : InD} {p : Yg} {y n x : Nat} (h : x ∈ foot ((p.k d y).boxes n) p.vbuf p.vs (.slice none 0 0)) : x ∈ y :: p.pt ∨ n ≤ x := by
  rcases mem_foot.1 h with e | e | e | e | e | e | e | e | e
  · exact .inl (by rw [e]; show y ∈ _; simp)
  · exact .inr (by rw [e]; exact Nat.le_refl _)
  · exact .inr (by rw [e]; show n ≤ n + 1 + 1; omega)
  · exact .inr (by rw [e]; show n ≤ n + 1 + 1 + 1; omega)
  · exact .inl (by rw [e]; show p.gb ∈ _; simp [Yg.pt])
  · exact .inl (by have e : x ∈ ob p.vm := e; simp [Yg.pt, e])
  · exact .inl (by simp [Yg.pt, e])
  · exact .inl (by simp [Yg.pt, e])
  · simp [ob, Value.ownBlock] at e

/-- two yards ahead of their ports -/
structure Tw (d : InD) (w : World) (b : Nat) (p q : Yg) (y z : Nat) (u : World) : Prop where
  gr : Gr w u
  hi : Has u b (inC d) 31
  y1 : Y1 d p y u
  y2 : Y1 d q z u
  low : ∀ x ∈ y :: p.pt, w.heap.size ≤ x
  lo2 : ∀ x ∈ z :: q.pt, w.heap.size ≤ x
  ap : ∀ x ∈ y :: p.pt, x ∉ z :: q.pt
theorem Tw.later {d : InD} {w : World} {b : Nat} {p q : Yg} {y z : Nat} {u u' : World} (h : Tw d w b p q y z u) (k : Gr u u') : Tw d w b p q y z u' :=
  ⟨h.gr.trans k, h.hi.later k, Y0.later h.y1 k, Y0.later h.y2 k, h.low, h.lo2, h.ap⟩
/-- blocks of the one below a place, of the other from it on; boxes aside -/
theorem apart_of {p q : Yg} {y z m n : Nat} (h1 : ∀ x ∈ p.pt, x < m) (h2 : ∀ x ∈ q.pt, m ≤ x ∧ x < n) (hy : y < m ∨ n ≤ y) (hz : n ≤ z) (hm : m ≤ n) (hyz : y ≠ z) (hq : ∀ x ∈ q.pt, x ≠ y) : ∀ x ∈ y :: p.pt, x ∉ z :: q.pt := by
  intro x hx hz2
  rcases List.mem_cons.1 hx with rfl | hx
  · rcases List.mem_cons.1 hz2 with e | e
    · exact hyz e
    · exact hq x e rfl
  · have := h1 x hx
    rcases List.mem_cons.1 hz2 with e | e
    · omega
    · have := (h2 x e).1
      omega
/-- behind the one's step: its yard; the other one still ahead of its port; the thread that was answered -/
structure Tx (d : InD) (w : World) (b g : Nat) (k : Yc) (s : Ys) (v1 v2 v3 : Value) (B : Array Value) (t : Th) (q : Yg) (z : Nat) (u : World) : Prop where
  gr : Gr w u
  hi : Has u b (inC d) 31
  ht : Has u g (thC t) 25
  hg : w.heap.size ≤ g
  yd : Yd k s v1 v2 v3 B u
  y2 : Y1 d q z u
  lo2 : ∀ x ∈ z :: q.pt, w.heap.size ≤ x
  ap : ∀ x ∈ foot k v1 v2 v3, x ∉ z :: q.pt
theorem Tx.later {d : InD} {w : World} {b g : Nat} {k : Yc} {s : Ys} {v1 v2 v3 : Value} {B : Array Value} {t : Th} {q : Yg} {z : Nat} {u u' : World} (h : Tx d w b g k s v1 v2 v3 B t q z u) (r : Gr u u') : Tx d w b g k s v1 v2 v3 B t q z u' :=
  ⟨h.gr.trans r, h.hi.later r, h.ht.later r, h.hg, h.yd.later r, Y0.later h.y2 r, h.lo2, h.ap⟩
/-- behind both steps -/
structure Ty (d : InD) (w : World) (g j : Nat) (k k2 : Yc) (s s2 : Ys) (v1 v2 v3 : Value) (B : Array Value) (r1 r2 r3 : Value) (D : Array Value) (t t2 : Th) (u : World) : Prop where
  gr : Gr w u
  ht : Has u g (thC t) 25
  hj : Has u j (thC t2) 25
  yd : Yd k s v1 v2 v3 B u
  yz : Yd k2 s2 r1 r2 r3 D u
theorem Ty.later {d : InD} {w : World} {g j : Nat} {k k2 : Yc} {s s2 : Ys} {v1 v2 v3 : Value} {B : Array Value} {r1 r2 r3 : Value} {D : Array Value} {t t2 : Th} {u u' : World} (h : Ty d w g j k k2 s s2 v1 v2 v3 B r1 r2 r3 D t t2 u) (r : Gr u u') : Ty d w g j k k2 s s2 v1 v2 v3 B r1 r2 r3 D t t2 u' :=
  ⟨h.gr.trans r, h.ht.later r, h.hj.later r, h.yd.later r, h.yz.later r⟩

/-- the thread of the one's step is stored -/
theorem leaf_tx {d : InD} {w : World} {b g : Nat} {k : Yc} {s : Ys} {v1 v2 v3 : Value} {B : Array Value} {q : Yg} {z : Nat} {u : World} (G : Gr w u) (hi : Has u b (inC d) 31) (ht : Has u g th0A 25) (hg : w.heap.size ≤ g) (Y : Yd k s v1 v2 v3 B u) (y2 : Y1 d q z u)
    (lo2 : ∀ x ∈ z :: q.pt, w.heap.size ≤ x) (ap : ∀ x ∈ foot k v1 v2 v3, x ∉ z :: q.pt) (t : Th) : Tx d w b g k s v1 v2 v3 B t q z (u.setRow g (thC t)) := by
  have n := Y.besides ht (by decide)
  have q0 := Kp.setRow u g (thC t)
  have hw : 0 ≠ g := by
    intro e
    rw [← e] at ht
    have c1 := ht.cell (o := 1) (v := .int .u32 0) rfl
    have c2 := (Y.laid.kd 0 (by omega)).2.1
    rw [show 0 * 5 + 1 = 1 from rfl, c1] at c2
    cases c2
  refine ⟨G.setRow hg _, hi.rowAside (hi.apart ht (by decide)) _, ht.row _, hg, Y.kept q0 (fun x hx => ?_), Y1.kept y2 q0 (by simpa using hw) (fun x hx => ?_), lo2, ap⟩
  · rw [List.mem_singleton] at hx
    subst hx
    exact ⟨n, fun e => hw e.symm⟩
  · intro e
    rw [List.mem_singleton] at e
    subst e
    rcases List.mem_cons.1 hx with e | hx
    · have := y2.hy.apart ht (by decide)
      exact this (by show z = x; rw [e])
    rcases mem_pt.1 hx with e | e | e | e
    · have := y2.hgb.apart ht (by decide)
      exact this (by show q.gb = x; rw [e])
    · exact own_aside y2.mem ht (by decide) e
    · exact own_aside y2.buf ht (by decide) e
    · exact own_aside y2.slp ht (by decide) e
end Go.Proofs.YtbmlliohepidaaaDoor
