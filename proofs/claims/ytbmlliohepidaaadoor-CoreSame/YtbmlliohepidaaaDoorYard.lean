/-
  The law's yard in a world, whose blocks are known: what keeps it, and what a change of one of its parts makes of it. No condition but what each law names.
-/
import Derived.Test.YtbmlliohepidaaaDoorYp
import Derived.Test.YtbmlliohepidaaaDoorFrm
namespace Go.Proofs.YtbmlliohepidaaaDoor
open Go.ChangeShapes Go.WideShapes Go.ChangeAt Go.RowKit
set_option linter.unusedVariables false

/-- what of a yard doesn't change: its blocks (itself, the boxes of y, w and ask, the row of buffers), its memory's slice, its codes, its threads' slice, and how many words there are -/
structure Yc where
  y : Nat
  yb : Nat
  wb : Nat
  ab : Nat
  gb : Nat
  vm : Value
  cs : Value
  ta : Option Addr
  nt : Nat
  ct : Nat
  nb : Nat
  cb : Nat
  N : Nat

def yardC (k : Yc) (room : Nat) (asks : List UInt8) (vs ve : Value) : Array Value := #[k.cs, .slice k.ta k.nt k.ct, .slice (some ⟨k.gb, 0, none⟩) k.nb k.cb, k.vm, .int .i64 room, vs, ve, .bool false, .string ⟨asks.toArray⟩]

def foot (k : Yc) (vbuf vs ve : Value) : List Nat := [k.y, k.yb, k.wb, k.ab, k.gb] ++ (ob k.vm ++ (ob vbuf ++ (ob vs ++ ob ve)))
/-- the yard lies in the world -/
structure Yd (k : Yc) (s : Ys) (vbuf vs ve : Value) (B : Array Value) (w : World) : Prop where
  laid : Laid w
  hy : Has w k.y (yardC k s.room s.asks vs ve) 43
  hyb : Has w k.yb #[.pointer (some ⟨k.y, 0, none⟩)] 33
  hwb : Has w k.wb #[.pointer (some ⟨k.y, 0, none⟩)] 94
  hab : Has w k.ab #[.func (.func 36) #[] #[.pointer (some ⟨k.yb, 0, none⟩)]] 95
  hgb : Has w k.gb B 27
  hB : B[0]? = some vbuf
  hnb : 0 < k.nb
  hnt : 0 < k.nt
  buf : EntsO w 0 vbuf s.buf
  slp : SlpsO w 0 vs s.slp
  evs : EvsO w 0 ve s.evs
  mem : WordsO w 0 k.vm s.mem
  num : s.mem.length = k.N
  most : k.N ≤ 1000
  rng : ∀ x ∈ s.buf, (0 ≤ x.a ∧ x.a < k.N) ∧ U32 x.v
  wrd : ∀ x ∈ s.mem, U32 x
  room : s.room ≤ 16
  pos : 0 ∉ foot k vbuf vs ve

/-- the yard, whose blocks are these -/
def YI (k : Yc) (F : List Nat) (s : Ys) (w : World) : Prop := ∃ vbuf vs ve B, Yd k s vbuf vs ve B w ∧ F = foot k vbuf vs ve

theorem mem_foot {k : Yc} {vbuf vs ve : Value} {x : Nat} : x ∈ foot k vbuf vs ve ↔ x = k.y ∨ x = k.yb ∨ x = k.wb ∨ x = k.ab ∨ x = k.gb ∨ x ∈ ob k.vm ∨ x ∈ ob vbuf ∨ x ∈ ob vs ∨ x ∈ ob ve := by
  simp [foot]

theorem own_lt {w : World} {base sz n : Nat} {t : TypeId} {v : Value} {xs : List Value} (h : w.ownsRow base t sz v n xs) {x : Nat} (hx : x ∈ ob v) : x < w.heap.size := by
  obtain ⟨C, hC⟩ := own_has h hx
  exact hC.lt

theorem Laid.kept {w w' : World} {G : List Nat} (h : Laid w) (k : Kp G w w') (hG : 0 ∉ G) : Laid w' := by
  have hb := k.block 0 h.lt hG
  have c : ∀ o, w'.cell? ⟨0, o, none⟩ = w.cell? ⟨0, o, none⟩ := fun o => cell_same o hb
  refine ⟨fun n hn => ?_⟩
  obtain ⟨h0, h1, h2, h3, h4⟩ := h.kd n hn
  exact ⟨(c _).trans h0, (c _).trans h1, (c _).trans h2, (c _).trans h3, (c _).trans h4⟩

theorem Yd.kept {k : Yc} {s : Ys} {vbuf vs ve : Value} {B : Array Value} {w w' : World} {G : List Nat} (h : Yd k s vbuf vs ve B w) (q : Kp G w w') (hG : ∀ x ∈ G, x ∉ foot k vbuf vs ve ∧ x ≠ 0) : Yd k s vbuf vs ve B w' := by
  have n : ∀ {x}, x ∈ foot k vbuf vs ve → x ∉ G := fun hx hg => (hG _ hg).1 hx
  refine ⟨h.laid.kept q (fun hg => (hG 0 hg).2 rfl), h.hy.kept q (n (mem_foot.2 (by simp))), h.hyb.kept q (n (mem_foot.2 (by simp))), h.hwb.kept q (n (mem_foot.2 (by simp))), h.hab.kept q (n (mem_foot.2 (by simp))), h.hgb.kept q (n (mem_foot.2 (by simp))),
    h.hB, h.hnb, h.hnt, own_kept h.buf q fun g e => n (mem_foot.2 ?_), own_kept h.slp q fun g e => n (mem_foot.2 ?_), own_kept h.evs q fun g e => n (mem_foot.2 ?_), own_kept h.mem q fun g e => n (mem_foot.2 ?_), h.num, h.most, h.rng, h.wrd, h.room, h.pos⟩
  all_goals simp [mem_ob, e]

theorem yi_inv (k : Yc) : Inv (YI k) where
  stab := by
    rintro F s w w' G ⟨vbuf, vs, ve, B, h, rfl⟩ q hG
    exact ⟨vbuf, vs, ve, B, h.kept q hG, rfl⟩
  bnd := by
    rintro F s w ⟨vbuf, vs, ve, B, h, rfl⟩ x hx
    rcases mem_foot.1 hx with rfl | rfl | rfl | rfl | rfl | q | q | q | q
    · exact h.hy.lt
    · exact h.hyb.lt
    · exact h.hwb.lt
    · exact h.hab.lt
    · exact h.hgb.lt
    · exact own_lt h.mem q
    · exact own_lt h.buf q
    · exact own_lt h.slp q
    · exact own_lt h.evs q
  laid := by
    rintro F s w ⟨vbuf, vs, ve, B, h, rfl⟩
    exact h.laid

/-- behind a call: the yard as it is then -/
theorem yi_post {k : Yc} {s s' : Ys} {vbuf vs ve vbuf' vs' ve' : Value} {B B' : Array Value} {w w' : World} (h : Yd k s vbuf vs ve B w) (h' : Yd k s' vbuf' vs' ve' B' w') (q : Kp (foot k vbuf vs ve) w w')
    (hb : ∀ x ∈ ob vbuf', x ∈ foot k vbuf vs ve ∨ w.heap.size ≤ x) (hs : ∀ x ∈ ob vs', x ∈ foot k vbuf vs ve ∨ w.heap.size ≤ x) (he : ∀ x ∈ ob ve', x ∈ foot k vbuf vs ve ∨ w.heap.size ≤ x) :
    Pst (YI k) (foot k vbuf vs ve) w [] s' w' := by
  refine ⟨foot k vbuf' vs' ve', ⟨vbuf', vs', ve', B', h', rfl⟩, q, fun x hx => ⟨?_, by simp⟩, by simp, h.laid.lt⟩
  rcases mem_foot.1 hx with e | e | e | e | e | e | e | e | e
  · exact .inl (mem_foot.2 (by simp [e]))
  · exact .inl (mem_foot.2 (by simp [e]))
  · exact .inl (mem_foot.2 (by simp [e]))
  · exact .inl (mem_foot.2 (by simp [e]))
  · exact .inl (mem_foot.2 (by simp [e]))
  · exact .inl (mem_foot.2 (by simp [e]))
  · exact hb x e
  · exact hs x e
  · exact he x e
theorem foot_buf {k : Yc} {vbuf vs ve : Value} {w : World} : ∀ x ∈ ob vbuf, x ∈ foot k vbuf vs ve ∨ w.heap.size ≤ x := fun x hx => .inl (mem_foot.2 (by simp [hx]))
theorem foot_slp {k : Yc} {vbuf vs ve : Value} {w : World} : ∀ x ∈ ob vs, x ∈ foot k vbuf vs ve ∨ w.heap.size ≤ x := fun x hx => .inl (mem_foot.2 (by simp [hx]))
theorem foot_evs {k : Yc} {vbuf vs ve : Value} {w : World} : ∀ x ∈ ob ve, x ∈ foot k vbuf vs ve ∨ w.heap.size ≤ x := fun x hx => .inl (mem_foot.2 (by simp [hx]))

/-- a cell of the yard itself is set, behind a change elsewhere -/
theorem Yd.setY {k : Yc} {s : Ys} {vbuf vs ve : Value} {B : Array Value} {w : World} (h : Yd k s vbuf vs ve B w) (o : Nat) (v : Value) (s' : Ys) (vs' ve' : Value)
    (e : (yardC k s.room s.asks vs ve).setIfInBounds o v = yardC k s'.room s'.asks vs' ve') (hb : s'.buf = s.buf) (hm : s'.mem = s.mem) (hr : s'.room = s.room) (slp : SlpsO w 0 vs' s'.slp) (evs : EvsO w 0 ve' s'.evs) (hp : 0 ∉ foot k vbuf vs' ve') :
    Yd k s' vbuf vs' ve' B (w.setCell ⟨k.y, o, none⟩ v) := by
  have q := Kp.setCell w k.y o v
  have h0 : 0 ∉ [k.y] := fun z => h.pos (mem_foot.2 (by simp at z; simp [z]))
  refine ⟨h.laid.kept q h0, (h.hy.set o v).of e, h.hyb.kept q ?_, h.hwb.kept q ?_, h.hab.kept q ?_, h.hgb.kept q ?_, h.hB, h.hnb, h.hnt, ?_, own_kept slp q ?_, own_kept evs q ?_, ?_, by rw [hm]; exact h.num, h.most, by rw [hb]; exact h.rng, by rw [hm]; exact h.wrd, by rw [hr]; exact h.room, hp⟩
  · simpa using h.hyb.apart h.hy (by decide)
  · simpa using h.hwb.apart h.hy (by decide)
  · simpa using h.hab.apart h.hy (by decide)
  · simpa using h.hgb.apart h.hy (by decide)
  · rw [hb]
    exact own_kept h.buf q fun g hg z => own_aside h.buf h.hy (by decide) (mem_ob.2 (by rw [hg, show g = k.y by simpa using z]))
  · exact fun g hg z => own_aside slp h.hy (by decide) (mem_ob.2 (by rw [hg, show g = k.y by simpa using z]))
  · exact fun g hg z => own_aside evs h.hy (by decide) (mem_ob.2 (by rw [hg, show g = k.y by simpa using z]))
  · rw [hm]
    exact own_kept h.mem q fun g hg z => own_aside h.mem h.hy (by decide) (mem_ob.2 (by rw [hg, show g = k.y by simpa using z]))

/-- a cell of the yard itself is set, behind a change of sleepers or events -/
theorem Yd.turn {k : Yc} {s : Ys} {vbuf vs ve : Value} {B : Array Value} {w w' : World} (h : Yd k s vbuf vs ve B w) {G : List Nat} (q : Kp G w w') (hG : ∀ x ∈ G, x ∈ ob vs ∨ x ∈ ob ve) (o : Nat) (v : Value) (s' : Ys) (vs' ve' : Value)
    (e : (yardC k s.room s.asks vs ve).setIfInBounds o v = yardC k s'.room s'.asks vs' ve') (hb : s'.buf = s.buf) (hm : s'.mem = s.mem) (hr : s'.room = s.room) (slp : SlpsO w' 0 vs' s'.slp) (evs : EvsO w' 0 ve' s'.evs) (hp : 0 ∉ foot k vbuf vs' ve') :
    Yd k s' vbuf vs' ve' B (w'.setCell ⟨k.y, o, none⟩ v) := by
  have a1 : ∀ {g C t}, Has w g C t → t ≠ 85 → t ≠ 81 → g ∉ G := fun hg n1 n2 hx => by
    rcases hG _ hx with z | z
    · exact own_aside h.slp hg (fun e => n1 e.symm) z
    · exact own_aside h.evs hg (fun e => n2 e.symm) z
  have h0 : 0 ∉ G := fun hx => by
    rcases hG _ hx with z | z
    · exact h.pos (mem_foot.2 (by simp [z]))
    · exact h.pos (mem_foot.2 (by simp [z]))
  have r1 : ∀ {t sz n v xs}, w.ownsRow 0 t sz v n xs → t ≠ 85 → t ≠ 81 → w'.ownsRow 0 t sz v n xs := fun hr n1 n2 => own_kept hr q fun g hg hx => by
    rcases hG _ hx with z | z
    · exact own_apart hr h.slp n1 (mem_ob.2 hg) z
    · exact own_apart hr h.evs n2 (mem_ob.2 hg) z
  have hy := h.hy.kept q (a1 h.hy (by decide) (by decide))
  have hyb := h.hyb.kept q (a1 h.hyb (by decide) (by decide))
  have hwb := h.hwb.kept q (a1 h.hwb (by decide) (by decide))
  have hab := h.hab.kept q (a1 h.hab (by decide) (by decide))
  have hgb := h.hgb.kept q (a1 h.hgb (by decide) (by decide))
  have buf := r1 h.buf (by decide) (by decide)
  have mem := r1 h.mem (by decide) (by decide)
  have q2 := Kp.setCell w' k.y o v
  have h02 : 0 ∉ [k.y] := fun z => h.pos (mem_foot.2 (by simp at z; simp [z]))
  refine ⟨(h.laid.kept q h0).kept q2 h02, (hy.set o v).of e, hyb.kept q2 ?_, hwb.kept q2 ?_, hab.kept q2 ?_, hgb.kept q2 ?_, h.hB, h.hnb, h.hnt, ?_, own_kept slp q2 ?_, own_kept evs q2 ?_, ?_, by rw [hm]; exact h.num, h.most, by rw [hb]; exact h.rng, by rw [hm]; exact h.wrd, by rw [hr]; exact h.room, hp⟩
  · simpa using hyb.apart hy (by decide)
  · simpa using hwb.apart hy (by decide)
  · simpa using hab.apart hy (by decide)
  · simpa using hgb.apart hy (by decide)
  · rw [hb]
    exact own_kept buf q2 fun g hg z => own_aside buf hy (by decide) (mem_ob.2 (by rw [hg, show g = k.y by simpa using z]))
  · exact fun g hg z => own_aside slp hy (by decide) (mem_ob.2 (by rw [hg, show g = k.y by simpa using z]))
  · exact fun g hg z => own_aside evs hy (by decide) (mem_ob.2 (by rw [hg, show g = k.y by simpa using z]))
  · rw [hm]
    exact own_kept mem q2 fun g hg z => own_aside mem hy (by decide) (mem_ob.2 (by rw [hg, show g = k.y by simpa using z]))
/-- the buffer's slice is set, behind a change that keeps all -/
theorem Yd.turnB {k : Yc} {s : Ys} {vbuf vs ve : Value} {B : Array Value} {w w' : World} (h : Yd k s vbuf vs ve B w) (q : Gr w w') (s' : Ys) (v : Value)
    (hm : s'.mem = s.mem) (hr : s'.room = s.room) (ha : s'.asks = s.asks) (hs : s'.slp = s.slp) (he : s'.evs = s.evs) (buf : EntsO w' 0 v s'.buf) (hrng : ∀ x ∈ s'.buf, (0 ≤ x.a ∧ x.a < k.N) ∧ U32 x.v) (hp : 0 ∉ ob v) :
    Yd k s' v vs ve (B.setIfInBounds 0 v) (w'.setCell ⟨k.gb, 0, none⟩ v) := by
  have h' := h.kept (q.kp []) (by simp)
  have q2 := Kp.setCell w' k.gb 0 v
  have h02 : 0 ∉ [k.gb] := fun z => h.pos (mem_foot.2 (by simp at z; simp [z]))
  have hlt : 0 < B.size := by
    have := h.hB
    exact (Array.getElem?_eq_some_iff.1 this).1
  refine ⟨h'.laid.kept q2 h02, ?_, h'.hyb.kept q2 ?_, h'.hwb.kept q2 ?_, h'.hab.kept q2 ?_, h'.hgb.set 0 v, by simp [hlt], h.hnb, h.hnt, ?_, ?_, ?_, ?_, by rw [hm]; exact h.num, h.most, hrng, by rw [hm]; exact h.wrd, by rw [hr]; exact h.room, ?_⟩
  · rw [hr, ha]
    exact h'.hy.kept q2 (by simpa using h'.hy.apart h'.hgb (by decide))
  · simpa using h'.hyb.apart h'.hgb (by decide)
  · simpa using h'.hwb.apart h'.hgb (by decide)
  · simpa using h'.hab.apart h'.hgb (by decide)
  · exact own_kept buf q2 fun g hg z => own_aside buf h'.hgb (by decide) (mem_ob.2 (by rw [hg, show g = k.gb by simpa using z]))
  · rw [hs]; exact own_kept h'.slp q2 fun g hg z => own_aside h'.slp h'.hgb (by decide) (mem_ob.2 (by rw [hg, show g = k.gb by simpa using z]))
  · rw [he]; exact own_kept h'.evs q2 fun g hg z => own_aside h'.evs h'.hgb (by decide) (mem_ob.2 (by rw [hg, show g = k.gb by simpa using z]))
  · rw [hm]; exact own_kept h'.mem q2 fun g hg z => own_aside h'.mem h'.hgb (by decide) (mem_ob.2 (by rw [hg, show g = k.gb by simpa using z]))
  · intro z
    rcases mem_foot.1 z with e | e | e | e | e | e | e | e | e
    all_goals first | exact hp e | exact h.pos (mem_foot.2 (by simp [e]))
theorem words_set (l : List Int) (a : Nat) (v : Int) : flatOf wordL (l.set a v) = (flatOf wordL l).set a (.int .u32 v) := by
  have e : ∀ l : List Int, flatOf wordL l = l.map (Value.int .u32) := fun l => by induction l with
    | nil => rfl
    | cons x l ih => rw [flatOf_cons, ih]; rfl
  rw [e, e, List.map_set]
/-- a word of the yard's memory is set -/
theorem Yd.setMem {k : Yc} {s : Ys} {vbuf vs ve : Value} {B : Array Value} {w : World} (h : Yd k s vbuf vs ve B w) {g n c : Nat} (hv : k.vm = .slice (some ⟨g, 0, none⟩) n c) (a : Nat) (ha : a < k.N) (v : Int) (hu : U32 v) :
    Yd k (s.swap a v) vbuf vs ve B (w.setCell ⟨g, a, none⟩ (.int .u32 v)) := by
  have q := Kp.setCell w g a (.int .u32 v)
  have hm := h.mem
  have hob : g ∈ ob k.vm := by rw [hv, mem_ob]; rfl
  have h0 : 0 ∉ [g] := fun z => h.pos (mem_foot.2 (by simp at z; rw [z]; simp [hob]))
  have hn : n = s.mem.length := by
    obtain ⟨a', c', e, -⟩ := own_at hm
    rw [hv] at e
    injection e
  refine ⟨h.laid.kept q h0, h.hy.kept q ?_, h.hyb.kept q ?_, h.hwb.kept q ?_, h.hab.kept q ?_, h.hgb.kept q ?_, h.hB, h.hnb, h.hnt, own_kept h.buf q ?_, own_kept h.slp q ?_, own_kept h.evs q ?_, ?_, by simp [Ys.swap, h.num], h.most, h.rng, ?_, h.room, h.pos⟩
  · intro z; exact own_aside hm h.hy (by decide) (by rw [show k.y = g by simpa using z]; exact hob)
  · intro z; exact own_aside hm h.hyb (by decide) (by rw [show k.yb = g by simpa using z]; exact hob)
  · intro z; exact own_aside hm h.hwb (by decide) (by rw [show k.wb = g by simpa using z]; exact hob)
  · intro z; exact own_aside hm h.hab (by decide) (by rw [show k.ab = g by simpa using z]; exact hob)
  · intro z; exact own_aside hm h.hgb (by decide) (by rw [show k.gb = g by simpa using z]; exact hob)
  · exact fun x hx z => own_apart h.buf hm (by decide) (mem_ob.2 hx) (by rw [show x = g by simpa using z]; exact hob)
  · exact fun x hx z => own_apart h.slp hm (by decide) (mem_ob.2 hx) (by rw [show x = g by simpa using z]; exact hob)
  · exact fun x hx z => own_apart h.evs hm (by decide) (mem_ob.2 hx) (by rw [show x = g by simpa using z]; exact hob)
  · have e : (s.swap a v).mem = s.mem.set a v := by simp [Ys.swap]
    show (w.setCell ⟨g, a, none⟩ (.int .u32 v)).ownsRow 0 22 1 k.vm (s.swap a v).mem.length (flatOf wordL (s.swap a v).mem)
    rw [e, List.length_set, words_set, hv, ← hn]
    have hm2 : w.ownsRow 0 22 1 k.vm s.mem.length (flatOf wordL s.mem) := hm
    rw [hv, ← hn] at hm2
    exact own_set hm2 a _ (by rw [hn, h.num]; omega)
  · intro x hx
    rcases List.mem_or_eq_of_mem_set (show x ∈ s.mem.set a v by simpa [Ys.swap] using hx) with q | q
    · exact h.wrd x q
    · rw [q]; exact hu

/-- one run behind another -/
theorem Pst.via {S : Type} {I : List Nat → S → World → Prop} {F0 F : List Nat} {w0 u u' : World} {s' : S} (k : Kp F0 w0 u) (n : ∀ x ∈ F, (x ∈ F0 ∨ w0.heap.size ≤ x) ∧ x ∉ ([] : List Nat)) (z : 0 < w0.heap.size) (q : Pst I F u [] s' u') : Pst I F0 w0 [] s' u' := by
  obtain ⟨F', h', k', n', -, -⟩ := q
  refine ⟨F', h', k.trans k' (fun _ h => h) fun x hx => (n x hx).1, fun x hx => ⟨?_, by simp⟩, by simp, z⟩
  rcases (n' x hx).1 with q | q
  · exact (n x q).1
  · exact .inr (Nat.le_trans k.size q)

/-- a slice, or a text, is stored -/
theorem wp_store_ents {o : Oper} {a : Act} {w : World} {K : Act → World → Prop} {Q : Exit → Act → World → Prop} (hd0 : o.dst = none) (x y : Operand) (ho : o.op = .store 27 x y) (g j : Nat) (hx : a.eval x = .pointer (some ⟨g, j, none⟩)) (sa : Option Addr) (sn sc : Nat) (hy : a.eval y = .slice sa sn sc)
    (oa : Option Addr) (on oc : Nat) (hc : w.cell? ⟨g, j, none⟩ = some (.slice oa on oc)) (hf : w.frozen? ⟨g, j, none⟩ = false) (h : K a (w.setCell ⟨g, j, none⟩ (.slice sa sn sc))) : Oper.wp Tryd.prog o a w K Q := by
  unfold Oper.wp execOp
  simp only [ho, hx, hy]
  go_simp
  exact h
theorem wp_store_slps {o : Oper} {a : Act} {w : World} {K : Act → World → Prop} {Q : Exit → Act → World → Prop} (hd0 : o.dst = none) (x y : Operand) (ho : o.op = .store 37 x y) (g j : Nat) (hx : a.eval x = .pointer (some ⟨g, j, none⟩)) (sa : Option Addr) (sn sc : Nat) (hy : a.eval y = .slice sa sn sc)
    (oa : Option Addr) (on oc : Nat) (hc : w.cell? ⟨g, j, none⟩ = some (.slice oa on oc)) (hf : w.frozen? ⟨g, j, none⟩ = false) (h : K a (w.setCell ⟨g, j, none⟩ (.slice sa sn sc))) : Oper.wp Tryd.prog o a w K Q := by
  unfold Oper.wp execOp
  simp only [ho, hx, hy]
  go_simp
  exact h
theorem wp_store_evs {o : Oper} {a : Act} {w : World} {K : Act → World → Prop} {Q : Exit → Act → World → Prop} (hd0 : o.dst = none) (x y : Operand) (ho : o.op = .store 38 x y) (g j : Nat) (hx : a.eval x = .pointer (some ⟨g, j, none⟩)) (sa : Option Addr) (sn sc : Nat) (hy : a.eval y = .slice sa sn sc)
    (oa : Option Addr) (on oc : Nat) (hc : w.cell? ⟨g, j, none⟩ = some (.slice oa on oc)) (hf : w.frozen? ⟨g, j, none⟩ = false) (h : K a (w.setCell ⟨g, j, none⟩ (.slice sa sn sc))) : Oper.wp Tryd.prog o a w K Q := by
  unfold Oper.wp execOp
  simp only [ho, hx, hy]
  go_simp
  exact h
theorem wp_store_str {o : Oper} {a : Act} {w : World} {K : Act → World → Prop} {Q : Exit → Act → World → Prop} (hd0 : o.dst = none) (x y : Operand) (ho : o.op = .store 9 x y) (g j : Nat) (hx : a.eval x = .pointer (some ⟨g, j, none⟩)) (v : ByteArray) (hy : a.eval y = .string v)
    (old : ByteArray) (hc : w.cell? ⟨g, j, none⟩ = some (.string old)) (hf : w.frozen? ⟨g, j, none⟩ = false) (h : K a (w.setCell ⟨g, j, none⟩ (.string v))) : Oper.wp Tryd.prog o a w K Q := by
  unfold Oper.wp execOp
  simp only [ho, hx, hy]
  go_simp
  exact h
end Go.Proofs.YtbmlliohepidaaaDoor
