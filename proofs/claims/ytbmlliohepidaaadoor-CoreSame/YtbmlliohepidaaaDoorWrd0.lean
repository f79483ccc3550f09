/-
  The parts of In.world: what is so of the world's variable while entries, and sleepers, are taken. No condition but what each law names.
-/
import Derived.Test.YtbmlliohepidaaaDoorNew
import Derived.Test.YtbmlliohepidaaaDoorInp
namespace Go.Proofs.YtbmlliohepidaaaDoor
open Go.ChangeShapes Go.WideShapes Go.ChangeAt Go.RowKit
set_option linter.unusedVariables false

/-- the entries that are taken: as many as there is room for, of addresses that there are -/
def pick1 (N room : Nat) (l : List Ent) (x : Ent) : List Ent := if l.length < room ∧ 0 ≤ x.a ∧ x.a < N then l ++ [x] else l
def pickF (N room : Nat) (l : List Ent) : List Ent := l.foldl (pick1 N room) []
/-- the sleepers: by their places -/
def slpF (l : List Int) : List Ent := l.zipIdx.map fun p => ⟨1 + (p.2 : Int), p.1⟩
def roomN (n : Nat) : Nat := 1 + n % 16

theorem infoT10 : (Tryd.prog.info? 25).map (·.size) = some 10 := by kernel_rfl
/-- the world's variable while entries are taken -/
structure W1 (d : InD) (w : World) (C g tb d1 gb d2 : Nat) (vm : Value) (l : List Ent) (u : World) : Prop where
  gr : Gr w u
  hin : Has u w.heap.size (inC d) 31
  hr : Has u (w.heap.size + 1) wor0 40
  hw : Has u g (worA (.slice (some ⟨C, 0, none⟩) 1 1) (.slice (some ⟨tb, 0, none⟩) 1 d1) (.slice (some ⟨gb, 0, none⟩) 1 d2) vm (1 + (d.room : Int) % 16) (.slice none 0 0) (.slice none 0 0)) 40
  cso : u.ownsRow w.heap.size 26 1 (.slice (some ⟨C, 0, none⟩) 1 1) 1 [.slice d.ca d.code.length d.cc]
  tho : ∃ xs, u.ownsRow w.heap.size 25 10 (.slice (some ⟨tb, 0, none⟩) 1 d1) 1 xs
  bso : ∃ vbuf, u.ownsRow w.heap.size 27 1 (.slice (some ⟨gb, 0, none⟩) 1 d2) 1 [vbuf] ∧ EntsO u w.heap.size vbuf l
  mem : WordsO u w.heap.size vm d.mem
  lt : w.heap.size + 1 < g
theorem W1.later {d : InD} {w : World} {C g tb d1 gb d2 : Nat} {vm : Value} {l : List Ent} {u u' : World} (h : W1 d w C g tb d1 gb d2 vm l u) (k : Gr u u') : W1 d w C g tb d1 gb d2 vm l u' := by
  obtain ⟨xs, ht⟩ := h.tho
  obtain ⟨vbuf, hb, he⟩ := h.bso
  exact ⟨h.gr.trans k, h.hin.later k, h.hr.later k, h.hw.later k, own_later h.cso k, ⟨xs, own_later ht k⟩, ⟨vbuf, own_later hb k, own_later he k⟩, own_later h.mem k, h.lt⟩

/-- an entry is taken -/
theorem W1.add {d : InD} {w : World} {C g tb d1 gb d2 : Nat} {vm : Value} {l l' : List Ent} {u u' : World} (h : W1 d w C g tb d1 gb d2 vm l u) {vbuf v' : Value} (hb : EntsO u w.heap.size vbuf l) (k : Kp (ob vbuf) u u') (ho : EntsO u' w.heap.size v' l') :
    W1 d w C g tb d1 gb d2 vm l' (u'.setCell ⟨gb, 0, none⟩ v') := by
  obtain ⟨xs, ht⟩ := h.tho
  obtain ⟨vb0, hbs, -⟩ := h.bso
  have n1 : ∀ {g C t}, Has u g C t → 83 ≠ t → g ∉ ob vbuf := fun {g C t} hg ht => own_aside hb hg ht
  have n2 : ∀ {t sz n v xs}, u.ownsRow w.heap.size t sz v n xs → t ≠ 83 → u'.ownsRow w.heap.size t sz v n xs := fun hr ht => own_kept hr k fun g hg z => own_apart hr hb ht (mem_ob.2 hg) z
  have bs := n2 hbs (by decide)
  have hgb : gb ∈ ob (.slice (some ⟨gb, 0, none⟩) 1 d2) := by rw [mem_ob]; rfl
  have q := Kp.setCell u' gb 0 v'
  have m1 : ∀ {g C t}, Has u' g C t → 27 ≠ t → g ∉ [gb] := fun {g C t} hg ht z => own_aside bs hg ht (by rw [show g = gb by simpa using z]; exact hgb)
  have m2 : ∀ {t sz n v xs}, u'.ownsRow w.heap.size t sz v n xs → t ≠ 27 → (u'.setCell ⟨gb, 0, none⟩ v').ownsRow w.heap.size t sz v n xs := fun hr ht => own_kept hr q fun g hg z => own_apart hr bs ht (mem_ob.2 hg) (by rw [show g = gb by simpa using z]; exact hgb)
  have gu : Gr w u' := Kp.gr h.gr k (fun x hx => (hb.lt x (mem_ob.1 hx)).1)
  refine ⟨Kp.gr gu q (fun x hx => ?_), (h.hin.kept k (n1 h.hin (by decide))).kept q (m1 (h.hin.kept k (n1 h.hin (by decide))) (by decide)), (h.hr.kept k (n1 h.hr (by decide))).kept q (m1 (h.hr.kept k (n1 h.hr (by decide))) (by decide)), (h.hw.kept k (n1 h.hw (by decide))).kept q (m1 (h.hw.kept k (n1 h.hw (by decide))) (by decide)),
    m2 (n2 h.cso (by decide)) (by decide), ⟨xs, m2 (n2 ht (by decide)) (by decide)⟩, ⟨v', ?_, m2 ho (by decide)⟩, m2 (n2 h.mem (by decide)) (by decide), h.lt⟩
  · have := (hbs.lt gb (mem_ob.1 hgb)).1
    rw [show x = gb by simpa using hx]
    omega
  · exact own_set bs 0 v' (by decide)
theorem own_setCells {base sz n : Nat} {t : TypeId} {b c : Nat} : ∀ (vs : List Value) (o : Nat) (w : World) (xs : List Value), w.ownsRow base t sz (.slice (some ⟨b, 0, none⟩) n c) n xs → o + vs.length ≤ n * sz → ∃ ys, (w.setCells b o vs).ownsRow base t sz (.slice (some ⟨b, 0, none⟩) n c) n ys
  | [], o, w, xs, h, _ => ⟨xs, h⟩
  | v :: vs, o, w, xs, h, hl => by
    simp only [List.length_cons] at hl
    exact own_setCells vs (o + 1) (w.setCell ⟨b, o, none⟩ v) _ (own_set h o v (by omega)) (by omega)
theorem kp_setCells {b : Nat} : ∀ (vs : List Value) (o : Nat) (w : World), Kp [b] w (w.setCells b o vs)
  | [], o, w => Kp.refl _ _
  | v :: vs, o, w => (Kp.setCell w b o v).trans (kp_setCells vs (o + 1) (w.setCell ⟨b, o, none⟩ v)) (fun _ h => h) (fun _ h => .inl h)
theorem pick_full {N room : Nat} {l : List Ent} (h : ¬ l.length < room) : ∀ m : List Ent, m.foldl (pick1 N room) l = l
  | [] => rfl
  | x :: m => by
    have e : pick1 N room l x = l := by unfold pick1; rw [if_neg (fun q => h q.1)]
    rw [List.foldl_cons, e, pick_full h m]
theorem pick_take {N room : Nat} {l : List Ent} (k : Nat) (hk : k < l.length) : pickF N room (l.take (k + 1)) = pick1 N room (pickF N room (l.take k)) (l.getD k ent0) := by
  unfold pickF
  rw [take_get ent0 l k hk, List.foldl_append]
  rfl
theorem pick_rest {N room : Nat} {l : List Ent} (k : Nat) (h : ¬ (pickF N room (l.take k)).length < room) : pickF N room (l.take k) = pickF N room l := by
  have e : pickF N room l = (l.drop k).foldl (pick1 N room) (pickF N room (l.take k)) := by
    unfold pickF
    rw [← List.foldl_append, List.take_append_drop]
  rw [e, pick_full h]
theorem pick_len {N room : Nat} : ∀ (m l : List Ent), l.length ≤ room → (m.foldl (pick1 N room) l).length ≤ room
  | [], l, h => h
  | x :: m, l, h => by
    rw [List.foldl_cons]
    refine pick_len m _ ?_
    unfold pick1
    split
    · rename_i q; simp; omega
    · exact h
theorem build_e1' {o : Oper} {a : Act} {w : World} (x : Operand) (ho : o.op = .buildSlice 27 1 #[(0, x)]) (e : Ent) (hx : a.eval x = .agg #[.int .i64 e.a, .int .u32 e.v]) :
    (execOp a.eval o).run Tryd.prog w = .ok (.value (.slice (some ⟨w.heap.size, 0, none⟩) 1 1)) (w.alloc (.cells #[.int .i64 e.a, .int .u32 e.v] 83)) := by
  unfold execOp
  simp only [ho, List.map_toArray, List.map_cons, List.map_nil, hx]
  clear hx
  go_simp
theorem wp_store_ents' {o : Oper} {a : Act} {w : World} {K : Act → World → Prop} {Q : Exit → Act → World → Prop} (hd0 : o.dst = none) (x y : Operand) (ho : o.op = .store 27 x y) (g j : Nat) (hx : a.eval x = .pointer (some ⟨g, j, none⟩)) (sa : Option Addr) (sn sc : Nat) (hy : a.eval y = .slice sa sn sc)
    (oa : Option Addr) (on oc : Nat) (hc : w.cell? ⟨g, j, none⟩ = some (.slice oa on oc)) (hf : w.frozen? ⟨g, j, none⟩ = false) (h : K a (w.setCell ⟨g, j, none⟩ (.slice sa sn sc))) : Oper.wp Tryd.prog o a w K Q := by
  unfold Oper.wp execOp
  simp only [ho, hx, hy]
  go_simp
  exact h
theorem infoE2 : (Tryd.prog.info? 83).map (·.size) = some 2 := by kernel_rfl

/-- what In.world answers -/
def WorldP (d : InD) (w : World) (e : Ending) (w' : World) : Prop :=
  ∃ cs ta nt ct gb nb cb vbuf vs vm B, (e = .returned (.agg (worA cs (.slice ta nt ct) (.slice (some ⟨gb, 0, none⟩) nb cb) vm (1 + (d.room : Int) % 16) vs (.slice none 0 0))) ∧ Gr w w') ∧ (0 < nt ∧ 0 < nb ∧ w.heap.size ≤ gb) ∧ Has w' gb B 27 ∧ B[0]? = some vbuf ∧
    EntsO w' w.heap.size vbuf (pickF d.mem.length (roomN d.room) d.buf) ∧ SlpsO w' w.heap.size vs (slpF d.asl) ∧ WordsO w' w.heap.size vm d.mem

/-- the world's variable while sleepers are taken: the blocks of its own -/
structure Wk (d : InD) (w : World) (g : Nat) (cs ths bs vm vs : Value) (u : World) : Prop where
  gr : Gr w u
  hin : Has u w.heap.size (inC d) 31
  hr : Has u (w.heap.size + 1) wor0 40
  hw : Has u g (worA cs ths bs vm (1 + (d.room : Int) % 16) vs (.slice none 0 0)) 40
  lt : w.heap.size + 1 < g
/-- a row is appended to, and its slice is stored -/
theorem Wk.step {d : InD} {w : World} {g : Nat} {cs ths bs vm vs cs' ths' bs' vs' : Value} {u u' : World} (h : Wk d w g cs ths bs vm vs u) {t : TypeId} {sz n : Nat} {v : Value} {xs : List Value} (ho : u.ownsRow w.heap.size t sz v n xs) (k : Kp (ob v) u u') (h1 : t ≠ 31) (h2 : t ≠ 40)
    (o : Nat) (val : Value) (e : (worA cs ths bs vm (1 + (d.room : Int) % 16) vs (.slice none 0 0)).setIfInBounds o val = worA cs' ths' bs' vm (1 + (d.room : Int) % 16) vs' (.slice none 0 0)) : Wk d w g cs' ths' bs' vm vs' (u'.setCell ⟨g, o, none⟩ val) := by
  have a := h.hin.kept k (own_aside ho h.hin h1)
  have b := h.hr.kept k (own_aside ho h.hr h2)
  have c := h.hw.kept k (own_aside ho h.hw h2)
  have gu : Gr w u' := Kp.gr h.gr k (fun x hx => (ho.lt x (mem_ob.1 hx)).1)
  have hl := h.lt
  exact ⟨gu.setCell (by show w.heap.size ≤ g; omega) _, a.aside (by omega) _ _, b.aside (by omega) _ _, (c.set o val).of e, hl⟩
/-- a row of another type stays -/
theorem own_stays {d : InD} {w : World} {g : Nat} {cs ths bs vm vs : Value} {u u' : World} (h : Wk d w g cs ths bs vm vs u) {t t2 : TypeId} {sz n sz2 n2 : Nat} {v v2 : Value} {xs ys : List Value} (hr : u.ownsRow w.heap.size t sz v n xs) (ho : u.ownsRow w.heap.size t2 sz2 v2 n2 ys) (k : Kp (ob v2) u u') (ht : t ≠ t2) (hw : t ≠ 40) (h2 : t2 ≠ 40) (o : Nat) (val : Value) :
    (u'.setCell ⟨g, o, none⟩ val).ownsRow w.heap.size t sz v n xs := by
  have r1 := own_kept hr k fun x hx z => own_apart hr ho ht (mem_ob.2 hx) z
  have c := h.hw.kept k (own_aside ho h.hw h2)
  exact own_kept r1 (Kp.setCell u' g o val) fun x hx z => own_aside r1 c hw (mem_ob.2 (by rw [hx, show x = g by simpa using z]))
/-- the row that was appended to -/
theorem own_new {d : InD} {w : World} {g : Nat} {cs ths bs vm vs : Value} {u u' : World} (h : Wk d w g cs ths bs vm vs u) {t : TypeId} {sz n sz2 n2 : Nat} {v v2 : Value} {xs ys : List Value} (ho : u.ownsRow w.heap.size t sz v n xs) (k : Kp (ob v) u u') (hn : u'.ownsRow w.heap.size t sz2 v2 n2 ys) (hw : t ≠ 40) (o : Nat) (val : Value) :
    (u'.setCell ⟨g, o, none⟩ val).ownsRow w.heap.size t sz2 v2 n2 ys := by
  have c := h.hw.kept k (own_aside ho h.hw hw)
  exact own_kept hn (Kp.setCell u' g o val) fun x hx z => own_aside hn c hw (mem_ob.2 (by rw [hx, show x = g by simpa using z]))

/-- what is so around the loop over sleepers -/
def W2 (d : InD) (w : World) (g : Nat) (vm : Value) (L : List Ent) (j : Nat) (u : World) : Prop :=
  ∃ cs ths bs vs vbuf xc xt rest, Wk d w g cs ths bs vm vs u ∧ u.ownsRow w.heap.size 26 1 cs (1 + j) xc ∧ u.ownsRow w.heap.size 25 10 ths (1 + j) xt ∧ u.ownsRow w.heap.size 27 1 bs (1 + j) (vbuf :: rest) ∧
    EntsO u w.heap.size vbuf L ∧ SlpsO u w.heap.size vs (slpF (d.asl.take j)) ∧ WordsO u w.heap.size vm d.mem
theorem W1.to2 {d : InD} {w : World} {C g tb d1 gb d2 : Nat} {vm : Value} {l : List Ent} {u : World} (h : W1 d w C g tb d1 gb d2 vm l u) : W2 d w g vm l 0 u := by
  obtain ⟨xs, ht⟩ := h.tho
  obtain ⟨vbuf, hb, he⟩ := h.bso
  exact ⟨_, _, _, _, vbuf, _, xs, [], ⟨h.gr, h.hin, h.hr, h.hw, h.lt⟩, h.cso, ht, hb, he, own_nil _ _ _ _, h.mem⟩
theorem W2.later {d : InD} {w : World} {g : Nat} {vm : Value} {L : List Ent} {j : Nat} {u u' : World} (h : W2 d w g vm L j u) (k : Gr u u') : W2 d w g vm L j u' := by
  obtain ⟨cs, ths, bs, vs, vbuf, xc, xt, rest, h1, h2, h3, h4, h5, h6, h7⟩ := h
  exact ⟨cs, ths, bs, vs, vbuf, xc, xt, rest, ⟨h1.gr.trans k, h1.hin.later k, h1.hr.later k, h1.hw.later k, h1.lt⟩, own_later h2 k, own_later h3 k, own_later h4 k, own_later h5 k, own_later h6 k, own_later h7 k⟩
theorem slpF_snoc (l : List Int) (j : Nat) (hj : j < l.length) : slpF (l.take (j + 1)) = slpF (l.take j) ++ [⟨1 + (j : Int), l.getD j 0⟩] := by
  unfold slpF
  rw [take_get 0 l j hj, List.zipIdx_append, List.map_append]
  simp [List.length_take, Nat.min_eq_left (Nat.le_of_lt hj)]
theorem slpF_length (l : List Int) : (slpF l).length = l.length := by simp [slpF]
theorem build_slp' {o : Oper} {a : Act} {w : World} (x : Operand) (ho : o.op = .buildSlice 37 1 #[(0, x)]) (e : Ent) (hx : a.eval x = .agg #[.int .i64 e.a, .int .i64 e.v]) :
    (execOp a.eval o).run Tryd.prog w = .ok (.value (.slice (some ⟨w.heap.size, 0, none⟩) 1 1)) (w.alloc (.cells #[.int .i64 e.a, .int .i64 e.v] 85)) := by
  unfold execOp
  simp only [ho, List.map_toArray, List.map_cons, List.map_nil, hx]
  clear hx
  go_simp
theorem wp_store_slps' {o : Oper} {a : Act} {w : World} {K : Act → World → Prop} {Q : Exit → Act → World → Prop} (hd0 : o.dst = none) (x y : Operand) (ho : o.op = .store 37 x y) (g j : Nat) (hx : a.eval x = .pointer (some ⟨g, j, none⟩)) (sa : Option Addr) (sn sc : Nat) (hy : a.eval y = .slice sa sn sc)
    (oa : Option Addr) (on oc : Nat) (hc : w.cell? ⟨g, j, none⟩ = some (.slice oa on oc)) (hf : w.frozen? ⟨g, j, none⟩ = false) (h : K a (w.setCell ⟨g, j, none⟩ (.slice sa sn sc))) : Oper.wp Tryd.prog o a w K Q := by
  unfold Oper.wp execOp
  simp only [ho, hx, hy]
  go_simp
  exact h
abbrev th1A : Array Value := #[.int .i64 0, .int .u32 0, .int .u32 0, .int .u32 0, .int .u32 0, .int .u32 0, .int .u32 0, .int .u32 0, .int .u32 0, .int .i64 1]

end Go.Proofs.YtbmlliohepidaaaDoor
