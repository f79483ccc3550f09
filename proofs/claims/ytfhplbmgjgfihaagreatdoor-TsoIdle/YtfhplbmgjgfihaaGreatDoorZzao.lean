/-
  What Pop answers of any cells that are a buffer. No condition but that.
-/
import Derived.Test.YtfhplbmgjgfihaaGreatDoorZzaa
import Derived.Test.YtfhplbmgjgfihaaGreatDoorZzad
import Derived.Test.YtfhplbmgjgfihaaGreatDoorZzan
namespace Go.Proofs.YtfhplbmgjgfihaaGreatDoor.Bf
open Go.ChangeShapes Go.WideShapes Go.ChangeAt Go.RowKit
set_option linter.unusedVariables false
set_option maxRecDepth 20000
/-- results: an entry, a buffer and something else -/
theorem results_ent {fn : Func} {p q s : Tmp} (h : fn.results = #[.cell p 77, .cell q 83, .tmp s]) (tmps : Array Value) (w : World) (f g : Nat) (x : Ent) (C : Array Value)
    (hp : tmps.getD p undef = .pointer (some ⟨f, 0, none⟩)) (hf : Has w f #[.int .i64 x.a, .int .u32 x.v] 77) (hq : tmps.getD q undef = .pointer (some ⟨g, 0, none⟩)) (hg : Has w g C 83) (hs : C.size = 35) :
    (results fn tmps).run Tryz.prog w = .ok (.tuple #[entV x, .agg C, tmps.getD s undef]) w := by
  have hp' : tmps[p]?.getD undef = .pointer (some ⟨f, 0, none⟩) := by simpa using hp
  have hq' : tmps[q]?.getD undef = .pointer (some ⟨g, 0, none⟩) := by simpa using hq
  simp [results, h, hp', hq', asAddr, run_loadVar_row w f 77 77 #[.int .i64 x.a, .int .u32 x.v] (0, 0) _ hf Tryz.underlying77 rfl infoE, run_loadVar_row w g 83 83 C (0, 0) _ hg Tryz.underlying83 rfl (infoB_of hs), entV]

set_option maxHeartbeats 400000 in
theorem pop_none {C : Array Value} {room : Nat} (h : IsB C room []) (w : World) :
    Calls Tryz.prog 35 #[.agg C] w fun e w' => e = .returned (.tuple #[entV ent0, .agg C, .bool false]) ∧ Gr w w' := by
  have HB := hide h
  have c34 : C[34]? = some (.int .i64 0) := by
    obtain ⟨r, first, hi⟩ := h
    rw [hi.cells]; exact bufC_count hi.ring _ _ _
  have HS := hide HB.out.size
  clear h
  obtain ⟨b0, b1, b2, bg⟩ := start3 w C #[.int .i64 0, .int .u32 0] 83 77 zeroC 83
  go_enter Tryz.func35, Tryz.ntmps35
  go_wp2_with (fail)
  refine begin_late 5 [3, 4] (fun w' => Has w' w.heap.size C 83) (by kernel_rfl) rfl ?_
  refine AnyL.takeP 0 (some 9) (.agg #[.int .i64 0, .int .u32 0]) rfl rfl (by kernel_rfl) (by kernel_rfl) (by kernel_rfl) (by kernel_rfl) (fun _ _ _ h => h) (by kernel_rfl) (fun w' => by go_simp) (fun _ => b0.drew) ?_
  simp only [pz, pz0, pzs]
  refine AnyL.take 1 (some 10) (.agg C) rfl rfl (by kernel_rfl) (by kernel_rfl) (by kernel_rfl) (by kernel_rfl) (fun _ _ _ h => h) (take_buf (by kernel_rfl) _ rfl w.heap.size rfl C (fun w h => h) HS.out) b0.drew ?_
  simp only [pz, pz0, pzs]
  refine AnyL.one 2 (by kernel_rfl) rfl (by kernel_rfl) ?_
  refine wp_store_ent rfl _ _ rfl (w.heap.size + 1) 0 rfl ent0 rfl _ 77 b1.drew (by decide) ?_
  refine ⟨fun _ => b0.drew.setCells (by omega) 0 _ _, ?_⟩
  have c1 : Has (_ : World) (w.heap.size + 1) #[.int .i64 0, .int .u32 0] 77 := ((b1.drew.set 0 (.int .i64 ent0.a)).set 1 (.int .u32 ent0.v))
  refine AnyL.one 3 (by kernel_rfl) rfl (by kernel_rfl) ?_
  refine wp_store_buf rfl _ _ rfl (w.heap.size + 1 + 1) rfl C rfl zeroC (b2.drew.setCells (by omega) 0 _ _) HS.out zeroC_size HB.out.one ?_
  refine ⟨late (by kernel_rfl), ?_⟩
  refine AnyL.one 4 (by kernel_rfl) rfl (by kernel_rfl) ?_
  refine wp_value (some 4) rfl (.bool false) (by go_simp) ?_
  refine ⟨late (by kernel_rfl), ?_⟩
  refine AnyL.done (by kernel_rfl) ?_
  simp only [pz, pz0, pzs]
  have d1 := c1.rowAside (k := w.heap.size + 1 + 1) (by omega) C
  have d2 := (b2.drew.setCells (k := w.heap.size + 1) (by omega) 0 (.int .i64 ent0.a) (.int .u32 ent0.v)).row C
  have dg := (bg.drew.setCells (g := w.heap.size + 1) (by omega) 0 (.int .i64 ent0.a) (.int .u32 ent0.v)).setRow (g := w.heap.size + 1 + 1) (by omega) C
  go_wp2_with (fail)
  exact bodyPost_ret (results_ent rfl _ _ (w.heap.size + 1) (w.heap.size + 1 + 1) ent0 C rfl d1 rfl d2 HS.out) rfl ⟨rfl, dg⟩

/-- the world behind four new blocks -/
theorem start4 (w : World) (C X : Array Value) (t u : TypeId) (Z : Array Value) (s : TypeId) (Y : Array Value) (v : TypeId) :
    Has ((((w.alloc (.cells C t)).alloc (.cells X u)).alloc (.cells Z s)).alloc (.cells Y v)) w.heap.size C t ∧
    Has ((((w.alloc (.cells C t)).alloc (.cells X u)).alloc (.cells Z s)).alloc (.cells Y v)) (w.heap.size + 1) X u ∧
    Has ((((w.alloc (.cells C t)).alloc (.cells X u)).alloc (.cells Z s)).alloc (.cells Y v)) (w.heap.size + 1 + 1) Z s ∧
    Has ((((w.alloc (.cells C t)).alloc (.cells X u)).alloc (.cells Z s)).alloc (.cells Y v)) (w.heap.size + 1 + 1 + 1) Y v ∧
    Gr w ((((w.alloc (.cells C t)).alloc (.cells X u)).alloc (.cells Z s)).alloc (.cells Y v)) := by
  obtain ⟨b0, b1, b2, bg⟩ := start3 w C X t u Z s
  have hn := Has.new (((w.alloc (.cells C t)).alloc (.cells X u)).alloc (.cells Z s)) Y v
  have hsz : (((w.alloc (.cells C t)).alloc (.cells X u)).alloc (.cells Z s)).heap.size = w.heap.size + 1 + 1 + 1 := by simp
  rw [hsz] at hn
  exact ⟨b0.alloc _ _, b1.alloc _ _, b2.alloc _ _, hn, bg.alloc _ _⟩

set_option maxHeartbeats 400000 in
theorem pop_some {C : Array Value} {room : Nat} {x : Ent} {l r : List Ent} {first : Nat} (h : Is C room (x :: l) r first) (w : World) :
    Calls Tryz.prog 35 #[.agg C] w fun e w' => e = .returned (.tuple #[entV x, .agg (bufC (r.set first ent0) room ((first + 1) % 16 : Nat) l.length), .bool true]) ∧ Gr w w' := by
  have HB := hide h
  have hr := h.ring
  have hf := h.fst
  have hm := h.most
  have hlen := h.len
  simp only [List.length_cons] at hlen
  have c33 : C[33]? = some (.int .i64 first) := by rw [h.cells]; exact bufC_first h.ring _ _ _
  have c34 : C[34]? = some (.int .i64 ((l.length : Int) + 1)) := by rw [h.cells]; exact bufC_count h.ring _ _ _
  have ca : C[first * 2]? = some (.int .i64 x.a) := by
    have := bufC_a h.ring room first (x :: l).length first hf
    rw [(is_pop h).1] at this
    rw [h.cells]; exact this
  have cv : C[first * 2 + 1]? = some (.int .u32 x.v) := by
    have := bufC_v h.ring room first (x :: l).length first hf
    rw [(is_pop h).1] at this
    rw [h.cells]; exact this
  have HC : Hid (C = bufC r room first ((l.length : Int) + 1)) := h.cells
  have HZ : Hid (C.size = 35) := by show C.size = 35; rw [h.cells]; exact bufC_size h.ring _ _ _
  have hf' : (first : Int) < 16 := by omega
  have hr1 : (r.set first ent0).length = 16 := by rw [List.length_set]; exact hr
  clear h
  have hC1 := bufC_set hr room first ((l.length : Int) + 1) first hf ent0
  rw [← HC.out] at hC1
  obtain ⟨b0, b1, b2, b3, bg⟩ := start4 w ((C.setIfInBounds (first * 2) (.int .i64 0)).setIfInBounds (first * 2 + 1) (.int .u32 0)) #[.int .i64 0, .int .u32 0] 83 77 zeroC 83 #[.int .i64 x.a, .int .u32 x.v] 77
  replace b0 := b0.of hC1
  have hz1 := bufC_size hr1 room first ((l.length : Int) + 1)
  have d33 := bufC_first hr1 room first ((l.length : Int) + 1)
  have D33 := hide d33
  have HZ1 := hide hz1
  clear hC1 hz1 d33
  go_enter Tryz.func35, Tryz.ntmps35
  go_wp2_with (first
    | (refine load_buf rfl _ rfl w.heap.size rfl (bufC (r.set first ent0) room first ((l.length : Int) + 1)) b0 HZ1.out ?_))
  refine (place_calls D33.out hf 1 (by omega) _).mono ?_
  rintro e w1 ⟨rfl, g1⟩
  replace b0 := b0.later g1
  replace b1 := b1.later g1
  replace b2 := b2.later g1
  replace b3 := b3.later g1
  replace bg := bg.trans g1
  clear g1 ca cv c33 c34
  have f33 := b0.free 33
  have f34 := b0.free 34
  have q33 := b0.cell D33.out
  have q34 := b0.cell (bufC_count hr1 _ _ _)
  generalize hpp : (first + 1) % 16 = p
  have HP := hide hpp
  have hp : p < 16 := by omega
  clear hpp
  go_wp2_with (fail)
  replace b0 := ((b0.set 33 (.int .i64 p)).set 34 (.int .i64 l.length)).of (by rw [bufC_set_first hr1, bufC_set_count hr1])
  replace b1 := (b1.aside (k := w.heap.size) (by omega) 33 (.int .i64 p)).aside (k := w.heap.size) (by omega) 34 (.int .i64 l.length)
  replace b2 := (b2.aside (k := w.heap.size) (by omega) 33 (.int .i64 p)).aside (k := w.heap.size) (by omega) 34 (.int .i64 l.length)
  replace b3 := (b3.aside (k := w.heap.size) (by omega) 33 (.int .i64 p)).aside (k := w.heap.size) (by omega) 34 (.int .i64 l.length)
  replace bg := (bg.setCell (a := ⟨w.heap.size, 33, none⟩) (Nat.le_refl _) (.int .i64 p)).setCell (a := ⟨w.heap.size, 34, none⟩) (Nat.le_refl _) (.int .i64 l.length)
  clear f33 f34 q33 q34
  generalize (w1.setCell ⟨w.heap.size, 33, none⟩ (.int .i64 p)).setCell ⟨w.heap.size, 34, none⟩ (.int .i64 l.length) = w2 at b0 b1 b2 b3 bg ⊢
  have hz2 := bufC_size hr1 room p l.length
  refine begin_late 5 [3, 4] (fun w' => Has w' w.heap.size (bufC (r.set first ent0) room p l.length) 83 ∧ Has w' (w.heap.size + 1 + 1 + 1) #[.int .i64 x.a, .int .u32 x.v] 77) (by kernel_rfl) rfl ?_
  refine AnyL.take 0 (some 28) (.agg #[.int .i64 x.a, .int .u32 x.v]) rfl rfl (by kernel_rfl) (by kernel_rfl) (by kernel_rfl) (by kernel_rfl) (fun _ _ _ h => h) (yields_held _ (by kernel_rfl) (fun w' hw' => by have h1 := hw'.2.cell (o := 0) rfl; have h2 := hw'.2.cell (o := 1) rfl; go_simp)) ⟨b0.drew, b3.drew⟩ ?_
  simp only [pz, pz0, pzs]
  refine AnyL.take 1 (some 29) (.agg (bufC (r.set first ent0) room p l.length)) rfl rfl (by kernel_rfl) (by kernel_rfl) (by kernel_rfl) (by kernel_rfl) (fun _ _ _ h => h) (take_buf (by kernel_rfl) _ rfl w.heap.size rfl _ (fun w h => h.1) hz2) ⟨b0.drew, b3.drew⟩ ?_
  simp only [pz, pz0, pzs]
  refine AnyL.one 2 (by kernel_rfl) rfl (by kernel_rfl) ?_
  refine wp_store_ent rfl _ _ rfl (w.heap.size + 1) 0 rfl x rfl _ 77 b1.drew (by decide) ?_
  refine ⟨fun _ => ⟨b0.drew.setCells (by omega) 0 _ _, b3.drew.setCells (by omega) 0 _ _⟩, ?_⟩
  have c1 : Has (_ : World) (w.heap.size + 1) #[.int .i64 x.a, .int .u32 x.v] 77 := ((b1.drew.set 0 (.int .i64 x.a)).set 1 (.int .u32 x.v))
  refine AnyL.one 3 (by kernel_rfl) rfl (by kernel_rfl) ?_
  refine wp_store_buf rfl _ _ rfl (w.heap.size + 1 + 1) rfl (bufC (r.set first ent0) room p l.length) rfl zeroC (b2.drew.setCells (by omega) 0 _ _) hz2 zeroC_size (bufC_one _ _ _ _) ?_
  refine ⟨late (by kernel_rfl), ?_⟩
  refine AnyL.one 4 (by kernel_rfl) rfl (by kernel_rfl) ?_
  refine wp_value (some 4) rfl (.bool true) (by go_simp) ?_
  refine ⟨late (by kernel_rfl), ?_⟩
  refine AnyL.done (by kernel_rfl) ?_
  simp only [pz, pz0, pzs]
  have d1 := c1.rowAside (k := w.heap.size + 1 + 1) (by omega) (bufC (r.set first ent0) room p l.length)
  have d2 := (b2.drew.setCells (k := w.heap.size + 1) (by omega) 0 (.int .i64 x.a) (.int .u32 x.v)).row (bufC (r.set first ent0) room p l.length)
  have dg := (bg.drew.setCells (g := w.heap.size + 1) (by omega) 0 (.int .i64 x.a) (.int .u32 x.v)).setRow (g := w.heap.size + 1 + 1) (by omega) (bufC (r.set first ent0) room p l.length)
  go_wp2_with (fail)
  have hpp := HP.out
  clear HP
  subst hpp
  exact bodyPost_ret (results_ent rfl _ _ (w.heap.size + 1) (w.heap.size + 1 + 1) x _ rfl d1 rfl d2 hz2) rfl ⟨rfl, dg⟩

/-- what Pop answers -/
def PopP (room : Nat) (l : List Ent) (C : Array Value) (w : World) (e : Ending) (w' : World) : Prop :=
  Gr w w' ∧ match l with
    | [] => e = .returned (.tuple #[entV ent0, .agg C, .bool false])
    | x :: l' => ∃ D, e = .returned (.tuple #[entV x, .agg D, .bool true]) ∧ IsB D room l'
theorem pop_calls {C : Array Value} {room : Nat} {l : List Ent} (h : IsB C room l) (w : World) :
    Calls Tryz.prog 35 #[.agg C] w (PopP room l C w) := by
  cases l with
  | nil => exact (pop_none h w).mono fun e w' hh => ⟨hh.2, hh.1⟩
  | cons x l =>
    obtain ⟨r, first, hi⟩ := h
    exact (pop_some hi w).mono fun e w' hh => ⟨hh.2, _, hh.1, _, _, (is_pop hi).2⟩
theorem pop_any {C : Array Value} {room : Nat} {l : List Ent} (h : IsB C room l) (w : World) :
    Calls Tryz.prog 35 #[.agg C] w fun e w' => ∃ D, (e = .returned (.tuple #[.agg #[.int .i64 (l.headD ent0).a, .int .u32 (l.headD ent0).v], .agg D, .bool (!l.isEmpty)]) ∧ Gr w w') ∧ IsB D room l.tail :=
  (pop_calls h w).mono fun e w' hh => by
    have h2 := hh.2
    cases l with
    | nil => exact ⟨C, ⟨h2, hh.1⟩, h⟩
    | cons x l =>
      obtain ⟨D, h3, h4⟩ := h2
      exact ⟨D, ⟨h3, hh.1⟩, h4⟩
theorem pop_yes {C : Array Value} {room : Nat} {x : Ent} {l : List Ent} (h : IsB C room (x :: l)) (w : World) :
    Calls Tryz.prog 35 #[.agg C] w fun e w' => ∃ D, (e = .returned (.tuple #[.agg #[.int .i64 x.a, .int .u32 x.v], .agg D, .bool true]) ∧ Gr w w') ∧ IsB D room l :=
  (pop_calls h w).mono fun e w' hh => by
    obtain ⟨D, h3, h4⟩ := hh.2
    exact ⟨D, ⟨h3, hh.1⟩, h4⟩
end Go.Proofs.YtfhplbmgjgfihaaGreatDoor.Bf
namespace Go.Proofs.YtfhplbmgjgfihaaGreatDoor.Mc
open Go.ChangeShapes Go.WideShapes Go.ChangeAt Go.RowKit
set_option linter.unusedVariables false
set_option maxRecDepth 20000
set_option maxHeartbeats 1000000 in
theorem flush_does (k : Mk) (i : Nat) (x : Sk) (hx : k.ss[i]? = some x) (s : Ms) (hq : s.evs.length ≤ 95000) (w : World) :
    Does (MI k) s w 20 #[.pointer (some ⟨x.g, 0, none⟩)] (.tuple #[]) (s.flush i) := by
  rintro F ⟨e, h, rfl⟩
  obtain ⟨B, sr, iB⟩ := h.sr hx
  have rB := sr.rB
  have ib := infoBl sr.sz
  have HH := hide h
  have HB := hide iB
  clear h iB sr
  cases hl : (s.side i).buf with
  | nil =>
    have HF : Hid (s.flush i = s) := by show s.flush i = s; unfold Ms.flush; rw [hl]
    have iB2 := HB.out
    rw [hl] at iB2
    rw [HF.out]
    clear hl HF
    go_enter Tryz.func20, Tryz.ntmps20
    go_wp2_with (first
      | (refine wpList_load_mid rfl 83 _ rfl x.g 13 rfl B.toList _ rB Tryz.underlying83 rfl ib ?_))
    refine (Bf.pop_any iB2 w).mono ?_
    rintro r w1 ⟨D, ⟨rfl, g1⟩, iD⟩
    have HP := hide (mi_same HH.out ((g1.alloc #[.int .i64 ent0.a, .int .u32 ent0.v] 77).alloc D 83))
    have sD := bf_size iD
    have oD := bf_one iD
    go_wp2_with (first
      | (refine Bf.store_new rfl rfl _ _ rfl (w1.heap.size + 1) (by simp) rfl D rfl Bf.zeroC sD Bf.zeroC_size oD ?_))
    exact bodyPost_ret (results_none rfl _ _ _) rfl ⟨rfl, HP.out⟩
  | cons y l =>
    have iB2 := HB.out
    rw [hl] at iB2
    have hb := (HH.out.side i x hx).ent
    rw [hl] at hb
    obtain ⟨⟨a0, a1⟩, uy⟩ := hb y (List.mem_cons_self ..)
    obtain ⟨ya, yv⟩ := y
    obtain ⟨n, hn⟩ : ∃ n : Nat, ya = n := ⟨ya.toNat, by simp only at a0; omega⟩
    subst hn
    simp only at a0 a1 uy
    have HF : Hid (s.flush i = ((s.setB i l).setM n yv).note i ⟨3, 0, 0, n, yv, 0, 0, false⟩) := by show s.flush i = _; unfold Ms.flush; rw [hl]
    rw [HF.out]
    have he := hide hb
    clear hb HF
    go_enter Tryz.func20, Tryz.ntmps20
    go_wp2_with (first
      | (refine wpList_load_mid rfl 83 _ rfl x.g 13 rfl B.toList _ rB Tryz.underlying83 rfl ib ?_))
    refine (Bf.pop_yes iB2 w).mono ?_
    rintro r w1 ⟨D, ⟨rfl, g1⟩, iD⟩
    have sD := bf_size iD
    have oD := bf_one iD
    go_upto_region 2 with (first
      | (refine Bf.store_new rfl rfl _ _ rfl (w1.heap.size + 1) (by simp) rfl D rfl Bf.zeroC sD Bf.zeroC_size oD ?_))
    have hE := ((Has.new w1 #[.int .i64 (n : Int), .int .u32 yv] 77).alloc D 83)
    have hD := Has.new (w1.alloc (.cells #[.int .i64 (n : Int), .int .u32 yv] 77)) D 83
    rw [show (w1.alloc (.cells #[.int .i64 (n : Int), .int .u32 yv] 77)).heap.size = w1.heap.size + 1 by simp] at hD
    have g2 := (g1.alloc #[.int .i64 (n : Int), .int .u32 yv] 77).alloc D 83
    have hsz := g1.size
    change Code.wp _ _ _ _ ((w1.alloc (.cells #[.int .i64 (n : Int), .int .u32 yv] 77)).alloc (.cells D 83))
    generalize (w1.alloc (.cells #[.int .i64 (n : Int), .int .u32 yv] 77)).alloc (.cells D 83) = u at hE hD g2 ⊢
    have h1 := HH.out.later g2
    obtain ⟨B1, sr1, -⟩ := h1.sr hx
    obtain ⟨h2, k2⟩ := h1.setB hx iD (fun c hc => he.out c (List.mem_cons_of_mem _ hc))
    have thr := sr1.thr sD
    have i1 := infoBs sD
    have nx : w1.heap.size ∉ [x.g] := fun z => by
      have := HH.out.sr hx
      obtain ⟨B2, sr2, -⟩ := this
      have := sr2.has.lt
      have z' : w1.heap.size = x.g := by simpa using z
      omega
    have hE2 := hE.kept k2 nx
    go_upto_region 3 with (first
      | (refine Bf.load_buf rfl _ rfl (w1.heap.size + 1) rfl D hD sD ?_)
      | (refine wpList_store_mid rfl 83 _ _ rfl x.g 13 D rfl rfl thr i1 oD ?_))
    change Code.wp _ _ _ _ (u.setCells x.g 13 D.toList)
    have q2 := (g2.kp (k.foot e)).trans (kp_side h1 hx k2) (fun _ h => h) (fun _ h => .inl h)
    clear hE hD thr i1 sr1 h1 hl rB ib HB iB2 iD k2
    generalize u.setCells x.g 13 D.toList = u2 at h2 hE2 q2 ⊢
    clear g2 sD oD
    have h3 := h2.later (Gr.refl u2).drew
    obtain ⟨B3, sr3, -⟩ := h3.sr hx
    have hnN : n < k.N := by omega
    have hn0 : ¬ (n : Int) < 0 := by omega
    have hn1 : (n : Int) < k.N := by omega
    obtain ⟨b, c, hv, hc, hf⟩ := h3.memAt hnN
    have hE3 := hE2.drew
    have c0 := sr3.c0
    have c1 := h3.mach.1
    have e0 := hE3.cell (o := 0) (v := .int .i64 n) rfl
    have e1 := hE3.cell (o := 1) (v := .int .u32 yv) rfl
    rw [hv] at c1
    refine begin_late 13 [12] (fun w' => w' = u2.drew) (by kernel_rfl) rfl ?_
    have hH : u2.drew = u2.drew := rfl
    simp only [Act.put]
    refine AnyL.pp 0 20 (.pointer (some ⟨x.g, 0, none⟩)) rfl rfl (by kernel_rfl) (fun _ _ _ h => h) (fun _ => by go_simp) hH ?_
    simp only [pz, pz0, pzs]
    refine AnyL.pp 1 21 (.pointer (some ⟨x.g, 0, none⟩)) rfl rfl (by kernel_rfl) (fun _ _ _ h => h) (fun _ => by go_simp) hH ?_
    simp only [pz, pz0, pzs]
    refine AnyL.pp 2 22 (.pointer (some ⟨x.g, 0, none⟩)) rfl rfl (by kernel_rfl) (fun _ _ _ h => h) (fun _ => by go_simp) hH ?_
    simp only [pz, pz0, pzs]
    refine AnyL.tt 3 23 (.pointer (some ⟨k.mb, 0, none⟩)) rfl rfl (by kernel_rfl) (fun _ _ _ h => h) (fun w' hw' => by subst hw'; go_simp) hH ?_
    simp only [pz, pz0, pzs]
    refine AnyL.pp 4 24 (.pointer (some ⟨k.mb, 0, none⟩)) rfl rfl (by kernel_rfl) (fun _ _ _ h => h) (fun _ => by go_simp) hH ?_
    simp only [pz, pz0, pzs]
    refine AnyL.pp 5 25 (.pointer (some ⟨k.mb, 1, none⟩)) rfl rfl (by kernel_rfl) (fun _ _ _ h => h) (fun _ => by go_simp) hH ?_
    simp only [pz, pz0, pzs]
    refine AnyL.tt 6 26 (.slice (some ⟨b, 0, none⟩) k.N c) rfl rfl (by kernel_rfl) (fun _ _ _ h => h) (fun w' hw' => by subst hw'; go_simp) hH ?_
    simp only [pz, pz0, pzs]
    refine AnyL.pp 7 27 (.pointer (some ⟨w1.heap.size, 0, none⟩)) rfl rfl (by kernel_rfl) (fun _ _ _ h => h) (fun _ => by go_simp) hH ?_
    simp only [pz, pz0, pzs]
    refine AnyL.tt 8 28 (.int .i64 n) rfl rfl (by kernel_rfl) (fun _ _ _ h => h) (fun w' hw' => by subst hw'; go_simp) hH ?_
    simp only [pz, pz0, pzs]
    refine AnyL.pp 9 29 (.pointer (some ⟨w1.heap.size, 1, none⟩)) rfl rfl (by kernel_rfl) (fun _ _ _ h => h) (fun _ => by go_simp) hH ?_
    simp only [pz, pz0, pzs]
    refine AnyL.tt 10 30 (.int .u32 yv) rfl rfl (by kernel_rfl) (fun _ _ _ h => h) (fun w' hw' => by subst hw'; go_simp) hH ?_
    simp only [pz, pz0, pzs]
    refine AnyL.tt 11 31 (.pointer (some ⟨b, n, none⟩)) rfl rfl (by kernel_rfl) (fun _ _ _ h => h) (fun w' hw' => by subst hw'; go_simp) hH ?_
    simp only [pz, pz0, pzs]
    refine AnyL.one 12 (by kernel_rfl) rfl (by kernel_rfl) ?_
    refine Mp.wp_store_word rfl _ _ rfl b n (by kernel_rfl) yv (by kernel_rfl) _ hc hf ?_
    refine ⟨late (by kernel_rfl), ?_⟩
    refine AnyL.done (by kernel_rfl) ?_
    have h4 := h3.setM hv hnN yv uy
    have hob : b ∈ ob k.bv := by rw [hv, mem_ob]; rfl
    have qb := Kp.setCell u2.drew b n (.int .u32 yv)
    have nb : w1.heap.size ∉ [b] := fun z => by
      have := own_lt HH.out.mem (show w1.heap.size ∈ ob k.bv by rw [show w1.heap.size = b by simpa using z]; exact hob)
      omega
    have hE4 := hE3.kept qb nb
    have q4 := ((q2.trans ((Gr.refl u2).drew.kp (k.foot e)) (fun _ h => h) (fun _ h => .inl h))).trans qb (fun _ h => h) (fun z hz => .inl (mem_foot.2 (.inr (.inr (.inl (by rw [show z = b by simpa using hz]; exact hob))))))
    have hp := mi_post HH.out h4 q4 foot_evs
    have hq4 : ((s.setB i l).setM n yv).evs.length ≤ 95000 := hq
    have HN := fun u => note_does k i x hx ((s.setB i l).setM n yv) ⟨3, 0, 0, n, yv, 0, 0, false⟩ hq4 u
    clear c0 c1 e0 e1 hc hf hE3 hE2 hH h2 h3 h4 q2 q4 qb nb sr3 hq4
    generalize u2.drew.setCell ⟨b, n, none⟩ (.int .u32 yv) = u4 at hE4 hp ⊢
    have e0 := hE4.cell (o := 0) (v := .int .i64 (n : Int)) rfl
    have e1 := hE4.cell (o := 1) (v := .int .u32 yv) rfl
    go_wp2_with (fail)
    refine ((HN _).go hp).mono ?_
    rintro r u5 ⟨⟨rfl, -⟩, hp5⟩
    have HP := hide hp5
    clear hp5 hp HN
    go_wp2_with (fail)
    go_end0
    exact ⟨rfl, HP.out⟩
theorem side_is {mb i : Nat} {cv : Value} {t : Th} {B : Array Value} {z : Int} {g : Nat} (h : ThOk t) (st : Int) : (sideA mb i cv t B z g).setIfInBounds 12 (.int .i64 st) = sideA mb i cv (t.is st) B z g := by
  simp [sideA, sideL, thL, Th.is, h.len]
/-- a side's thread is running -/
theorem Mw.rise {k : Mk} {s : Ms} {e : Value} {w : World} (h : Mw k s e w) {i : Nat} {x : Sk} (hx : k.ss[i]? = some x) :
    Mw k (s.rise i) e (w.setCell ⟨x.g, 12, none⟩ (.int .i64 0)) ∧ Kp [x.g] w (w.setCell ⟨x.g, 12, none⟩ (.int .i64 0)) := by
  obtain ⟨B, sr, iB⟩ := h.sr hx
  have q := Kp.setCell w x.g 12 (.int .i64 0)
  have e1 : s.rise i = s.setS i ⟨(s.side i).code, (s.side i).t.is 0, (s.side i).buf⟩ := by simp [Ms.rise, Ms.setT]
  rw [e1]
  exact ⟨h.setS hx q (B := B) (d := ⟨(s.side i).code, (s.side i).t.is 0, (s.side i).buf⟩) ((sr.has.set 12 (.int .i64 0)).of (side_is sr.th 0)) iB rfl ⟨sr.th.len, sr.th.u32⟩ (h.side i x hx).ent, q⟩
theorem rouse_ok {l : List Ent} (h : Kn.Ok l) (who : Int) : Kn.Ok (Kq.rouseL who l) :=
  ⟨List.Nodup.sublist (List.Sublist.map _ List.filter_sublist) h.1, fun x hx => h.2 x (List.mem_filter.1 hx).1⟩
theorem rouse_no {l : List Ent} {who : Int} (h : ¬ Kn.idx who l < l.length) : Kq.rouseL who l = l := by
  unfold Kq.rouseL
  rw [List.filter_eq_self]
  intro x hx
  simpa using Kn.idx_none h x hx
theorem thL_st {t : Th} (h : ThOk t) : (thL t)[9]? = some (.int .i64 t.st) := by
  simp [thL, h.len]
theorem rouse_few {l : List Ent} {n : Int} (h : ∀ x ∈ l, x.a < n) (who : Int) : ∀ x ∈ Kq.rouseL who l, x.a < n := fun x hx => h x (List.mem_filter.1 hx).1

set_option maxHeartbeats 1000000 in
theorem rouse_does (k : Mk) (i : Nat) (x : Sk) (hx : k.ss[i]? = some x) (s : Ms) (hq : s.evs.length ≤ 95000) (w : World) :
    Does (MI k) s w 21 #[.pointer (some ⟨x.g, 0, none⟩)] (.tuple #[]) (s.rouse i) := by
  rintro F ⟨e, h, rfl⟩
  have h1 := h.later (Gr.refl w).drew
  obtain ⟨B, sr, -⟩ := h1.sr hx
  have HH := hide h
  have H1 := hide h1
  have c0 := sr.c0
  have c1 := sr.c1
  clear h h1 sr
  by_cases hi : Kn.idx i s.slp < s.slp.length
  · have HF : Hid (s.rouse i = ((s.setQ (Kq.rouseL i s.slp)).rise i).note i ⟨11, 0, 0, 0, 0, 0, 0, false⟩) := by show s.rouse i = _; unfold Ms.rouse; rw [if_pos hi]
    rw [HF.out]
    have HI := hide (show decide (Kn.idx i s.slp < s.slp.length) = true by simpa using hi)
    clear hi HF
    go_enter Tryz.func21, Tryz.ntmps21
    go_wp2_with (fail)
    refine begin_late 12 [10, 11] (fun w' => w' = w.drew) (by kernel_rfl) rfl ?_
    have hH : w.drew = w.drew := rfl
    refine AnyL.pp 0 2 (.pointer (some ⟨x.g, 0, none⟩)) rfl rfl (by kernel_rfl) (fun _ _ _ h => h) (fun _ => by go_simp) hH ?_
    simp only [pz, pz0, pzs]
    refine AnyL.pp 1 3 (.pointer (some ⟨x.g, 0, none⟩)) rfl rfl (by kernel_rfl) (fun _ _ _ h => h) (fun _ => by go_simp) hH ?_
    simp only [pz, pz0, pzs]
    refine AnyL.pp 2 4 (.pointer (some ⟨x.g, 0, none⟩)) rfl rfl (by kernel_rfl) (fun _ _ _ h => h) (fun _ => by go_simp) hH ?_
    simp only [pz, pz0, pzs]
    refine AnyL.tt 3 5 (.pointer (some ⟨k.mb, 0, none⟩)) rfl rfl (by kernel_rfl) (fun _ _ _ h => h) (fun w' hw' => by subst hw'; go_simp) hH ?_
    simp only [pz, pz0, pzs]
    refine AnyL.pp 4 6 (.pointer (some ⟨k.mb, 0, none⟩)) rfl rfl (by kernel_rfl) (fun _ _ _ h => h) (fun _ => by go_simp) hH ?_
    simp only [pz, pz0, pzs]
    refine AnyL.pp 5 7 (.pointer (some ⟨k.mb, 2, none⟩)) rfl rfl (by kernel_rfl) (fun _ _ _ h => h) (fun _ => by go_simp) hH ?_
    simp only [pz, pz0, pzs]
    refine AnyL.pp 6 8 (.pointer (some ⟨x.g, 0, none⟩)) rfl rfl (by kernel_rfl) (fun _ _ _ h => h) (fun _ => by go_simp) hH ?_
    simp only [pz, pz0, pzs]
    refine AnyL.pp 7 9 (.pointer (some ⟨x.g, 0, none⟩)) rfl rfl (by kernel_rfl) (fun _ _ _ h => h) (fun _ => by go_simp) hH ?_
    simp only [pz, pz0, pzs]
    refine AnyL.pp 8 10 (.pointer (some ⟨x.g, 1, none⟩)) rfl rfl (by kernel_rfl) (fun _ _ _ h => h) (fun _ => by go_simp) hH ?_
    simp only [pz, pz0, pzs]
    refine AnyL.tt 9 11 (.int .i64 i) rfl rfl (by kernel_rfl) (fun _ _ _ h => h) (fun w' hw' => by subst hw'; go_simp) hH ?_
    simp only [pz, pz0, pzs]
    refine AnyL.one 10 (by kernel_rfl) rfl (by kernel_rfl) ?_
    have HC := Kq.rouse_calls H1.out.q (i : Int)
    rw [HI.out] at HC
    refine wp_call (some 12) rfl _ _ (by kernel_rfl) HC ?_
    rintro r u ⟨⟨rfl, k2⟩, q2⟩
    refine ⟨_, rfl, late (by kernel_rfl), ?_⟩
    refine AnyL.one 11 (by kernel_rfl) rfl (by kernel_rfl) ?_
    refine wp_value (some 13) rfl (.bool false) (by go_simp) ?_
    refine ⟨late (by kernel_rfl), ?_⟩
    refine AnyL.done (by kernel_rfl) ?_
    have h2 := H1.out.setQ k2 q2 (rouse_ok H1.out.slp (i : Int)) (rouse_few H1.out.few (i : Int))
    have q3 := ((Gr.refl w).drew.kp (k.foot e)).trans k2 (fun _ h => h) (fun y hy => .inl (mem_foot.2 (.inl (by simpa using hy))))
    obtain ⟨h4, k4⟩ := h2.rise hx
    have hp := mi_post HH.out h4 (q3.trans (kp_side h2 hx k4) (fun _ h => h) (fun _ h => .inl h)) foot_evs
    have hq4 : ((s.setQ (Kq.rouseL i s.slp)).rise i).evs.length ≤ 95000 := hq
    have HN := fun u => note_does k i x hx ((s.setQ (Kq.rouseL i s.slp)).rise i) ⟨11, 0, 0, 0, 0, 0, 0, false⟩ hq4 u
    obtain ⟨B2, sr2, -⟩ := h2.sr hx
    have cx : u.cell? ⟨x.g, 12, none⟩ = some (.int .i64 (s.side i).t.st) :=
      sr2.has.cell ((side_th sr2.th (j := 9) (by decide)).trans (thL_st sr2.th))
    have fx := sr2.has.free 12
    clear HC k2 q2 c0 c1 h2 q3 hH h4 k4 sr2 hq4
    go_upto_region 2 with (fail)
    change Code.wp _ _ _ _ (u.setCell ⟨x.g, 12, none⟩ (.int .i64 0))
    clear cx fx
    generalize u.setCell ⟨x.g, 12, none⟩ (.int .i64 0) = u4 at hp ⊢
    go_wp2_with (fail)
    refine ((HN _).go hp).mono ?_
    rintro r u5 ⟨⟨rfl, -⟩, hp5⟩
    have HP := hide hp5
    clear hp5 hp HN
    go_wp2_with (fail)
    go_end0
    exact ⟨rfl, HP.out⟩
  · have HF : Hid (s.rouse i = s) := by show s.rouse i = s; unfold Ms.rouse; rw [if_neg hi]
    rw [HF.out]
    have HI := hide (show decide (Kn.idx i s.slp < s.slp.length) = false by simpa using hi)
    clear hi HF
    go_enter Tryz.func21, Tryz.ntmps21
    go_wp2_with (fail)
    refine begin_late 12 [10, 11] (fun w' => w' = w.drew) (by kernel_rfl) rfl ?_
    have hH : w.drew = w.drew := rfl
    refine AnyL.pp 0 2 (.pointer (some ⟨x.g, 0, none⟩)) rfl rfl (by kernel_rfl) (fun _ _ _ h => h) (fun _ => by go_simp) hH ?_
    simp only [pz, pz0, pzs]
    refine AnyL.pp 1 3 (.pointer (some ⟨x.g, 0, none⟩)) rfl rfl (by kernel_rfl) (fun _ _ _ h => h) (fun _ => by go_simp) hH ?_
    simp only [pz, pz0, pzs]
    refine AnyL.pp 2 4 (.pointer (some ⟨x.g, 0, none⟩)) rfl rfl (by kernel_rfl) (fun _ _ _ h => h) (fun _ => by go_simp) hH ?_
    simp only [pz, pz0, pzs]
    refine AnyL.tt 3 5 (.pointer (some ⟨k.mb, 0, none⟩)) rfl rfl (by kernel_rfl) (fun _ _ _ h => h) (fun w' hw' => by subst hw'; go_simp) hH ?_
    simp only [pz, pz0, pzs]
    refine AnyL.pp 4 6 (.pointer (some ⟨k.mb, 0, none⟩)) rfl rfl (by kernel_rfl) (fun _ _ _ h => h) (fun _ => by go_simp) hH ?_
    simp only [pz, pz0, pzs]
    refine AnyL.pp 5 7 (.pointer (some ⟨k.mb, 2, none⟩)) rfl rfl (by kernel_rfl) (fun _ _ _ h => h) (fun _ => by go_simp) hH ?_
    simp only [pz, pz0, pzs]
    refine AnyL.pp 6 8 (.pointer (some ⟨x.g, 0, none⟩)) rfl rfl (by kernel_rfl) (fun _ _ _ h => h) (fun _ => by go_simp) hH ?_
    simp only [pz, pz0, pzs]
    refine AnyL.pp 7 9 (.pointer (some ⟨x.g, 0, none⟩)) rfl rfl (by kernel_rfl) (fun _ _ _ h => h) (fun _ => by go_simp) hH ?_
    simp only [pz, pz0, pzs]
    refine AnyL.pp 8 10 (.pointer (some ⟨x.g, 1, none⟩)) rfl rfl (by kernel_rfl) (fun _ _ _ h => h) (fun _ => by go_simp) hH ?_
    simp only [pz, pz0, pzs]
    refine AnyL.tt 9 11 (.int .i64 i) rfl rfl (by kernel_rfl) (fun _ _ _ h => h) (fun w' hw' => by subst hw'; go_simp) hH ?_
    simp only [pz, pz0, pzs]
    refine AnyL.one 10 (by kernel_rfl) rfl (by kernel_rfl) ?_
    have HC := Kq.rouse_calls H1.out.q (i : Int)
    rw [HI.out] at HC
    refine wp_call (some 12) rfl _ _ (by kernel_rfl) HC ?_
    rintro r u ⟨⟨rfl, k2⟩, q2⟩
    refine ⟨_, rfl, late (by kernel_rfl), ?_⟩
    refine AnyL.one 11 (by kernel_rfl) rfl (by kernel_rfl) ?_
    refine wp_value (some 13) rfl (.bool true) (by go_simp) ?_
    refine ⟨late (by kernel_rfl), ?_⟩
    refine AnyL.done (by kernel_rfl) ?_
    have h2 := H1.out.setQ k2 q2 (rouse_ok H1.out.slp (i : Int)) (rouse_few H1.out.few (i : Int))
    have q3 := ((Gr.refl w).drew.kp (k.foot e)).trans k2 (fun _ h => h) (fun y hy => .inl (mem_foot.2 (.inl (by simpa using hy))))
    have HL : Hid (Kq.rouseL i s.slp = s.slp) := by
      show Kq.rouseL i s.slp = s.slp
      exact rouse_no (by simpa using HI.out)
    rw [HL.out] at h2
    have HP := hide (mi_post HH.out h2 q3 foot_evs)
    clear HC k2 q2 c0 c1 h2 q3 hH
    go_wp2_with (fail)
    exact bodyPost_ret (results_none rfl _ _ _) rfl ⟨rfl, HP.out⟩
end Go.Proofs.YtfhplbmgjgfihaaGreatDoor.Mc
