/-
  What Pop answers of any cells that are a buffer. No condition but that.
-/
import Derived.Test.YthbenfnanhpcoaaGreatDoorZtahBfStep
import Derived.Test.YthbenfnanhpcoaaGreatDoorZtabLate
namespace Go.Proofs.YthbenfnanhpcoaaGreatDoor.Bf
open Go.ChangeShapes Go.WideShapes Go.ChangeAt Go.RowKit
set_option linter.unusedVariables false
set_option maxRecDepth 20000

/-- results: an entry, a buffer and something else -/
theorem results_ent {fn : Func} {p q s : Tmp} (h : fn.results = #[.cell p 93, .cell q 96, .tmp s]) (tmps : Array Value) (w : World) (f g : Nat) (x : Ent) (C : Array Value)
    (hp : tmps.getD p undef = .pointer (some ⟨f, 0, none⟩)) (hf : Has w f #[.int .i64 x.a, .int .u32 x.v] 93) (hq : tmps.getD q undef = .pointer (some ⟨g, 0, none⟩)) (hg : Has w g C 96) (hs : C.size = 35) :
    (results fn tmps).run Tryz.prog w = .ok (.tuple #[entV x, .agg C, tmps.getD s undef]) w := by
  have hp' : tmps[p]?.getD undef = .pointer (some ⟨f, 0, none⟩) := by simpa using hp
  have hq' : tmps[q]?.getD undef = .pointer (some ⟨g, 0, none⟩) := by simpa using hq
  simp [results, h, hp', hq', asAddr, run_loadVar_row w f 93 93 #[.int .i64 x.a, .int .u32 x.v] (0, 0) _ hf Tryz.underlying93 rfl infoE, run_loadVar_row w g 96 96 C (0, 0) _ hg Tryz.underlying96 rfl (infoB_of hs), entV]

set_option maxHeartbeats 400000 in
theorem pop_none {C : Array Value} {room : Nat} (h : IsB C room []) (w : World) :
    Calls Tryz.prog 63 #[.agg C] w fun e w' => e = .returned (.tuple #[entV ent0, .agg C, .bool false]) ∧ Gr w w' := by
  have HB := hide h
  have c34 : C[34]? = some (.int .i64 0) := by
    obtain ⟨r, first, hi⟩ := h
    rw [hi.cells]; exact bufC_count hi.ring _ _ _
  have HS := hide HB.out.size
  clear h
  obtain ⟨b0, b1, b2, bg⟩ := start3 w C #[.int .i64 0, .int .u32 0] 96 93 zeroC 96
  go_enter Tryz.func63, Tryz.ntmps63
  go_wp2_with (fail)
  refine begin_late 5 [3, 4] (fun w' => Has w' w.heap.size C 96) (by kernel_rfl) rfl ?_
  refine AnyL.takeP 0 (some 9) (.agg #[.int .i64 0, .int .u32 0]) rfl rfl (by kernel_rfl) (by kernel_rfl) (by kernel_rfl) (by kernel_rfl) (fun _ _ _ h => h) (by kernel_rfl) (fun w' => by go_simp) (fun _ => b0.drew) ?_
  simp only [Act.put, List.setIfInBounds_toArray, List.set_cons_zero, List.set_cons_succ]
  refine AnyL.take 1 (some 10) (.agg C) rfl rfl (by kernel_rfl) (by kernel_rfl) (by kernel_rfl) (by kernel_rfl) (fun _ _ _ h => h) (take_buf (by kernel_rfl) _ rfl w.heap.size rfl C (fun w h => h) HS.out) b0.drew ?_
  simp only [Act.put, List.setIfInBounds_toArray, List.set_cons_zero, List.set_cons_succ]
  refine AnyL.one 2 (by kernel_rfl) rfl (by kernel_rfl) ?_
  refine wp_store_ent rfl _ _ rfl (w.heap.size + 1) 0 rfl ent0 rfl _ 93 b1.drew (by decide) ?_
  refine ⟨fun _ => b0.drew.setCells (by omega) 0 _ _, ?_⟩
  have c1 : Has (_ : World) (w.heap.size + 1) #[.int .i64 0, .int .u32 0] 93 := ((b1.drew.set 0 (.int .i64 ent0.a)).set 1 (.int .u32 ent0.v))
  refine AnyL.one 3 (by kernel_rfl) rfl (by kernel_rfl) ?_
  refine wp_store_buf rfl _ _ rfl (w.heap.size + 1 + 1) rfl C rfl zeroC (b2.drew.setCells (by omega) 0 _ _) HS.out zeroC_size HB.out.one ?_
  refine ⟨late (by kernel_rfl), ?_⟩
  refine AnyL.one 4 (by kernel_rfl) rfl (by kernel_rfl) ?_
  refine wp_value (some 4) rfl (.bool false) (by go_simp) ?_
  refine ⟨late (by kernel_rfl), ?_⟩
  refine AnyL.done (by kernel_rfl) ?_
  simp only [Act.put, List.setIfInBounds_toArray, List.set_cons_zero, List.set_cons_succ]
  have d1 := c1.rowAside (k := w.heap.size + 1 + 1) (by omega) C
  have d2 := (b2.drew.setCells (k := w.heap.size + 1) (by omega) 0 (.int .i64 ent0.a) (.int .u32 ent0.v)).row C
  have dg := (bg.drew.setCells (g := w.heap.size + 1) (by omega) 0 (.int .i64 ent0.a) (.int .u32 ent0.v)).setRow (g := w.heap.size + 1 + 1) (by omega) C
  go_wp2_with (fail)
  exact bodyPost_ret (results_ent rfl _ _ (w.heap.size + 1) (w.heap.size + 1 + 1) ent0 C rfl d1 rfl d2 HS.out) rfl ⟨rfl, dg⟩

/-- the world behind four new blocks -/
theorem start4 (w : World) (C X : Array Value) (t u : TypeId) (Z : Array Value) (s : TypeId) (Y : Array Value) (v : TypeId) :
    Has ((((w.alloc (.cells C t)).alloc (.cells X u)).alloc (.cells Z s)).alloc (.cells Y v)) w.heap.size C t ∧
    Has ((((w.alloc (.cells C t)).alloc (.cells X u)).alloc (.cells Z s)).alloc (.cells Y v)) (w.heap.size + 1) X u ∧
    Has ((((w.alloc (.cells C t)).alloc (.cells X u)).alloc (.cells Z s)).alloc (.cells Y v)) (w.heap.size + 1 + 1) Z s ∧
    Has ((((w.alloc (.cells C t)).alloc (.cells X u)).alloc (.cells Z s)).alloc (.cells Y v)) (w.heap.size + 1 + 1 + 1) Y v ∧
    Gr w ((((w.alloc (.cells C t)).alloc (.cells X u)).alloc (.cells Z s)).alloc (.cells Y v)) := by
  obtain ⟨b0, b1, b2, bg⟩ := start3 w C X t u Z s
  have hn := Has.new (((w.alloc (.cells C t)).alloc (.cells X u)).alloc (.cells Z s)) Y v
  have hsz : (((w.alloc (.cells C t)).alloc (.cells X u)).alloc (.cells Z s)).heap.size = w.heap.size + 1 + 1 + 1 := by simp
  rw [hsz] at hn
  exact ⟨b0.alloc _ _, b1.alloc _ _, b2.alloc _ _, hn, bg.alloc _ _⟩

set_option maxHeartbeats 400000 in
theorem pop_some {C : Array Value} {room : Nat} {x : Ent} {l r : List Ent} {first : Nat} (h : Is C room (x :: l) r first) (w : World) :
    Calls Tryz.prog 63 #[.agg C] w fun e w' => e = .returned (.tuple #[entV x, .agg (bufC (r.set first ent0) room ((first + 1) % 16 : Nat) l.length), .bool true]) ∧ Gr w w' := by
  have HB := hide h
  have hr := h.ring
  have hf := h.fst
  have hm := h.most
  have hlen := h.len
  simp only [List.length_cons] at hlen
  have c33 : C[33]? = some (.int .i64 first) := by rw [h.cells]; exact bufC_first h.ring _ _ _
  have c34 : C[34]? = some (.int .i64 ((l.length : Int) + 1)) := by rw [h.cells]; exact bufC_count h.ring _ _ _
  have ca : C[first * 2]? = some (.int .i64 x.a) := by
    have := bufC_a h.ring room first (x :: l).length first hf
    rw [(is_pop h).1] at this
    rw [h.cells]; exact this
  have cv : C[first * 2 + 1]? = some (.int .u32 x.v) := by
    have := bufC_v h.ring room first (x :: l).length first hf
    rw [(is_pop h).1] at this
    rw [h.cells]; exact this
  have HC : Hid (C = bufC r room first ((l.length : Int) + 1)) := h.cells
  have HZ : Hid (C.size = 35) := by show C.size = 35; rw [h.cells]; exact bufC_size h.ring _ _ _
  have hf' : (first : Int) < 16 := by omega
  have hr1 : (r.set first ent0).length = 16 := by rw [List.length_set]; exact hr
  clear h
  have hC1 := bufC_set hr room first ((l.length : Int) + 1) first hf ent0
  rw [← HC.out] at hC1
  obtain ⟨b0, b1, b2, b3, bg⟩ := start4 w ((C.setIfInBounds (first * 2) (.int .i64 0)).setIfInBounds (first * 2 + 1) (.int .u32 0)) #[.int .i64 0, .int .u32 0] 96 93 zeroC 96 #[.int .i64 x.a, .int .u32 x.v] 93
  replace b0 := b0.of hC1
  have hz1 := bufC_size hr1 room first ((l.length : Int) + 1)
  have d33 := bufC_first hr1 room first ((l.length : Int) + 1)
  have D33 := hide d33
  have HZ1 := hide hz1
  clear hC1 hz1 d33
  go_enter Tryz.func63, Tryz.ntmps63
  go_wp2_with (first
    | (refine load_buf rfl _ rfl w.heap.size rfl (bufC (r.set first ent0) room first ((l.length : Int) + 1)) b0 HZ1.out ?_))
  refine (place_calls D33.out hf 1 (by omega) _).mono ?_
  rintro e w1 ⟨rfl, g1⟩
  replace b0 := b0.later g1
  replace b1 := b1.later g1
  replace b2 := b2.later g1
  replace b3 := b3.later g1
  replace bg := bg.trans g1
  clear g1 ca cv c33 c34
  have f33 := b0.free 33
  have f34 := b0.free 34
  have q33 := b0.cell D33.out
  have q34 := b0.cell (bufC_count hr1 _ _ _)
  generalize hpp : (first + 1) % 16 = p
  have HP := hide hpp
  have hp : p < 16 := by omega
  clear hpp
  go_wp2_with (fail)
  replace b0 := ((b0.set 33 (.int .i64 p)).set 34 (.int .i64 l.length)).of (by rw [bufC_set_first hr1, bufC_set_count hr1])
  replace b1 := (b1.aside (k := w.heap.size) (by omega) 33 (.int .i64 p)).aside (k := w.heap.size) (by omega) 34 (.int .i64 l.length)
  replace b2 := (b2.aside (k := w.heap.size) (by omega) 33 (.int .i64 p)).aside (k := w.heap.size) (by omega) 34 (.int .i64 l.length)
  replace b3 := (b3.aside (k := w.heap.size) (by omega) 33 (.int .i64 p)).aside (k := w.heap.size) (by omega) 34 (.int .i64 l.length)
  replace bg := (bg.setCell (a := ⟨w.heap.size, 33, none⟩) (Nat.le_refl _) (.int .i64 p)).setCell (a := ⟨w.heap.size, 34, none⟩) (Nat.le_refl _) (.int .i64 l.length)
  clear f33 f34 q33 q34
  generalize (w1.setCell ⟨w.heap.size, 33, none⟩ (.int .i64 p)).setCell ⟨w.heap.size, 34, none⟩ (.int .i64 l.length) = w2 at b0 b1 b2 b3 bg ⊢
  have hz2 := bufC_size hr1 room p l.length
  refine begin_late 5 [3, 4] (fun w' => Has w' w.heap.size (bufC (r.set first ent0) room p l.length) 96 ∧ Has w' (w.heap.size + 1 + 1 + 1) #[.int .i64 x.a, .int .u32 x.v] 93) (by kernel_rfl) rfl ?_
  refine AnyL.take 0 (some 28) (.agg #[.int .i64 x.a, .int .u32 x.v]) rfl rfl (by kernel_rfl) (by kernel_rfl) (by kernel_rfl) (by kernel_rfl) (fun _ _ _ h => h) (yields_held _ (by kernel_rfl) (fun w' hw' => by have h1 := hw'.2.cell (o := 0) rfl; have h2 := hw'.2.cell (o := 1) rfl; go_simp)) ⟨b0.drew, b3.drew⟩ ?_
  simp only [Act.put, List.setIfInBounds_toArray, List.set_cons_zero, List.set_cons_succ]
  refine AnyL.take 1 (some 29) (.agg (bufC (r.set first ent0) room p l.length)) rfl rfl (by kernel_rfl) (by kernel_rfl) (by kernel_rfl) (by kernel_rfl) (fun _ _ _ h => h) (take_buf (by kernel_rfl) _ rfl w.heap.size rfl _ (fun w h => h.1) hz2) ⟨b0.drew, b3.drew⟩ ?_
  simp only [Act.put, List.setIfInBounds_toArray, List.set_cons_zero, List.set_cons_succ]
  refine AnyL.one 2 (by kernel_rfl) rfl (by kernel_rfl) ?_
  refine wp_store_ent rfl _ _ rfl (w.heap.size + 1) 0 rfl x rfl _ 93 b1.drew (by decide) ?_
  refine ⟨fun _ => ⟨b0.drew.setCells (by omega) 0 _ _, b3.drew.setCells (by omega) 0 _ _⟩, ?_⟩
  have c1 : Has (_ : World) (w.heap.size + 1) #[.int .i64 x.a, .int .u32 x.v] 93 := ((b1.drew.set 0 (.int .i64 x.a)).set 1 (.int .u32 x.v))
  refine AnyL.one 3 (by kernel_rfl) rfl (by kernel_rfl) ?_
  refine wp_store_buf rfl _ _ rfl (w.heap.size + 1 + 1) rfl (bufC (r.set first ent0) room p l.length) rfl zeroC (b2.drew.setCells (by omega) 0 _ _) hz2 zeroC_size (bufC_one _ _ _ _) ?_
  refine ⟨late (by kernel_rfl), ?_⟩
  refine AnyL.one 4 (by kernel_rfl) rfl (by kernel_rfl) ?_
  refine wp_value (some 4) rfl (.bool true) (by go_simp) ?_
  refine ⟨late (by kernel_rfl), ?_⟩
  refine AnyL.done (by kernel_rfl) ?_
  simp only [Act.put, List.setIfInBounds_toArray, List.set_cons_zero, List.set_cons_succ]
  have d1 := c1.rowAside (k := w.heap.size + 1 + 1) (by omega) (bufC (r.set first ent0) room p l.length)
  have d2 := (b2.drew.setCells (k := w.heap.size + 1) (by omega) 0 (.int .i64 x.a) (.int .u32 x.v)).row (bufC (r.set first ent0) room p l.length)
  have dg := (bg.drew.setCells (g := w.heap.size + 1) (by omega) 0 (.int .i64 x.a) (.int .u32 x.v)).setRow (g := w.heap.size + 1 + 1) (by omega) (bufC (r.set first ent0) room p l.length)
  go_wp2_with (fail)
  have hpp := HP.out
  clear HP
  subst hpp
  exact bodyPost_ret (results_ent rfl _ _ (w.heap.size + 1) (w.heap.size + 1 + 1) x _ rfl d1 rfl d2 hz2) rfl ⟨rfl, dg⟩

/-- what Pop answers -/
def PopP (room : Nat) (l : List Ent) (C : Array Value) (w : World) (e : Ending) (w' : World) : Prop :=
  Gr w w' ∧ match l with
    | [] => e = .returned (.tuple #[entV ent0, .agg C, .bool false])
    | x :: l' => ∃ D, e = .returned (.tuple #[entV x, .agg D, .bool true]) ∧ IsB D room l'
theorem pop_calls {C : Array Value} {room : Nat} {l : List Ent} (h : IsB C room l) (w : World) :
    Calls Tryz.prog 63 #[.agg C] w (PopP room l C w) := by
  cases l with
  | nil => exact (pop_none h w).mono fun e w' hh => ⟨hh.2, hh.1⟩
  | cons x l =>
    obtain ⟨r, first, hi⟩ := h
    exact (pop_some hi w).mono fun e w' hh => ⟨hh.2, _, hh.1, _, _, (is_pop hi).2⟩
theorem pop_any {C : Array Value} {room : Nat} {l : List Ent} (h : IsB C room l) (w : World) :
    Calls Tryz.prog 63 #[.agg C] w fun e w' => ∃ D, (e = .returned (.tuple #[.agg #[.int .i64 (l.headD ent0).a, .int .u32 (l.headD ent0).v], .agg D, .bool (!l.isEmpty)]) ∧ Gr w w') ∧ IsB D room l.tail :=
  (pop_calls h w).mono fun e w' hh => by
    have h2 := hh.2
    cases l with
    | nil => exact ⟨C, ⟨h2, hh.1⟩, h⟩
    | cons x l =>
      obtain ⟨D, h3, h4⟩ := h2
      exact ⟨D, ⟨h3, hh.1⟩, h4⟩
theorem pop_yes {C : Array Value} {room : Nat} {x : Ent} {l : List Ent} (h : IsB C room (x :: l)) (w : World) :
    Calls Tryz.prog 63 #[.agg C] w fun e w' => ∃ D, (e = .returned (.tuple #[.agg #[.int .i64 x.a, .int .u32 x.v], .agg D, .bool true]) ∧ Gr w w') ∧ IsB D room l :=
  (pop_calls h w).mono fun e w' hh => by
    obtain ⟨D, h3, h4⟩ := hh.2
    exact ⟨D, ⟨h3, hh.1⟩, h4⟩
end Go.Proofs.YthbenfnanhpcoaaGreatDoor.Bf
