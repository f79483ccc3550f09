/-
  Buffers as blocks of a world: a block's cells known whole, read whole and written whole, in a row of operations and in a region that draws its order. No condition but what each law names.
-/
import Derived.Test.YtfhplbmgjgfihaaGreatDoorZzac
import Derived.Deep.RegionHeld3
import Derived.Deep.WholeRow
import Derived.BigQuiet
import Derived.Test.YtfhplbmgjgfihaaGreatDoorZzaa
namespace Go.Proofs.YtfhplbmgjgfihaaGreatDoor.Bf
open Go.ChangeShapes Go.WideShapes Go.ChangeAt Go.RowKit
set_option linter.unusedVariables false
set_option maxRecDepth 20000

/-- the world behind three new blocks -/
theorem start3 (w : World) (C X : Array Value) (t u : TypeId) (Z : Array Value) (s : TypeId) :
    Has (((w.alloc (.cells C t)).alloc (.cells X u)).alloc (.cells Z s)) w.heap.size C t ∧ Has (((w.alloc (.cells C t)).alloc (.cells X u)).alloc (.cells Z s)) (w.heap.size + 1) X u ∧
    Has (((w.alloc (.cells C t)).alloc (.cells X u)).alloc (.cells Z s)) (w.heap.size + 1 + 1) Z s ∧ Gr w (((w.alloc (.cells C t)).alloc (.cells X u)).alloc (.cells Z s)) := by
  refine ⟨((Has.new w C t).alloc _ _).alloc _ _, ?_, ?_, (((Gr.refl w).alloc _ _).alloc _ _).alloc _ _⟩
  · have := (Has.new (w.alloc (.cells C t)) X u).alloc Z s
    simpa using this
  · have := Has.new ((w.alloc (.cells C t)).alloc (.cells X u)) Z s
    simpa using this

theorem infoB : (Tryz.prog.info? 83).map (·.size) = some 35 := by kernel_rfl
theorem infoB_of {C : Array Value} (h : C.size = 35) : (Tryz.prog.info? 83).map (·.size) = some C.size := by rw [h]; exact infoB

/-- a buffer is read whole -/
theorem load_buf {ops : Array Oper} {rest : List Oper} {op : Oper} {a : Act} {w : World} {Q : Exit → Act → World → Prop} (hgd : op.guard = none) (x : Operand) (ho : op.op = .load 83 x)
    (g : Nat) (hx : a.eval x = .pointer (some ⟨g, 0, none⟩)) (C : Array Value) (hg : Has w g C 83) (hs : C.size = 35)
    (h : wpList Tryz.prog ops Q rest (a.put op.dst (.agg C)) w) : wpList Tryz.prog ops Q (op :: rest) a w :=
  wpList_load_row hgd 83 x ho g hx 83 C (0, 0) _ hg Tryz.underlying83 rfl (infoB_of hs) h
/-- a buffer is written whole -/
theorem store_buf {ops : Array Oper} {rest : List Oper} {op : Oper} {a : Act} {w : World} {Q : Exit → Act → World → Prop} (hgd : op.guard = none) (x y : Operand) (ho : op.op = .store 83 x y)
    (g : Nat) (hx : a.eval x = .pointer (some ⟨g, 0, none⟩)) (C : Array Value) (hy : a.eval y = .agg C) (D : Array Value) (hg : Has w g D 83) (hs : C.size = 35) (hd : D.size = 35) (h1 : C.all (·.oneCell') = true)
    (h : wpList Tryz.prog ops Q rest (a.put op.dst undef) (w.setRow g C)) : wpList Tryz.prog ops Q (op :: rest) a w :=
  wpList_store_row hgd 83 x y ho g C hx hy 83 D hg (infoB_of hs) (by omega) h1 h
/-- a buffer is written whole into the newest block -/
theorem store_new {ops : Array Oper} {rest : List Oper} {op : Oper} {a : Act} {w : World} {Q : Exit → Act → World → Prop} (hgd : op.guard = none) (hd0 : op.dst = none) (x y : Operand) (ho : op.op = .store 83 x y)
    (N : Nat) (hN : w.heap.size = N) (hx : a.eval x = .pointer (some ⟨N, 0, none⟩)) (C : Array Value) (hy : a.eval y = .agg C) (D : Array Value) (hs : C.size = 35) (hd : D.size = 35) (h1 : C.all (·.oneCell') = true)
    (h : wpList Tryz.prog ops Q rest a (w.alloc (.cells C 83))) : wpList Tryz.prog ops Q (op :: rest) a (w.alloc (.cells D 83)) := by
  subst hN
  refine wpList_store_row hgd 83 x y ho w.heap.size C hx hy 83 D (Has.new w D _) (infoB_of hs) (by omega) h1 ?_
  rw [World.setRow_alloc_new, hd0]
  exact h
/-- the same in a region that draws its order -/
theorem take_buf {ops : Array Oper} {S : World → Prop} {op : Oper} {a : Act} (hw : Region.wanted op (yielded ops a.tmps) = true) (x : Operand) (ho : op.op = .load 83 x)
    (g : Nat) (hx : a.eval x = .pointer (some ⟨g, 0, none⟩)) (C : Array Value) (hS : ∀ w, S w → Has w g C 83) (hs : C.size = 35) : YieldsIf Tryz.prog ops S op (.agg C) a :=
  .inl ⟨hw, fun w hw' => by
    unfold execOp
    simp only [ho, hx, Instr.loadAt, Instr.sureAddr, Sem.run_bind, Sem.run_pure, Result.andThen_ok, run_loadVar_row w g 83 83 C (0, 0) _ (hS w hw') Tryz.underlying83 rfl (infoB_of hs)]⟩
theorem wp_store_buf {op : Oper} (hd0 : op.dst = none) {a : Act} {w : World} {K : Act → World → Prop} {Q : Exit → Act → World → Prop} (x y : Operand) (ho : op.op = .store 83 x y)
    (g : Nat) (hx : a.eval x = .pointer (some ⟨g, 0, none⟩)) (C : Array Value) (hy : a.eval y = .agg C) (D : Array Value) (hg : Has w g D 83) (hs : C.size = 35) (hd : D.size = 35) (h1 : C.all (·.oneCell') = true)
    (h : K a (w.setRow g C)) : op.wp Tryz.prog a w K Q :=
  wp_store_row 83 x y ho g C hx hy 83 D hg (infoB_of hs) (by omega) h1 (by rw [hd0]; exact h)

/-- results: a buffer and something else -/
theorem results_buf {fn : Func} {p q : Tmp} (h : fn.results = #[.cell p 83, .tmp q]) (tmps : Array Value) (w : World) (g : Nat) (C : Array Value)
    (hp : tmps.getD p undef = .pointer (some ⟨g, 0, none⟩)) (hg : Has w g C 83) (hs : C.size = 35) :
    (results fn tmps).run Tryz.prog w = .ok (.tuple #[.agg C, tmps.getD q undef]) w := by
  have hp' : tmps[p]?.getD undef = .pointer (some ⟨g, 0, none⟩) := by simpa using hp
  simp [results, h, hp', asAddr, run_loadVar_row w g 83 83 C (0, 0) _ hg Tryz.underlying83 rfl (infoB_of hs)]

theorem IsB.size {C : Array Value} {room : Nat} {l : List Ent} (h : IsB C room l) : C.size = 35 := by
  obtain ⟨r, f, h⟩ := h; rw [h.cells]; exact bufC_size h.ring _ _ _
theorem IsB.one {C : Array Value} {room : Nat} {l : List Ent} (h : IsB C room l) : C.all (·.oneCell') = true := by
  obtain ⟨r, f, h⟩ := h; rw [h.cells]; exact bufC_one _ _ _ _

end Go.Proofs.YtfhplbmgjgfihaaGreatDoor.Bf
namespace Go.Proofs.YtfhplbmgjgfihaaGreatDoor
open Go.ChangeShapes Go.WideShapes Go.ChangeAt Go.RowKit
set_option linter.unusedVariables false
set_option maxRecDepth 20000
open Go.Proofs.YtfhplbmgjgfihaaGreatDoor.Bf
/-- an entry is written into the ring -/
theorem Has.setEnt {w : World} {g : Nat} {t : TypeId} {r : List Ent} {room first count : Int} (h : Has w g (bufC r room first count) t) (hr : r.length = 16) (p : Nat) (hp : p < 16) (x : Ent) :
    Has (w.setCells g (p * 2) [.int .i64 x.a, .int .u32 x.v]) g (bufC (r.set p x) room first count) t := by
  have := (h.set (p * 2) (.int .i64 x.a)).set (p * 2 + 1) (.int .u32 x.v)
  rw [bufC_set hr room first count p hp x] at this
  exact this
end Go.Proofs.YtfhplbmgjgfihaaGreatDoor
namespace Go.Proofs.YtfhplbmgjgfihaaGreatDoor.Bf
open Go.ChangeShapes Go.WideShapes Go.ChangeAt Go.RowKit
set_option linter.unusedVariables false
set_option maxRecDepth 20000
end Go.Proofs.YtfhplbmgjgfihaaGreatDoor.Bf
namespace Go.Proofs.YtfhplbmgjgfihaaGreatDoor
open Go.ChangeShapes Go.WideShapes Go.ChangeAt Go.RowKit
set_option linter.unusedVariables false
set_option maxRecDepth 20000
open Go.Proofs.YtfhplbmgjgfihaaGreatDoor.Bf
theorem Has.setCells {w : World} {g k : Nat} {C : Array Value} {t : TypeId} (h : Has w g C t) (hk : g ≠ k) (o : Nat) (x y : Value) : Has (w.setCells k o [x, y]) g C t := (h.aside hk o x).aside hk (o + 1) y
end Go.Proofs.YtfhplbmgjgfihaaGreatDoor
namespace Go.Proofs.YtfhplbmgjgfihaaGreatDoor.Bf
open Go.ChangeShapes Go.WideShapes Go.ChangeAt Go.RowKit
set_option linter.unusedVariables false
set_option maxRecDepth 20000
end Go.Proofs.YtfhplbmgjgfihaaGreatDoor.Bf
namespace Go.Proofs.YtfhplbmgjgfihaaGreatDoor
open Go.ChangeShapes Go.WideShapes Go.ChangeAt Go.RowKit
set_option linter.unusedVariables false
set_option maxRecDepth 20000
open Go.Proofs.YtfhplbmgjgfihaaGreatDoor.Bf
theorem Gr.setCells {w w' : World} (h : Gr w w') {g : Nat} (hg : w.heap.size ≤ g) (o : Nat) (x y : Value) : Gr w (w'.setCells g o [x, y]) := (h.setCell hg x).setCell hg y
end Go.Proofs.YtfhplbmgjgfihaaGreatDoor
namespace Go.Proofs.YtfhplbmgjgfihaaGreatDoor.Bf
open Go.ChangeShapes Go.WideShapes Go.ChangeAt Go.RowKit
set_option linter.unusedVariables false
set_option maxRecDepth 20000
theorem infoE : (Tryz.prog.info? 77).map (·.size) = some 2 := by kernel_rfl
theorem wp_store_ent {op : Oper} (hd0 : op.dst = none) {a : Act} {w : World} {K : Act → World → Prop} {Q : Exit → Act → World → Prop} (x y : Operand) (ho : op.op = .store 77 x y)
    (g o : Nat) (hx : a.eval x = .pointer (some ⟨g, o, none⟩)) (e : Ent) (hy : a.eval y = .agg #[.int .i64 e.a, .int .u32 e.v]) (C : Array Value) (t : TypeId) (hg : Has w g C t) (hs : o + 2 ≤ C.size)
    (h : K a (w.setCells g o [.int .i64 e.a, .int .u32 e.v])) : op.wp Tryz.prog a w K Q :=
  wp_store_mid 77 x y ho g o #[.int .i64 e.a, .int .u32 e.v] hx hy (hg.there o 2 hs) infoE (by simp [Value.oneCell']) (by rw [hd0]; exact h)
theorem store_ent {ops : Array Oper} {rest : List Oper} {op : Oper} {a : Act} {w : World} {Q : Exit → Act → World → Prop} (hgd : op.guard = none) (hd0 : op.dst = none) (x y : Operand) (ho : op.op = .store 77 x y)
    (g o : Nat) (hx : a.eval x = .pointer (some ⟨g, o, none⟩)) (e : Ent) (hy : a.eval y = .agg #[.int .i64 e.a, .int .u32 e.v]) (C : Array Value) (t : TypeId) (hg : Has w g C t) (hs : o + 2 ≤ C.size)
    (h : wpList Tryz.prog ops Q rest a (w.setCells g o [.int .i64 e.a, .int .u32 e.v])) : wpList Tryz.prog ops Q (op :: rest) a w :=
  wpList_plain hgd fun _ hK => wp_store_ent hd0 x y ho g o hx e hy C t hg hs (hK _ _ h)

theorem place_int {C : Array Value} {first : Nat} (hc : C[33]? = some (.int .i64 first)) (hf : first < 16) (n : Nat) (hn : n ≤ 16) (m : Int) (hm : m = n) (w : World) :
    Calls Tryz.prog 65 #[.agg C, .int .i64 m] w fun e w' => e = .returned (.int .i64 ((first + n) % 16 : Nat)) ∧ Gr w w' := by
  subst hm
  exact place_calls hc hf n hn w
/-- the cells of the entry of an age -/
theorem Is.ent {C : Array Value} {room : Nat} {l r : List Ent} {first : Nat} (h : Is C room l r first) (i : Nat) (hi : i < l.length) :
    C[(first + i) % 16 * 2]? = some (.int .i64 (l.getD i ent0).a) ∧ C[(first + i) % 16 * 2 + 1]? = some (.int .u32 (l.getD i ent0).v) := by
  have hp : (first + i) % 16 < 16 := by omega
  have e := h.at_ i hi
  unfold ringAt at e
  rw [e, h.cells]
  exact ⟨bufC_a h.ring _ _ _ _ hp, bufC_v h.ring _ _ _ _ hp⟩

/-- the cells of the zero buffer -/
def zeroC : Array Value := bufC (List.replicate 16 ent0) 0 0 0
theorem zeroC_size : zeroC.size = 35 := rfl
end Go.Proofs.YtfhplbmgjgfihaaGreatDoor.Bf
namespace Go.Proofs.YtfhplbmgjgfihaaGreatDoor.Bf
open Go.ChangeShapes Go.WideShapes Go.ChangeAt Go.RowKit
set_option linter.unusedVariables false
set_option maxRecDepth 20000
set_option maxHeartbeats 400000 in
theorem put_full {C : Array Value} {room : Nat} {l : List Ent} (h : IsB C room l) (hl : l.length = room) (x : Ent) (w : World) :
    Calls Tryz.prog 73 #[.agg C, entV x] w fun e w' => e = .returned (.tuple #[.agg C, .bool false]) ∧ Gr w w' := by
  have HB := hide h
  have hfull : fullB l room = true := by unfold fullB; rw [hl]; simp
  unfold entV
  clear h
  obtain ⟨a0, a1, a2, ag⟩ := start3 w C #[.int .i64 x.a, .int .u32 x.v] 83 77 zeroC 83
  go_enter Tryz.func73, Tryz.ntmps73
  go_wp2_with (first
    | (refine load_buf rfl _ rfl w.heap.size rfl C a0 HB.out.size ?_))
  refine (full_calls HB.out _).mono ?_
  rintro e w1 ⟨rfl, g1⟩
  replace a0 := a0.later g1
  replace a2 := a2.later g1
  replace ag := ag.trans g1
  clear a1 g1
  go_wp2_with (first
    | (refine load_buf rfl _ rfl w.heap.size rfl C a0 HB.out.size ?_)
    | (refine store_buf rfl _ _ rfl (w.heap.size + 1 + 1) rfl C rfl zeroC a2 HB.out.size zeroC_size HB.out.one ?_))
  exact bodyPost_ret (results_buf rfl _ _ (w.heap.size + 1 + 1) C rfl (a2.row C) HB.out.size) rfl ⟨rfl, ag.setRow (by omega) _⟩

set_option maxHeartbeats 400000 in
theorem put_room {C : Array Value} {room : Nat} {l r : List Ent} {first : Nat} (h : Is C room l r first) (hl : l.length < room) (x : Ent) (w : World) :
    Calls Tryz.prog 73 #[.agg C, entV x] w fun e w' => e = .returned (.tuple #[.agg (bufC (r.set ((first + l.length) % 16) x) room first (l.length + 1)), .bool true]) ∧ Gr w w' := by
  have HB := hide h
  have HI : Hid (IsB C room l) := ⟨r, first, h⟩
  have hfull : fullB l room = false := by unfold fullB; simp; omega
  have c33 : C[33]? = some (.int .i64 first) := by rw [h.cells]; exact bufC_first h.ring _ _ _
  have c34 : C[34]? = some (.int .i64 l.length) := by rw [h.cells]; exact bufC_count h.ring _ _ _
  have hf := h.fst
  have hm := h.most
  have hs := HI.out.size
  unfold entV
  clear h
  obtain ⟨a0, a1, a2, ag⟩ := start3 w C #[.int .i64 x.a, .int .u32 x.v] 83 77 zeroC 83
  go_enter Tryz.func73, Tryz.ntmps73
  go_wp2_with (first
    | (refine load_buf rfl _ rfl w.heap.size rfl C a0 HI.out.size ?_))
  refine (full_calls HI.out _).mono ?_
  rintro e w1 ⟨rfl, g1⟩
  replace a0 := a0.later g1
  replace a1 := a1.later g1
  replace a2 := a2.later g1
  replace ag := ag.trans g1
  clear g1
  have d34 := a0.cell c34
  go_wp2_with (fail)
  refine begin_late 8 [7] (fun w' => Has w' w.heap.size C 83 ∧ Has w' (w.heap.size + 1) #[.int .i64 x.a, .int .u32 x.v] 77 ∧ Has w' (w.heap.size + 1 + 1) zeroC 83 ∧ Gr w w') (by kernel_rfl) rfl ?_
  have hH := And.intro a0.drew (And.intro a1.drew (And.intro a2.drew ag.drew))
  refine AnyL.take 0 (some 9) (.agg C) rfl rfl (by kernel_rfl) (by kernel_rfl) (by kernel_rfl) (by kernel_rfl) (fun _ _ _ h => h) (take_buf (by kernel_rfl) _ rfl w.heap.size rfl C (fun w h => h.1) hs) hH ?_
  simp only [pz, pz0, pzs]
  refine AnyL.takeP 1 (some 10) (.pointer (some ⟨w.heap.size, 34, none⟩)) rfl rfl (by kernel_rfl) (by kernel_rfl) (by kernel_rfl) (by kernel_rfl) (fun _ _ _ h => h) (by kernel_rfl) (fun w' => by go_simp) (fun _ => hH) ?_
  simp only [pz, pz0, pzs]
  refine AnyL.take 2 (some 11) (.int .i64 l.length) rfl rfl (by kernel_rfl) (by kernel_rfl) (by kernel_rfl) (by kernel_rfl) (fun _ _ _ h => h) (yields_held _ (by kernel_rfl) (fun w' hw' => by have := hw'.1.cell c34; go_simp)) hH ?_
  simp only [pz, pz0, pzs]
  refine AnyL.take 4 (some 13) (.agg #[.int .i64 x.a, .int .u32 x.v]) rfl rfl (by kernel_rfl) (by kernel_rfl) (by kernel_rfl) (by kernel_rfl) (fun _ _ _ h => h) (yields_held _ (by kernel_rfl) (fun w' hw' => by have h1 := hw'.2.1.cell (o := 0) rfl; have h2 := hw'.2.1.cell (o := 1) rfl; go_simp)) hH ?_
  simp only [pz, pz0, pzs]
  refine AnyL.takeP 5 (some 14) (.pointer (some ⟨w.heap.size, 0, none⟩)) rfl rfl (by kernel_rfl) (by kernel_rfl) (by kernel_rfl) (by kernel_rfl) (fun _ _ _ h => h) (by kernel_rfl) (fun w' => by go_simp) (fun _ => hH) ?_
  simp only [pz, pz0, pzs]
  refine AnyL.one 3 (by kernel_rfl) rfl (by kernel_rfl) ?_
  refine wp_call (some 12) rfl 65 #[.agg C, .int .i64 l.length] (by kernel_rfl) (place_calls c33 hf l.length (by omega) _) ?_
  rintro e w2 ⟨rfl, g2⟩
  refine ⟨_, rfl, ?_⟩
  replace hH := And.intro (hH.1.later g2) (And.intro (hH.2.1.later g2) (And.intro (hH.2.2.1.later g2) (hH.2.2.2.trans g2)))
  refine ⟨fun _ => hH, ?_⟩
  simp only [pz, pz0, pzs]
  generalize hpp : (first + l.length) % 16 = p
  have hp : p < 16 := by omega
  have hp' : (p : Int) < 16 := by omega
  refine AnyL.takeP 6 (some 15) (.pointer (some ⟨w.heap.size, p * 2, none⟩)) rfl rfl (by kernel_rfl) (by kernel_rfl) (by kernel_rfl) (by kernel_rfl) (fun _ _ _ h => h) (by kernel_rfl) (fun w' => by go_simp) (fun _ => hH) ?_
  simp only [pz, pz0, pzs]
  have e0 : Has w2 w.heap.size (bufC r room first l.length) 83 := by rw [← HB.out.cells]; exact hH.1
  refine AnyL.one 7 (by kernel_rfl) rfl (by kernel_rfl) ?_
  refine wp_store_ent rfl _ _ rfl w.heap.size (p * 2) rfl x rfl C 83 hH.1 (by omega) ?_
  refine ⟨late (by kernel_rfl), ?_⟩
  refine AnyL.done (by kernel_rfl) ?_
  replace e0 := e0.setEnt HB.out.ring p hp x
  replace a2 := hH.2.2.1.setCells (k := w.heap.size) (by omega) (p * 2) (.int .i64 x.a) (.int .u32 x.v)
  replace ag := hH.2.2.2.setCells (Nat.le_refl _) (p * 2) (.int .i64 x.a) (.int .u32 x.v)
  generalize w2.setCells w.heap.size (p * 2) [.int .i64 x.a, .int .u32 x.v] = w3 at e0 a2 ag ⊢
  have hr' : (r.set p x).length = 16 := by rw [List.length_set]; exact HB.out.ring
  have k1 := e0.cell (bufC_count hr' _ _ _)
  have k2 := e0.free 34
  have s0 := e0.set 34 (.int .i64 ((l.length : Int) + 1))
  rw [bufC_set_count hr'] at s0
  have s2 := a2.aside (k := w.heap.size) (by omega) 34 (.int .i64 ((l.length : Int) + 1))
  have hz := bufC_size hr' room first (l.length + 1)
  have HP := hide hpp
  clear hpp c33 c34 a0 a1 d34 g2 hH e0 a2
  go_wp2_with (first
    | (refine load_buf rfl _ rfl w.heap.size rfl _ s0 hz ?_)
    | (refine store_buf rfl _ _ rfl (w.heap.size + 1 + 1) rfl _ rfl zeroC s2 hz zeroC_size (bufC_one _ _ _ _) ?_))
  have hpp := HP.out
  clear HP
  subst hpp
  exact bodyPost_ret (results_buf rfl _ _ (w.heap.size + 1 + 1) _ rfl (s2.row _) hz) rfl ⟨rfl, (ag.setCell (Nat.le_refl _) _).setRow (by omega) _⟩

/-- what Put answers -/
def PutP (room : Nat) (l : List Ent) (x : Ent) (C : Array Value) (w : World) (e : Ending) (w' : World) : Prop :=
  Gr w w' ∧ if l.length < room then ∃ D, e = .returned (.tuple #[.agg D, .bool true]) ∧ IsB D room (l ++ [x]) else e = .returned (.tuple #[.agg C, .bool false])
theorem put_calls {C : Array Value} {room : Nat} {l : List Ent} (h : IsB C room l) (x : Ent) (w : World) :
    Calls Tryz.prog 73 #[.agg C, entV x] w (PutP room l x C w) := by
  obtain ⟨r, first, hi⟩ := id h
  by_cases hl : l.length < room
  · refine (put_room hi hl x w).mono fun e w' hh => ⟨hh.2, ?_⟩
    rw [if_pos hl]
    exact ⟨_, hh.1, _, _, is_put hi hl x⟩
  · have := hi.len
    refine (put_full h (by omega) x w).mono fun e w' hh => ⟨hh.2, ?_⟩
    rw [if_neg hl]
    exact hh.1
/-- what a put leaves -/
def putL (room : Nat) (l : List Ent) (x : Ent) : List Ent := if l.length < room then l ++ [x] else l
theorem put_any {C : Array Value} {room : Nat} {l : List Ent} (h : IsB C room l) (x : Ent) (w : World) :
    Calls Tryz.prog 73 #[.agg C, .agg #[.int .i64 x.a, .int .u32 x.v]] w fun e w' => ∃ D, (e = .returned (.tuple #[.agg D, .bool (decide (l.length < room))]) ∧ Gr w w') ∧ IsB D room (putL room l x) :=
  (put_calls h x w).mono fun e w' hh => by
    have h2 := hh.2
    unfold putL
    by_cases hl : l.length < room
    · rw [if_pos hl] at h2
      obtain ⟨D, h3, h4⟩ := h2
      refine ⟨D, ⟨?_, hh.1⟩, by rw [if_pos hl]; exact h4⟩
      rw [h3]; simp [hl]
    · rw [if_neg hl] at h2
      refine ⟨C, ⟨?_, hh.1⟩, by rw [if_neg hl]; exact h⟩
      rw [h2]; simp [hl]
end Go.Proofs.YtfhplbmgjgfihaaGreatDoor.Bf
