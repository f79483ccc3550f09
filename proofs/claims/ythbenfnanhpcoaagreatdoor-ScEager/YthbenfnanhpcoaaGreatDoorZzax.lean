/-
  What step of a side does. No condition but what each law names.
-/
import Derived.Test.YthbenfnanhpcoaaGreatDoorZzaw
import Derived.Test.YthbenfnanhpcoaaGreatDoorZzas
import Derived.Test.YthbenfnanhpcoaaGreatDoorZzae
import Derived.Test.YthbenfnanhpcoaaGreatDoorZzam
namespace Go.Proofs.YthbenfnanhpcoaaGreatDoor.Mc
open Go.ChangeShapes Go.WideShapes Go.ChangeAt Go.RowKit
set_option linter.unusedVariables false
set_option maxRecDepth 20000

theorem infoT10 {t : Th} (h : ThOk t) : (Tryz.prog.info? 42).map (·.size) = some (thL t).length := by rw [thL_len h]; kernel_rfl
theorem infoP11 (z : Int) (f : Mp.Fns) : (Tryz.prog.info? 103).map (·.size) = some (Mp.portA z f).toList.length := by
  show _ = some 11
  kernel_rfl
set_option maxHeartbeats 1000000 in
theorem step_does (k : Mk) (i : Nat) (x : Sk) (hx : k.ss[i]? = some x) (s : Ms) (hq : 1000 ≤ s.fuel) (hc : (s.side i).code.length ≤ 100000) (w : World) :
    Does (MI k) s w 39 #[.pointer (some ⟨x.g, 0, none⟩)] (.tuple #[]) (s.step k.N i) := by
  rintro F ⟨e, h, rfl⟩
  have h1 := h.later (Gr.refl w).drew
  obtain ⟨B, sr, -⟩ := h1.sr hx
  have hs := h1.side i x hx
  obtain ⟨ad, cap, hcv, hrow, -, -, -⟩ := own_at hs.code
  have HC := Mp.step_does (port_ok k i x hx h.most) hs.th (s.side i).code hs.ins (by omega) ad cap s hq w.drew hrow (k.foot e) ⟨e, h1, rfl⟩
  have HH := hide h
  have rT := sr.rT
  have rP := sr.rP
  have c2 := sr.c2
  rw [hcv] at c2
  have iT := infoT10 hs.th
  have iP := infoP11 k.N (fnsT x.g)
  have HST : Hid (s.step k.N i = (stepM (port k.N i) (s.side i).t (s.side i).code s).2.setT i (stepM (port k.N i) (s.side i).t (s.side i).code s).1) := by show _ = _; rfl
  rw [HST.out]
  have HT : Hid (ThOk (stepM (port k.N i) (s.side i).t (s.side i).code s).1) := by
    exact Mp.stepM_ok (port_ok k i x hx h.most) ⟨e, h1, rfl⟩ hs.th _ hs.ins
  generalize stepM (port k.N i) (s.side i).t (s.side i).code s = r2 at HC HT ⊢
  obtain ⟨t2, s2⟩ := r2
  clear h h1 sr hs
  go_enter Tryz.func39, Tryz.ntmps39
  go_wp2_with (fail)
  refine begin_late 17 [13, 14, 15, 16] (fun w' => w' = w.drew) (by kernel_rfl) rfl ?_
  have hH : w.drew = w.drew := rfl
  refine AnyL.takeP 0 (some 2) (.pointer (some ⟨x.g, 0, none⟩)) rfl rfl (by kernel_rfl) (by kernel_rfl) (by kernel_rfl) (by kernel_rfl) (fun _ _ _ h => h) (by kernel_rfl) (fun w' => by go_simp) (fun _ => hH) ?_
  simp only [Act.put, List.setIfInBounds_toArray, List.set_cons_zero, List.set_cons_succ]
  refine AnyL.takeP 1 (some 3) (.pointer (some ⟨x.g, 0, none⟩)) rfl rfl (by kernel_rfl) (by kernel_rfl) (by kernel_rfl) (by kernel_rfl) (fun _ _ _ h => h) (by kernel_rfl) (fun w' => by go_simp) (fun _ => hH) ?_
  simp only [Act.put, List.setIfInBounds_toArray, List.set_cons_zero, List.set_cons_succ]
  refine AnyL.takeP 2 (some 4) (.pointer (some ⟨x.g, 0, none⟩)) rfl rfl (by kernel_rfl) (by kernel_rfl) (by kernel_rfl) (by kernel_rfl) (fun _ _ _ h => h) (by kernel_rfl) (fun w' => by go_simp) (fun _ => hH) ?_
  simp only [Act.put, List.setIfInBounds_toArray, List.set_cons_zero, List.set_cons_succ]
  refine AnyL.takeP 3 (some 5) (.pointer (some ⟨x.g, 3, none⟩)) rfl rfl (by kernel_rfl) (by kernel_rfl) (by kernel_rfl) (by kernel_rfl) (fun _ _ _ h => h) (by kernel_rfl) (fun w' => by go_simp) (fun _ => hH) ?_
  simp only [Act.put, List.setIfInBounds_toArray, List.set_cons_zero, List.set_cons_succ]
  refine AnyL.take 4 (some 6) (.agg (thC (s.side i).t)) rfl rfl (by kernel_rfl) (by kernel_rfl) (by kernel_rfl) (by kernel_rfl) (fun _ _ _ h => h) (yieldsIf_load_mid (by kernel_rfl) 42 _ rfl x.g 3 rfl (thL (s.side i).t) _ (fun w' hw' => by subst hw'; exact rT) Tryz.underlying42 rfl iT) hH ?_
  simp only [Act.put, List.setIfInBounds_toArray, List.set_cons_zero, List.set_cons_succ]
  refine AnyL.takeP 5 (some 7) (.pointer (some ⟨x.g, 0, none⟩)) rfl rfl (by kernel_rfl) (by kernel_rfl) (by kernel_rfl) (by kernel_rfl) (fun _ _ _ h => h) (by kernel_rfl) (fun w' => by go_simp) (fun _ => hH) ?_
  simp only [Act.put, List.setIfInBounds_toArray, List.set_cons_zero, List.set_cons_succ]
  refine AnyL.takeP 6 (some 8) (.pointer (some ⟨x.g, 0, none⟩)) rfl rfl (by kernel_rfl) (by kernel_rfl) (by kernel_rfl) (by kernel_rfl) (fun _ _ _ h => h) (by kernel_rfl) (fun w' => by go_simp) (fun _ => hH) ?_
  simp only [Act.put, List.setIfInBounds_toArray, List.set_cons_zero, List.set_cons_succ]
  refine AnyL.takeP 7 (some 9) (.pointer (some ⟨x.g, 2, none⟩)) rfl rfl (by kernel_rfl) (by kernel_rfl) (by kernel_rfl) (by kernel_rfl) (fun _ _ _ h => h) (by kernel_rfl) (fun w' => by go_simp) (fun _ => hH) ?_
  simp only [Act.put, List.setIfInBounds_toArray, List.set_cons_zero, List.set_cons_succ]
  refine AnyL.take 8 (some 10) (.slice ad (s.side i).code.length cap) rfl rfl (by kernel_rfl) (by kernel_rfl) (by kernel_rfl) (by kernel_rfl) (fun _ _ _ h => h) (yields_held _ (by kernel_rfl) (fun w' hw' => by subst hw'; go_simp)) hH ?_
  simp only [Act.put, List.setIfInBounds_toArray, List.set_cons_zero, List.set_cons_succ]
  refine AnyL.takeP 9 (some 11) (.pointer (some ⟨x.g, 0, none⟩)) rfl rfl (by kernel_rfl) (by kernel_rfl) (by kernel_rfl) (by kernel_rfl) (fun _ _ _ h => h) (by kernel_rfl) (fun w' => by go_simp) (fun _ => hH) ?_
  simp only [Act.put, List.setIfInBounds_toArray, List.set_cons_zero, List.set_cons_succ]
  refine AnyL.takeP 10 (some 12) (.pointer (some ⟨x.g, 0, none⟩)) rfl rfl (by kernel_rfl) (by kernel_rfl) (by kernel_rfl) (by kernel_rfl) (fun _ _ _ h => h) (by kernel_rfl) (fun w' => by go_simp) (fun _ => hH) ?_
  simp only [Act.put, List.setIfInBounds_toArray, List.set_cons_zero, List.set_cons_succ]
  refine AnyL.takeP 11 (some 13) (.pointer (some ⟨x.g, 48, none⟩)) rfl rfl (by kernel_rfl) (by kernel_rfl) (by kernel_rfl) (by kernel_rfl) (fun _ _ _ h => h) (by kernel_rfl) (fun w' => by go_simp) (fun _ => hH) ?_
  simp only [Act.put, List.setIfInBounds_toArray, List.set_cons_zero, List.set_cons_succ]
  refine AnyL.take 12 (some 14) (.agg (Mp.portA k.N (fnsT x.g))) rfl rfl (by kernel_rfl) (by kernel_rfl) (by kernel_rfl) (by kernel_rfl) (fun _ _ _ h => h) (yieldsIf_load_mid (by kernel_rfl) 103 _ rfl x.g 48 rfl (Mp.portA k.N (fnsT x.g)).toList _ (fun w' hw' => by subst hw'; exact rP) Tryz.underlying103 rfl iP) hH ?_
  simp only [Act.put, List.setIfInBounds_toArray, List.set_cons_zero, List.set_cons_succ]
  refine AnyL.one 13 (by kernel_rfl) rfl (by kernel_rfl) ?_
  refine wp_call (some 15) rfl _ _ (by kernel_rfl) HC ?_
  rintro r u ⟨rfl, p⟩
  refine ⟨_, rfl, late (by kernel_rfl), ?_⟩
  obtain ⟨F', ⟨e2, h2, rfl⟩, kp, nn, -, -⟩ := p
  obtain ⟨B2, sr2, iB2⟩ := h2.sr hx
  have q := Kq.kp_setCells (b := x.g) (thL t2) 3 u
  have hB := Kq.setCells_has (thL t2) 3 u _ sr2.has
  rw [side_setT sr2.th HT.out] at hB
  have h4 := h2.setS hx q (B := B2) (d := ⟨(s2.side i).code, t2, (s2.side i).buf⟩) hB iB2 rfl HT.out (h2.side i x hx).ent
  have thr := sr2.has.there 3 (thC t2).size (by rw [side_size sr2.th sr2.sz]; unfold thC; rw [List.size_toArray, thL_len HT.out]; omega)
  have i2 : (Tryz.prog.info? 42).map (·.size) = some (thC t2).size := by unfold thC; rw [List.size_toArray]; exact infoT10 HT.out
  have o2 : (thC t2).all (·.oneCell') = true := by
    simp [thC, thL, Value.oneCell']
  have kp3 := (((Gr.refl w).drew.kp (k.foot e)).trans kp (fun _ h => h) (fun _ h => .inl h))
  have hp := mi_post HH.out h4 (kp3.trans q (fun _ h => h) (fun y hy => (nn y (mem_foot.2 (.inr (.inr (.inr (.inr (.inl ⟨x, mem_get hx, by rw [show y = x.g by simpa using hy]⟩))))))).1)) (fun y hy => (nn y (mem_foot.2 (.inr (.inr (.inr (.inl hy)))))).1)
  have HP := hide hp
  refine AnyL.one 14 (by kernel_rfl) rfl (by kernel_rfl) ?_
  refine wp_value (some 16) rfl (.pointer (some ⟨x.g, 0, none⟩)) (by go_simp) ?_
  refine ⟨late (by kernel_rfl), ?_⟩
  refine AnyL.one 15 (by kernel_rfl) rfl (by kernel_rfl) ?_
  refine wp_value (some 17) rfl (.pointer (some ⟨x.g, 3, none⟩)) (by go_simp) ?_
  refine ⟨late (by kernel_rfl), ?_⟩
  refine AnyL.one 16 (by kernel_rfl) rfl (by kernel_rfl) ?_
  refine wp_store_mid 42 _ _ rfl x.g 3 (thC t2) (by kernel_rfl) (by kernel_rfl) thr i2 o2 ?_
  refine ⟨late (by kernel_rfl), ?_⟩
  refine AnyL.done (by kernel_rfl) ?_
  clear HC rT rP c2 iT iP hp h4 hB q kp kp3 nn sr2 h2 iB2 thr i2 o2 hH hrow
  go_wp2_with (fail)
  go_end0
  exact ⟨rfl, HP.out⟩
end Go.Proofs.YthbenfnanhpcoaaGreatDoor.Mc

namespace Go.Proofs.YthbenfnanhpcoaaGreatDoor.Sp
open Go.ChangeShapes Go.WideShapes Go.ChangeAt Go.RowKit
set_option linter.unusedVariables false
set_option maxRecDepth 20000

section
variable {S : Type}
/-- a function value of the program's own that is called so -/
structure DoesV (I : List Nat → S → World → Prop) (s : S) (w : World) (G : FuncId) (caps args : Array Value) (v : Value) (s' : S) : Prop where
  run : ∀ args w, (callFunc G args).run Tryz.prog w = .ok (.enter G args) w
  does : Does I s w G (caps ++ args) v s'
end
/-- a port's ten functions: each with what it holds -/
structure Fns where
  f1 : FuncId
  c1 : Array Value
  f2 : FuncId
  c2 : Array Value
  f3 : FuncId
  c3 : Array Value
  f4 : FuncId
  c4 : Array Value
  f5 : FuncId
  c5 : Array Value
  f6 : FuncId
  c6 : Array Value
  f7 : FuncId
  c7 : Array Value
  f8 : FuncId
  c8 : Array Value
  f9 : FuncId
  c9 : Array Value
  f10 : FuncId
  c10 : Array Value
abbrev portA (z : Int) (f : Fns) : Array Value := #[.int .i64 z, .func (.func f.f1) f.c1 #[], .func (.func f.f2) f.c2 #[], .func (.func f.f3) f.c3 #[], .func (.func f.f4) f.c4 #[], .func (.func f.f5) f.c5 #[], .func (.func f.f6) f.c6 #[], .func (.func f.f7) f.c7 #[], .func (.func f.f8) f.c8 #[], .func (.func f.f9) f.c9 #[], .func (.func f.f10) f.c10 #[]]

/-- these functions are that port's, as long as there is room for what they add -/
structure PortOk {S : Type} (I : List Nat → S → World → Prop) (M : Prt S) (f : Fns) : Prop where
  inv : Inv I
  size : 0 ≤ M.size ∧ M.size ≤ 4611686018427387904
  load : ∀ s w m, 0 ≤ m → m < M.size → 200 ≤ M.fuel s → DoesV I s w f.f1 f.c1 #[.int .i64 m] (.int .u32 (M.load s m)) (M.loadS s m)
  loadU : ∀ F s w m, I F s w → U32 (M.load s m)
  loadF : ∀ s m, M.fuel s ≤ M.fuel (M.loadS s m) + 200
  room : ∀ s w, 200 ≤ M.fuel s → DoesV I s w f.f2 f.c2 #[] (.bool (M.room s)) s
  store : ∀ s w m v, 0 ≤ m → m < M.size → U32 v → M.room s = true → 200 ≤ M.fuel s → DoesV I s w f.f3 f.c3 #[.int .i64 m, .int .u32 v] (.tuple #[]) (M.store s m v)
  storeF : ∀ s m v, M.fuel s ≤ M.fuel (M.store s m v) + 200
  empty : ∀ s w, 200 ≤ M.fuel s → DoesV I s w f.f4 f.c4 #[] (.bool (M.empty s)) s
  flush : ∀ s w, 200 ≤ M.fuel s → DoesV I s w f.f5 f.c5 #[] (.tuple #[]) (M.flush s)
  swap : ∀ s w m v, 0 ≤ m → m < M.size → U32 v → 200 ≤ M.fuel s → DoesV I s w f.f6 f.c6 #[.int .i64 m, .int .u32 v] (.int .u32 (M.swap s m v)) (M.swapS s m v)
  swapF : ∀ s m v, M.fuel s ≤ M.fuel (M.swapS s m v) + 200
  sleep : ∀ s w m, 0 ≤ m → m < M.size → 200 ≤ M.fuel s → DoesV I s w f.f7 f.c7 #[.int .i64 m] (.tuple #[]) (M.sleep s m)
  wake : ∀ s w m v, 0 ≤ m → m < M.size → U32 v → 200 ≤ M.fuel s → DoesV I s w f.f8 f.c8 #[.int .i64 m, .int .u32 v] (.int .u32 (M.wake s m v)) (M.wakeS s m v)
  wakeU : ∀ F s w m v, I F s w → U32 (M.wake s m v)
  wakeF : ∀ s m v, M.fuel s ≤ M.fuel (M.wakeS s m v) + 200
  remote : ∀ s w, 200 ≤ M.fuel s → DoesV I s w f.f9 f.c9 #[] (.tuple #[]) (M.remote s)
  remoteF : ∀ s, M.fuel s ≤ M.fuel (M.remote s) + 200
  note : ∀ s w x, 200 ≤ M.fuel s → DoesV I s w f.f10 f.c10 #[.agg (evA x)] (.tuple #[]) (M.note s x)
  noteF : ∀ s x, M.fuel s ≤ M.fuel (M.note s x) + 200
end Go.Proofs.YthbenfnanhpcoaaGreatDoor.Sp

namespace Go.Proofs.YthbenfnanhpcoaaGreatDoor.Sp
open Go.ChangeShapes Go.WideShapes Go.ChangeAt Go.RowKit
set_option linter.unusedVariables false
set_option maxRecDepth 20000

def th0 : Th := ⟨0, List.replicate 8 0, 0⟩
theorem th0_ok : ThOk th0 := ⟨rfl, fun x hx => by rw [List.eq_of_mem_replicate hx]; exact ⟨Int.le_refl _, by decide⟩⟩
/-- the cells of the zero thread -/
abbrev th0A : Array Value := #[.int .i64 0, .int .u32 0, .int .u32 0, .int .u32 0, .int .u32 0, .int .u32 0, .int .u32 0, .int .u32 0, .int .u32 0, .int .i64 0]
theorem th0_eq : thC th0 = th0A := rfl
theorem size1 (w : World) (C : Array Value) (t : TypeId) : (w.alloc (.cells C t)).heap.size = w.heap.size + 1 := by simp

/-- the result is a thread -/
theorem results_th {fn : Func} {p : Tmp} (h : fn.results = #[.cell p 42]) (tmps : Array Value) (w : World) (g : Nat) (t : Th) (hp : tmps.getD p undef = .pointer (some ⟨g, 0, none⟩)) (hg : Has w g (thC t) 42) (hs : ThOk t) :
    (results fn tmps).run Tryz.prog w = .ok (.agg (thC t)) w :=
  results_cell_row h tmps w g 42 (thC t) (0, 0) _ hp hg Tryz.underlying42 rfl (infoT_of hs)

section
variable {S : Type} {I : List Nat → S → World → Prop}

/-- a frame: thread, port, result -/
structure Fr3 (I : List Nat → S → World → Prop) (F : List Nat) (w : World) (t : Th) (z : Int) (f : Fns) (r : Th) (s : S) (u : World) : Prop where
  p : Pst I F w [w.heap.size, w.heap.size + 1, w.heap.size + 1 + 1] s u
  b0 : Has u w.heap.size (thC t) 42
  b1 : Has u (w.heap.size + 1) (portA z f) 103
  b2 : Has u (w.heap.size + 1 + 1) (thC r) 42
theorem Fr3.start (V : Inv I) {F : List Nat} {s : S} {w : World} (h : I F s w) (t : Th) (z : Int) (f : Fns) :
    Fr3 I F w t z f th0 s (((w.alloc (.cells (thC t) 42)).alloc (.cells (portA z f) 103)).alloc (.cells th0A 42)) := by
  have p := (((Pst.start V h).alloc V (thC t) 42).alloc V (portA z f) 103).alloc V th0A 42
  simp only [size1] at p
  refine ⟨p.less (by simp), ((Has.new w _ _).alloc _ _).alloc _ _, ?_, ?_⟩
  · have := (Has.new (w.alloc (.cells (thC t) 42)) (portA z f) 103).alloc th0A 42
    rwa [size1] at this
  · have := Has.new ((w.alloc (.cells (thC t) 42)).alloc (.cells (portA z f) 103)) (thC th0) 42
    rwa [size1, size1] at this
theorem Fr3.loc {F : List Nat} {w : World} {t : Th} {z : Int} {f : Fns} {r : Th} {s s' : S} {u u' : World} (h : Fr3 I F w t z f r s u) (k : Loc [w.heap.size, w.heap.size + 1, w.heap.size + 1 + 1] u u')
    (p : Pst I F w [w.heap.size, w.heap.size + 1, w.heap.size + 1 + 1] s' u') : Fr3 I F w t z f r s' u' :=
  ⟨p, h.b0.loc k (by simp), h.b1.loc k (by simp), h.b2.loc k (by simp)⟩
/-- the thread's cell is set -/
theorem Fr3.set (V : Inv I) {F : List Nat} {w : World} {t t' : Th} {z : Int} {f : Fns} {r : Th} {s : S} {u : World} (h : Fr3 I F w t z f r s u) (o : Nat) (v : Value) (e : (thC t).setIfInBounds o v = thC t') : Fr3 I F w t' z f r s (u.setCell ⟨w.heap.size, o, none⟩ v) :=
  ⟨h.p.setCell V _ _ _ (by simp) (Nat.le_refl _), (h.b0.set o v).of e, h.b1.aside (by omega) o v, h.b2.aside (by omega) o v⟩
/-- the thread is set whole -/
theorem Fr3.all (V : Inv I) {F : List Nat} {w : World} {t : Th} {z : Int} {f : Fns} {r : Th} {s : S} {u : World} (h : Fr3 I F w t z f r s u) (t' : Th) : Fr3 I F w t' z f r s (u.setRow w.heap.size (thC t')) :=
  ⟨h.p.setRow V _ _ (by simp) (Nat.le_refl _), h.b0.row _, h.b1.rowAside (by omega) _, h.b2.rowAside (by omega) _⟩
/-- the result is set whole -/
theorem Fr3.res (V : Inv I) {F : List Nat} {w : World} {t : Th} {z : Int} {f : Fns} {r : Th} {s : S} {u : World} (h : Fr3 I F w t z f r s u) (r' : Th) : Fr3 I F w t z f r' s (u.setRow (w.heap.size + 1 + 1) (thC r')) :=
  ⟨h.p.setRow V _ _ (by simp) (by omega), h.b0.rowAside (by omega) _, h.b1.rowAside (by omega) _, h.b2.row _⟩
theorem Fr3.gr (V : Inv I) {F : List Nat} {w : World} {t : Th} {z : Int} {f : Fns} {r : Th} {s : S} {u u' : World} (h : Fr3 I F w t z f r s u) (g : Gr u u') : Fr3 I F w t z f r s u' :=
  ⟨h.p.gr V g, h.b0.later g, h.b1.later g, h.b2.later g⟩

/-- a frame: thread, port, result, and an instruction further on -/
structure FrS (I : List Nat → S → World → Prop) (F : List Nat) (w : World) (t : Th) (z : Int) (f : Fns) (r : Th) (i : Ins) (g : Nat) (s : S) (u : World) : Prop where
  p : Pst I F w [g, w.heap.size, w.heap.size + 1, w.heap.size + 1 + 1] s u
  b0 : Has u w.heap.size (thC t) 42
  b1 : Has u (w.heap.size + 1) (portA z f) 103
  b2 : Has u (w.heap.size + 1 + 1) (thC r) 42
  b3 : Has u g (insA i) 72
  hg : w.heap.size + 1 + 1 < g
theorem Fr3.ins (V : Inv I) {F : List Nat} {w : World} {t : Th} {z : Int} {f : Fns} {r : Th} {s : S} {u : World} (h : Fr3 I F w t z f r s u) (i : Ins) : FrS I F w t z f r i u.heap.size s (u.alloc (.cells (insA i) 72)) :=
  ⟨h.p.alloc V _ _, h.b0.alloc _ _, h.b1.alloc _ _, h.b2.alloc _ _, Has.new _ _ _, h.b2.lt⟩
/-- the port is set whole -/
theorem Fr3.port (V : Inv I) {F : List Nat} {w : World} {t : Th} {z : Int} {f : Fns} {r : Th} {s : S} {u : World} (h : Fr3 I F w t z f r s u) : Fr3 I F w t z f r s (u.setRow (w.heap.size + 1) (portA z f)) :=
  ⟨h.p.setRow V _ _ (by simp) (by omega), h.b0.rowAside (by omega) _, h.b1.row _, h.b2.rowAside (by omega) _⟩
theorem FrS.loc {F : List Nat} {w : World} {t : Th} {z : Int} {f : Fns} {r : Th} {i : Ins} {g : Nat} {s s' : S} {u u' : World} (h : FrS I F w t z f r i g s u) (k : Loc [g, w.heap.size, w.heap.size + 1, w.heap.size + 1 + 1] u u')
    (p : Pst I F w [g, w.heap.size, w.heap.size + 1, w.heap.size + 1 + 1] s' u') : FrS I F w t z f r i g s' u' :=
  ⟨p, h.b0.loc k (by simp), h.b1.loc k (by simp), h.b2.loc k (by simp), h.b3.loc k (by simp), h.hg⟩
theorem FrS.res (V : Inv I) {F : List Nat} {w : World} {t : Th} {z : Int} {f : Fns} {r : Th} {i : Ins} {g : Nat} {s : S} {u : World} (h : FrS I F w t z f r i g s u) (r' : Th) : FrS I F w t z f r' i g s (u.setRow (w.heap.size + 1 + 1) (thC r')) :=
  have hg := h.hg
  ⟨h.p.setRow V _ _ (by simp) (by omega), h.b0.rowAside (by omega) _, h.b1.rowAside (by omega) _, h.b2.row _, h.b3.rowAside (by omega) _, hg⟩
theorem FrS.gr (V : Inv I) {F : List Nat} {w : World} {t : Th} {z : Int} {f : Fns} {r : Th} {i : Ins} {g : Nat} {s : S} {u u' : World} (h : FrS I F w t z f r i g s u) (k : Gr u u') : FrS I F w t z f r i g s u' :=
  ⟨h.p.gr V k, h.b0.later k, h.b1.later k, h.b2.later k, h.b3.later k, h.hg⟩

/-- a frame: thread, instruction, port, result -/
structure Fr4 (I : List Nat → S → World → Prop) (F : List Nat) (w : World) (t : Th) (i : Ins) (z : Int) (f : Fns) (r : Th) (s : S) (u : World) : Prop where
  p : Pst I F w [w.heap.size, w.heap.size + 1, w.heap.size + 1 + 1, w.heap.size + 1 + 1 + 1] s u
  b0 : Has u w.heap.size (thC t) 42
  b1 : Has u (w.heap.size + 1) (insA i) 72
  b2 : Has u (w.heap.size + 1 + 1) (portA z f) 103
  b3 : Has u (w.heap.size + 1 + 1 + 1) (thC r) 42
theorem Fr4.start (V : Inv I) {F : List Nat} {s : S} {w : World} (h : I F s w) (t : Th) (i : Ins) (z : Int) (f : Fns) :
    Fr4 I F w t i z f th0 s ((((w.alloc (.cells (thC t) 42)).alloc (.cells (insA i) 72)).alloc (.cells (portA z f) 103)).alloc (.cells th0A 42)) := by
  have p := ((((Pst.start V h).alloc V (thC t) 42).alloc V (insA i) 72).alloc V (portA z f) 103).alloc V th0A 42
  simp only [size1] at p
  refine ⟨p.less (by simp), (((Has.new w _ _).alloc _ _).alloc _ _).alloc _ _, ?_, ?_, ?_⟩
  · have := ((Has.new (w.alloc (.cells (thC t) 42)) (insA i) 72).alloc (portA z f) 103).alloc th0A 42
    rwa [size1] at this
  · have := (Has.new ((w.alloc (.cells (thC t) 42)).alloc (.cells (insA i) 72)) (portA z f) 103).alloc th0A 42
    rwa [size1, size1] at this
  · have := Has.new (((w.alloc (.cells (thC t) 42)).alloc (.cells (insA i) 72)).alloc (.cells (portA z f) 103)) (thC th0) 42
    rwa [size1, size1, size1] at this
theorem Fr4.loc {F : List Nat} {w : World} {t : Th} {i : Ins} {z : Int} {f : Fns} {r : Th} {s s' : S} {u u' : World} (h : Fr4 I F w t i z f r s u) (k : Loc [w.heap.size, w.heap.size + 1, w.heap.size + 1 + 1, w.heap.size + 1 + 1 + 1] u u')
    (p : Pst I F w [w.heap.size, w.heap.size + 1, w.heap.size + 1 + 1, w.heap.size + 1 + 1 + 1] s' u') : Fr4 I F w t i z f r s' u' :=
  ⟨p, h.b0.loc k (by simp), h.b1.loc k (by simp), h.b2.loc k (by simp), h.b3.loc k (by simp)⟩
theorem Fr4.set (V : Inv I) {F : List Nat} {w : World} {t t' : Th} {i : Ins} {z : Int} {f : Fns} {r : Th} {s : S} {u : World} (h : Fr4 I F w t i z f r s u) (o : Nat) (v : Value) (e : (thC t).setIfInBounds o v = thC t') : Fr4 I F w t' i z f r s (u.setCell ⟨w.heap.size, o, none⟩ v) :=
  ⟨h.p.setCell V _ _ _ (by simp) (Nat.le_refl _), (h.b0.set o v).of e, h.b1.aside (by omega) o v, h.b2.aside (by omega) o v, h.b3.aside (by omega) o v⟩
theorem Fr4.all (V : Inv I) {F : List Nat} {w : World} {t : Th} {i : Ins} {z : Int} {f : Fns} {r : Th} {s : S} {u : World} (h : Fr4 I F w t i z f r s u) (t' : Th) : Fr4 I F w t' i z f r s (u.setRow w.heap.size (thC t')) :=
  ⟨h.p.setRow V _ _ (by simp) (Nat.le_refl _), h.b0.row _, h.b1.rowAside (by omega) _, h.b2.rowAside (by omega) _, h.b3.rowAside (by omega) _⟩
theorem Fr4.res (V : Inv I) {F : List Nat} {w : World} {t : Th} {i : Ins} {z : Int} {f : Fns} {r : Th} {s : S} {u : World} (h : Fr4 I F w t i z f r s u) (r' : Th) : Fr4 I F w t i z f r' s (u.setRow (w.heap.size + 1 + 1 + 1) (thC r')) :=
  ⟨h.p.setRow V _ _ (by simp) (by omega), h.b0.rowAside (by omega) _, h.b1.rowAside (by omega) _, h.b2.rowAside (by omega) _, h.b3.row _⟩
theorem Fr4.gr (V : Inv I) {F : List Nat} {w : World} {t : Th} {i : Ins} {z : Int} {f : Fns} {r : Th} {s : S} {u u' : World} (h : Fr4 I F w t i z f r s u) (g : Gr u u') : Fr4 I F w t i z f r s u' :=
  ⟨h.p.gr V g, h.b0.later g, h.b1.later g, h.b2.later g, h.b3.later g⟩
end

theorem infoI5 : (Tryz.prog.info? 72).map (·.size) = some 5 := by kernel_rfl
theorem infoP11 : (Tryz.prog.info? 103).map (·.size) = some 11 := by kernel_rfl
/-- records are read whole in a region that draws its order -/
theorem take_th {ops : Array Oper} {S : World → Prop} {op : Oper} {a : Act} (hw : Region.wanted op (yielded ops a.tmps) = true) (x : Operand) (ho : op.op = .load 42 x)
    (g : Nat) (hx : a.eval x = .pointer (some ⟨g, 0, none⟩)) (t : Th) (hS : ∀ w, S w → Has w g (thC t) 42) (hs : ThOk t) : YieldsIf Tryz.prog ops S op (.agg (thC t)) a :=
  .inl ⟨hw, fun w hw' => by
    unfold execOp
    simp only [ho, hx, Instr.loadAt, Instr.sureAddr, Sem.run_bind, Sem.run_pure, Result.andThen_ok, run_loadVar_row w g 42 42 (thC t) (0, 0) _ (hS w hw') Tryz.underlying42 rfl (infoT_of hs)]⟩
theorem take_ins {ops : Array Oper} {S : World → Prop} {op : Oper} {a : Act} (hw : Region.wanted op (yielded ops a.tmps) = true) (x : Operand) (ho : op.op = .load 72 x)
    (g : Nat) (hx : a.eval x = .pointer (some ⟨g, 0, none⟩)) (i : Ins) (hS : ∀ w, S w → Has w g (insA i) 72) : YieldsIf Tryz.prog ops S op (.agg (insA i)) a :=
  .inl ⟨hw, fun w hw' => by
    unfold execOp
    simp only [ho, hx, Instr.loadAt, Instr.sureAddr, Sem.run_bind, Sem.run_pure, Result.andThen_ok, run_loadVar_row w g 72 72 (insA i) (0, 0) _ (hS w hw') Tryz.underlying72 rfl infoI5]⟩
theorem take_port {ops : Array Oper} {S : World → Prop} {op : Oper} {a : Act} (hw : Region.wanted op (yielded ops a.tmps) = true) (x : Operand) (ho : op.op = .load 103 x)
    (g : Nat) (hx : a.eval x = .pointer (some ⟨g, 0, none⟩)) (z : Int) (f : Fns) (hS : ∀ w, S w → Has w g (portA z f) 103) : YieldsIf Tryz.prog ops S op (.agg (portA z f)) a :=
  .inl ⟨hw, fun w hw' => by
    unfold execOp
    simp only [ho, hx, Instr.loadAt, Instr.sureAddr, Sem.run_bind, Sem.run_pure, Result.andThen_ok, run_loadVar_row w g 103 103 (portA z f) (0, 0) _ (hS w hw') Tryz.underlying103 rfl infoP11]⟩

/-- a word is stored -/
theorem wp_store_word {o : Oper} {a : Act} {w : World} {K : Act → World → Prop} {Q : Exit → Act → World → Prop} (hd0 : o.dst = none) (x y : Operand) (ho : o.op = .store 39 x y) (g j : Nat) (hx : a.eval x = .pointer (some ⟨g, j, none⟩)) (v : Int) (hy : a.eval y = .int .u32 v)
    (old : Int) (hc : w.cell? ⟨g, j, none⟩ = some (.int .u32 old)) (hf : w.frozen? ⟨g, j, none⟩ = false) (h : K a (w.setCell ⟨g, j, none⟩ (.int .u32 v))) : Oper.wp Tryz.prog o a w K Q := by
  unfold Oper.wp execOp
  simp only [ho, hx, hy]
  go_simp
  exact h
theorem store_word {ops : Array Oper} {rest : List Oper} {op : Oper} {a : Act} {w : World} {Q : Exit → Act → World → Prop} (hgd : op.guard = none) (hd0 : op.dst = none) (x y : Operand) (ho : op.op = .store 39 x y) (g j : Nat) (hx : a.eval x = .pointer (some ⟨g, j, none⟩)) (v : Int) (hy : a.eval y = .int .u32 v)
    (old : Int) (hc : w.cell? ⟨g, j, none⟩ = some (.int .u32 old)) (hf : w.frozen? ⟨g, j, none⟩ = false) (h : wpList Tryz.prog ops Q rest a (w.setCell ⟨g, j, none⟩ (.int .u32 v))) : wpList Tryz.prog ops Q (op :: rest) a w :=
  wpList_plain hgd fun _ hK => wp_store_word hd0 x y ho g j hx v hy old hc hf (hK _ _ h)
/-- an instruction is read whole -/
theorem load_ins {ops : Array Oper} {rest : List Oper} {op : Oper} {a : Act} {w : World} {Q : Exit → Act → World → Prop} (hgd : op.guard = none) (x : Operand) (ho : op.op = .load 72 x)
    (g : Nat) (hx : a.eval x = .pointer (some ⟨g, 0, none⟩)) (i : Ins) (hg : Has w g (insA i) 72)
    (h : wpList Tryz.prog ops Q rest (a.put op.dst (.agg (insA i))) w) : wpList Tryz.prog ops Q (op :: rest) a w :=
  wpList_load_row hgd 72 x ho g hx 72 (insA i) (0, 0) _ hg Tryz.underlying72 rfl infoI5 h
/-- a port is read whole -/
theorem load_port {ops : Array Oper} {rest : List Oper} {op : Oper} {a : Act} {w : World} {Q : Exit → Act → World → Prop} (hgd : op.guard = none) (x : Operand) (ho : op.op = .load 103 x)
    (g : Nat) (hx : a.eval x = .pointer (some ⟨g, 0, none⟩)) (z : Int) (f : Fns) (hg : Has w g (portA z f) 103)
    (h : wpList Tryz.prog ops Q rest (a.put op.dst (.agg (portA z f))) w) : wpList Tryz.prog ops Q (op :: rest) a w :=
  wpList_load_row hgd 103 x ho g hx 103 (portA z f) (0, 0) _ hg Tryz.underlying103 rfl infoP11 h
set_option maxHeartbeats 400000 in
theorem inMemory_calls (n z : Int) (f : Fns) (hn : U32 n) (w : World) :
    Calls Tryz.prog 93 #[.int .u32 n, .agg (portA z f)] w fun e w' => e = .returned (.bool (decide (n < z))) ∧ Gr w w' := by
  have HG := hide ((Gr.refl w).alloc (portA z f) 103)
  have hw := wrap_u32 hn
  obtain ⟨h0, h1⟩ := hn
  go_enter Tryz.func93, Tryz.ntmps93
  go_wp2_with (fail)
  go_ret
  exact ⟨rfl, HG.out⟩

end Go.Proofs.YthbenfnanhpcoaaGreatDoor.Sp
