/-
  What Address, inMemory, next, inStead and whole answer of any thread, instruction and port. No condition but that registers are words.
-/
import Derived.Test.YtfhplbmgjgfihaaGreatDoorZzac
namespace Go.Proofs.YtfhplbmgjgfihaaGreatDoor
open Go.ChangeShapes Go.WideShapes Go.ChangeAt Go.RowKit
set_option linter.unusedVariables false
theorem reg_nat {n : Int} (h : regB n = true) : ∃ k : Nat, n = k ∧ k < 8 := by
  simp [regB] at h
  obtain ⟨k, rfl⟩ := Int.eq_ofNat_of_zero_le h.1
  exact ⟨k, rfl, by omega⟩

set_option maxHeartbeats 400000 in
theorem address_calls {t : Th} (h : ThOk t) (i : Ins) (w : World) :
    Calls Tryz.prog 62 #[.agg (thC t), .agg (insA i)] w fun e w' => e = .returned (.int .u32 (addrM t i)) ∧ Gr w w' := by
  obtain ⟨op, a, b, c, k⟩ := i
  have HG := hide (((Gr.refl w).alloc (thC t) 46).alloc (insA ⟨op, a, b, c, k⟩) 53)
  cases hr : regB b
  · have HM : Hid (addrM t ⟨op, a, b, c, k⟩ = k) := by show addrM t _ = k; simp [addrM, hr]
    by_cases h0 : b < 0
    · clear hr h
      go_enter Tryz.func62, Tryz.ntmps62
      go_wp2_with (fail)
      go_ret
      exact ⟨by rw [HM.out]; rfl, HG.out⟩
    · have h8 : ¬ b < 8 := by intro q; simp [regB] at hr; omega
      clear hr h
      go_enter Tryz.func62, Tryz.ntmps62
      go_wp2_with (fail)
      go_ret
      exact ⟨by rw [HM.out]; rfl, HG.out⟩
  · obtain ⟨n, rfl, hn⟩ := reg_nat hr
    have hn' : (n : Int) < 8 := by omega
    have HM : Hid (addrM t ⟨op, a, n, c, k⟩ = IntKind.u32.wrap (k + t.reg n)) := by show addrM t _ = _; simp [addrM, hr]
    have cr := thC_reg h n hn
    have HS := hide (thC_size h)
    clear hr h
    go_enter Tryz.func62, Tryz.ntmps62
    go_wp2_with (fail)
    go_quiet (fail)
    go_wp2_with (fail)
    go_ret
    exact ⟨by rw [HM.out]; rfl, HG.out.drewN _⟩

theorem wrap_u32 {n : Int} (h : U32 n) : IntKind.i64.wrap n = n := by
  have := h.1; have := h.2
  rw [IntKind.wrap_i64]; omega
theorem u32_wrap (n : Int) : U32 (IntKind.u32.wrap n) := by
  unfold U32
  rw [IntKind.wrap_u32]; omega
theorem addr_u32 {t : Th} {i : Ins} (h : ThOk t) (hi : InsOk i) : U32 (addrM t i) := by
  unfold addrM
  split
  · exact u32_wrap _
  · exact ⟨hi.k0, hi.k1⟩

set_option maxHeartbeats 400000 in
theorem inMemory_calls (n z : Int) (f : Fns) (hn : U32 n) (w : World) :
    Calls Tryz.prog 61 #[.int .u32 n, .agg (portA z f)] w fun e w' => e = .returned (.bool (decide (n < z))) ∧ Gr w w' := by
  have HG := hide ((Gr.refl w).alloc (portA z f) 90)
  have hw := wrap_u32 hn
  obtain ⟨h0, h1⟩ := hn
  go_enter Tryz.func61, Tryz.ntmps61
  go_wp2_with (fail)
  go_ret
  exact ⟨rfl, HG.out⟩

set_option maxHeartbeats 400000 in
theorem next_calls {t : Th} (h : ThOk t) (i : Ins) (hi : InsOk i) (ha : regB i.a = true) (hp : 0 ≤ t.pc) (hp' : t.pc < 4611686018427387904) (w : World) :
    Calls Tryz.prog 95 #[.agg (thC t), .agg (insA i)] w fun e w' => e = .returned (.int .i64 (nextM t i)) ∧ Gr w w' := by
  obtain ⟨op, a, b, c, k⟩ := i
  have HG := hide (((Gr.refl w).alloc (thC t) 46).alloc (insA ⟨op, a, b, c, k⟩) 53)
  obtain ⟨n, rfl, hn⟩ := reg_nat ha
  have hn' : (n : Int) < 8 := by omega
  have cr := thC_reg h n hn
  have cp := thC_pc t
  have hk : IntKind.i64.wrap k = k := wrap_u32 ⟨hi.k0, hi.k1⟩
  have hpw : IntKind.i64.wrap (t.pc + 1) = t.pc + 1 := by rw [IntKind.wrap_i64]; omega
  have HM : Hid (nextM t ⟨op, n, b, c, k⟩ = if (op == 14 && t.reg n != 0) || (op == 15 && t.reg n == 0) then t.pc + 1 else k) := rfl
  generalize t.reg n = r at cr HM
  generalize t.pc = pc at cp hpw HM
  clear ha hi h hp hp'
  by_cases h14 : op = 14
  · subst h14
    cases hr : (r == 0)
    · have hr' : (r != 0) = true := by simp [bne, hr]
      go_enter Tryz.func95, Tryz.ntmps95
      go_wp2_with (fail)
      go_ret
      exact ⟨by rw [HM.out]; simp [hr'], HG.out⟩
    · have hr' : (r != 0) = false := by simp [bne, hr]
      go_enter Tryz.func95, Tryz.ntmps95
      go_wp2_with (fail)
      go_ret
      exact ⟨by rw [HM.out]; simp [hr'], HG.out⟩
  · have e14 : (op == 14) = false := by simp [h14]
    by_cases h15 : op = 15
    · subst h15
      cases hr : (r == 0)
      · go_enter Tryz.func95, Tryz.ntmps95
        go_wp2_with (fail)
        go_ret
        exact ⟨by rw [HM.out]; simp [hr], HG.out⟩
      · go_enter Tryz.func95, Tryz.ntmps95
        go_wp2_with (fail)
        go_ret
        exact ⟨by rw [HM.out]; simp [hr], HG.out⟩
    · have e15 : (op == 15) = false := by simp [h15]
      clear h14 h15
      go_enter Tryz.func95, Tryz.ntmps95
      go_wp2_with (fail)
      go_ret
      exact ⟨by rw [HM.out]; simp [e14, e15], HG.out⟩

set_option maxHeartbeats 400000 in
theorem inStead_calls {t : Th} (h : ThOk t) (i : Ins) (ha : regB i.a = true) (hc : regB i.c = true) (old : Int) (w : World) :
    Calls Tryz.prog 110 #[.agg (thC t), .agg (insA i), .int .u32 old] w fun e w' => e = .returned (.tuple #[.int .u32 (insteadM t i old).1, .bool (insteadM t i old).2]) ∧ Gr w w' := by
  obtain ⟨op, a, b, c, k⟩ := i
  obtain ⟨n, rfl, hn⟩ := reg_nat ha
  obtain ⟨m, rfl, hm⟩ := reg_nat hc
  have HG := hide (((Gr.refl w).alloc (thC t) 46).alloc (insA ⟨op, n, b, m, k⟩) 53)
  have hn' : (n : Int) < 8 := by omega
  have hm' : (m : Int) < 8 := by omega
  have cr := thC_reg h n hn
  have cs := thC_reg h m hm
  have HM : Hid (insteadM t ⟨op, n, b, m, k⟩ old = if op = 20 then (IntKind.u32.wrap (old + t.reg n), true)
    else if op = 21 then (if old == t.reg n then (t.reg m, true) else (old, false)) else (t.reg n, true)) := rfl
  generalize t.reg n = r at cr HM
  generalize t.reg m = q at cs HM
  clear ha hc h
  by_cases h20 : op = 20
  · subst h20
    go_enter Tryz.func110, Tryz.ntmps110
    go_wp2_with (fail)
    go_ret2
    exact ⟨by rw [HM.out]; rfl, HG.out⟩
  · have e20 : (op == 20) = false := by simp [h20]
    by_cases h21 : op = 21
    · subst h21
      cases hr : (old == r)
      · have hr' : (old != r) = true := by simp [bne, hr]
        go_enter Tryz.func110, Tryz.ntmps110
        go_wp2_with (fail)
        go_ret2
        exact ⟨by rw [HM.out]; simp [hr], HG.out⟩
      · have hr' : (old != r) = false := by simp [bne, hr]
        go_enter Tryz.func110, Tryz.ntmps110
        go_wp2_with (fail)
        go_ret2
        exact ⟨by rw [HM.out]; simp [hr], HG.out⟩
    · have e21 : (op == 21) = false := by simp [h21]
      have HM2 : Hid (insteadM t ⟨op, n, b, m, k⟩ old = (r, true)) := by show _ = _; rw [HM.out]; simp [h20, h21]
      clear h20 h21
      go_enter Tryz.func110, Tryz.ntmps110
      go_wp2_with (fail)
      go_ret2
      exact ⟨by rw [HM2.out]; rfl, HG.out⟩
end Go.Proofs.YtfhplbmgjgfihaaGreatDoor
namespace Go.Proofs.YtfhplbmgjgfihaaGreatDoor.Mp
open Go.ChangeShapes Go.WideShapes Go.ChangeAt Go.RowKit
set_option linter.unusedVariables false
set_option maxRecDepth 20000
/-- a function value of the program's own that is called so, with these arguments, its receiver's among them -/
structure DoesV {S : Type} (I : List Nat → S → World → Prop) (s : S) (w : World) (G : FuncId) (all : Array Value) (v : Value) (s' : S) : Prop where
  run : ∀ args w, (callFunc G args).run Tryz.prog w = .ok (.enter G args) w
  does : Does I s w G all v s'
/-- a port's ten functions, and their receiver -/
structure Fns where
  f1 : FuncId
  f2 : FuncId
  f3 : FuncId
  f4 : FuncId
  f5 : FuncId
  f6 : FuncId
  f7 : FuncId
  f8 : FuncId
  f9 : FuncId
  f10 : FuncId
  r : Value
abbrev portA (z : Int) (f : Fns) : Array Value := #[.int .i64 z, .func (.func f.f1) #[f.r] #[], .func (.func f.f2) #[f.r] #[], .func (.func f.f3) #[f.r] #[], .func (.func f.f4) #[f.r] #[], .func (.func f.f5) #[f.r] #[], .func (.func f.f6) #[f.r] #[], .func (.func f.f7) #[f.r] #[], .func (.func f.f8) #[f.r] #[], .func (.func f.f9) #[f.r] #[], .func (.func f.f10) #[f.r] #[]]
/-- these functions are that port's, as long as there is room for what they add -/
structure PortOk {S : Type} (I : List Nat → S → World → Prop) (M : Prt S) (f : Fns) : Prop where
  inv : Inv I
  size : 0 ≤ M.size ∧ M.size ≤ 4611686018427387904
  load : ∀ s w m, 0 ≤ m → m < M.size → 200 ≤ M.fuel s → DoesV I s w f.f1 #[f.r, .int .i64 m] (.int .u32 (M.load s m)) (M.loadS s m)
  loadU : ∀ F s w m, I F s w → U32 (M.load s m)
  loadF : ∀ s m, M.fuel s ≤ M.fuel (M.loadS s m) + 200
  room : ∀ s w, 200 ≤ M.fuel s → DoesV I s w f.f2 #[f.r] (.bool (M.room s)) s
  store : ∀ s w m v, 0 ≤ m → m < M.size → U32 v → M.room s = true → 200 ≤ M.fuel s → DoesV I s w f.f3 #[f.r, .int .i64 m, .int .u32 v] (.tuple #[]) (M.store s m v)
  storeF : ∀ s m v, M.fuel s ≤ M.fuel (M.store s m v) + 200
  empty : ∀ s w, 200 ≤ M.fuel s → DoesV I s w f.f4 #[f.r] (.bool (M.empty s)) s
  flush : ∀ s w, 200 ≤ M.fuel s → DoesV I s w f.f5 #[f.r] (.tuple #[]) (M.flush s)
  swap : ∀ s w m v, 0 ≤ m → m < M.size → U32 v → 200 ≤ M.fuel s → DoesV I s w f.f6 #[f.r, .int .i64 m, .int .u32 v] (.int .u32 (M.swap s m v)) (M.swapS s m v)
  swapF : ∀ s m v, M.fuel s ≤ M.fuel (M.swapS s m v) + 200
  sleep : ∀ s w m, 0 ≤ m → m < M.size → 200 ≤ M.fuel s → DoesV I s w f.f7 #[f.r, .int .i64 m] (.tuple #[]) (M.sleep s m)
  wake : ∀ s w m v, 0 ≤ m → m < M.size → U32 v → 200 ≤ M.fuel s → DoesV I s w f.f8 #[f.r, .int .i64 m, .int .u32 v] (.int .u32 (M.wake s m v)) (M.wakeS s m v)
  wakeU : ∀ F s w m v, I F s w → U32 (M.wake s m v)
  wakeF : ∀ s m v, M.fuel s ≤ M.fuel (M.wakeS s m v) + 200
  remote : ∀ s w, 200 ≤ M.fuel s → DoesV I s w f.f9 #[f.r] (.tuple #[]) (M.remote s)
  remoteF : ∀ s, M.fuel s ≤ M.fuel (M.remote s) + 200
  note : ∀ s w x, 200 ≤ M.fuel s → DoesV I s w f.f10 #[f.r, .agg (evA x)] (.tuple #[]) (M.note s x)
  noteF : ∀ s x, M.fuel s ≤ M.fuel (M.note s x) + 200
def th0 : Th := ⟨0, List.replicate 8 0, 0⟩
theorem th0_ok : ThOk th0 := ⟨rfl, fun x hx => by rw [List.eq_of_mem_replicate hx]; exact ⟨Int.le_refl _, by decide⟩⟩
/-- the cells of the zero thread -/
abbrev th0A : Array Value := #[.int .i64 0, .int .u32 0, .int .u32 0, .int .u32 0, .int .u32 0, .int .u32 0, .int .u32 0, .int .u32 0, .int .u32 0, .int .i64 0]
theorem size1 (w : World) (C : Array Value) (t : TypeId) : (w.alloc (.cells C t)).heap.size = w.heap.size + 1 := by simp

/-- the result is a thread -/
theorem results_th {fn : Func} {p : Tmp} (h : fn.results = #[.cell p 46]) (tmps : Array Value) (w : World) (g : Nat) (t : Th) (hp : tmps.getD p undef = .pointer (some ⟨g, 0, none⟩)) (hg : Has w g (thC t) 46) (hs : ThOk t) :
    (results fn tmps).run Tryz.prog w = .ok (.agg (thC t)) w :=
  results_cell_row h tmps w g 46 (thC t) (0, 0) _ hp hg Tryz.underlying46 rfl (infoT_of hs)

section
variable {S : Type} {I : List Nat → S → World → Prop}

/-- a frame: thread, port, result -/
structure Fr3 (I : List Nat → S → World → Prop) (F : List Nat) (w : World) (t : Th) (z : Int) (f : Fns) (r : Th) (s : S) (u : World) : Prop where
  p : Pst I F w [w.heap.size, w.heap.size + 1, w.heap.size + 1 + 1] s u
  b0 : Has u w.heap.size (thC t) 46
  b1 : Has u (w.heap.size + 1) (portA z f) 90
  b2 : Has u (w.heap.size + 1 + 1) (thC r) 46
theorem Fr3.start (V : Inv I) {F : List Nat} {s : S} {w : World} (h : I F s w) (t : Th) (z : Int) (f : Fns) :
    Fr3 I F w t z f th0 s (((w.alloc (.cells (thC t) 46)).alloc (.cells (portA z f) 90)).alloc (.cells th0A 46)) := by
  have p := (((Pst.start V h).alloc V (thC t) 46).alloc V (portA z f) 90).alloc V th0A 46
  simp only [size1] at p
  refine ⟨p.less (by simp), ((Has.new w _ _).alloc _ _).alloc _ _, ?_, ?_⟩
  · have := (Has.new (w.alloc (.cells (thC t) 46)) (portA z f) 90).alloc th0A 46
    rwa [size1] at this
  · have := Has.new ((w.alloc (.cells (thC t) 46)).alloc (.cells (portA z f) 90)) (thC th0) 46
    rwa [size1, size1] at this
theorem Fr3.loc {F : List Nat} {w : World} {t : Th} {z : Int} {f : Fns} {r : Th} {s s' : S} {u u' : World} (h : Fr3 I F w t z f r s u) (k : Loc [w.heap.size, w.heap.size + 1, w.heap.size + 1 + 1] u u')
    (p : Pst I F w [w.heap.size, w.heap.size + 1, w.heap.size + 1 + 1] s' u') : Fr3 I F w t z f r s' u' :=
  ⟨p, h.b0.loc k (by simp), h.b1.loc k (by simp), h.b2.loc k (by simp)⟩
/-- the thread's cell is set -/
theorem Fr3.set (V : Inv I) {F : List Nat} {w : World} {t t' : Th} {z : Int} {f : Fns} {r : Th} {s : S} {u : World} (h : Fr3 I F w t z f r s u) (o : Nat) (v : Value) (e : (thC t).setIfInBounds o v = thC t') : Fr3 I F w t' z f r s (u.setCell ⟨w.heap.size, o, none⟩ v) :=
  ⟨h.p.setCell V _ _ _ (by simp) (Nat.le_refl _), (h.b0.set o v).of e, h.b1.aside (by omega) o v, h.b2.aside (by omega) o v⟩
/-- the thread is set whole -/
theorem Fr3.all (V : Inv I) {F : List Nat} {w : World} {t : Th} {z : Int} {f : Fns} {r : Th} {s : S} {u : World} (h : Fr3 I F w t z f r s u) (t' : Th) : Fr3 I F w t' z f r s (u.setRow w.heap.size (thC t')) :=
  ⟨h.p.setRow V _ _ (by simp) (Nat.le_refl _), h.b0.row _, h.b1.rowAside (by omega) _, h.b2.rowAside (by omega) _⟩
/-- the result is set whole -/
theorem Fr3.res (V : Inv I) {F : List Nat} {w : World} {t : Th} {z : Int} {f : Fns} {r : Th} {s : S} {u : World} (h : Fr3 I F w t z f r s u) (r' : Th) : Fr3 I F w t z f r' s (u.setRow (w.heap.size + 1 + 1) (thC r')) :=
  ⟨h.p.setRow V _ _ (by simp) (by omega), h.b0.rowAside (by omega) _, h.b1.rowAside (by omega) _, h.b2.row _⟩
theorem Fr3.gr (V : Inv I) {F : List Nat} {w : World} {t : Th} {z : Int} {f : Fns} {r : Th} {s : S} {u u' : World} (h : Fr3 I F w t z f r s u) (g : Gr u u') : Fr3 I F w t z f r s u' :=
  ⟨h.p.gr V g, h.b0.later g, h.b1.later g, h.b2.later g⟩

/-- a frame: thread, port, result, and an instruction further on -/
structure FrS (I : List Nat → S → World → Prop) (F : List Nat) (w : World) (t : Th) (z : Int) (f : Fns) (r : Th) (i : Ins) (g : Nat) (s : S) (u : World) : Prop where
  p : Pst I F w [g, w.heap.size, w.heap.size + 1, w.heap.size + 1 + 1] s u
  b0 : Has u w.heap.size (thC t) 46
  b1 : Has u (w.heap.size + 1) (portA z f) 90
  b2 : Has u (w.heap.size + 1 + 1) (thC r) 46
  b3 : Has u g (insA i) 53
  hg : w.heap.size + 1 + 1 < g
theorem Fr3.ins (V : Inv I) {F : List Nat} {w : World} {t : Th} {z : Int} {f : Fns} {r : Th} {s : S} {u : World} (h : Fr3 I F w t z f r s u) (i : Ins) : FrS I F w t z f r i u.heap.size s (u.alloc (.cells (insA i) 53)) :=
  ⟨h.p.alloc V _ _, h.b0.alloc _ _, h.b1.alloc _ _, h.b2.alloc _ _, Has.new _ _ _, h.b2.lt⟩
/-- the port is set whole -/
theorem Fr3.port (V : Inv I) {F : List Nat} {w : World} {t : Th} {z : Int} {f : Fns} {r : Th} {s : S} {u : World} (h : Fr3 I F w t z f r s u) : Fr3 I F w t z f r s (u.setRow (w.heap.size + 1) (portA z f)) :=
  ⟨h.p.setRow V _ _ (by simp) (by omega), h.b0.rowAside (by omega) _, h.b1.row _, h.b2.rowAside (by omega) _⟩
theorem FrS.loc {F : List Nat} {w : World} {t : Th} {z : Int} {f : Fns} {r : Th} {i : Ins} {g : Nat} {s s' : S} {u u' : World} (h : FrS I F w t z f r i g s u) (k : Loc [g, w.heap.size, w.heap.size + 1, w.heap.size + 1 + 1] u u')
    (p : Pst I F w [g, w.heap.size, w.heap.size + 1, w.heap.size + 1 + 1] s' u') : FrS I F w t z f r i g s' u' :=
  ⟨p, h.b0.loc k (by simp), h.b1.loc k (by simp), h.b2.loc k (by simp), h.b3.loc k (by simp), h.hg⟩
theorem FrS.res (V : Inv I) {F : List Nat} {w : World} {t : Th} {z : Int} {f : Fns} {r : Th} {i : Ins} {g : Nat} {s : S} {u : World} (h : FrS I F w t z f r i g s u) (r' : Th) : FrS I F w t z f r' i g s (u.setRow (w.heap.size + 1 + 1) (thC r')) :=
  have hg := h.hg
  ⟨h.p.setRow V _ _ (by simp) (by omega), h.b0.rowAside (by omega) _, h.b1.rowAside (by omega) _, h.b2.row _, h.b3.rowAside (by omega) _, hg⟩
theorem FrS.gr (V : Inv I) {F : List Nat} {w : World} {t : Th} {z : Int} {f : Fns} {r : Th} {i : Ins} {g : Nat} {s : S} {u u' : World} (h : FrS I F w t z f r i g s u) (k : Gr u u') : FrS I F w t z f r i g s u' :=
  ⟨h.p.gr V k, h.b0.later k, h.b1.later k, h.b2.later k, h.b3.later k, h.hg⟩

/-- a frame: thread, instruction, port, result -/
structure Fr4 (I : List Nat → S → World → Prop) (F : List Nat) (w : World) (t : Th) (i : Ins) (z : Int) (f : Fns) (r : Th) (s : S) (u : World) : Prop where
  p : Pst I F w [w.heap.size, w.heap.size + 1, w.heap.size + 1 + 1, w.heap.size + 1 + 1 + 1] s u
  b0 : Has u w.heap.size (thC t) 46
  b1 : Has u (w.heap.size + 1) (insA i) 53
  b2 : Has u (w.heap.size + 1 + 1) (portA z f) 90
  b3 : Has u (w.heap.size + 1 + 1 + 1) (thC r) 46
theorem Fr4.start (V : Inv I) {F : List Nat} {s : S} {w : World} (h : I F s w) (t : Th) (i : Ins) (z : Int) (f : Fns) :
    Fr4 I F w t i z f th0 s ((((w.alloc (.cells (thC t) 46)).alloc (.cells (insA i) 53)).alloc (.cells (portA z f) 90)).alloc (.cells th0A 46)) := by
  have p := ((((Pst.start V h).alloc V (thC t) 46).alloc V (insA i) 53).alloc V (portA z f) 90).alloc V th0A 46
  simp only [size1] at p
  refine ⟨p.less (by simp), (((Has.new w _ _).alloc _ _).alloc _ _).alloc _ _, ?_, ?_, ?_⟩
  · have := ((Has.new (w.alloc (.cells (thC t) 46)) (insA i) 53).alloc (portA z f) 90).alloc th0A 46
    rwa [size1] at this
  · have := (Has.new ((w.alloc (.cells (thC t) 46)).alloc (.cells (insA i) 53)) (portA z f) 90).alloc th0A 46
    rwa [size1, size1] at this
  · have := Has.new (((w.alloc (.cells (thC t) 46)).alloc (.cells (insA i) 53)).alloc (.cells (portA z f) 90)) (thC th0) 46
    rwa [size1, size1, size1] at this
theorem Fr4.loc {F : List Nat} {w : World} {t : Th} {i : Ins} {z : Int} {f : Fns} {r : Th} {s s' : S} {u u' : World} (h : Fr4 I F w t i z f r s u) (k : Loc [w.heap.size, w.heap.size + 1, w.heap.size + 1 + 1, w.heap.size + 1 + 1 + 1] u u')
    (p : Pst I F w [w.heap.size, w.heap.size + 1, w.heap.size + 1 + 1, w.heap.size + 1 + 1 + 1] s' u') : Fr4 I F w t i z f r s' u' :=
  ⟨p, h.b0.loc k (by simp), h.b1.loc k (by simp), h.b2.loc k (by simp), h.b3.loc k (by simp)⟩
theorem Fr4.set (V : Inv I) {F : List Nat} {w : World} {t t' : Th} {i : Ins} {z : Int} {f : Fns} {r : Th} {s : S} {u : World} (h : Fr4 I F w t i z f r s u) (o : Nat) (v : Value) (e : (thC t).setIfInBounds o v = thC t') : Fr4 I F w t' i z f r s (u.setCell ⟨w.heap.size, o, none⟩ v) :=
  ⟨h.p.setCell V _ _ _ (by simp) (Nat.le_refl _), (h.b0.set o v).of e, h.b1.aside (by omega) o v, h.b2.aside (by omega) o v, h.b3.aside (by omega) o v⟩
theorem Fr4.all (V : Inv I) {F : List Nat} {w : World} {t : Th} {i : Ins} {z : Int} {f : Fns} {r : Th} {s : S} {u : World} (h : Fr4 I F w t i z f r s u) (t' : Th) : Fr4 I F w t' i z f r s (u.setRow w.heap.size (thC t')) :=
  ⟨h.p.setRow V _ _ (by simp) (Nat.le_refl _), h.b0.row _, h.b1.rowAside (by omega) _, h.b2.rowAside (by omega) _, h.b3.rowAside (by omega) _⟩
theorem Fr4.res (V : Inv I) {F : List Nat} {w : World} {t : Th} {i : Ins} {z : Int} {f : Fns} {r : Th} {s : S} {u : World} (h : Fr4 I F w t i z f r s u) (r' : Th) : Fr4 I F w t i z f r' s (u.setRow (w.heap.size + 1 + 1 + 1) (thC r')) :=
  ⟨h.p.setRow V _ _ (by simp) (by omega), h.b0.rowAside (by omega) _, h.b1.rowAside (by omega) _, h.b2.rowAside (by omega) _, h.b3.row _⟩
theorem Fr4.gr (V : Inv I) {F : List Nat} {w : World} {t : Th} {i : Ins} {z : Int} {f : Fns} {r : Th} {s : S} {u u' : World} (h : Fr4 I F w t i z f r s u) (g : Gr u u') : Fr4 I F w t i z f r s u' :=
  ⟨h.p.gr V g, h.b0.later g, h.b1.later g, h.b2.later g, h.b3.later g⟩
end

theorem infoI5 : (Tryz.prog.info? 53).map (·.size) = some 5 := by kernel_rfl
theorem infoP11 : (Tryz.prog.info? 90).map (·.size) = some 11 := by kernel_rfl
/-- records are read whole in a region that draws its order -/
theorem take_th {ops : Array Oper} {S : World → Prop} {op : Oper} {a : Act} (hw : Region.wanted op (yielded ops a.tmps) = true) (x : Operand) (ho : op.op = .load 46 x)
    (g : Nat) (hx : a.eval x = .pointer (some ⟨g, 0, none⟩)) (t : Th) (hS : ∀ w, S w → Has w g (thC t) 46) (hs : ThOk t) : YieldsIf Tryz.prog ops S op (.agg (thC t)) a :=
  .inl ⟨hw, fun w hw' => by
    unfold execOp
    simp only [ho, hx, Instr.loadAt, Instr.sureAddr, Sem.run_bind, Sem.run_pure, Result.andThen_ok, run_loadVar_row w g 46 46 (thC t) (0, 0) _ (hS w hw') Tryz.underlying46 rfl (infoT_of hs)]⟩
theorem take_ins {ops : Array Oper} {S : World → Prop} {op : Oper} {a : Act} (hw : Region.wanted op (yielded ops a.tmps) = true) (x : Operand) (ho : op.op = .load 53 x)
    (g : Nat) (hx : a.eval x = .pointer (some ⟨g, 0, none⟩)) (i : Ins) (hS : ∀ w, S w → Has w g (insA i) 53) : YieldsIf Tryz.prog ops S op (.agg (insA i)) a :=
  .inl ⟨hw, fun w hw' => by
    unfold execOp
    simp only [ho, hx, Instr.loadAt, Instr.sureAddr, Sem.run_bind, Sem.run_pure, Result.andThen_ok, run_loadVar_row w g 53 53 (insA i) (0, 0) _ (hS w hw') Tryz.underlying53 rfl infoI5]⟩
theorem take_port {ops : Array Oper} {S : World → Prop} {op : Oper} {a : Act} (hw : Region.wanted op (yielded ops a.tmps) = true) (x : Operand) (ho : op.op = .load 90 x)
    (g : Nat) (hx : a.eval x = .pointer (some ⟨g, 0, none⟩)) (z : Int) (f : Fns) (hS : ∀ w, S w → Has w g (portA z f) 90) : YieldsIf Tryz.prog ops S op (.agg (portA z f)) a :=
  .inl ⟨hw, fun w hw' => by
    unfold execOp
    simp only [ho, hx, Instr.loadAt, Instr.sureAddr, Sem.run_bind, Sem.run_pure, Result.andThen_ok, run_loadVar_row w g 90 90 (portA z f) (0, 0) _ (hS w hw') Tryz.underlying90 rfl infoP11]⟩

/-- a word is stored -/
theorem wp_store_word {o : Oper} {a : Act} {w : World} {K : Act → World → Prop} {Q : Exit → Act → World → Prop} (hd0 : o.dst = none) (x y : Operand) (ho : o.op = .store 43 x y) (g j : Nat) (hx : a.eval x = .pointer (some ⟨g, j, none⟩)) (v : Int) (hy : a.eval y = .int .u32 v)
    (old : Int) (hc : w.cell? ⟨g, j, none⟩ = some (.int .u32 old)) (hf : w.frozen? ⟨g, j, none⟩ = false) (h : K a (w.setCell ⟨g, j, none⟩ (.int .u32 v))) : Oper.wp Tryz.prog o a w K Q := by
  unfold Oper.wp execOp
  simp only [ho, hx, hy]
  go_simp
  exact h
/-- an instruction is read whole -/
theorem load_ins {ops : Array Oper} {rest : List Oper} {op : Oper} {a : Act} {w : World} {Q : Exit → Act → World → Prop} (hgd : op.guard = none) (x : Operand) (ho : op.op = .load 53 x)
    (g : Nat) (hx : a.eval x = .pointer (some ⟨g, 0, none⟩)) (i : Ins) (hg : Has w g (insA i) 53)
    (h : wpList Tryz.prog ops Q rest (a.put op.dst (.agg (insA i))) w) : wpList Tryz.prog ops Q (op :: rest) a w :=
  wpList_load_row hgd 53 x ho g hx 53 (insA i) (0, 0) _ hg Tryz.underlying53 rfl infoI5 h
/-- a port is read whole -/
theorem load_port {ops : Array Oper} {rest : List Oper} {op : Oper} {a : Act} {w : World} {Q : Exit → Act → World → Prop} (hgd : op.guard = none) (x : Operand) (ho : op.op = .load 90 x)
    (g : Nat) (hx : a.eval x = .pointer (some ⟨g, 0, none⟩)) (z : Int) (f : Fns) (hg : Has w g (portA z f) 90)
    (h : wpList Tryz.prog ops Q rest (a.put op.dst (.agg (portA z f))) w) : wpList Tryz.prog ops Q (op :: rest) a w :=
  wpList_load_row hgd 90 x ho g hx 90 (portA z f) (0, 0) _ hg Tryz.underlying90 rfl infoP11 h
set_option maxHeartbeats 400000 in
theorem inMemory_calls (n z : Int) (f : Fns) (hn : U32 n) (w : World) :
    Calls Tryz.prog 61 #[.int .u32 n, .agg (portA z f)] w fun e w' => e = .returned (.bool (decide (n < z))) ∧ Gr w w' := by
  have HG := hide ((Gr.refl w).alloc (portA z f) 90)
  have hw := wrap_u32 hn
  obtain ⟨h0, h1⟩ := hn
  go_enter Tryz.func61, Tryz.ntmps61
  go_wp2_with (fail)
  go_ret
  exact ⟨rfl, HG.out⟩
end Go.Proofs.YtfhplbmgjgfihaaGreatDoor.Mp
