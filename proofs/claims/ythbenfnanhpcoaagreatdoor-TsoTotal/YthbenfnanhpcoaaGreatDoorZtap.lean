/-
  What Address, inMemory, next, inStead and whole answer of any thread, instruction and port. No condition but that registers are words.
-/
import Derived.Test.YthbenfnanhpcoaaGreatDoorZtag
namespace Go.Proofs.YthbenfnanhpcoaaGreatDoor
open Go.ChangeShapes Go.WideShapes Go.ChangeAt Go.RowKit
set_option linter.unusedVariables false

theorem reg_nat {n : Int} (h : regB n = true) : ∃ k : Nat, n = k ∧ k < 8 := by
  simp [regB] at h
  obtain ⟨k, rfl⟩ := Int.eq_ofNat_of_zero_le h.1
  exact ⟨k, rfl, by omega⟩

set_option maxHeartbeats 400000 in
theorem address_calls {t : Th} (h : ThOk t) (i : Ins) (w : World) :
    Calls Tryz.prog 94 #[.agg (thC t), .agg (insA i)] w fun e w' => e = .returned (.int .u32 (addrM t i)) ∧ Gr w w' := by
  obtain ⟨op, a, b, c, k⟩ := i
  have HG := hide (((Gr.refl w).alloc (thC t) 42).alloc (insA ⟨op, a, b, c, k⟩) 72)
  cases hr : regB b
  · have HM : Hid (addrM t ⟨op, a, b, c, k⟩ = k) := by show addrM t _ = k; simp [addrM, hr]
    by_cases h0 : b < 0
    · clear hr h
      go_enter Tryz.func94, Tryz.ntmps94
      go_wp2_with (fail)
      go_ret
      exact ⟨by rw [HM.out]; rfl, HG.out⟩
    · have h8 : ¬ b < 8 := by intro q; simp [regB] at hr; omega
      clear hr h
      go_enter Tryz.func94, Tryz.ntmps94
      go_wp2_with (fail)
      go_ret
      exact ⟨by rw [HM.out]; rfl, HG.out⟩
  · obtain ⟨n, rfl, hn⟩ := reg_nat hr
    have hn' : (n : Int) < 8 := by omega
    have HM : Hid (addrM t ⟨op, a, n, c, k⟩ = IntKind.u32.wrap (k + t.reg n)) := by show addrM t _ = _; simp [addrM, hr]
    have cr := thC_reg h n hn
    have HS := hide (thC_size h)
    clear hr h
    go_enter Tryz.func94, Tryz.ntmps94
    go_wp2_with (fail)
    go_quiet (fail)
    go_wp2_with (fail)
    go_ret
    exact ⟨by rw [HM.out]; rfl, HG.out.drewN _⟩

theorem wrap_u32 {n : Int} (h : U32 n) : IntKind.i64.wrap n = n := by
  have := h.1; have := h.2
  rw [IntKind.wrap_i64]; omega
theorem u32_wrap (n : Int) : U32 (IntKind.u32.wrap n) := by
  unfold U32
  rw [IntKind.wrap_u32]; omega
theorem addr_u32 {t : Th} {i : Ins} (h : ThOk t) (hi : InsOk i) : U32 (addrM t i) := by
  unfold addrM
  split
  · exact u32_wrap _
  · exact ⟨hi.k0, hi.k1⟩

set_option maxHeartbeats 400000 in
theorem inMemory_calls (n z : Int) (f : Fns) (hn : U32 n) (w : World) :
    Calls Tryz.prog 93 #[.int .u32 n, .agg (portA z f)] w fun e w' => e = .returned (.bool (decide (n < z))) ∧ Gr w w' := by
  have HG := hide ((Gr.refl w).alloc (portA z f) 103)
  have hw := wrap_u32 hn
  obtain ⟨h0, h1⟩ := hn
  go_enter Tryz.func93, Tryz.ntmps93
  go_wp2_with (fail)
  go_ret
  exact ⟨rfl, HG.out⟩

set_option maxHeartbeats 400000 in
theorem next_calls {t : Th} (h : ThOk t) (i : Ins) (hi : InsOk i) (ha : regB i.a = true) (hp : 0 ≤ t.pc) (hp' : t.pc < 4611686018427387904) (w : World) :
    Calls Tryz.prog 133 #[.agg (thC t), .agg (insA i)] w fun e w' => e = .returned (.int .i64 (nextM t i)) ∧ Gr w w' := by
  obtain ⟨op, a, b, c, k⟩ := i
  have HG := hide (((Gr.refl w).alloc (thC t) 42).alloc (insA ⟨op, a, b, c, k⟩) 72)
  obtain ⟨n, rfl, hn⟩ := reg_nat ha
  have hn' : (n : Int) < 8 := by omega
  have cr := thC_reg h n hn
  have cp := thC_pc t
  have hk : IntKind.i64.wrap k = k := wrap_u32 ⟨hi.k0, hi.k1⟩
  have hpw : IntKind.i64.wrap (t.pc + 1) = t.pc + 1 := by rw [IntKind.wrap_i64]; omega
  have HM : Hid (nextM t ⟨op, n, b, c, k⟩ = if (op == 14 && t.reg n != 0) || (op == 15 && t.reg n == 0) then t.pc + 1 else k) := rfl
  generalize t.reg n = r at cr HM
  generalize t.pc = pc at cp hpw HM
  clear ha hi h hp hp'
  by_cases h14 : op = 14
  · subst h14
    cases hr : (r == 0)
    · have hr' : (r != 0) = true := by simp [bne, hr]
      go_enter Tryz.func133, Tryz.ntmps133
      go_wp2_with (fail)
      go_ret
      exact ⟨by rw [HM.out]; simp [hr'], HG.out⟩
    · have hr' : (r != 0) = false := by simp [bne, hr]
      go_enter Tryz.func133, Tryz.ntmps133
      go_wp2_with (fail)
      go_ret
      exact ⟨by rw [HM.out]; simp [hr'], HG.out⟩
  · have e14 : (op == 14) = false := by simp [h14]
    by_cases h15 : op = 15
    · subst h15
      cases hr : (r == 0)
      · go_enter Tryz.func133, Tryz.ntmps133
        go_wp2_with (fail)
        go_ret
        exact ⟨by rw [HM.out]; simp [hr], HG.out⟩
      · go_enter Tryz.func133, Tryz.ntmps133
        go_wp2_with (fail)
        go_ret
        exact ⟨by rw [HM.out]; simp [hr], HG.out⟩
    · have e15 : (op == 15) = false := by simp [h15]
      clear h14 h15
      go_enter Tryz.func133, Tryz.ntmps133
      go_wp2_with (fail)
      go_ret
      exact ⟨by rw [HM.out]; simp [e14, e15], HG.out⟩

set_option maxHeartbeats 400000 in
theorem inStead_calls {t : Th} (h : ThOk t) (i : Ins) (ha : regB i.a = true) (hc : regB i.c = true) (old : Int) (w : World) :
    Calls Tryz.prog 148 #[.agg (thC t), .agg (insA i), .int .u32 old] w fun e w' => e = .returned (.tuple #[.int .u32 (insteadM t i old).1, .bool (insteadM t i old).2]) ∧ Gr w w' := by
  obtain ⟨op, a, b, c, k⟩ := i
  obtain ⟨n, rfl, hn⟩ := reg_nat ha
  obtain ⟨m, rfl, hm⟩ := reg_nat hc
  have HG := hide (((Gr.refl w).alloc (thC t) 42).alloc (insA ⟨op, n, b, m, k⟩) 72)
  have hn' : (n : Int) < 8 := by omega
  have hm' : (m : Int) < 8 := by omega
  have cr := thC_reg h n hn
  have cs := thC_reg h m hm
  have HM : Hid (insteadM t ⟨op, n, b, m, k⟩ old = if op = 20 then (IntKind.u32.wrap (old + t.reg n), true)
    else if op = 21 then (if old == t.reg n then (t.reg m, true) else (old, false)) else (t.reg n, true)) := rfl
  generalize t.reg n = r at cr HM
  generalize t.reg m = q at cs HM
  clear ha hc h
  by_cases h20 : op = 20
  · subst h20
    go_enter Tryz.func148, Tryz.ntmps148
    go_wp2_with (fail)
    go_ret2
    exact ⟨by rw [HM.out]; rfl, HG.out⟩
  · have e20 : (op == 20) = false := by simp [h20]
    by_cases h21 : op = 21
    · subst h21
      cases hr : (old == r)
      · have hr' : (old != r) = true := by simp [bne, hr]
        go_enter Tryz.func148, Tryz.ntmps148
        go_wp2_with (fail)
        go_ret2
        exact ⟨by rw [HM.out]; simp [hr], HG.out⟩
      · have hr' : (old != r) = false := by simp [bne, hr]
        go_enter Tryz.func148, Tryz.ntmps148
        go_wp2_with (fail)
        go_ret2
        exact ⟨by rw [HM.out]; simp [hr], HG.out⟩
    · have e21 : (op == 21) = false := by simp [h21]
      have HM2 : Hid (insteadM t ⟨op, n, b, m, k⟩ old = (r, true)) := by show _ = _; rw [HM.out]; simp [h20, h21]
      clear h20 h21
      go_enter Tryz.func148, Tryz.ntmps148
      go_wp2_with (fail)
      go_ret2
      exact ⟨by rw [HM2.out]; rfl, HG.out⟩
end Go.Proofs.YthbenfnanhpcoaaGreatDoor

namespace Go.Proofs.YthbenfnanhpcoaaGreatDoor.Mp
open Go.ChangeShapes Go.WideShapes Go.ChangeAt Go.RowKit
set_option linter.unusedVariables false
set_option maxRecDepth 20000

/-- a function value of the program's own that is called so, with these arguments, its receiver's among them -/
structure DoesV {S : Type} (I : List Nat → S → World → Prop) (s : S) (w : World) (G : FuncId) (all : Array Value) (v : Value) (s' : S) : Prop where
  run : ∀ args w, (callFunc G args).run Tryz.prog w = .ok (.enter G args) w
  does : Does I s w G all v s'
/-- a port's ten functions, and their receiver -/
structure Fns where
  f1 : FuncId
  f2 : FuncId
  f3 : FuncId
  f4 : FuncId
  f5 : FuncId
  f6 : FuncId
  f7 : FuncId
  f8 : FuncId
  f9 : FuncId
  f10 : FuncId
  r : Value
abbrev portA (z : Int) (f : Fns) : Array Value := #[.int .i64 z, .func (.func f.f1) #[f.r] #[], .func (.func f.f2) #[f.r] #[], .func (.func f.f3) #[f.r] #[], .func (.func f.f4) #[f.r] #[], .func (.func f.f5) #[f.r] #[], .func (.func f.f6) #[f.r] #[], .func (.func f.f7) #[f.r] #[], .func (.func f.f8) #[f.r] #[], .func (.func f.f9) #[f.r] #[], .func (.func f.f10) #[f.r] #[]]
/-- these functions are that port's, as long as there is room for what they add -/
structure PortOk {S : Type} (I : List Nat → S → World → Prop) (M : Prt S) (f : Fns) : Prop where
  inv : Inv I
  size : 0 ≤ M.size ∧ M.size ≤ 4611686018427387904
  load : ∀ s w m, 0 ≤ m → m < M.size → 200 ≤ M.fuel s → DoesV I s w f.f1 #[f.r, .int .i64 m] (.int .u32 (M.load s m)) (M.loadS s m)
  loadU : ∀ F s w m, I F s w → U32 (M.load s m)
  loadF : ∀ s m, M.fuel s ≤ M.fuel (M.loadS s m) + 200
  room : ∀ s w, 200 ≤ M.fuel s → DoesV I s w f.f2 #[f.r] (.bool (M.room s)) s
  store : ∀ s w m v, 0 ≤ m → m < M.size → U32 v → M.room s = true → 200 ≤ M.fuel s → DoesV I s w f.f3 #[f.r, .int .i64 m, .int .u32 v] (.tuple #[]) (M.store s m v)
  storeF : ∀ s m v, M.fuel s ≤ M.fuel (M.store s m v) + 200
  empty : ∀ s w, 200 ≤ M.fuel s → DoesV I s w f.f4 #[f.r] (.bool (M.empty s)) s
  flush : ∀ s w, 200 ≤ M.fuel s → DoesV I s w f.f5 #[f.r] (.tuple #[]) (M.flush s)
  swap : ∀ s w m v, 0 ≤ m → m < M.size → U32 v → 200 ≤ M.fuel s → DoesV I s w f.f6 #[f.r, .int .i64 m, .int .u32 v] (.int .u32 (M.swap s m v)) (M.swapS s m v)
  swapF : ∀ s m v, M.fuel s ≤ M.fuel (M.swapS s m v) + 200
  sleep : ∀ s w m, 0 ≤ m → m < M.size → 200 ≤ M.fuel s → DoesV I s w f.f7 #[f.r, .int .i64 m] (.tuple #[]) (M.sleep s m)
  wake : ∀ s w m v, 0 ≤ m → m < M.size → U32 v → 200 ≤ M.fuel s → DoesV I s w f.f8 #[f.r, .int .i64 m, .int .u32 v] (.int .u32 (M.wake s m v)) (M.wakeS s m v)
  wakeU : ∀ F s w m v, I F s w → U32 (M.wake s m v)
  wakeF : ∀ s m v, M.fuel s ≤ M.fuel (M.wakeS s m v) + 200
  remote : ∀ s w, 200 ≤ M.fuel s → DoesV I s w f.f9 #[f.r] (.tuple #[]) (M.remote s)
  remoteF : ∀ s, M.fuel s ≤ M.fuel (M.remote s) + 200
  note : ∀ s w x, 200 ≤ M.fuel s → DoesV I s w f.f10 #[f.r, .agg (evA x)] (.tuple #[]) (M.note s x)
  noteF : ∀ s x, M.fuel s ≤ M.fuel (M.note s x) + 200
end Go.Proofs.YthbenfnanhpcoaaGreatDoor.Mp
