/-
  What Step does, of any thread and any code. No condition but that the port's functions are such, and have room, and that the code is of words.
-/
import Derived.Test.YthbenfnanhpcoaaGreatDoorZzbb
import Derived.Test.YthbenfnanhpcoaaGreatDoorZzbcSStpA
import Derived.Test.YthbenfnanhpcoaaGreatDoorZzai
import Derived.Test.YthbenfnanhpcoaaGreatDoorZzah
import Derived.Test.YthbenfnanhpcoaaGreatDoorZzakKqSift
import Derived.Test.YthbenfnanhpcoaaGreatDoorZzajKnRow
namespace Go.Proofs.YthbenfnanhpcoaaGreatDoor.Sp
open Go.ChangeShapes Go.WideShapes Go.ChangeAt Go.RowKit
set_option linter.unusedVariables false
set_option maxRecDepth 20000

theorem step_does {S : Type} {I : List Nat → S → World → Prop} {M : Prt S} {f : Fns} (P : PortOk I M f) {t : Th} (ht : ThOk t) (code : List Ins) (hi : ∀ i ∈ code, InsOk i) (hlen : code.length < 4611686018427387904) (ad : Option Addr) (cap : Nat) (s : S) (hq : 1000 ≤ M.fuel s) (w : World) (hrow : RowAt w ad (flatOf insL code)) :
    Does I s w 62 #[.agg (thC t), .slice ad code.length cap, .agg (portA M.size f)] (.agg (thC (stepM M t code s).1)) (stepM M t code s).2 := by
  cases hs : (t.st != 0)
  · cases h0 : (decide (t.pc < 0) || decide ((code.length : Int) ≤ t.pc))
    · have h1 : 0 ≤ t.pc ∧ t.pc < code.length := by
        rw [Bool.or_eq_false_iff, decide_eq_false_iff_not, decide_eq_false_iff_not] at h0
        omega
      obtain ⟨n, hn⟩ := Int.eq_ofNat_of_zero_le h1.1
      have hl : n < code.length := by omega
      refine step_at P ht code ad cap s hq w hrow hs n hn hl hlen ?_
      rw [List.getD_eq_getElem?_getD, List.getElem?_eq_getElem hl]
      exact hi _ (List.getElem_mem hl)
    · exact step_end P ht code ad cap hs h0 s hq w hrow
  · exact step_not P ht code ad cap hs s hq w hrow
/-- a thread's step leaves a thread -/
theorem stepM_ok {S : Type} {I : List Nat → S → World → Prop} {M : Prt S} {f : Fns} (P : PortOk I M f) {F : List Nat} {s : S} {w : World} (hI : I F s w) {t : Th} (ht : ThOk t) (code : List Ins) (hi : ∀ i ∈ code, InsOk i) : ThOk (stepM M t code s).1 := by
  unfold stepM
  split
  · exact ht
  split
  · exact ht.is 2
  · rename_i h1 h2
    have h3 : ¬ (t.pc < 0 ∨ (code.length : Int) ≤ t.pc) := by simpa using h2
    unfold atM
    split
    · exact ht.is 3
    split
    · exact ht
    · refine doneM_ok P hI ht _ ?_
      have hl : t.pc.toNat < code.length := by omega
      rw [List.getD_eq_getElem?_getD, List.getElem?_eq_getElem hl]
      exact hi _ (List.getElem_mem hl)
end Go.Proofs.YthbenfnanhpcoaaGreatDoor.Sp

namespace Go.Proofs.YthbenfnanhpcoaaGreatDoor.Ks
open Go.Proofs.YthbenfnanhpcoaaGreatDoor.Kq Go.ChangeShapes Go.WideShapes Go.ChangeAt Go.RowKit
open Go.Proofs.YthbenfnanhpcoaaGreatDoor.Kn
set_option linter.unusedVariables false
set_option maxRecDepth 20000

/-- the block g is a machine's, with a queue of these sleepers -/
def Q (w : World) (g : Nat) (a b e : Value) (l : List Ent) : Prop := ∃ C, Has w g (machC a b C e) 113 ∧ IsB C l
theorem Q.later {w w' : World} {g : Nat} {a b e : Value} {l : List Ent} (h : Q w g a b e l) (k : Gr w w') : Q w' g a b e l := by obtain ⟨C, h1, h2⟩ := h; exact ⟨C, h1.later k, h2⟩
theorem Q.kept {w w' : World} {g : Nat} {a b e : Value} {l : List Ent} {x : List Nat} (h : Q w g a b e l) (k : Kp x w w') (hg : g ∉ x) : Q w' g a b e l := by obtain ⟨C, h1, h2⟩ := h; exact ⟨C, h1.kept k hg, h2⟩
theorem Q.lt {w : World} {g : Nat} {a b e : Value} {l : List Ent} (h : Q w g a b e l) : g < w.heap.size := by obtain ⟨C, h1, h2⟩ := h; exact h1.lt

set_option maxHeartbeats 1000000 in
theorem last_calls {g : Nat} {a b e : Value} {l : List Ent} {w : World} (h : Q w g a b e l) (hl : l.length < 8) (x : Ent) :
    Calls Tryz.prog 138 #[.pointer (some ⟨g, 2, none⟩), .agg #[.int .i64 x.a, .int .i64 x.v]] w fun r w' => (r = .returned (.tuple #[]) ∧ Kp [g] w w') ∧ Q w' g a b e (l ++ [x]) := by
  obtain ⟨C, h0, r, hi⟩ := h
  have HB := hide hi
  have hs : C.size = 17 := IsB.size ⟨r, hi⟩
  have c16 : (machC a b C e)[18]? = some (.int .i64 l.length) := by
    rw [show 18 = 2 + 16 from rfl, mach_q (by omega)]
    exact hi.count
  have hsz := mach_size (a := a) (b := b) (e := e) hs
  have a0 := h0.alloc #[.int .i64 x.a, .int .i64 x.v] 83
  have a1 := Has.new w #[.int .i64 x.a, .int .i64 x.v] 83
  have ag := (Gr.refl w).alloc #[.int .i64 x.a, .int .i64 x.v] 83
  have hgs := h0.lt
  have hll : (l.length : Int) < 8 := by omega
  clear hi h0
  go_enter Tryz.func138, Tryz.ntmps138
  go_wp2_with (fail)
  generalize hw1 : w.alloc (.cells #[.int .i64 x.a, .int .i64 x.v] 83) = w1 at a0 a1 ag
  refine begin_late 10 [9] (fun w' => Gr w1.drew w') (by kernel_rfl) rfl ?_
  have hH := Gr.refl w1.drew
  refine AnyL.takeP 0 (some 4) (.pointer (some ⟨g, 2, none⟩)) rfl rfl (by kernel_rfl) (by kernel_rfl) (by kernel_rfl) (by kernel_rfl) (fun _ _ _ h => h) (by kernel_rfl) (fun w' => by go_simp) (fun _ => hH) ?_
  simp only [Act.put, List.setIfInBounds_toArray, List.set_cons_zero, List.set_cons_succ]
  refine AnyL.takeP 1 (some 5) (.pointer (some ⟨g, 2, none⟩)) rfl rfl (by kernel_rfl) (by kernel_rfl) (by kernel_rfl) (by kernel_rfl) (fun _ _ _ h => h) (by kernel_rfl) (fun w' => by go_simp) (fun _ => hH) ?_
  simp only [Act.put, List.setIfInBounds_toArray, List.set_cons_zero, List.set_cons_succ]
  refine AnyL.takeP 2 (some 6) (.pointer (some ⟨g, 2, none⟩)) rfl rfl (by kernel_rfl) (by kernel_rfl) (by kernel_rfl) (by kernel_rfl) (fun _ _ _ h => h) (by kernel_rfl) (fun w' => by go_simp) (fun _ => hH) ?_
  simp only [Act.put, List.setIfInBounds_toArray, List.set_cons_zero, List.set_cons_succ]
  refine AnyL.takeP 3 (some 7) (.pointer (some ⟨g, 18, none⟩)) rfl rfl (by kernel_rfl) (by kernel_rfl) (by kernel_rfl) (by kernel_rfl) (fun _ _ _ h => h) (by kernel_rfl) (fun w' => by go_simp) (fun _ => hH) ?_
  simp only [Act.put, List.setIfInBounds_toArray, List.set_cons_zero, List.set_cons_succ]
  refine AnyL.take 4 (some 8) (.int .i64 l.length) rfl rfl (by kernel_rfl) (by kernel_rfl) (by kernel_rfl) (by kernel_rfl) (fun _ _ _ h => h) (yields_held _ (by kernel_rfl) (fun w' hw' => by have := (a0.drew.later hw').cell c16; go_simp)) hH ?_
  simp only [Act.put, List.setIfInBounds_toArray, List.set_cons_zero, List.set_cons_succ]
  refine AnyL.take 5 (some 9) (.agg #[.int .i64 x.a, .int .i64 x.v]) rfl rfl (by kernel_rfl) (by kernel_rfl) (by kernel_rfl) (by kernel_rfl) (fun _ _ _ h => h) (yields_held _ (by kernel_rfl) (fun w' hw' => by have h1 := (a1.drew.later hw').cell (o := 0) rfl; have h2 := (a1.drew.later hw').cell (o := 1) rfl; go_simp)) hH ?_
  simp only [Act.put, List.setIfInBounds_toArray, List.set_cons_zero, List.set_cons_succ]
  refine AnyL.takeP 6 (some 10) (.pointer (some ⟨g, 2, none⟩)) rfl rfl (by kernel_rfl) (by kernel_rfl) (by kernel_rfl) (by kernel_rfl) (fun _ _ _ h => h) (by kernel_rfl) (fun w' => by go_simp) (fun _ => hH) ?_
  simp only [Act.put, List.setIfInBounds_toArray, List.set_cons_zero, List.set_cons_succ]
  refine AnyL.takeP 7 (some 11) (.pointer (some ⟨g, 2, none⟩)) rfl rfl (by kernel_rfl) (by kernel_rfl) (by kernel_rfl) (by kernel_rfl) (fun _ _ _ h => h) (by kernel_rfl) (fun w' => by go_simp) (fun _ => hH) ?_
  simp only [Act.put, List.setIfInBounds_toArray, List.set_cons_zero, List.set_cons_succ]
  refine AnyL.takeP 8 (some 12) (.pointer (some ⟨g, 2 + l.length * 2, none⟩)) rfl rfl (by kernel_rfl) (by kernel_rfl) (by kernel_rfl) (by kernel_rfl) (fun _ _ _ h => h) (by kernel_rfl) (fun w' => by go_simp) (fun _ => hH) ?_
  simp only [Act.put, List.setIfInBounds_toArray, List.set_cons_zero, List.set_cons_succ]
  refine AnyL.one 9 (by kernel_rfl) rfl (by kernel_rfl) ?_
  refine wp_store_ent rfl _ _ rfl g (2 + l.length * 2) rfl x rfl (machC a b C e) 113 a0.drew (by omega) ?_
  refine ⟨late (by kernel_rfl), ?_⟩
  refine AnyL.done (by kernel_rfl) ?_
  have e0 : Has (w1.drew.setCells g (2 + l.length * 2) [.int .i64 x.a, .int .i64 x.v]) g (machC a b (bufC (r.set l.length x) l.length) e) 113 := by
    have q := (a0.drew.set (2 + l.length * 2) (.int .i64 x.a)).set (2 + l.length * 2 + 1) (.int .i64 x.v)
    rw [mach_set (by omega), show 2 + l.length * 2 + 1 = 2 + (l.length * 2 + 1) from by omega, mach_set (by simp; omega), HB.out.cells, bufC_set HB.out.ring _ l.length hl x] at q
    exact q
  have kp : Kp [g] w (w1.drew.setCells g (2 + l.length * 2) [.int .i64 x.a, .int .i64 x.v]) := ((ag.drew.kp []).trans (Kp.setCell _ g (2 + l.length * 2) (.int .i64 x.a)) (f := [g]) (by simp) (by simp)).trans (Kp.setCell _ g (2 + l.length * 2 + 1) (.int .i64 x.v)) (by simp) (by simp)
  generalize w1.drew.setCells g (2 + l.length * 2) [.int .i64 x.a, .int .i64 x.v] = w2 at e0 kp ⊢
  have hr' : (r.set l.length x).length = 8 := by rw [List.length_set]; exact HB.out.ring
  have hs2 := bufC_size hr' (l.length : Int)
  have k1 := e0.cell (o := 18) (v := .int .i64 l.length) (by rw [show 18 = 2 + 16 from rfl, mach_q (by omega)]; exact bufC_count hr' _)
  have k2 := e0.free 18
  have s0 := e0.set 18 (.int .i64 ((l.length : Int) + 1))
  rw [show 18 = 2 + 16 from rfl, mach_set (by omega), bufC_set_count hr'] at s0
  clear a0 a1 ag hH e0 hw1 c16
  go_wp2_with (fail)
  go_end0
  exact ⟨⟨rfl, kp.trans (Kp.setCell _ g 18 _) (by simp) (by simp)⟩, _, s0, _, is_put HB.out hl x⟩

set_option maxHeartbeats 1000000 in
theorem asleep_calls {g : Nat} {a b e : Value} {l : List Ent} {w : World} (h : Q w g a b e l) (who : Int) :
    Calls Tryz.prog 140 #[.pointer (some ⟨g, 2, none⟩), .int .i64 who] w fun r w' => r = .returned (asleepV (findK who l)) ∧ Gr w w' := by
  obtain ⟨C, h0, hi⟩ := h
  have HB := hide hi
  have hs := hi.size
  have c16 : w.cell? ⟨g, 18, none⟩ = some (.int .i64 l.length) := h0.cell (by rw [show 18 = 2 + 16 from rfl, mach_q (by omega)]; exact hi.count)
  have hlen := hi.len
  have hll : (l.length : Int) ≤ 8 := by omega
  clear hi
  go_enter Tryz.func140, Tryz.ntmps140
  go_wp2_with (fail)
  go_quiet (fail)
  go_wp2_with (fail)
  go_loopw [17] (fun i wr => ∃ k : Nat, k ≤ l.length ∧ i = .int .i64 k ∧ Has wr g (machC a b C e) 113 ∧ Gr w wr ∧ Hid (findK who l = findK who (l.drop k))) (fun i _ => l.length - (intOf i).toNat)
  case atStart => exact ⟨0, by omega, rfl, h0.drewN _, (Gr.refl w).drewN _, by show findK who l = findK who (l.drop 0); simp⟩
  case round =>
    clear h0 c16
    obtain ⟨k, hk, rfl, b0, bg, hn⟩ := hrel
    by_cases hlt : k < l.length
    · have hlt' : (k : Int) < l.length := by omega
      obtain ⟨ca0, cv0⟩ := HB.out.ent k hlt
      have HD := hide (drop_get l k hlt)
      generalize l.getD k ent0 = x at ca0 cv0 HD
      have ca : wr.cell? ⟨g, 2 + k * 2, none⟩ = some (.int .i64 x.a) := b0.cell (by rw [mach_q (by omega)]; exact ca0)
      have cv : wr.cell? ⟨g, 2 + k * 2 + 1, none⟩ = some (.int .i64 x.v) := b0.cell (by rw [show 2 + k * 2 + 1 = 2 + (k * 2 + 1) from by omega, mach_q (by omega)]; exact cv0)
      clear ca0 cv0
      by_cases hx : x.a = who
      · have hx' : (x.a == who) = true := by simp [hx]
        have HR : Hid (findK who l = some x.v) := by
          show findK who l = some x.v
          rw [hn.out, HD.out]
          simp [findK, hx]
        clear hn HD hx
        go_wp2_with (fail)
        go_ret2
        exact ⟨by rw [HR.out]; rfl, bg.alloc _ _⟩
      · have hx' : (x.a == who) = false := by simp [hx]
        have HN : Hid (findK who l = findK who (l.drop (k + 1))) := by
          show findK who l = _
          rw [hn.out, HD.out]
          simp [findK, hx]
        clear hn HD hx
        go_wp2_with (fail)
        exact ⟨⟨k + 1, by omega, by go_num, b0.alloc _ _, bg.alloc _ _, HN⟩, by simp [intOf]; omega⟩
    · obtain rfl : k = l.length := by omega
      have HN : Hid (findK who l = none) := by
        have := hn.out
        rw [List.drop_length] at this
        exact this
      clear hn
      go_wp2_with (fail)
      go_ret2
      exact ⟨by rw [HN.out]; rfl, bg⟩
end Go.Proofs.YthbenfnanhpcoaaGreatDoor.Ks

namespace Go.Proofs.YthbenfnanhpcoaaGreatDoor.Ks
open Go.Proofs.YthbenfnanhpcoaaGreatDoor.Kq Go.ChangeShapes Go.WideShapes Go.ChangeAt Go.RowKit
open Go.Proofs.YthbenfnanhpcoaaGreatDoor.Kn
set_option linter.unusedVariables false
set_option maxRecDepth 20000

set_option maxHeartbeats 1000000 in
theorem sleep_calls {g : Nat} {a b e : Value} {l : List Ent} {w : World} (h : Q w g a b e l) (ok : Ok l) (who addr : Int) :
    Calls Tryz.prog 113 #[.pointer (some ⟨g, 2, none⟩), .int .i64 who, .int .i64 addr] w fun r w' => (r = .returned (.int .i64 (sleepE who l)) ∧ Kp [g] w w') ∧ Q w' g a b e (sleepL who addr l) := by
  have HK := hide h
  have HO := hide ok
  clear h ok
  by_cases h1 : who < 0
  · have HE : Hid (sleepE who l = 1) := by show sleepE who l = 1; simp [sleepE, h1]
    go_enter Tryz.func113, Tryz.ntmps113
    go_wp2_with (fail)
    go_ret
    refine ⟨⟨by rw [HE.out]; rfl, Kp.refl _ _⟩, ?_⟩
    unfold sleepL
    rw [HE.out]
    exact HK.out
  by_cases h2 : 8 ≤ who
  · have HE : Hid (sleepE who l = 1) := by show sleepE who l = 1; simp [sleepE, h2]
    go_enter Tryz.func113, Tryz.ntmps113
    go_wp2_with (fail)
    go_ret
    refine ⟨⟨by rw [HE.out]; rfl, Kp.refl _ _⟩, ?_⟩
    unfold sleepL
    rw [HE.out]
    exact HK.out
  by_cases h3 : idx who l < l.length
  · have HE : Hid (sleepE who l = 6) := by show sleepE who l = 6; simp [sleepE, h1, h2, h3]
    have HF : Hid (asleepV (findK who l) = .tuple #[.int .i64 (l.getD (idx who l) ent0).v, .bool true]) := by
      show asleepV (findK who l) = _
      rw [findK_idx, if_pos h3]
      rfl
    clear h3
    go_enter Tryz.func113, Tryz.ntmps113
    go_wp2_with (fail)
    refine (asleep_calls HK.out who).mono ?_
    rintro r w1 ⟨rfl, g1⟩
    rw [HF.out]
    go_wp2_with (fail)
    go_ret
    refine ⟨⟨by rw [HE.out]; rfl, g1.kp _⟩, ?_⟩
    unfold sleepL
    rw [HE.out]
    exact HK.out.later g1
  · have HE : Hid (sleepE who l = 0) := by show sleepE who l = 0; simp [sleepE, h1, h2, h3]
    have HF : Hid (asleepV (findK who l) = .tuple #[.int .i64 0, .bool false]) := by
      show asleepV (findK who l) = _
      rw [findK_idx, if_neg h3]
      rfl
    have HL := hide (HO.out.room (by omega) (by omega) h3)
    clear h3
    go_enter Tryz.func113, Tryz.ntmps113
    go_wp2_with (fail)
    refine (asleep_calls HK.out who).mono ?_
    rintro r w1 ⟨rfl, g1⟩
    rw [HF.out]
    go_wp2_with (fail)
    refine (last_calls (HK.out.later g1) HL.out ⟨who, addr⟩).mono ?_
    rintro r w2 ⟨⟨rfl, g2⟩, k2⟩
    go_wp2_with (fail)
    go_ret
    refine ⟨⟨by rw [HE.out]; rfl, (g1.kp []).trans g2 (by simp) (by simp)⟩, ?_⟩
    unfold sleepL
    rw [HE.out]
    exact k2
end Go.Proofs.YthbenfnanhpcoaaGreatDoor.Ks

namespace Go.Proofs.YthbenfnanhpcoaaGreatDoor.Ks
open Go.Proofs.YthbenfnanhpcoaaGreatDoor.Kq Go.ChangeShapes Go.WideShapes Go.ChangeAt Go.RowKit
open Go.Proofs.YthbenfnanhpcoaaGreatDoor.Kn
set_option linter.unusedVariables false
set_option maxRecDepth 20000

/-- a call of a function value by its contract -/
theorem step_clo {ops : Array Oper} {rest : List Oper} {o : Oper} {a : Act} {w : World} {Q : Exit → Act → World → Prop} (hgd : o.guard = none) (d : Option Tmp) (hd : o.dst = d) (f x : Operand) (t : TypeId) (ho : o.op = .call { callee := .value f, args := #[x], argTypes := #[t] })
    (F : FuncId) (caps : Array Value) (hf : a.eval f = .func (.func F) #[] caps) (v : Value) (hx : a.eval x = v) (hF : ∀ args w, (callFunc F args).run Tryz.prog w = .ok (.enter F args) w)
    {R : Ending → World → Prop} (hc : Calls Tryz.prog F (#[v] ++ caps) w R) (h : ∀ e u, R e u → ∃ v, e = .returned v ∧ wpList Tryz.prog ops Q rest (a.put d v) u) : wpList Tryz.prog ops Q (o :: rest) a w :=
  wpList_plain hgd fun _ hK => wp_call d hd F _ (by
    unfold execOp
    simp [ho, resolve, Deferred.ofValue, invoke, hf, hx, hF]) hc fun e u k => by
      obtain ⟨v, rfl, hh⟩ := h e u k
      exact ⟨v, rfl, hK _ _ hh⟩

/-- what is so ahead of each round -/
structure SiftI (w : World) (g : Nat) (a b : Value) (C : Array Value) (e : Value) (I : Nat → World → Prop) (N : Nat) (s : S3) (wr : World) (v : Value) : Prop where
  has : Has wr g (machC a b C e) 113
  kp : Kp [N] w wr
  left : K wr w.heap.size s.left
  own : Nown wr w.heap.size v s.out
  inv : I s.n wr

set_option maxHeartbeats 2000000 in
theorem sift_calls {g : Nat} {a b e : Value} {l : List Ent} {w : World} (h : Q w g a b e l) (F : FuncId) (caps : Array Value) (st : Nat → Ent → Bool) (nx : Nat → Ent → Nat) (I : Nat → World → Prop) (N n0 : Nat)
    (hF : ∀ args w, (callFunc F args).run Tryz.prog w = .ok (.enter F args) w) (hc : CloP F caps st nx I N) (hI : ∀ n u u', I n u → Below w.heap.size u u' → I n u') (h0 : I n0 w) (hN : N < w.heap.size) (hNg : N ≠ g) :
    Calls Tryz.prog 97 #[.pointer (some ⟨g, 2, none⟩), .func (.func F) #[] caps] w fun r w' => ∃ v, (r = .returned v ∧ Kp [N, g] w w') ∧ Nown w' w.heap.size v (siftS st nx n0 l).out ∧ Q w' g a b e (siftS st nx n0 l).left := by
  obtain ⟨C, hg0, hi⟩ := h
  have HB := hide hi
  have hgs := hg0.lt
  have hlen := hi.len
  have hll : (l.length : Int) ≤ 8 := by omega
  have hg1 := hg0.alloc zeroC 86
  have kN := K.new w
  have gN := (Gr.refl w).alloc zeroC 86
  have hs17 := hi.size
  have c16 : (w.alloc (.cells zeroC 86)).cell? ⟨g, 18, none⟩ = some (.int .i64 l.length) := hg1.cell (by rw [show 18 = 2 + 16 from rfl, mach_q (by omega)]; exact hi.count)
  have HC := hide hc
  have HI := hide hI
  have H0 := hide h0
  have HF := hide hF
  clear hi hc hI h0 hF
  go_enter Tryz.func97, Tryz.ntmps97
  go_wp2_with (fail)
  change Code.wp _ _ _ _ (w.alloc (.cells zeroC 86))
  generalize w.alloc (.cells zeroC 86) = w0 at hg1 kN gN c16 ⊢
  go_quiet (fail)
  go_wp2_with (fail)
  have start : ∀ n, SiftI w g a b C e I N (siftS st nx n0 (l.take 0)) (w0.drewN n) (.slice none 0 0) := fun n =>
    ⟨hg1.drewN n, (gN.drewN n).kp _, kN.later ((Gr.refl _).drewN n), Nown.nil _ _, HI.out _ _ _ H0.out (gN.drewN n)⟩
  go_loopw [5, 18] (fun v5 i wr => ∃ k : Nat, k ≤ l.length ∧ i = .int .i64 k ∧ SiftI w g a b C e I N (siftS st nx n0 (l.take k)) wr v5) (fun _ i _ => l.length - (intOf i).toNat)
  case atStart => exact ⟨0, by omega, rfl, start _⟩
  case round =>
    clear start c16 hg0 hg1 kN gN
    obtain ⟨k, hk, rfl, s⟩ := hrel
    by_cases hlt : k < l.length
    · have hlt' : (k : Int) < l.length := by omega
      obtain ⟨ca, cv⟩ := HB.out.ent k hlt
      have HT : Hid (siftS st nx n0 (l.take (k + 1)) = sift1 st nx (siftS st nx n0 (l.take k)) (l.getD k ent0)) := by
        show siftS st nx n0 (l.take (k + 1)) = _
        rw [take_get l k hlt, siftS_snoc]
      have hsl := siftS_len st nx n0 (l.take k)
      rw [List.length_take, Nat.min_eq_left hk] at hsl
      obtain ⟨hs1, hs2⟩ := hsl
      generalize l.getD k ent0 = x at ca cv HT
      generalize siftS st nx n0 (l.take k) = s3 at s HT hs1 hs2
      replace ca : wr.cell? ⟨g, 2 + k * 2, none⟩ = some (.int .i64 x.a) := s.has.cell (by rw [mach_q (by omega)]; exact ca)
      replace cv : wr.cell? ⟨g, 2 + k * 2 + 1, none⟩ = some (.int .i64 x.v) := s.has.cell (by rw [show 2 + k * 2 + 1 = 2 + (k * 2 + 1) from by omega, mach_q (by omega)]; exact cv)
      have SS := hide s
      have hwr := s.kp.size
      have HS1 := hide hs1
      have HS2 := hide hs2
      have hA := Has.new wr #[.int .i64 x.a, .int .i64 x.v] 83
      have bA : Below w.heap.size wr (wr.alloc (.cells #[.int .i64 x.a, .int .i64 x.v] 83)) := Below.alloc (Below.refl _ wr) hwr _
      have gA := (Gr.refl wr).alloc #[.int .i64 x.a, .int .i64 x.v] 83
      clear s hs1 hs2
      go_wp2_with (fail)
      rw [HF.out, Oper.upon_enter]
      refine (HC.out s3.n x _ (HI.out _ _ _ SS.out.inv bA)).mono ?_
      rintro r1 w1 ⟨⟨rfl, k1⟩, i1⟩
      have hNw : N < wr.heap.size := by omega
      have a1 : Has w1 wr.heap.size #[.int .i64 x.a, .int .i64 x.v] 83 := hA.kept k1 (by simp; omega)
      have own1 : Nown w1 w.heap.size u5 s3.out := Kn.own_move (SS.out.own.later gA) fun y D hy hD => k1.block y hD.lt (by simp; omega)
      have left1 : K w1 w.heap.size s3.left := (SS.out.left.later gA).kept k1 (by simp; omega)
      have has1 : Has w1 g (machC a b C e) 113 := (SS.out.has.later gA).kept k1 (by simp; omega)
      have kp1 : Kp [N] w w1 := (SS.out.kp.trans (gA.kp []) (f := [N]) (by simp) (by simp)).trans k1 (by simp) (by simp)
      have hw1 := kp1.size
      have hL : w.heap.size < w1.heap.size := left1.lt
      have e1 := a1.cell (o := 0) rfl
      have e2 := a1.cell (o := 1) rfl
      clear hA bA gA ca cv k1
      by_cases hs : st s3.n x = true
      · have HX : Hid (sift1 st nx s3 x = ⟨nx s3.n x, s3.out ++ [x.a], s3.left⟩) := by show sift1 st nx s3 x = _; simp [sift1, hs]
        obtain ⟨v2, w2, hr, o2, g2⟩ := app_num own1 x.a (by have := HS2.out; omega) hw1
        have O2 := hide o2
        have G2 := hide g2
        have OW := hide (own1.later ((Gr.refl w1).alloc #[.int .i64 x.a] 3))
        have L1 := hide left1
        have A1 := hide has1
        have I1 := hide i1
        clear o2 g2 own1 left1 has1 i1 a1
        go_wp2_with (first
          | (refine step_app rfl (some 29) rfl _ _ _ rfl _ _ rfl rfl v2 w2 hr ?_))
        refine ⟨⟨k + 1, by omega, by go_num, ?_⟩, by simp [intOf]; omega⟩
        rw [HT.out, HX.out]
        have gg := (Gr.refl w1).alloc #[.int .i64 x.a] 3
        have ob := OW.out.lt
        refine ⟨(A1.out.later gg).grown OW.out G2.out (by decide), ?_, (L1.out.later gg).nums OW.out G2.out, O2.out, ?_⟩
        · have bb : Below w.heap.size w1 w2 := Below.grown (Below.alloc (Below.refl _ w1) hw1 _) G2.out (by simp; omega) (fun y hy => (ob y hy).1)
          exact ⟨bb.os.trans kp1.os, bb.tape.trans kp1.tape, bb.output.trans kp1.output, Nat.le_trans kp1.size bb.size, fun y hy hn => (bb.block y hy).trans (kp1.block y hy hn)⟩
        · exact HI.out _ _ _ I1.out (Below.grown (Below.alloc (Below.refl _ w1) hw1 _) G2.out (by simp; omega) (fun y hy => (ob y hy).1))
      · have hs' : st s3.n x = false := by simpa using hs
        have HX : Hid (sift1 st nx s3 x = ⟨nx s3.n x, s3.out, s3.left ++ [x]⟩) := by show sift1 st nx s3 x = _; simp [sift1, hs']
        have O1 := hide own1
        have L1 := hide left1
        have A1 := hide has1
        have I1 := hide i1
        have HL8 : Hid (s3.left.length < 8) := by have := HS1.out; show s3.left.length < 8; omega
        clear own1 left1 has1 i1 a1 hs
        go_wp2_with (fail)
        refine (Kn.last_calls L1.out HL8.out x).mono ?_
        rintro r2 w2 ⟨⟨rfl, k2⟩, q2⟩
        have K2 := hide k2
        have Q2 := hide q2
        clear k2 q2 e1 e2
        go_wp2_with (fail)
        refine ⟨⟨k + 1, by omega, by go_num, ?_⟩, by simp [intOf]; omega⟩
        rw [HT.out, HX.out]
        refine ⟨A1.out.kept K2.out (by simp; omega), kp1.trans K2.out (by simp) (by simp), Q2.out, O1.out.kept K2.out L1.out, ?_⟩
        exact HI.out _ _ _ I1.out ⟨K2.out.os, K2.out.tape, K2.out.output, K2.out.size, fun y hy => K2.out.block y (by omega) (by simp; omega)⟩
    · obtain rfl : k = l.length := by omega
      rw [List.take_length] at s
      have SS := hide s
      obtain ⟨D, hD, iD⟩ := s.left
      have hG := s.has
      have hGD : Has (wr.setCells g 2 D.toList) g (machC a b D e) 113 := by
        have q := setCells_has D.toList 2 wr _ hG
        rwa [setA_mach hs17 iD.size] at q
      have thr : wr.there g 2 D.size := hG.there 2 D.size (by rw [mach_size hs17, iD.size]; omega)
      have ID := hide iD
      clear s iD
      go_wp2_with (first
        | (refine load_buf rfl _ rfl w.heap.size rfl D hD ID.out.size ?_)
        | (refine wpList_store_mid rfl 86 _ _ rfl g 2 D rfl rfl thr (infoB_of ID.out.size) ID.out.one ?_))
      go_ret
      refine ⟨_, ⟨rfl, SS.out.kp.trans (kp_setCells D.toList 2 wr) (by simp) (by simp)⟩, ?_, D, hGD, ID.out⟩
      exact Kn.own_kept SS.out.own (kp_setCells D.toList 2 wr) hG (by decide)
end Go.Proofs.YthbenfnanhpcoaaGreatDoor.Ks
