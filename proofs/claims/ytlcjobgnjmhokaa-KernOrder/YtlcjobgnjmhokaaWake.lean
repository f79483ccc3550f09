/-
  What Wake and Rouse do to a queue in memory. No condition but that it is one.
-/
import Derived.Test.YtlcjobgnjmhokaaSift
namespace Go.Proofs.Ytlcjobgnjmhokaa
open Go.ChangeShapes Go.WideShapes Go.ChangeAt Go.RowKit
set_option linter.unusedVariables false

/-- is it woken, if so many are left to be? -/
def stW (addr : Int) (n : Nat) (x : Ent) : Bool := (x.v == addr) && decide (0 < n)
def nxW (addr : Int) (n : Nat) (x : Ent) : Nat := if stW addr n x then n - 1 else n
def InvW (A N : Nat) (addr : Int) (n : Nat) (w : World) : Prop := Has w A #[.int .i64 addr] 3 ∧ Has w N #[.int .u32 (n : Int)] 30 ∧ n < 4294967296

theorem run19 (args : Array Value) (w : World) : (callFunc 19 args).run Try.prog w = .ok (.enter 19 args) w := by
  simp [go_sem]
theorem run20 (args : Array Value) (w : World) : (callFunc 20 args).run Try.prog w = .ok (.enter 20 args) w := by
  simp [go_sem]

theorem wrap_less (n : Nat) (hn : n < 4294967296) (h0 : 0 < n) : IntKind.u32.wrap ((n : Int) - 1) = ((n - 1 : Nat) : Int) := by
  rw [IntKind.wrap_u32]
  omega

set_option maxHeartbeats 1000000 in
theorem wake1_calls (A N : Nat) (addr : Int) (n : Nat) (x : Ent) (w : World) (h : InvW A N addr n w) :
    Calls Try.prog 19 #[.agg #[.int .i64 x.a, .int .i64 x.v], .pointer (some ⟨A, 0, none⟩), .pointer (some ⟨N, 0, none⟩)] w fun e w' => (e = .returned (.bool (stW addr n x)) ∧ Kp [N] w w') ∧ InvW A N addr (nxW addr n x) w' := by
  obtain ⟨hA, hN, hn⟩ := h
  have bA := hA.alloc #[.int .i64 x.a, .int .i64 x.v] 25
  have bN := hN.alloc #[.int .i64 x.a, .int .i64 x.v] 25
  have bg := (Gr.refl w).alloc #[.int .i64 x.a, .int .i64 x.v] 25
  have hAN : A ≠ N := hA.apart hN (by decide)
  have c1 := hA.cell (o := 0) rfl
  have c2 := hN.cell (o := 0) rfl
  have f2 := hN.free 0
  have lA := hA.lt
  have lN := hN.lt
  by_cases hv : x.v = addr
  · subst hv
    by_cases h0 : n = 0
    · have HS : Hid (stW x.v n x = false) := by show stW x.v n x = false; simp [stW, h0]
      have HX : Hid (nxW x.v n x = n) := by show nxW x.v n x = n; simp [nxW, HS.out]
      subst h0
      clear hA hN
      go_enter Try.func19, Try.ntmps19
      go_wp2_with (fail)
      go_ret
      exact ⟨⟨by rw [HS.out]; rfl, bg.kp _⟩, by rw [HX.out]; exact ⟨bA, bN, hn⟩⟩
    · have HS : Hid (stW x.v n x = true) := by show stW x.v n x = true; simp [stW]; omega
      have HX : Hid (nxW x.v n x = n - 1) := by show nxW x.v n x = n - 1; simp [nxW, HS.out]
      have hz : ((n : Int) == 0) = false := by simp; omega
      have hw1 := wrap_less n hn (by omega)
      have s2 := (hN.set 0 (.int .u32 ((n - 1 : Nat) : Int))).alloc #[.int .i64 x.a, .int .i64 x.v] 25
      have s1 := (hA.aside hAN 0 (.int .u32 ((n - 1 : Nat) : Int))).alloc #[.int .i64 x.a, .int .i64 x.v] 25
      have sg : Kp [N] w ((w.setCell ⟨N, 0, none⟩ (.int .u32 ((n - 1 : Nat) : Int))).alloc (.cells #[.int .i64 x.a, .int .i64 x.v] 25)) := (Kp.setCell w N 0 _).trans (((Gr.refl _).alloc _ _).kp []) (by simp) (by simp)
      have S1 := hide s1
      have S2 := hide s2
      have SG := hide sg
      clear hA hN bA bN s1 s2 sg bg
      go_enter Try.func19, Try.ntmps19
      go_wp2_with (fail)
      go_ret
      exact ⟨⟨by rw [HS.out]; rfl, SG.out⟩, by rw [HX.out]; exact ⟨S1.out, S2.out, by omega⟩⟩
  · have hv' : (x.v == addr) = false := by simp [hv]
    have HS : Hid (stW addr n x = false) := by show stW addr n x = false; simp [stW, hv]
    have HX : Hid (nxW addr n x = n) := by show nxW addr n x = n; simp [nxW, HS.out]
    clear hv hA hN
    go_enter Try.func19, Try.ntmps19
    go_wp2_with (fail)
    go_ret
    exact ⟨⟨by rw [HS.out]; rfl, bg.kp _⟩, by rw [HX.out]; exact ⟨bA, bN, hn⟩⟩

theorem clo19 (A N : Nat) (addr : Int) : CloP 19 #[.pointer (some ⟨A, 0, none⟩), .pointer (some ⟨N, 0, none⟩)] (stW addr) (nxW addr) (InvW A N addr) N :=
  fun n x w h => by simpa using wake1_calls A N addr n x w h

set_option maxHeartbeats 1000000 in
theorem wake_calls {g : Nat} {l : List Ent} {w : World} (h : K w g l) (addr : Int) (n : Nat) (hn : n < 4294967296) :
    Calls Try.prog 10 #[.pointer (some ⟨g, 0, none⟩), .int .i64 addr, .int .u32 (n : Int)] w fun e w' => ∃ v, (e = .returned v ∧ Kp [g] w w') ∧ Nown w' w.heap.size v (siftS (stW addr) (nxW addr) n l).out ∧ K w' g (siftS (stW addr) (nxW addr) n l).left := by
  have HK := hide h
  have hgs := h.lt
  have g2 := ((Gr.refl w).alloc #[.int .i64 addr] 3).alloc #[.int .u32 (n : Int)] 30
  have bA := (Has.new w #[.int .i64 addr] 3).alloc #[.int .u32 (n : Int)] 30
  have bN := Has.new (w.alloc (.cells #[.int .i64 addr] 3)) #[.int .u32 (n : Int)] 30
  rw [show (w.alloc (.cells #[.int .i64 addr] 3)).heap.size = w.heap.size + 1 by simp] at bN
  clear h
  go_enter Try.func10, Try.ntmps10
  go_wp2_with (fail)
  generalize (w.alloc (.cells #[.int .i64 addr] 3)).alloc (.cells #[.int .u32 (n : Int)] 30) = w2 at g2 bA bN ⊢
  refine (sift_calls (HK.out.later g2) 19 #[.pointer (some ⟨w.heap.size, 0, none⟩), .pointer (some ⟨w.heap.size + 1, 0, none⟩)] (stW addr) (nxW addr) (InvW w.heap.size (w.heap.size + 1) addr) (w.heap.size + 1) n run19 (clo19 _ _ _)
    (fun n u u' hu hb => ?_) ⟨bA, bN, hn⟩ bN.lt (by omega)).mono ?_
  · have lA := bA.lt
    have lN := bN.lt
    exact ⟨(hb.block _ lA).trans hu.1, (hb.block _ lN).trans hu.2.1, hu.2.2⟩
  rintro e w3 ⟨v, ⟨rfl, k3⟩, o3, q3⟩
  go_wp2_with (fail)
  go_ret
  refine ⟨v, ⟨rfl, (g2.kp []).trans k3 (by simp) ?_⟩, o3.lower g2.size, q3⟩
  intro x hx
  simp only [List.mem_cons, List.not_mem_nil, or_false] at hx
  rcases hx with rfl | rfl
  · exact .inr (by omega)
  · exact .inl (by simp)

/-- is it roused? -/
def stR (who : Int) (_ : Nat) (x : Ent) : Bool := x.a == who
def nxR (n : Nat) (_ : Ent) : Nat := n
def InvR (A : Nat) (who : Int) (n : Nat) (w : World) : Prop := Has w A #[.int .i64 who] 3

set_option maxHeartbeats 1000000 in
theorem rouse1_calls (A : Nat) (who : Int) (n : Nat) (x : Ent) (w : World) (h : InvR A who n w) :
    Calls Try.prog 20 #[.agg #[.int .i64 x.a, .int .i64 x.v], .pointer (some ⟨A, 0, none⟩)] w fun e w' => (e = .returned (.bool (stR who n x)) ∧ Kp [A] w w') ∧ InvR A who (nxR n x) w' := by
  have hA : Has w A #[.int .i64 who] 3 := h
  have bA := hA.alloc #[.int .i64 x.a, .int .i64 x.v] 25
  have bg := (Gr.refl w).alloc #[.int .i64 x.a, .int .i64 x.v] 25
  have c1 := hA.cell (o := 0) rfl
  have lA := hA.lt
  clear h hA
  go_enter Try.func20, Try.ntmps20
  go_wp2_with (fail)
  go_ret
  exact ⟨⟨rfl, bg.kp _⟩, bA⟩
theorem clo20 (A : Nat) (who : Int) : CloP 20 #[.pointer (some ⟨A, 0, none⟩)] (stR who) nxR (InvR A who) A :=
  fun n x w h => by simpa using rouse1_calls A who n x w h

/-- all but one -/
def rouseL (who : Int) (l : List Ent) : List Ent := l.filter fun x => !(x.a == who)
theorem fold_rouse (who : Int) : ∀ (l : List Ent) (s : S3), (l.foldl (sift1 (stR who) nxR) s).left = s.left ++ rouseL who l ∧ (l.foldl (sift1 (stR who) nxR) s).out = s.out ++ (l.filter fun x => x.a == who).map Ent.a
  | [], s => by simp [rouseL]
  | x :: l, s => by
    obtain ⟨h1, h2⟩ := fold_rouse who l (sift1 (stR who) nxR s x)
    rw [List.foldl_cons, h1, h2]
    by_cases h : x.a = who <;> simp [sift1, stR, rouseL, h]
theorem rouse_left (who : Int) (l : List Ent) : (siftS (stR who) nxR 0 l).left = rouseL who l := by simpa [siftS] using (fold_rouse who l ⟨0, [], []⟩).1
theorem rouse_out (who : Int) (l : List Ent) : decide (0 < (siftS (stR who) nxR 0 l).out.length) = decide (idx who l < l.length) := by
  have h : (siftS (stR who) nxR 0 l).out = (l.filter fun x => x.a == who).map Ent.a := by simpa [siftS] using (fold_rouse who l ⟨0, [], []⟩).2
  rw [h, List.length_map]
  by_cases hi : idx who l < l.length
  · have : 0 < (l.filter fun x => x.a == who).length := by
      clear h
      induction l with
      | nil => simp at hi
      | cons x l ih =>
        by_cases hx : x.a = who
        · simp [hx]
        · have : idx who l < l.length := by simp [idx, hx] at hi; exact hi
          simpa [hx] using ih this
    rw [decide_eq_true hi, decide_eq_true this]
  · have : (l.filter fun x => x.a == who) = [] := by
      rw [List.filter_eq_nil_iff]
      intro x hx
      simpa using idx_none hi x hx
    simp [hi, this]

set_option maxHeartbeats 1000000 in
theorem rouse_calls {g : Nat} {l : List Ent} {w : World} (h : K w g l) (who : Int) :
    Calls Try.prog 13 #[.pointer (some ⟨g, 0, none⟩), .int .i64 who] w fun e w' => (e = .returned (.bool (decide (idx who l < l.length))) ∧ Kp [g] w w') ∧ K w' g (rouseL who l) := by
  have HK := hide h
  have hgs := h.lt
  have g2 := (Gr.refl w).alloc #[.int .i64 who] 3
  have bA := Has.new w #[.int .i64 who] 3
  clear h
  go_enter Try.func13, Try.ntmps13
  go_wp2_with (fail)
  generalize w.alloc (.cells #[.int .i64 who] 3) = w2 at g2 bA ⊢
  refine (sift_calls (HK.out.later g2) 20 #[.pointer (some ⟨w.heap.size, 0, none⟩)] (stR who) nxR (InvR w.heap.size who) w.heap.size 0 run20 (clo20 _ _)
    (fun n u u' hu hb => ?_) bA bA.lt (by omega)).mono ?_
  · have lA := bA.lt
    exact (hb.block _ lA).trans hu
  rintro e w3 ⟨v, ⟨rfl, k3⟩, o3, q3⟩
  have HR := hide (rouse_out who l)
  rw [rouse_left] at q3
  obtain ⟨a, c, rfl, -, -, -⟩ := o3.at
  generalize (siftS (stR who) nxR 0 l).out.length = m at HR
  go_wp2_with (fail)
  go_ret
  refine ⟨⟨by rw [← HR.out]; rfl, (g2.kp []).trans k3 (by simp) ?_⟩, q3⟩
  intro x hx
  simp only [List.mem_cons, List.not_mem_nil, or_false] at hx
  rcases hx with rfl | rfl
  · exact .inr (by omega)
  · exact .inl (by simp)
end Go.Proofs.Ytlcjobgnjmhokaa
