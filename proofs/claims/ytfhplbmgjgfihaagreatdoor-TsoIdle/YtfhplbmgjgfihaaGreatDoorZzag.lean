/-
  What sift does to a queue in memory, whatever function decides who is woken, if that function keeps all but a block of its own. No condition but what the law names.
-/
import Derived.Test.YtfhplbmgjgfihaaGreatDoorZzaf
import Derived.Test.YtfhplbmgjgfihaaGreatDoorZzac
import Derived.Test.YtfhplbmgjgfihaaGreatDoorZzad
import Derived.Test.YtfhplbmgjgfihaaGreatDoorZzae
namespace Go.Proofs.YtfhplbmgjgfihaaGreatDoor.Kq
open Go.ChangeShapes Go.WideShapes Go.ChangeAt Go.RowKit
open Go.Proofs.YtfhplbmgjgfihaaGreatDoor.Kn
set_option linter.unusedVariables false
set_option maxRecDepth 20000
/-- cells set one behind the other -/
def setA : Array Value → Nat → List Value → Array Value
  | X, _, [] => X
  | X, o, v :: vs => setA (X.setIfInBounds o v) (o + 1) vs
theorem setCells_has {g : Nat} {t : TypeId} : ∀ (vs : List Value) (o : Nat) (w : World) (X : Array Value), Has w g X t → Has (w.setCells g o vs) g (setA X o vs) t
  | [], o, w, X, h => h
  | v :: vs, o, w, X, h => setCells_has vs (o + 1) (w.setCell ⟨g, o, none⟩ v) _ (h.set o v)
theorem kp_setCells {b : Nat} : ∀ (vs : List Value) (o : Nat) (w : World), Kp [b] w (w.setCells b o vs)
  | [], o, w => Kp.refl _ _
  | v :: vs, o, w => (Kp.setCell w b o v).trans (kp_setCells vs (o + 1) (w.setCell ⟨b, o, none⟩ v)) (fun _ h => h) (fun _ h => .inl h)
theorem setA_seg : ∀ (new pre old post : List Value), old.length = new.length → setA (pre ++ (old ++ post)).toArray pre.length new = (pre ++ (new ++ post)).toArray
  | [], pre, old, post, h => by
    rw [List.length_eq_zero_iff.1 h]
    rfl
  | v :: vs, pre, old, post, h => by
    match old, h with
    | x :: xs, h =>
      have ih := setA_seg vs (pre ++ [v]) xs post (by simpa using h)
      have e : (pre ++ (x :: xs ++ post)).toArray.setIfInBounds pre.length v = (pre ++ [v] ++ (xs ++ post)).toArray := by
        rw [List.setIfInBounds_toArray, List.set_append_right _ _ (Nat.le_refl _), Nat.sub_self]
        simp
      show setA ((pre ++ (x :: xs ++ post)).toArray.setIfInBounds pre.length v) (pre.length + 1) vs = _
      rw [e]
      have e2 : (pre ++ [v]).length = pre.length + 1 := by simp
      rw [e2] at ih
      rw [ih]
      simp
theorem setA_mach {a b : Value} {C D : Array Value} {e : Value} (hC : C.size = 17) (hD : D.size = 17) : setA (machC a b C e) 2 D.toList = machC a b D e :=
  setA_seg D.toList [a, b] C.toList [e] (by simp [hC, hD])

/-- what is so while a queue is sifted: a number, who was woken, who is left -/
structure S3 where
  n : Nat
  out : List Int
  left : List Ent
def sift1 (st : Nat → Ent → Bool) (nx : Nat → Ent → Nat) (s : S3) (x : Ent) : S3 :=
  ⟨nx s.n x, if st s.n x then s.out ++ [x.a] else s.out, if st s.n x then s.left else s.left ++ [x]⟩
def siftS (st : Nat → Ent → Bool) (nx : Nat → Ent → Nat) (n : Nat) (l : List Ent) : S3 := l.foldl (sift1 st nx) ⟨n, [], []⟩
theorem siftS_snoc (st : Nat → Ent → Bool) (nx : Nat → Ent → Nat) (n : Nat) (l : List Ent) (x : Ent) : siftS st nx n (l ++ [x]) = sift1 st nx (siftS st nx n l) x := by
  unfold siftS
  rw [List.foldl_append]
  rfl
theorem foldl_len (st : Nat → Ent → Bool) (nx : Nat → Ent → Nat) : ∀ (l : List Ent) (s : S3), (l.foldl (sift1 st nx) s).left.length ≤ s.left.length + l.length ∧ (l.foldl (sift1 st nx) s).out.length ≤ s.out.length + l.length
  | [], s => by simp
  | x :: l, s => by
    have := foldl_len st nx l (sift1 st nx s x)
    have h1 : (sift1 st nx s x).left.length ≤ s.left.length + 1 := by unfold sift1; simp only; split <;> simp
    have h2 : (sift1 st nx s x).out.length ≤ s.out.length + 1 := by unfold sift1; simp only; split <;> simp
    simp only [List.foldl_cons, List.length_cons]
    omega
theorem siftS_len (st : Nat → Ent → Bool) (nx : Nat → Ent → Nat) (n : Nat) (l : List Ent) : (siftS st nx n l).left.length ≤ l.length ∧ (siftS st nx n l).out.length ≤ l.length := by
  have := foldl_len st nx l ⟨n, [], []⟩
  simpa [siftS] using this
theorem take_get (l : List Ent) (k : Nat) (h : k < l.length) : l.take (k + 1) = l.take k ++ [l.getD k ent0] := by
  rw [List.take_succ_eq_append_getElem h, List.getD_eq_getElem?_getD, List.getElem?_eq_getElem h]; rfl

/-- a function that decides who is woken: by a number of its own, in a block of its own -/
def CloP (F : FuncId) (caps : Array Value) (st : Nat → Ent → Bool) (nx : Nat → Ent → Nat) (I : Nat → World → Prop) (N : Nat) : Prop :=
  ∀ n x w, I n w → Calls Tryz.prog F (#[.agg #[.int .i64 x.a, .int .i64 x.v]] ++ caps) w fun e w' => (e = .returned (.bool (st n x)) ∧ Kp [N] w w') ∧ I (nx n x) w'

/-- what is so ahead of each round -/
structure SiftI (w : World) (g : Nat) (a b : Value) (C : Array Value) (e : Value) (I : Nat → World → Prop) (N : Nat) (s : S3) (wr : World) (v : Value) : Prop where
  has : Has wr g (machC a b C e) 66
  kp : Kp [N] w wr
  left : K wr w.heap.size s.left
  own : Nown wr w.heap.size v s.out
  inv : I s.n wr

set_option maxHeartbeats 2000000 in
theorem sift_calls {g : Nat} {a b e : Value} {l : List Ent} {w : World} (h : Q w g a b e l) (F : FuncId) (caps : Array Value) (st : Nat → Ent → Bool) (nx : Nat → Ent → Nat) (I : Nat → World → Prop) (N n0 : Nat)
    (hF : ∀ args w, (callFunc F args).run Tryz.prog w = .ok (.enter F args) w) (hc : CloP F caps st nx I N) (hI : ∀ n u u', I n u → Below w.heap.size u u' → I n u') (h0 : I n0 w) (hN : N < w.heap.size) (hNg : N ≠ g) :
    Calls Tryz.prog 66 #[.pointer (some ⟨g, 2, none⟩), .func (.func F) #[] caps] w fun r w' => ∃ v, (r = .returned v ∧ Kp [N, g] w w') ∧ Nown w' w.heap.size v (siftS st nx n0 l).out ∧ Q w' g a b e (siftS st nx n0 l).left := by
  obtain ⟨C, hg0, hi⟩ := h
  have HB := hide hi
  have hgs := hg0.lt
  have hlen := hi.len
  have hll : (l.length : Int) ≤ 8 := by omega
  have hg1 := hg0.alloc zeroC 64
  have kN := K.new w
  have gN := (Gr.refl w).alloc zeroC 64
  have hs17 := hi.size
  have c16 : (w.alloc (.cells zeroC 64)).cell? ⟨g, 18, none⟩ = some (.int .i64 l.length) := hg1.cell (by rw [show 18 = 2 + 16 from rfl, mach_q (by omega)]; exact hi.count)
  have HC := hide hc
  have HI := hide hI
  have H0 := hide h0
  have HF := hide hF
  clear hi hc hI h0 hF
  go_enter Tryz.func66, Tryz.ntmps66
  go_wp2_with (fail)
  change Code.wp _ _ _ _ (w.alloc (.cells zeroC 64))
  generalize w.alloc (.cells zeroC 64) = w0 at hg1 kN gN c16 ⊢
  go_quiet (fail)
  go_wp2_with (fail)
  have start : ∀ n, SiftI w g a b C e I N (siftS st nx n0 (l.take 0)) (w0.drewN n) (.slice none 0 0) := fun n =>
    ⟨hg1.drewN n, (gN.drewN n).kp _, kN.later ((Gr.refl _).drewN n), Nown.nil _ _, HI.out _ _ _ H0.out (gN.drewN n)⟩
  go_loopw [5, 18] (fun v5 i wr => ∃ k : Nat, k ≤ l.length ∧ i = .int .i64 k ∧ SiftI w g a b C e I N (siftS st nx n0 (l.take k)) wr v5) (fun _ i _ => l.length - (intOf i).toNat)
  case atStart => exact ⟨0, by omega, rfl, start _⟩
  case round =>
    clear start c16 hg0 hg1 kN gN
    obtain ⟨k, hk, rfl, s⟩ := hrel
    by_cases hlt : k < l.length
    · have hlt' : (k : Int) < l.length := by omega
      obtain ⟨ca, cv⟩ := HB.out.ent k hlt
      have HT : Hid (siftS st nx n0 (l.take (k + 1)) = sift1 st nx (siftS st nx n0 (l.take k)) (l.getD k ent0)) := by
        show siftS st nx n0 (l.take (k + 1)) = _
        rw [take_get l k hlt, siftS_snoc]
      have hsl := siftS_len st nx n0 (l.take k)
      rw [List.length_take, Nat.min_eq_left hk] at hsl
      obtain ⟨hs1, hs2⟩ := hsl
      generalize l.getD k ent0 = x at ca cv HT
      generalize siftS st nx n0 (l.take k) = s3 at s HT hs1 hs2
      replace ca : wr.cell? ⟨g, 2 + k * 2, none⟩ = some (.int .i64 x.a) := s.has.cell (by rw [mach_q (by omega)]; exact ca)
      replace cv : wr.cell? ⟨g, 2 + k * 2 + 1, none⟩ = some (.int .i64 x.v) := s.has.cell (by rw [show 2 + k * 2 + 1 = 2 + (k * 2 + 1) from by omega, mach_q (by omega)]; exact cv)
      have SS := hide s
      have hwr := s.kp.size
      have HS1 := hide hs1
      have HS2 := hide hs2
      have hA := Has.new wr #[.int .i64 x.a, .int .i64 x.v] 61
      have bA : Below w.heap.size wr (wr.alloc (.cells #[.int .i64 x.a, .int .i64 x.v] 61)) := Below.alloc (Below.refl _ wr) hwr _
      have gA := (Gr.refl wr).alloc #[.int .i64 x.a, .int .i64 x.v] 61
      clear s hs1 hs2
      go_wp2_with (fail)
      rw [HF.out, Oper.upon_enter]
      refine (HC.out s3.n x _ (HI.out _ _ _ SS.out.inv bA)).mono ?_
      rintro r1 w1 ⟨⟨rfl, k1⟩, i1⟩
      have hNw : N < wr.heap.size := by omega
      have a1 : Has w1 wr.heap.size #[.int .i64 x.a, .int .i64 x.v] 61 := hA.kept k1 (by simp; omega)
      have own1 : Nown w1 w.heap.size u5 s3.out := Kn.own_move (SS.out.own.later gA) fun y D hy hD => k1.block y hD.lt (by simp; omega)
      have left1 : K w1 w.heap.size s3.left := (SS.out.left.later gA).kept k1 (by simp; omega)
      have has1 : Has w1 g (machC a b C e) 66 := (SS.out.has.later gA).kept k1 (by simp; omega)
      have kp1 : Kp [N] w w1 := (SS.out.kp.trans (gA.kp []) (f := [N]) (by simp) (by simp)).trans k1 (by simp) (by simp)
      have hw1 := kp1.size
      have hL : w.heap.size < w1.heap.size := left1.lt
      have e1 := a1.cell (o := 0) rfl
      have e2 := a1.cell (o := 1) rfl
      clear hA bA gA ca cv k1
      by_cases hs : st s3.n x = true
      · have HX : Hid (sift1 st nx s3 x = ⟨nx s3.n x, s3.out ++ [x.a], s3.left⟩) := by show sift1 st nx s3 x = _; simp [sift1, hs]
        obtain ⟨v2, w2, hr, o2, g2⟩ := app_num own1 x.a (by have := HS2.out; omega) hw1
        have O2 := hide o2
        have G2 := hide g2
        have OW := hide (own1.later ((Gr.refl w1).alloc #[.int .i64 x.a] 3))
        have L1 := hide left1
        have A1 := hide has1
        have I1 := hide i1
        clear o2 g2 own1 left1 has1 i1 a1
        go_wp2_with (first
          | (refine step_app rfl (some 29) rfl _ _ _ rfl _ _ rfl rfl v2 w2 hr ?_))
        refine ⟨⟨k + 1, by omega, by go_num, ?_⟩, by simp [intOf]; omega⟩
        rw [HT.out, HX.out]
        have gg := (Gr.refl w1).alloc #[.int .i64 x.a] 3
        have ob := OW.out.lt
        refine ⟨(A1.out.later gg).grown OW.out G2.out (by decide), ?_, (L1.out.later gg).nums OW.out G2.out, O2.out, ?_⟩
        · have bb : Below w.heap.size w1 w2 := Below.grown (Below.alloc (Below.refl _ w1) hw1 _) G2.out (by simp; omega) (fun y hy => (ob y hy).1)
          exact ⟨bb.os.trans kp1.os, bb.tape.trans kp1.tape, bb.output.trans kp1.output, Nat.le_trans kp1.size bb.size, fun y hy hn => (bb.block y hy).trans (kp1.block y hy hn)⟩
        · exact HI.out _ _ _ I1.out (Below.grown (Below.alloc (Below.refl _ w1) hw1 _) G2.out (by simp; omega) (fun y hy => (ob y hy).1))
      · have hs' : st s3.n x = false := by simpa using hs
        have HX : Hid (sift1 st nx s3 x = ⟨nx s3.n x, s3.out, s3.left ++ [x]⟩) := by show sift1 st nx s3 x = _; simp [sift1, hs']
        have O1 := hide own1
        have L1 := hide left1
        have A1 := hide has1
        have I1 := hide i1
        have HL8 : Hid (s3.left.length < 8) := by have := HS1.out; show s3.left.length < 8; omega
        clear own1 left1 has1 i1 a1 hs
        go_wp2_with (fail)
        refine (Kn.last_calls L1.out HL8.out x).mono ?_
        rintro r2 w2 ⟨⟨rfl, k2⟩, q2⟩
        have K2 := hide k2
        have Q2 := hide q2
        clear k2 q2 e1 e2
        go_wp2_with (fail)
        refine ⟨⟨k + 1, by omega, by go_num, ?_⟩, by simp [intOf]; omega⟩
        rw [HT.out, HX.out]
        refine ⟨A1.out.kept K2.out (by simp; omega), kp1.trans K2.out (by simp) (by simp), Q2.out, O1.out.kept K2.out L1.out, ?_⟩
        exact HI.out _ _ _ I1.out ⟨K2.out.os, K2.out.tape, K2.out.output, K2.out.size, fun y hy => K2.out.block y (by omega) (by simp; omega)⟩
    · obtain rfl : k = l.length := by omega
      rw [List.take_length] at s
      have SS := hide s
      obtain ⟨D, hD, iD⟩ := s.left
      have hG := s.has
      have hGD : Has (wr.setCells g 2 D.toList) g (machC a b D e) 66 := by
        have q := setCells_has D.toList 2 wr _ hG
        rwa [setA_mach hs17 iD.size] at q
      have thr : wr.there g 2 D.size := hG.there 2 D.size (by rw [mach_size hs17, iD.size]; omega)
      have ID := hide iD
      clear s iD
      go_wp2_with (first
        | (refine load_buf rfl _ rfl w.heap.size rfl D hD ID.out.size ?_)
        | (refine wpList_store_mid rfl 64 _ _ rfl g 2 D rfl rfl thr (infoB_of ID.out.size) ID.out.one ?_))
      go_ret
      refine ⟨_, ⟨rfl, SS.out.kp.trans (kp_setCells D.toList 2 wr) (by simp) (by simp)⟩, ?_, D, hGD, ID.out⟩
      exact Kn.own_kept SS.out.own (kp_setCells D.toList 2 wr) hG (by decide)
/-- is it woken, if so many are left to be? -/
def stW (addr : Int) (n : Nat) (x : Ent) : Bool := (x.v == addr) && decide (0 < n)
def nxW (addr : Int) (n : Nat) (x : Ent) : Nat := if stW addr n x then n - 1 else n
def InvW (A N : Nat) (addr : Int) (n : Nat) (w : World) : Prop := Has w A #[.int .i64 addr] 3 ∧ Has w N #[.int .u32 (n : Int)] 43 ∧ n < 4294967296

theorem run19 (args : Array Value) (w : World) : (callFunc 103 args).run Tryz.prog w = .ok (.enter 103 args) w := by
  simp [go_sem]
theorem run20 (args : Array Value) (w : World) : (callFunc 67 args).run Tryz.prog w = .ok (.enter 67 args) w := by
  simp [go_sem]

theorem wrap_less (n : Nat) (hn : n < 4294967296) (h0 : 0 < n) : IntKind.u32.wrap ((n : Int) - 1) = ((n - 1 : Nat) : Int) := by
  rw [IntKind.wrap_u32]
  omega

set_option maxHeartbeats 1000000 in
theorem wake1_calls (A N : Nat) (addr : Int) (n : Nat) (x : Ent) (w : World) (h : InvW A N addr n w) :
    Calls Tryz.prog 103 #[.agg #[.int .i64 x.a, .int .i64 x.v], .pointer (some ⟨A, 0, none⟩), .pointer (some ⟨N, 0, none⟩)] w fun e w' => (e = .returned (.bool (stW addr n x)) ∧ Kp [N] w w') ∧ InvW A N addr (nxW addr n x) w' := by
  obtain ⟨hA, hN, hn⟩ := h
  have bA := hA.alloc #[.int .i64 x.a, .int .i64 x.v] 61
  have bN := hN.alloc #[.int .i64 x.a, .int .i64 x.v] 61
  have bg := (Gr.refl w).alloc #[.int .i64 x.a, .int .i64 x.v] 61
  have hAN : A ≠ N := hA.apart hN (by decide)
  have c1 := hA.cell (o := 0) rfl
  have c2 := hN.cell (o := 0) rfl
  have f2 := hN.free 0
  have lA := hA.lt
  have lN := hN.lt
  by_cases hv : x.v = addr
  · subst hv
    by_cases h0 : n = 0
    · have HS : Hid (stW x.v n x = false) := by show stW x.v n x = false; simp [stW, h0]
      have HX : Hid (nxW x.v n x = n) := by show nxW x.v n x = n; simp [nxW, HS.out]
      subst h0
      clear hA hN
      go_enter Tryz.func103, Tryz.ntmps103
      go_wp2_with (fail)
      go_ret
      exact ⟨⟨by rw [HS.out]; rfl, bg.kp _⟩, by rw [HX.out]; exact ⟨bA, bN, hn⟩⟩
    · have HS : Hid (stW x.v n x = true) := by show stW x.v n x = true; simp [stW]; omega
      have HX : Hid (nxW x.v n x = n - 1) := by show nxW x.v n x = n - 1; simp [nxW, HS.out]
      have hz : ((n : Int) == 0) = false := by simp; omega
      have hw1 := wrap_less n hn (by omega)
      have s2 := (hN.set 0 (.int .u32 ((n - 1 : Nat) : Int))).alloc #[.int .i64 x.a, .int .i64 x.v] 61
      have s1 := (hA.aside hAN 0 (.int .u32 ((n - 1 : Nat) : Int))).alloc #[.int .i64 x.a, .int .i64 x.v] 61
      have sg : Kp [N] w ((w.setCell ⟨N, 0, none⟩ (.int .u32 ((n - 1 : Nat) : Int))).alloc (.cells #[.int .i64 x.a, .int .i64 x.v] 61)) := (Kp.setCell w N 0 _).trans (((Gr.refl _).alloc _ _).kp []) (by simp) (by simp)
      have S1 := hide s1
      have S2 := hide s2
      have SG := hide sg
      clear hA hN bA bN s1 s2 sg bg
      go_enter Tryz.func103, Tryz.ntmps103
      go_wp2_with (fail)
      go_ret
      exact ⟨⟨by rw [HS.out]; rfl, SG.out⟩, by rw [HX.out]; exact ⟨S1.out, S2.out, by omega⟩⟩
  · have hv' : (x.v == addr) = false := by simp [hv]
    have HS : Hid (stW addr n x = false) := by show stW addr n x = false; simp [stW, hv]
    have HX : Hid (nxW addr n x = n) := by show nxW addr n x = n; simp [nxW, HS.out]
    clear hv hA hN
    go_enter Tryz.func103, Tryz.ntmps103
    go_wp2_with (fail)
    go_ret
    exact ⟨⟨by rw [HS.out]; rfl, bg.kp _⟩, by rw [HX.out]; exact ⟨bA, bN, hn⟩⟩

theorem clo19 (A N : Nat) (addr : Int) : CloP 103 #[.pointer (some ⟨A, 0, none⟩), .pointer (some ⟨N, 0, none⟩)] (stW addr) (nxW addr) (InvW A N addr) N :=
  fun n x w h => by simpa using wake1_calls A N addr n x w h

set_option maxHeartbeats 1000000 in
theorem wake_calls {g : Nat} {a b e : Value} {l : List Ent} {w : World} (h : Q w g a b e l) (addr : Int) (n : Nat) (hn : n < 4294967296) :
    Calls Tryz.prog 76 #[.pointer (some ⟨g, 2, none⟩), .int .i64 addr, .int .u32 (n : Int)] w fun r w' => ∃ v, (r = .returned v ∧ Kp [g] w w') ∧ Nown w' w.heap.size v (siftS (stW addr) (nxW addr) n l).out ∧ Q w' g a b e (siftS (stW addr) (nxW addr) n l).left := by
  have HK := hide h
  have hgs := h.lt
  have g2 := ((Gr.refl w).alloc #[.int .i64 addr] 3).alloc #[.int .u32 (n : Int)] 43
  have bA := (Has.new w #[.int .i64 addr] 3).alloc #[.int .u32 (n : Int)] 43
  have bN := Has.new (w.alloc (.cells #[.int .i64 addr] 3)) #[.int .u32 (n : Int)] 43
  rw [show (w.alloc (.cells #[.int .i64 addr] 3)).heap.size = w.heap.size + 1 by simp] at bN
  clear h
  go_enter Tryz.func76, Tryz.ntmps76
  go_wp2_with (fail)
  generalize (w.alloc (.cells #[.int .i64 addr] 3)).alloc (.cells #[.int .u32 (n : Int)] 43) = w2 at g2 bA bN ⊢
  refine (sift_calls (HK.out.later g2) 103 #[.pointer (some ⟨w.heap.size, 0, none⟩), .pointer (some ⟨w.heap.size + 1, 0, none⟩)] (stW addr) (nxW addr) (InvW w.heap.size (w.heap.size + 1) addr) (w.heap.size + 1) n run19 (clo19 _ _ _)
    (fun n u u' hu hb => ?_) ⟨bA, bN, hn⟩ bN.lt (by omega)).mono ?_
  · have lA := bA.lt
    have lN := bN.lt
    exact ⟨(hb.block _ lA).trans hu.1, (hb.block _ lN).trans hu.2.1, hu.2.2⟩
  rintro r w3 ⟨v, ⟨rfl, k3⟩, o3, q3⟩
  go_wp2_with (fail)
  go_ret
  refine ⟨v, ⟨rfl, (g2.kp []).trans k3 (by simp) ?_⟩, o3.lower g2.size, q3⟩
  intro x hx
  simp only [List.mem_cons, List.not_mem_nil, or_false] at hx
  rcases hx with rfl | rfl
  · exact .inr (by omega)
  · exact .inl (by simp)

/-- is it roused? -/
def stR (who : Int) (_ : Nat) (x : Ent) : Bool := x.a == who
def nxR (n : Nat) (_ : Ent) : Nat := n
def InvR (A : Nat) (who : Int) (n : Nat) (w : World) : Prop := Has w A #[.int .i64 who] 3

set_option maxHeartbeats 1000000 in
theorem rouse1_calls (A : Nat) (who : Int) (n : Nat) (x : Ent) (w : World) (h : InvR A who n w) :
    Calls Tryz.prog 67 #[.agg #[.int .i64 x.a, .int .i64 x.v], .pointer (some ⟨A, 0, none⟩)] w fun e w' => (e = .returned (.bool (stR who n x)) ∧ Kp [A] w w') ∧ InvR A who (nxR n x) w' := by
  have hA : Has w A #[.int .i64 who] 3 := h
  have bA := hA.alloc #[.int .i64 x.a, .int .i64 x.v] 61
  have bg := (Gr.refl w).alloc #[.int .i64 x.a, .int .i64 x.v] 61
  have c1 := hA.cell (o := 0) rfl
  have lA := hA.lt
  clear h hA
  go_enter Tryz.func67, Tryz.ntmps67
  go_wp2_with (fail)
  go_ret
  exact ⟨⟨rfl, bg.kp _⟩, bA⟩
theorem clo20 (A : Nat) (who : Int) : CloP 67 #[.pointer (some ⟨A, 0, none⟩)] (stR who) nxR (InvR A who) A :=
  fun n x w h => by simpa using rouse1_calls A who n x w h

/-- all but one -/
def rouseL (who : Int) (l : List Ent) : List Ent := l.filter fun x => !(x.a == who)
theorem fold_rouse (who : Int) : ∀ (l : List Ent) (s : S3), (l.foldl (sift1 (stR who) nxR) s).left = s.left ++ rouseL who l ∧ (l.foldl (sift1 (stR who) nxR) s).out = s.out ++ (l.filter fun x => x.a == who).map Ent.a
  | [], s => by simp [rouseL]
  | x :: l, s => by
    obtain ⟨h1, h2⟩ := fold_rouse who l (sift1 (stR who) nxR s x)
    rw [List.foldl_cons, h1, h2]
    by_cases h : x.a = who <;> simp [sift1, stR, rouseL, h]
theorem rouse_left (who : Int) (l : List Ent) : (siftS (stR who) nxR 0 l).left = rouseL who l := by simpa [siftS] using (fold_rouse who l ⟨0, [], []⟩).1
theorem rouse_out (who : Int) (l : List Ent) : decide (0 < (siftS (stR who) nxR 0 l).out.length) = decide (idx who l < l.length) := by
  have h : (siftS (stR who) nxR 0 l).out = (l.filter fun x => x.a == who).map Ent.a := by simpa [siftS] using (fold_rouse who l ⟨0, [], []⟩).2
  rw [h, List.length_map]
  by_cases hi : idx who l < l.length
  · have : 0 < (l.filter fun x => x.a == who).length := by
      clear h
      induction l with
      | nil => simp at hi
      | cons x l ih =>
        by_cases hx : x.a = who
        · simp [hx]
        · have : idx who l < l.length := by simp [idx, hx] at hi; exact hi
          simpa [hx] using ih this
    rw [decide_eq_true hi, decide_eq_true this]
  · have : (l.filter fun x => x.a == who) = [] := by
      rw [List.filter_eq_nil_iff]
      intro x hx
      simpa using idx_none hi x hx
    simp [hi, this]

set_option maxHeartbeats 1000000 in
theorem rouse_calls {g : Nat} {a b e : Value} {l : List Ent} {w : World} (h : Q w g a b e l) (who : Int) :
    Calls Tryz.prog 37 #[.pointer (some ⟨g, 2, none⟩), .int .i64 who] w fun r w' => (r = .returned (.bool (decide (idx who l < l.length))) ∧ Kp [g] w w') ∧ Q w' g a b e (rouseL who l) := by
  have HK := hide h
  have hgs := h.lt
  have g2 := (Gr.refl w).alloc #[.int .i64 who] 3
  have bA := Has.new w #[.int .i64 who] 3
  clear h
  go_enter Tryz.func37, Tryz.ntmps37
  go_wp2_with (fail)
  generalize w.alloc (.cells #[.int .i64 who] 3) = w2 at g2 bA ⊢
  refine (sift_calls (HK.out.later g2) 67 #[.pointer (some ⟨w.heap.size, 0, none⟩)] (stR who) nxR (InvR w.heap.size who) w.heap.size 0 run20 (clo20 _ _)
    (fun n u u' hu hb => ?_) bA bA.lt (by omega)).mono ?_
  · have lA := bA.lt
    exact (hb.block _ lA).trans hu
  rintro r w3 ⟨v, ⟨rfl, k3⟩, o3, q3⟩
  have HR := hide (rouse_out who l)
  rw [rouse_left] at q3
  obtain ⟨a, c, rfl, -, -, -⟩ := o3.at
  generalize (siftS (stR who) nxR 0 l).out.length = m at HR
  go_wp2_with (fail)
  go_ret
  refine ⟨⟨by rw [← HR.out]; rfl, (g2.kp []).trans k3 (by simp) ?_⟩, q3⟩
  intro x hx
  simp only [List.mem_cons, List.not_mem_nil, or_false] at hx
  rcases hx with rfl | rfl
  · exact .inr (by omega)
  · exact .inl (by simp)
end Go.Proofs.YtfhplbmgjgfihaaGreatDoor.Kq
namespace Go.Proofs.YtfhplbmgjgfihaaGreatDoor.Mc
set_option linter.unusedVariables false
/-- a thread's side -/
structure Sd where
  code : List Ins
  t : Th
  buf : List Ent
def sd0 : Sd := ⟨[], ⟨0, List.replicate 8 0, 0⟩, []⟩
structure Ms where
  sides : List Sd
  mem : List Int
  slp : List Ent
  evs : List Ev
  room : Nat
def Ms.side (s : Ms) (i : Nat) : Sd := s.sides.getD i sd0
def Ms.setS (s : Ms) (i : Nat) (d : Sd) : Ms := ⟨s.sides.set i d, s.mem, s.slp, s.evs, s.room⟩
def evOf (x : Ev) (i : Nat) : Ev := ⟨x.kind, i, x.pc, x.addr, x.value, x.old, x.k, x.ok⟩
def Ms.note (s : Ms) (i : Nat) (x : Ev) : Ms := ⟨s.sides, s.mem, s.slp, s.evs ++ [evOf x i], s.room⟩
def Ms.setM (s : Ms) (m v : Int) : Ms := ⟨s.sides, s.mem.set m.toNat v, s.slp, s.evs, s.room⟩
def Ms.setB (s : Ms) (i : Nat) (l : List Ent) : Ms := s.setS i ⟨(s.side i).code, (s.side i).t, l⟩
def Ms.setT (s : Ms) (i : Nat) (t : Th) : Ms := s.setS i ⟨(s.side i).code, t, (s.side i).buf⟩
def Ms.setQ (s : Ms) (l : List Ent) : Ms := ⟨s.sides, s.mem, l, s.evs, s.room⟩
def Ms.flush (s : Ms) (i : Nat) : Ms := match (s.side i).buf with
  | [] => s
  | x :: l => ((s.setB i l).setM x.a x.v).note i ⟨3, 0, 0, x.a, x.v, 0, 0, false⟩
def Ms.load (s : Ms) (i : Nat) (m : Int) : Int := match Bf.findR m (s.side i).buf with
  | some v => v
  | none => s.mem.getD m.toNat 0
def Ms.store (s : Ms) (i : Nat) (m v : Int) : Ms := s.setB i (Bf.putL s.room (s.side i).buf ⟨m, v⟩)
def Ms.sleep (s : Ms) (i : Nat) (m : Int) : Ms := s.setQ (Kq.sleepL i m s.slp)
/-- a thread is running -/
def Ms.rise (s : Ms) (who : Int) : Ms := s.setT who.toNat ((s.side who.toNat).t.is 0)
def Ms.sift (s : Ms) (m : Int) (n : Nat) : Kq.S3 := Kq.siftS (Kq.stW m) (Kq.nxW m) n s.slp
def Ms.woken (s : Ms) (m n : Int) : Int := IntKind.u32.wrap ((s.sift m n.toNat).out.length : Int)
def Ms.wake (s : Ms) (m n : Int) : Ms := (s.sift m n.toNat).out.foldl Ms.rise (s.setQ (s.sift m n.toNat).left)
def Ms.drain (s : Ms) (i : Nat) : Nat → Ms
  | 0 => s
  | n + 1 => (s.flush i).drain i n
def Ms.remote (s : Ms) : Ms := (List.range s.sides.length).foldl (fun s i => s.drain i (s.side i).buf.length) s
def Ms.rouse (s : Ms) (i : Nat) : Ms := if Kn.idx i s.slp < s.slp.length then ((s.setQ (Kq.rouseL i s.slp)).rise i).note i ⟨11, 0, 0, 0, 0, 0, 0, false⟩ else s

/-- no more sides, room and entries than there may be -/
def Ms.okB (s : Ms) : Bool := decide (s.sides.length ≤ 8) && (decide (s.room ≤ 16) && s.sides.all fun d => decide (d.buf.length ≤ 16))
def Ms.fuel (s : Ms) : Nat := if s.okB then 95000 - s.evs.length else 0
/-- a thread's port -/
def port (n : Int) (i : Nat) : Prt Ms where
  size := n
  fuel := Ms.fuel
  load s m := s.load i m
  loadS s _ := s
  room s := !(Bf.fullB (s.side i).buf s.room)
  store s m v := s.store i m v
  empty s := (((s.side i).buf.length : Int) == 0)
  flush s := s.flush i
  swap s m v := s.mem.getD m.toNat 0
  swapS s m v := s.setM m v
  sleep s m := s.sleep i m
  wake s m v := s.woken m v
  wakeS s m v := s.wake m v
  remote s := s.remote
  note s x := s.note i x
/-- a thread's step -/
def Ms.step (s : Ms) (n : Int) (i : Nat) : Ms :=
  (stepM (port n i) (s.side i).t (s.side i).code s).2.setT i (stepM (port n i) (s.side i).t (s.side i).code s).1
/-- a pick -/
def Ms.pick (s : Ms) (n : Int) (kind who : Int) : Ms :=
  if 0 ≤ who ∧ who < s.sides.length then
    (if kind = 0 then s.step n who.toNat else if kind = 1 then s.flush who.toNat else if kind = 2 then s.rouse who.toNat else s)
  else s

/-- how a thread's side may change: entries, thread; its code not; how many there are not -/
theorem okB_of {s s' : Ms} (h1 : s'.sides.length = s.sides.length) (h2 : s'.room = s.room) (h3 : s.okB = true → ∀ d ∈ s'.sides, d.buf.length ≤ 16) (h : s.okB = true) : s'.okB = true := by
  have h0 := h
  unfold Ms.okB at h ⊢
  simp only [Bool.and_eq_true, decide_eq_true_eq, List.all_eq_true] at h ⊢
  rw [h1, h2]
  exact ⟨h.1, h.2.1, h3 h0⟩
theorem ok_side {s : Ms} (h : s.okB = true) (i : Nat) : (s.side i).buf.length ≤ 16 := by
  unfold Ms.okB at h
  simp only [Bool.and_eq_true, decide_eq_true_eq, List.all_eq_true] at h
  unfold Ms.side
  rw [List.getD_eq_getElem?_getD]
  by_cases hi : i < s.sides.length
  · rw [List.getElem?_eq_getElem hi]
    exact h.2.2 _ (List.getElem_mem hi)
  · rw [List.getElem?_eq_none (by omega)]
    simp [sd0]
theorem ok_room {s : Ms} (h : s.okB = true) : s.room ≤ 16 ∧ s.sides.length ≤ 8 := by
  unfold Ms.okB at h
  simp only [Bool.and_eq_true, decide_eq_true_eq, List.all_eq_true] at h
  exact ⟨h.2.1, h.1⟩
theorem ok_set {s : Ms} {i : Nat} {d : Sd} (hd : d.buf.length ≤ 16) (h : s.okB = true) : (s.setS i d).okB = true := by
  refine okB_of (s := s) (by simp [Ms.setS]) rfl (fun h0 x hx => ?_) h
  rcases List.mem_or_eq_of_mem_set hx with hx | rfl
  · unfold Ms.okB at h0
    simp only [Bool.and_eq_true, decide_eq_true_eq, List.all_eq_true] at h0
    exact h0.2.2 x hx
  · exact hd
theorem fuel_of {s s' : Ms} (h : s.okB = true → s'.okB = true) {n : Nat} (he : s.okB = true → s'.evs.length ≤ s.evs.length + n) : s.fuel ≤ s'.fuel + n := by
  unfold Ms.fuel
  cases hs : s.okB
  · simp
  · rw [h hs]
    have := he hs
    simp only [if_true]
    omega
theorem ok_flush {s : Ms} {i : Nat} (h : s.okB = true) : (s.flush i).okB = true := by
  unfold Ms.flush
  have := ok_side h i
  cases hb : (s.side i).buf with
  | nil => exact h
  | cons x l =>
    rw [hb] at this
    exact ok_set (by simp at this ⊢; omega) h
theorem evs_flush (s : Ms) (i : Nat) : (s.flush i).evs.length ≤ s.evs.length + 1 := by
  unfold Ms.flush
  cases hb : (s.side i).buf with
  | nil => simp
  | cons x l => simp [Ms.note, Ms.setM, Ms.setB, Ms.setS]
theorem ok_drain {i : Nat} : ∀ (n : Nat) {s : Ms}, s.okB = true → (s.drain i n).okB = true
  | 0, s, h => h
  | n + 1, s, h => ok_drain n (ok_flush h)
theorem evs_drain {i : Nat} : ∀ (n : Nat) (s : Ms), (s.drain i n).evs.length ≤ s.evs.length + n
  | 0, s => by simp [Ms.drain]
  | n + 1, s => by
    have h1 := evs_drain (i := i) n (s.flush i)
    have h2 := evs_flush s i
    show ((s.flush i).drain i n).evs.length ≤ _
    omega
theorem remote_fold : ∀ (l : List Nat) (s : Ms), s.okB = true → (l.foldl (fun s i => s.drain i (s.side i).buf.length) s).okB = true ∧ (l.foldl (fun s i => s.drain i (s.side i).buf.length) s).evs.length ≤ s.evs.length + l.length * 16
  | [], s, h => ⟨h, by simp⟩
  | i :: l, s, h => by
    have h1 := ok_drain (i := i) (s.side i).buf.length h
    have h2 := evs_drain (i := i) (s.side i).buf.length s
    have h3 := ok_side h i
    obtain ⟨h4, h5⟩ := remote_fold l _ h1
    refine ⟨h4, ?_⟩
    rw [List.foldl_cons, List.length_cons]
    omega
theorem fuel_remote (s : Ms) : s.fuel ≤ s.remote.fuel + 200 :=
  fuel_of (fun h => (remote_fold _ s h).1) fun h => by
    have h1 := (remote_fold (List.range s.sides.length) s h).2
    have h2 := (ok_room h).2
    rw [List.length_range] at h1
    show s.remote.evs.length ≤ _
    unfold Ms.remote
    omega
theorem fuel_store (s : Ms) (i : Nat) (m v : Int) : s.fuel ≤ (s.store i m v).fuel + 200 := by
  refine fuel_of (fun h => ?_) fun h => by show s.evs.length ≤ _; omega
  refine ok_set ?_ h
  show (Bf.putL s.room (s.side i).buf ⟨m, v⟩).length ≤ 16
  have h1 := ok_side h i
  have h2 := (ok_room h).1
  unfold Bf.putL
  split
  · simp; omega
  · exact h1
theorem ok_rise {s : Ms} (who : Int) (h : s.okB = true) : (s.rise who).okB = true := ok_set (ok_side h _) h
theorem wake_fold : ∀ (l : List Int) (s : Ms), s.okB = true → (l.foldl Ms.rise s).okB = true ∧ (l.foldl Ms.rise s).evs = s.evs
  | [], s, h => ⟨h, rfl⟩
  | x :: l, s, h => by
    obtain ⟨h1, h2⟩ := wake_fold l _ (ok_rise x h)
    exact ⟨h1, h2⟩
theorem fuel_wake (s : Ms) (m v : Int) : s.fuel ≤ (s.wake m v).fuel + 200 :=
  fuel_of (s' := s.wake m v) (fun h => (wake_fold _ (s.setQ (s.sift m v.toNat).left) h).1) fun h => by
    have e : (s.wake m v).evs = s.evs := (wake_fold (s.sift m v.toNat).out (s.setQ (s.sift m v.toNat).left) h).2
    exact Nat.le_trans (Nat.le_of_eq (congrArg List.length e)) (Nat.le_add_right _ _)
theorem fuel_note (s : Ms) (i : Nat) (x : Ev) : s.fuel ≤ (s.note i x).fuel + 200 :=
  fuel_of (s' := s.note i x) (fun h => by show s.okB = true; exact h) fun h => by simp [Ms.note]
theorem fuel_swap (s : Ms) (m v : Int) : s.fuel ≤ (s.setM m v).fuel + 200 :=
  fuel_of (s' := s.setM m v) (fun h => by show s.okB = true; exact h) fun h => by show s.evs.length ≤ _; omega
end Go.Proofs.YtfhplbmgjgfihaaGreatDoor.Mc
