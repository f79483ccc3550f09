/-
  What sift does to a queue in memory, whatever function decides who is woken, if that function keeps all but a block of its own. No condition but what the law names.
-/
import Derived.Test.YthbenfnanhpcoaaGreatDoorZtal
import Derived.Test.YthbenfnanhpcoaaGreatDoorZtamKnRow
namespace Go.Proofs.YthbenfnanhpcoaaGreatDoor.Kq
open Go.ChangeShapes Go.WideShapes Go.ChangeAt Go.RowKit
open Go.Proofs.YthbenfnanhpcoaaGreatDoor.Kn
set_option linter.unusedVariables false
set_option maxRecDepth 20000

/-- cells set one behind the other -/
def setA : Array Value → Nat → List Value → Array Value
  | X, _, [] => X
  | X, o, v :: vs => setA (X.setIfInBounds o v) (o + 1) vs
theorem setCells_has {g : Nat} {t : TypeId} : ∀ (vs : List Value) (o : Nat) (w : World) (X : Array Value), Has w g X t → Has (w.setCells g o vs) g (setA X o vs) t
  | [], o, w, X, h => h
  | v :: vs, o, w, X, h => setCells_has vs (o + 1) (w.setCell ⟨g, o, none⟩ v) _ (h.set o v)
theorem kp_setCells {b : Nat} : ∀ (vs : List Value) (o : Nat) (w : World), Kp [b] w (w.setCells b o vs)
  | [], o, w => Kp.refl _ _
  | v :: vs, o, w => (Kp.setCell w b o v).trans (kp_setCells vs (o + 1) (w.setCell ⟨b, o, none⟩ v)) (fun _ h => h) (fun _ h => .inl h)
theorem setA_seg : ∀ (new pre old post : List Value), old.length = new.length → setA (pre ++ (old ++ post)).toArray pre.length new = (pre ++ (new ++ post)).toArray
  | [], pre, old, post, h => by
    rw [List.length_eq_zero_iff.1 h]
    rfl
  | v :: vs, pre, old, post, h => by
    match old, h with
    | x :: xs, h =>
      have ih := setA_seg vs (pre ++ [v]) xs post (by simpa using h)
      have e : (pre ++ (x :: xs ++ post)).toArray.setIfInBounds pre.length v = (pre ++ [v] ++ (xs ++ post)).toArray := by
        rw [List.setIfInBounds_toArray, List.set_append_right _ _ (Nat.le_refl _), Nat.sub_self]
        simp
      show setA ((pre ++ (x :: xs ++ post)).toArray.setIfInBounds pre.length v) (pre.length + 1) vs = _
      rw [e]
      have e2 : (pre ++ [v]).length = pre.length + 1 := by simp
      rw [e2] at ih
      rw [ih]
      simp
theorem setA_mach {a b : Value} {C D : Array Value} {e : Value} (hC : C.size = 17) (hD : D.size = 17) : setA (machC a b C e) 2 D.toList = machC a b D e :=
  setA_seg D.toList [a, b] C.toList [e] (by simp [hC, hD])

/-- what is so while a queue is sifted: a number, who was woken, who is left -/
structure S3 where
  n : Nat
  out : List Int
  left : List Ent
def sift1 (st : Nat → Ent → Bool) (nx : Nat → Ent → Nat) (s : S3) (x : Ent) : S3 :=
  ⟨nx s.n x, if st s.n x then s.out ++ [x.a] else s.out, if st s.n x then s.left else s.left ++ [x]⟩
def siftS (st : Nat → Ent → Bool) (nx : Nat → Ent → Nat) (n : Nat) (l : List Ent) : S3 := l.foldl (sift1 st nx) ⟨n, [], []⟩
theorem siftS_snoc (st : Nat → Ent → Bool) (nx : Nat → Ent → Nat) (n : Nat) (l : List Ent) (x : Ent) : siftS st nx n (l ++ [x]) = sift1 st nx (siftS st nx n l) x := by
  unfold siftS
  rw [List.foldl_append]
  rfl
theorem foldl_len (st : Nat → Ent → Bool) (nx : Nat → Ent → Nat) : ∀ (l : List Ent) (s : S3), (l.foldl (sift1 st nx) s).left.length ≤ s.left.length + l.length ∧ (l.foldl (sift1 st nx) s).out.length ≤ s.out.length + l.length
  | [], s => by simp
  | x :: l, s => by
    have := foldl_len st nx l (sift1 st nx s x)
    have h1 : (sift1 st nx s x).left.length ≤ s.left.length + 1 := by unfold sift1; simp only; split <;> simp
    have h2 : (sift1 st nx s x).out.length ≤ s.out.length + 1 := by unfold sift1; simp only; split <;> simp
    simp only [List.foldl_cons, List.length_cons]
    omega
theorem siftS_len (st : Nat → Ent → Bool) (nx : Nat → Ent → Nat) (n : Nat) (l : List Ent) : (siftS st nx n l).left.length ≤ l.length ∧ (siftS st nx n l).out.length ≤ l.length := by
  have := foldl_len st nx l ⟨n, [], []⟩
  simpa [siftS] using this
theorem take_get (l : List Ent) (k : Nat) (h : k < l.length) : l.take (k + 1) = l.take k ++ [l.getD k ent0] := by
  rw [List.take_succ_eq_append_getElem h, List.getD_eq_getElem?_getD, List.getElem?_eq_getElem h]; rfl

/-- a call of a function value by its contract -/
theorem step_clo {ops : Array Oper} {rest : List Oper} {o : Oper} {a : Act} {w : World} {Q : Exit → Act → World → Prop} (hgd : o.guard = none) (d : Option Tmp) (hd : o.dst = d) (f x : Operand) (t : TypeId) (ho : o.op = .call { callee := .value f, args := #[x], argTypes := #[t] })
    (F : FuncId) (caps : Array Value) (hf : a.eval f = .func (.func F) #[] caps) (v : Value) (hx : a.eval x = v) (hF : ∀ args w, (callFunc F args).run Tryz.prog w = .ok (.enter F args) w)
    {R : Ending → World → Prop} (hc : Calls Tryz.prog F (#[v] ++ caps) w R) (h : ∀ e u, R e u → ∃ v, e = .returned v ∧ wpList Tryz.prog ops Q rest (a.put d v) u) : wpList Tryz.prog ops Q (o :: rest) a w :=
  wpList_plain hgd fun _ hK => wp_call d hd F _ (by
    unfold execOp
    simp [ho, resolve, Deferred.ofValue, invoke, hf, hx, hF]) hc fun e u k => by
      obtain ⟨v, rfl, hh⟩ := h e u k
      exact ⟨v, rfl, hK _ _ hh⟩

/-- a function that decides who is woken: by a number of its own, in a block of its own -/
def CloP (F : FuncId) (caps : Array Value) (st : Nat → Ent → Bool) (nx : Nat → Ent → Nat) (I : Nat → World → Prop) (N : Nat) : Prop :=
  ∀ n x w, I n w → Calls Tryz.prog F (#[.agg #[.int .i64 x.a, .int .i64 x.v]] ++ caps) w fun e w' => (e = .returned (.bool (st n x)) ∧ Kp [N] w w') ∧ I (nx n x) w'

/-- what is so ahead of each round -/
structure SiftI (w : World) (g : Nat) (a b : Value) (C : Array Value) (e : Value) (I : Nat → World → Prop) (N : Nat) (s : S3) (wr : World) (v : Value) : Prop where
  has : Has wr g (machC a b C e) 88
  kp : Kp [N] w wr
  left : K wr w.heap.size s.left
  own : Nown wr w.heap.size v s.out
  inv : I s.n wr

set_option maxHeartbeats 2000000 in
theorem sift_calls {g : Nat} {a b e : Value} {l : List Ent} {w : World} (h : Q w g a b e l) (F : FuncId) (caps : Array Value) (st : Nat → Ent → Bool) (nx : Nat → Ent → Nat) (I : Nat → World → Prop) (N n0 : Nat)
    (hF : ∀ args w, (callFunc F args).run Tryz.prog w = .ok (.enter F args) w) (hc : CloP F caps st nx I N) (hI : ∀ n u u', I n u → Below w.heap.size u u' → I n u') (h0 : I n0 w) (hN : N < w.heap.size) (hNg : N ≠ g) :
    Calls Tryz.prog 97 #[.pointer (some ⟨g, 2, none⟩), .func (.func F) #[] caps] w fun r w' => ∃ v, (r = .returned v ∧ Kp [N, g] w w') ∧ Nown w' w.heap.size v (siftS st nx n0 l).out ∧ Q w' g a b e (siftS st nx n0 l).left := by
  obtain ⟨C, hg0, hi⟩ := h
  have HB := hide hi
  have hgs := hg0.lt
  have hlen := hi.len
  have hll : (l.length : Int) ≤ 8 := by omega
  have hg1 := hg0.alloc zeroC 86
  have kN := K.new w
  have gN := (Gr.refl w).alloc zeroC 86
  have hs17 := hi.size
  have c16 : (w.alloc (.cells zeroC 86)).cell? ⟨g, 18, none⟩ = some (.int .i64 l.length) := hg1.cell (by rw [show 18 = 2 + 16 from rfl, mach_q (by omega)]; exact hi.count)
  have HC := hide hc
  have HI := hide hI
  have H0 := hide h0
  have HF := hide hF
  clear hi hc hI h0 hF
  go_enter Tryz.func97, Tryz.ntmps97
  go_wp2_with (fail)
  change Code.wp _ _ _ _ (w.alloc (.cells zeroC 86))
  generalize w.alloc (.cells zeroC 86) = w0 at hg1 kN gN c16 ⊢
  go_quiet (fail)
  go_wp2_with (fail)
  have start : ∀ n, SiftI w g a b C e I N (siftS st nx n0 (l.take 0)) (w0.drewN n) (.slice none 0 0) := fun n =>
    ⟨hg1.drewN n, (gN.drewN n).kp _, kN.later ((Gr.refl _).drewN n), Nown.nil _ _, HI.out _ _ _ H0.out (gN.drewN n)⟩
  go_loopw [5, 18] (fun v5 i wr => ∃ k : Nat, k ≤ l.length ∧ i = .int .i64 k ∧ SiftI w g a b C e I N (siftS st nx n0 (l.take k)) wr v5) (fun _ i _ => l.length - (intOf i).toNat)
  case atStart => exact ⟨0, by omega, rfl, start _⟩
  case round =>
    clear start c16 hg0 hg1 kN gN
    obtain ⟨k, hk, rfl, s⟩ := hrel
    by_cases hlt : k < l.length
    · have hlt' : (k : Int) < l.length := by omega
      obtain ⟨ca, cv⟩ := HB.out.ent k hlt
      have HT : Hid (siftS st nx n0 (l.take (k + 1)) = sift1 st nx (siftS st nx n0 (l.take k)) (l.getD k ent0)) := by
        show siftS st nx n0 (l.take (k + 1)) = _
        rw [take_get l k hlt, siftS_snoc]
      have hsl := siftS_len st nx n0 (l.take k)
      rw [List.length_take, Nat.min_eq_left hk] at hsl
      obtain ⟨hs1, hs2⟩ := hsl
      generalize l.getD k ent0 = x at ca cv HT
      generalize siftS st nx n0 (l.take k) = s3 at s HT hs1 hs2
      replace ca : wr.cell? ⟨g, 2 + k * 2, none⟩ = some (.int .i64 x.a) := s.has.cell (by rw [mach_q (by omega)]; exact ca)
      replace cv : wr.cell? ⟨g, 2 + k * 2 + 1, none⟩ = some (.int .i64 x.v) := s.has.cell (by rw [show 2 + k * 2 + 1 = 2 + (k * 2 + 1) from by omega, mach_q (by omega)]; exact cv)
      have SS := hide s
      have hwr := s.kp.size
      have HS1 := hide hs1
      have HS2 := hide hs2
      have hA := Has.new wr #[.int .i64 x.a, .int .i64 x.v] 83
      have bA : Below w.heap.size wr (wr.alloc (.cells #[.int .i64 x.a, .int .i64 x.v] 83)) := Below.alloc (Below.refl _ wr) hwr _
      have gA := (Gr.refl wr).alloc #[.int .i64 x.a, .int .i64 x.v] 83
      clear s hs1 hs2
      go_wp2_with (fail)
      rw [HF.out, Oper.upon_enter]
      refine (HC.out s3.n x _ (HI.out _ _ _ SS.out.inv bA)).mono ?_
      rintro r1 w1 ⟨⟨rfl, k1⟩, i1⟩
      have hNw : N < wr.heap.size := by omega
      have a1 : Has w1 wr.heap.size #[.int .i64 x.a, .int .i64 x.v] 83 := hA.kept k1 (by simp; omega)
      have own1 : Nown w1 w.heap.size u5 s3.out := Kn.own_move (SS.out.own.later gA) fun y D hy hD => k1.block y hD.lt (by simp; omega)
      have left1 : K w1 w.heap.size s3.left := (SS.out.left.later gA).kept k1 (by simp; omega)
      have has1 : Has w1 g (machC a b C e) 88 := (SS.out.has.later gA).kept k1 (by simp; omega)
      have kp1 : Kp [N] w w1 := (SS.out.kp.trans (gA.kp []) (f := [N]) (by simp) (by simp)).trans k1 (by simp) (by simp)
      have hw1 := kp1.size
      have hL : w.heap.size < w1.heap.size := left1.lt
      have e1 := a1.cell (o := 0) rfl
      have e2 := a1.cell (o := 1) rfl
      clear hA bA gA ca cv k1
      by_cases hs : st s3.n x = true
      · have HX : Hid (sift1 st nx s3 x = ⟨nx s3.n x, s3.out ++ [x.a], s3.left⟩) := by show sift1 st nx s3 x = _; simp [sift1, hs]
        obtain ⟨v2, w2, hr, o2, g2⟩ := app_num own1 x.a (by have := HS2.out; omega) hw1
        have O2 := hide o2
        have G2 := hide g2
        have OW := hide (own1.later ((Gr.refl w1).alloc #[.int .i64 x.a] 3))
        have L1 := hide left1
        have A1 := hide has1
        have I1 := hide i1
        clear o2 g2 own1 left1 has1 i1 a1
        go_wp2_with (first
          | (refine step_app rfl (some 29) rfl _ _ _ rfl _ _ rfl rfl v2 w2 hr ?_))
        refine ⟨⟨k + 1, by omega, by go_num, ?_⟩, by simp [intOf]; omega⟩
        rw [HT.out, HX.out]
        have gg := (Gr.refl w1).alloc #[.int .i64 x.a] 3
        have ob := OW.out.lt
        refine ⟨(A1.out.later gg).grown OW.out G2.out (by decide), ?_, (L1.out.later gg).nums OW.out G2.out, O2.out, ?_⟩
        · have bb : Below w.heap.size w1 w2 := Below.grown (Below.alloc (Below.refl _ w1) hw1 _) G2.out (by simp; omega) (fun y hy => (ob y hy).1)
          exact ⟨bb.os.trans kp1.os, bb.tape.trans kp1.tape, bb.output.trans kp1.output, Nat.le_trans kp1.size bb.size, fun y hy hn => (bb.block y hy).trans (kp1.block y hy hn)⟩
        · exact HI.out _ _ _ I1.out (Below.grown (Below.alloc (Below.refl _ w1) hw1 _) G2.out (by simp; omega) (fun y hy => (ob y hy).1))
      · have hs' : st s3.n x = false := by simpa using hs
        have HX : Hid (sift1 st nx s3 x = ⟨nx s3.n x, s3.out, s3.left ++ [x]⟩) := by show sift1 st nx s3 x = _; simp [sift1, hs']
        have O1 := hide own1
        have L1 := hide left1
        have A1 := hide has1
        have I1 := hide i1
        have HL8 : Hid (s3.left.length < 8) := by have := HS1.out; show s3.left.length < 8; omega
        clear own1 left1 has1 i1 a1 hs
        go_wp2_with (fail)
        refine (Kn.last_calls L1.out HL8.out x).mono ?_
        rintro r2 w2 ⟨⟨rfl, k2⟩, q2⟩
        have K2 := hide k2
        have Q2 := hide q2
        clear k2 q2 e1 e2
        go_wp2_with (fail)
        refine ⟨⟨k + 1, by omega, by go_num, ?_⟩, by simp [intOf]; omega⟩
        rw [HT.out, HX.out]
        refine ⟨A1.out.kept K2.out (by simp; omega), kp1.trans K2.out (by simp) (by simp), Q2.out, O1.out.kept K2.out L1.out, ?_⟩
        exact HI.out _ _ _ I1.out ⟨K2.out.os, K2.out.tape, K2.out.output, K2.out.size, fun y hy => K2.out.block y (by omega) (by simp; omega)⟩
    · obtain rfl : k = l.length := by omega
      rw [List.take_length] at s
      have SS := hide s
      obtain ⟨D, hD, iD⟩ := s.left
      have hG := s.has
      have hGD : Has (wr.setCells g 2 D.toList) g (machC a b D e) 88 := by
        have q := setCells_has D.toList 2 wr _ hG
        rwa [setA_mach hs17 iD.size] at q
      have thr : wr.there g 2 D.size := hG.there 2 D.size (by rw [mach_size hs17, iD.size]; omega)
      have ID := hide iD
      clear s iD
      go_wp2_with (first
        | (refine load_buf rfl _ rfl w.heap.size rfl D hD ID.out.size ?_)
        | (refine wpList_store_mid rfl 86 _ _ rfl g 2 D rfl rfl thr (infoB_of ID.out.size) ID.out.one ?_))
      go_ret
      refine ⟨_, ⟨rfl, SS.out.kp.trans (kp_setCells D.toList 2 wr) (by simp) (by simp)⟩, ?_, D, hGD, ID.out⟩
      exact Kn.own_kept SS.out.own (kp_setCells D.toList 2 wr) hG (by decide)
end Go.Proofs.YthbenfnanhpcoaaGreatDoor.Kq
