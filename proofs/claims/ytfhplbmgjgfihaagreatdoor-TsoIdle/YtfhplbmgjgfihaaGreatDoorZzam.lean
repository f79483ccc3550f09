/-
  What Step does, of any thread and any code. No condition but that the port's functions are such, and have room, and that the code is of words.
-/
import Derived.Test.YtfhplbmgjgfihaaGreatDoorZzak
import Derived.Test.YtfhplbmgjgfihaaGreatDoorZzalMStpA
import Derived.Test.YtfhplbmgjgfihaaGreatDoorZzag
namespace Go.Proofs.YtfhplbmgjgfihaaGreatDoor.Mp
open Go.ChangeShapes Go.WideShapes Go.ChangeAt Go.RowKit
set_option linter.unusedVariables false
set_option maxRecDepth 20000
theorem step_does {S : Type} {I : List Nat → S → World → Prop} {M : Prt S} {f : Fns} (P : PortOk I M f) {t : Th} (ht : ThOk t) (code : List Ins) (hi : ∀ i ∈ code, InsOk i) (hlen : code.length < 4611686018427387904) (ad : Option Addr) (cap : Nat) (s : S) (hq : 1000 ≤ M.fuel s) (w : World) (hrow : RowAt w ad (flatOf insL code)) :
    Does I s w 34 #[.agg (thC t), .slice ad code.length cap, .agg (portA M.size f)] (.agg (thC (stepM M t code s).1)) (stepM M t code s).2 := by
  cases hs : (t.st != 0)
  · cases h0 : (decide (t.pc < 0) || decide ((code.length : Int) ≤ t.pc))
    · have h1 : 0 ≤ t.pc ∧ t.pc < code.length := by
        rw [Bool.or_eq_false_iff, decide_eq_false_iff_not, decide_eq_false_iff_not] at h0
        omega
      obtain ⟨n, hn⟩ := Int.eq_ofNat_of_zero_le h1.1
      have hl : n < code.length := by omega
      refine step_at P ht code ad cap s hq w hrow hs n hn hl hlen ?_
      rw [List.getD_eq_getElem?_getD, List.getElem?_eq_getElem hl]
      exact hi _ (List.getElem_mem hl)
    · exact step_end P ht code ad cap hs h0 s hq w hrow
  · exact step_not P ht code ad cap hs s hq w hrow
/-- a thread's step leaves a thread -/
theorem stepM_ok {S : Type} {I : List Nat → S → World → Prop} {M : Prt S} {f : Fns} (P : PortOk I M f) {F : List Nat} {s : S} {w : World} (hI : I F s w) {t : Th} (ht : ThOk t) (code : List Ins) (hi : ∀ i ∈ code, InsOk i) : ThOk (stepM M t code s).1 := by
  unfold stepM
  split
  · exact ht
  split
  · exact ht.is 2
  · rename_i h1 h2
    have h3 : ¬ (t.pc < 0 ∨ (code.length : Int) ≤ t.pc) := by simpa using h2
    unfold atM
    split
    · exact ht.is 3
    split
    · exact ht
    · refine doneM_ok P hI ht _ ?_
      have hl : t.pc.toNat < code.length := by omega
      rw [List.getD_eq_getElem?_getD, List.getElem?_eq_getElem hl]
      exact hi _ (List.getElem_mem hl)
end Go.Proofs.YtfhplbmgjgfihaaGreatDoor.Mp
namespace Go.Proofs.YtfhplbmgjgfihaaGreatDoor.Mc
open Go.ChangeShapes Go.WideShapes Go.ChangeAt Go.RowKit
set_option linter.unusedVariables false
set_option maxRecDepth 20000
/-- where a side lies, and its code's slice -/
structure Sk where
  g : Nat
  cv : Value
/-- where a machine lies: its block, its sides' slice, its memory's slice, how many words, its sides -/
structure Mk where
  mb : Nat
  sv : Value
  bv : Value
  N : Nat
  ss : List Sk
def fnsT (g : Nat) : Mp.Fns := ⟨42, 43, 44, 45, 20, 46, 47, 48, 49, 36, .pointer (some ⟨g, 0, none⟩)⟩
/-- a side's cells -/
def sideL (mb i : Nat) (cv : Value) (t : Th) (B : Array Value) (z : Int) (g : Nat) : List Value := [.pointer (some ⟨mb, 0, none⟩), .int .i64 i, cv] ++ (thL t ++ (B.toList ++ (Mp.portA z (fnsT g)).toList))
def sideA (mb i : Nat) (cv : Value) (t : Th) (B : Array Value) (z : Int) (g : Nat) : Array Value := (sideL mb i cv t B z g).toArray

/-- a side lies in the world -/
structure Si (k : Mk) (room : Nat) (i : Nat) (x : Sk) (d : Sd) (w : World) : Prop where
  hs : ∃ B, Has w x.g (sideA k.mb i x.cv d.t B k.N x.g) 92 ∧ Bf.IsB B room d.buf
  code : InssO w 0 x.cv d.code
  th : ThOk d.t
  ins : ∀ c ∈ d.code, InsOk c
  ent : ∀ c ∈ d.buf, (0 ≤ c.a ∧ c.a < k.N) ∧ U32 c.v
def Mk.foot (k : Mk) (e : Value) : List Nat := k.mb :: (ob k.sv ++ (ob k.bv ++ (ob e ++ (k.ss.map Sk.g ++ k.ss.flatMap fun x => ob x.cv))))
/-- the machine lies in the world -/
structure Mw (k : Mk) (s : Ms) (e : Value) (w : World) : Prop where
  laid : Laid w
  q : Kq.Q w k.mb k.sv k.bv e s.slp
  row : w.ownsRow 0 67 1 k.sv k.ss.length (k.ss.map fun x => .pointer (some ⟨x.g, 0, none⟩))
  len : k.ss.length = s.sides.length
  side : ∀ i x, k.ss[i]? = some x → Si k s.room i x (s.side i) w
  nod : (k.ss.map Sk.g).Nodup
  mem : WordsO w 0 k.bv s.mem
  evs : EvsO w 0 e s.evs
  num : s.mem.length = k.N
  most : k.N ≤ 100000
  wrd : ∀ x ∈ s.mem, U32 x
  ok : s.okB = true
  slp : Kn.Ok s.slp
  few : ∀ x ∈ s.slp, x.a < s.sides.length
  pos : 0 ∉ k.foot e

theorem mem_foot {k : Mk} {e : Value} {x : Nat} : x ∈ k.foot e ↔ x = k.mb ∨ x ∈ ob k.sv ∨ x ∈ ob k.bv ∨ x ∈ ob e ∨ (∃ y ∈ k.ss, y.g = x) ∨ (∃ y ∈ k.ss, x ∈ ob y.cv) := by
  simp [Mk.foot]
theorem Si.kept {k : Mk} {room i : Nat} {x : Sk} {d : Sd} {w w' : World} {G : List Nat} (h : Si k room i x d w) (q : Kp G w w') (hg : x.g ∉ G) (hc : ∀ y ∈ ob x.cv, y ∉ G) : Si k room i x d w' := by
  obtain ⟨B, hB, iB⟩ := h.hs
  exact ⟨⟨B, hB.kept q hg, iB⟩, own_kept h.code q fun y e => hc y (mem_ob.2 e), h.th, h.ins, h.ent⟩
theorem own_lt {w : World} {base sz n : Nat} {t : TypeId} {v : Value} {xs : List Value} (h : w.ownsRow base t sz v n xs) {x : Nat} (hx : x ∈ ob v) : x < w.heap.size := by
  obtain ⟨C, hC⟩ := own_has h hx
  exact hC.lt
theorem Laid.kept {w w' : World} {G : List Nat} (h : Laid w) (k : Kp G w w') (hG : 0 ∉ G) : Laid w' := by
  have hb := k.block 0 h.lt hG
  have c : ∀ o, w'.cell? ⟨0, o, none⟩ = w.cell? ⟨0, o, none⟩ := fun o => cell_same o hb
  refine ⟨fun n hn => ?_⟩
  obtain ⟨h0, h1, h2, h3, h4⟩ := h.kd n hn
  exact ⟨(c _).trans h0, (c _).trans h1, (c _).trans h2, (c _).trans h3, (c _).trans h4⟩
theorem mem_get {α : Type} {l : List α} {i : Nat} {x : α} (h : l[i]? = some x) : x ∈ l := List.mem_of_getElem? h
theorem get_of_mem {α : Type} {l : List α} {x : α} (h : x ∈ l) : ∃ i : Nat, l[i]? = some x := List.getElem?_of_mem h

theorem Mw.kept {k : Mk} {s : Ms} {e : Value} {w w' : World} {G : List Nat} (h : Mw k s e w) (q : Kp G w w') (hG : ∀ x ∈ G, x ∉ k.foot e ∧ x ≠ 0) : Mw k s e w' := by
  have n : ∀ {x}, x ∈ k.foot e → x ∉ G := fun hx hg => (hG _ hg).1 hx
  exact ⟨Laid.kept h.laid q (fun hg => (hG 0 hg).2 rfl), h.q.kept q (n (mem_foot.2 (.inl rfl))), own_kept h.row q fun g y => n (mem_foot.2 (.inr (.inl (mem_ob.2 y)))), h.len,
    fun i x hx => (h.side i x hx).kept q (n (mem_foot.2 (.inr (.inr (.inr (.inr (.inl ⟨x, mem_get hx, rfl⟩))))))) (fun y hy => n (mem_foot.2 (.inr (.inr (.inr (.inr (.inr ⟨x, mem_get hx, hy⟩))))))), h.nod,
    own_kept h.mem q fun g y => n (mem_foot.2 (.inr (.inr (.inl (mem_ob.2 y))))), own_kept h.evs q fun g y => n (mem_foot.2 (.inr (.inr (.inr (.inl (mem_ob.2 y)))))), h.num, h.most, h.wrd, h.ok, h.slp, h.few, h.pos⟩
theorem Mw.later {k : Mk} {s : Ms} {e : Value} {w w' : World} (h : Mw k s e w) (g : Gr w w') : Mw k s e w' := h.kept (g.kp []) (by simp)
theorem Mw.bnd {k : Mk} {s : Ms} {e : Value} {w : World} (h : Mw k s e w) : ∀ x ∈ k.foot e, x < w.heap.size := by
  intro x hx
  rcases mem_foot.1 hx with rfl | y | y | y | ⟨y, hy, rfl⟩ | ⟨y, hy, hc⟩
  · exact h.q.lt
  · exact own_lt h.row y
  · exact own_lt h.mem y
  · exact own_lt h.evs y
  · obtain ⟨i, hi⟩ := get_of_mem hy
    obtain ⟨B, hB, -⟩ := (h.side i y hi).hs
    exact hB.lt
  · obtain ⟨i, hi⟩ := get_of_mem hy
    exact own_lt (h.side i y hi).code hc
/-- the machine, whose blocks are these -/
def MI (k : Mk) (F : List Nat) (s : Ms) (w : World) : Prop := ∃ e, Mw k s e w ∧ F = k.foot e
theorem mi_inv (k : Mk) : Inv (MI k) where
  stab := by
    rintro F s w w' G ⟨e, h, rfl⟩ q hG
    exact ⟨e, h.kept q hG, rfl⟩
  bnd := by
    rintro F s w ⟨e, h, rfl⟩ x hx
    exact h.bnd x hx
  laid := by
    rintro F s w ⟨e, h, rfl⟩
    exact h.laid
/-- behind a call: the machine as it is then -/
theorem mi_post {k : Mk} {s s' : Ms} {e e' : Value} {w w' : World} (h : Mw k s e w) (h' : Mw k s' e' w') (q : Kp (k.foot e) w w') (he : ∀ x ∈ ob e', x ∈ k.foot e ∨ w.heap.size ≤ x) : Pst (MI k) (k.foot e) w [] s' w' := by
  refine ⟨k.foot e', ⟨e', h', rfl⟩, q, fun x hx => ⟨?_, by simp⟩, by simp, h.laid.lt⟩
  rcases mem_foot.1 hx with y | y | y | y | y | y
  · exact .inl (mem_foot.2 (.inl y))
  · exact .inl (mem_foot.2 (.inr (.inl y)))
  · exact .inl (mem_foot.2 (.inr (.inr (.inl y))))
  · exact he x y
  · exact .inl (mem_foot.2 (.inr (.inr (.inr (.inr (.inl y))))))
  · exact .inl (mem_foot.2 (.inr (.inr (.inr (.inr (.inr y))))))
theorem foot_evs {k : Mk} {e : Value} {w : World} : ∀ x ∈ ob e, x ∈ k.foot e ∨ w.heap.size ≤ x := fun x hx => .inl (mem_foot.2 (.inr (.inr (.inr (.inl hx)))))
/-- a call that leaves the machine as it is -/
theorem mi_same {k : Mk} {s : Ms} {e : Value} {w w' : World} (h : Mw k s e w) (g : Gr w w') : Pst (MI k) (k.foot e) w [] s w' := mi_post h (h.later g) (g.kp _) foot_evs
theorem thL_len {t : Th} (h : ThOk t) : (thL t).length = 10 := by simp [thL, h.len]
section
variable {mb i : Nat} {cv : Value} {t : Th} {B : Array Value} {z : Int} {g : Nat}
theorem side_0 : (sideA mb i cv t B z g)[0]? = some (.pointer (some ⟨mb, 0, none⟩)) := by simp [sideA, sideL]
theorem side_1 : (sideA mb i cv t B z g)[1]? = some (.int .i64 i) := by simp [sideA, sideL]
theorem side_2 : (sideA mb i cv t B z g)[2]? = some cv := by simp [sideA, sideL]
theorem side_th (h : ThOk t) {j : Nat} (hj : j < 10) : (sideA mb i cv t B z g)[3 + j]? = (thL t)[j]? := by
  simp only [sideA, sideL, List.getElem?_toArray]
  rw [List.getElem?_append_right (by simp), List.getElem?_append_left (by rw [thL_len h]; simp; omega)]
  simp
theorem side_buf (h : ThOk t) {j : Nat} (hj : j < B.size) : (sideA mb i cv t B z g)[13 + j]? = B[j]? := by
  simp only [sideA, sideL, List.getElem?_toArray]
  rw [List.getElem?_append_right (by simp; omega), List.getElem?_append_right (by rw [thL_len h]; simp; omega), List.getElem?_append_left (by rw [thL_len h]; simp; omega), thL_len h]
  simp
  rw [show 13 + j - 3 - 10 = j from by omega]
theorem side_port (h : ThOk t) (hB : B.size = 35) {j : Nat} (hj : j < 11) : (sideA mb i cv t B z g)[48 + j]? = (Mp.portA z (fnsT g))[j]? := by
  simp only [sideA, sideL, List.getElem?_toArray]
  rw [List.getElem?_append_right (by simp; omega), List.getElem?_append_right (by rw [thL_len h]; simp; omega), List.getElem?_append_right (by rw [thL_len h]; simp; omega), thL_len h]
  simp [hB]
  rw [show 48 + j - 3 - 10 - 35 = j from by omega]
theorem side_size (h : ThOk t) (hB : B.size = 35) : (sideA mb i cv t B z g).size = 59 := by
  simp [sideA, sideL, thL_len h, hB]
theorem side_setB (h : ThOk t) {D : Array Value} (hB : B.size = 35) (hD : D.size = 35) : Kq.setA (sideA mb i cv t B z g) 13 D.toList = sideA mb i cv t D z g := by
  have e := Kq.setA_seg D.toList ([.pointer (some ⟨mb, 0, none⟩), .int .i64 i, cv] ++ thL t) B.toList (Mp.portA z (fnsT g)).toList (by simp [hB, hD])
  have e2 : ([.pointer (some ⟨mb, 0, none⟩), .int .i64 i, cv] ++ thL t).length = 13 := by simp [thL_len h]
  rw [e2] at e
  simpa [sideA, sideL] using e
theorem side_setT (h : ThOk t) {t' : Th} (h' : ThOk t') : Kq.setA (sideA mb i cv t B z g) 3 (thL t') = sideA mb i cv t' B z g := by
  have e := Kq.setA_seg (thL t') [.pointer (some ⟨mb, 0, none⟩), .int .i64 i, cv] (thL t) (B.toList ++ (Mp.portA z (fnsT g)).toList) (by rw [thL_len h, thL_len h'])
  simpa [sideA, sideL] using e
end

/-- a side's parts in the world -/
structure Sr (k : Mk) (x : Sk) (i : Nat) (d : Sd) (B : Array Value) (w : World) : Prop where
  has : Has w x.g (sideA k.mb i x.cv d.t B k.N x.g) 92
  th : ThOk d.t
  sz : B.size = 35
theorem Sr.c0 {k : Mk} {x : Sk} {i : Nat} {d : Sd} {B : Array Value} {w : World} (h : Sr k x i d B w) : w.cell? ⟨x.g, 0, none⟩ = some (.pointer (some ⟨k.mb, 0, none⟩)) := h.has.cell side_0
theorem Sr.c1 {k : Mk} {x : Sk} {i : Nat} {d : Sd} {B : Array Value} {w : World} (h : Sr k x i d B w) : w.cell? ⟨x.g, 1, none⟩ = some (.int .i64 i) := h.has.cell side_1
theorem Sr.c2 {k : Mk} {x : Sk} {i : Nat} {d : Sd} {B : Array Value} {w : World} (h : Sr k x i d B w) : w.cell? ⟨x.g, 2, none⟩ = some x.cv := h.has.cell side_2
theorem Sr.rT {k : Mk} {x : Sk} {i : Nat} {d : Sd} {B : Array Value} {w : World} (h : Sr k x i d B w) : w.rangeAt x.g 3 (thL d.t) := fun j v hv =>
  h.has.cell (by rw [side_th h.th (by have := (List.getElem?_eq_some_iff.1 hv).1; rw [thL_len h.th] at this; exact this)]; exact hv)
theorem Sr.rB {k : Mk} {x : Sk} {i : Nat} {d : Sd} {B : Array Value} {w : World} (h : Sr k x i d B w) : w.rangeAt x.g 13 B.toList := fun j v hv =>
  h.has.cell (by rw [side_buf h.th (by have := (List.getElem?_eq_some_iff.1 hv).1; simpa using this)]; simpa using hv)
theorem Sr.rP {k : Mk} {x : Sk} {i : Nat} {d : Sd} {B : Array Value} {w : World} (h : Sr k x i d B w) : w.rangeAt x.g 48 (Mp.portA k.N (fnsT x.g)).toList := fun j v hv =>
  h.has.cell (by rw [side_port h.th h.sz (by have := (List.getElem?_eq_some_iff.1 hv).1; simpa using this)]; simpa using hv)
theorem Sr.later {k : Mk} {x : Sk} {i : Nat} {d : Sd} {B : Array Value} {w w' : World} (h : Sr k x i d B w) (g : Gr w w') : Sr k x i d B w' := ⟨h.has.later g, h.th, h.sz⟩
theorem Mw.sr {k : Mk} {s : Ms} {e : Value} {w : World} (h : Mw k s e w) {i : Nat} {x : Sk} (hx : k.ss[i]? = some x) : ∃ B, Sr k x i (s.side i) B w ∧ Bf.IsB B s.room (s.side i).buf := by
  obtain ⟨B, hB, iB⟩ := (h.side i x hx).hs
  exact ⟨B, ⟨hB, (h.side i x hx).th, by obtain ⟨r, f, iB⟩ := iB; rw [iB.cells]; exact Bf.bufC_size iB.ring _ _ _⟩, iB⟩
theorem infoBf : (Tryz.prog.info? 83).map (·.size) = some 35 := by kernel_rfl
theorem infoBl {B : Array Value} (h : B.size = 35) : (Tryz.prog.info? 83).map (·.size) = some B.toList.length := by rw [Array.length_toList, h]; exact infoBf

set_option maxHeartbeats 400000 in
theorem room_does (k : Mk) (i : Nat) (x : Sk) (hx : k.ss[i]? = some x) (s : Ms) (w : World) : Does (MI k) s w 43 #[.pointer (some ⟨x.g, 0, none⟩)] (.bool (!(Bf.fullB (s.side i).buf s.room))) s := by
  rintro F ⟨e, h, rfl⟩
  obtain ⟨B, sr, iB⟩ := h.sr hx
  have rB := sr.rB
  have ib := infoBl sr.sz
  have HH := hide h
  have HB := hide iB
  clear h iB sr
  go_enter Tryz.func43, Tryz.ntmps43
  go_wp2_with (first
    | (refine wpList_load_mid rfl 83 _ rfl x.g 13 rfl B.toList _ rB Tryz.underlying83 rfl ib ?_))
  refine (Bf.full_calls HB.out w).mono ?_
  rintro r w1 ⟨rfl, g1⟩
  go_wp2_with (fail)
  go_ret
  exact ⟨rfl, mi_same HH.out g1⟩
set_option maxHeartbeats 400000 in
theorem empty_does (k : Mk) (i : Nat) (x : Sk) (hx : k.ss[i]? = some x) (s : Ms) (w : World) : Does (MI k) s w 45 #[.pointer (some ⟨x.g, 0, none⟩)] (.bool (((s.side i).buf.length : Int) == 0)) s := by
  rintro F ⟨e, h, rfl⟩
  obtain ⟨B, sr, iB⟩ := h.sr hx
  have rB := sr.rB
  have ib := infoBl sr.sz
  have HH := hide h
  have HB := hide iB
  clear h iB sr
  go_enter Tryz.func45, Tryz.ntmps45
  go_wp2_with (first
    | (refine wpList_load_mid rfl 83 _ rfl x.g 13 rfl B.toList _ rB Tryz.underlying83 rfl ib ?_))
  refine (Bf.len_calls HB.out w).mono ?_
  rintro r w1 ⟨rfl, g1⟩
  go_wp2_with (fail)
  go_ret
  exact ⟨rfl, mi_same HH.out g1⟩
theorem words_set (l : List Int) (a : Nat) (v : Int) : flatOf wordL (l.set a v) = (flatOf wordL l).set a (.int .u32 v) := by
  have e : ∀ l : List Int, flatOf wordL l = l.map (Value.int .u32) := fun l => by induction l with
    | nil => rfl
    | cons x l ih => rw [flatOf_cons, ih]; rfl
  rw [e, e, List.map_set]
/-- where a word of memory lies -/
theorem Mw.memAt {k : Mk} {s : Ms} {e : Value} {w : World} (h : Mw k s e w) {m : Nat} (hm : m < k.N) : ∃ b c, k.bv = .slice (some ⟨b, 0, none⟩) k.N c ∧ w.cell? ⟨b, m, none⟩ = some (.int .u32 (s.mem.getD m 0)) ∧ w.frozen? ⟨b, m, none⟩ = false := by
  obtain ⟨a, c, hv, hr, -, -, hb⟩ := own_at h.mem
  obtain ⟨b, o, rfl, -⟩ := hr.get (by rw [flatOf_length wordL_len, h.num]; omega)
  obtain ⟨-, ho, hob⟩ := hb _ rfl
  cases ho
  have hc := hr.cell wordL_len (i := m) (by rw [h.num]; exact hm) 0 0 (by omega)
  obtain ⟨D, hD⟩ := own_has h.mem (k := b) (mem_ob.2 hob)
  refine ⟨b, c, by rw [hv, h.num], ?_, hD.free m⟩
  simpa [wordL] using hc
/-- a word of memory is set -/
theorem Mw.setM {k : Mk} {s : Ms} {e : Value} {w : World} (h : Mw k s e w) {b c : Nat} (hv : k.bv = .slice (some ⟨b, 0, none⟩) k.N c) {m : Nat} (hm : m < k.N) (v : Int) (hu : U32 v) : Mw k (s.setM m v) e (w.setCell ⟨b, m, none⟩ (.int .u32 v)) := by
  have q := Kp.setCell w b m (.int .u32 v)
  have hob : b ∈ ob k.bv := by rw [hv, mem_ob]; rfl
  have n1 : ∀ {t sz n v xs}, w.ownsRow 0 t sz v n xs → t ≠ 43 → ∀ g, v.ownBlock = some g → g ∉ [b] := fun hr ht g hg z => own_apart hr h.mem ht (mem_ob.2 hg) (by rw [show g = b by simpa using z]; exact hob)
  have n2 : ∀ {g C t}, Has w g C t → t ≠ 43 → g ∉ [b] := fun {g C t} hg ht z => own_aside h.mem hg (fun e => ht e.symm) (by rw [show g = b by simpa using z]; exact hob)
  have h0 : 0 ∉ [b] := fun z => h.pos (mem_foot.2 (.inr (.inr (.inl (by rw [show 0 = b by simpa using z]; exact hob)))))
  obtain ⟨C, hC, -⟩ := id h.q
  have hmem : WordsO (w.setCell ⟨b, m, none⟩ (.int .u32 v)) 0 k.bv (s.mem.set m v) := by
    have h1 : w.ownsRow 0 43 1 k.bv s.mem.length (flatOf wordL s.mem) := h.mem
    rw [hv] at h1 ⊢
    show World.ownsRow _ _ _ _ _ (s.mem.set m v).length (flatOf wordL (s.mem.set m v))
    rw [words_set, List.length_set]
    have hn : s.mem.length = k.N := h.num
    rw [hn] at h1 ⊢
    exact own_set h1 m _ (by omega)
  refine ⟨Laid.kept h.laid q h0, h.q.kept q (n2 hC (by decide)), own_kept h.row q (n1 h.row (by decide)), h.len, fun i x hx => ?_, h.nod, ?_, own_kept h.evs q (n1 h.evs (by decide)), by rw [← h.num]; simp [Ms.setM], h.most, ?_, h.ok, h.slp, h.few, h.pos⟩
  · have hs := h.side i x hx
    obtain ⟨B, hB, -⟩ := hs.hs
    exact Si.kept hs q (n2 hB (by decide)) (fun y hy => n1 hs.code (by decide) y (mem_ob.1 hy))
  · have e1 : (s.setM m v).mem = s.mem.set m v := by simp [Ms.setM]
    rw [e1]
    exact hmem
  · intro y hy
    rcases List.mem_or_eq_of_mem_set hy with h1 | rfl
    · exact h.wrd y h1
    · exact hu
theorem Mw.mach {k : Mk} {s : Ms} {e : Value} {w : World} (h : Mw k s e w) : w.cell? ⟨k.mb, 1, none⟩ = some k.bv ∧ w.cell? ⟨k.mb, 0, none⟩ = some k.sv ∧ w.cell? ⟨k.mb, 19, none⟩ = some e ∧ w.frozen? ⟨k.mb, 19, none⟩ = false := by
  obtain ⟨C, hC, iC⟩ := h.q
  exact ⟨hC.cell (Kq.mach_1 _ _ _ _), hC.cell (Kq.mach_0 _ _ _ _), hC.cell (Kq.mach_e iC.size), hC.free 19⟩

set_option maxHeartbeats 400000 in
theorem swap_does (k : Mk) (i : Nat) (x : Sk) (hx : k.ss[i]? = some x) (s : Ms) (m : Nat) (hm : m < k.N) (v : Int) (hu : U32 v) (w : World) :
    Does (MI k) s w 46 #[.pointer (some ⟨x.g, 0, none⟩), .int .i64 m, .int .u32 v] (.int .u32 (s.mem.getD m 0)) (s.setM m v) := by
  rintro F ⟨e, h, rfl⟩
  obtain ⟨B, sr, -⟩ := h.sr hx
  obtain ⟨b, c, hv, hc, hf⟩ := h.memAt hm
  have hm' : (m : Int) < k.N := by omega
  have hm0 : ¬ (m : Int) < 0 := by omega
  have c0 := sr.c0
  have c1 := h.mach.1
  rw [hv] at c1
  have hob : b ∈ ob k.bv := by rw [hv, mem_ob]; rfl
  have HP := hide (mi_post h (h.setM hv hm v hu) ((Kp.setCell w b m (.int .u32 v)).trans (Kp.refl (k.foot e) _) (fun y hy => mem_foot.2 (.inr (.inr (.inl (by rw [show y = b by simpa using hy]; exact hob))))) (fun y hy => .inl hy)) foot_evs)
  generalize s.mem.getD m 0 = old at hc ⊢
  clear h sr hu hv hob
  go_enter Tryz.func46, Tryz.ntmps46
  go_wp2_with (fail)
  go_ret
  exact ⟨rfl, HP.out⟩
set_option maxHeartbeats 400000 in
theorem load_does (k : Mk) (i : Nat) (x : Sk) (hx : k.ss[i]? = some x) (s : Ms) (m : Nat) (hm : m < k.N) (w : World) :
    Does (MI k) s w 42 #[.pointer (some ⟨x.g, 0, none⟩), .int .i64 m] (.int .u32 (s.load i m)) s := by
  rintro F ⟨e, h, rfl⟩
  obtain ⟨B, sr, iB⟩ := h.sr hx
  obtain ⟨b, c, hv, hc, -⟩ := h.memAt hm
  have hm' : (m : Int) < k.N := by omega
  have hm0 : ¬ (m : Int) < 0 := by omega
  have rB := sr.rB
  have ib := infoBl sr.sz
  have c0 := sr.c0
  have c1 := h.mach.1
  rw [hv] at c1
  have HH := hide h
  have HB := hide iB
  have HC : Hid (∀ u, Gr w u → u.cell? ⟨x.g, 0, none⟩ = some (.pointer (some ⟨k.mb, 0, none⟩)) ∧ u.cell? ⟨k.mb, 1, none⟩ = some (.slice (some ⟨b, 0, none⟩) k.N c) ∧ u.cell? ⟨b, m, none⟩ = some (.int .u32 (s.mem.getD m 0))) := fun u g =>
    ⟨(Below.cell g (World.block_lt_of_cell? w _ c0)).trans c0, (Below.cell g (World.block_lt_of_cell? w _ c1)).trans c1, (Below.cell g (World.block_lt_of_cell? w _ hc)).trans hc⟩
  cases hfd : Bf.findR (m : Int) (s.side i).buf with
  | some v =>
    have HL : Hid (s.load i m = v) := by show s.load i m = v; unfold Ms.load; rw [hfd]
    have HFD := hide hfd
    rw [HL.out]
    clear h iB sr c0 c1 hc hv hfd
    go_enter Tryz.func42, Tryz.ntmps42
    go_wp2_with (first
      | (refine wpList_load_mid rfl 83 _ rfl x.g 13 rfl B.toList _ rB Tryz.underlying83 rfl ib ?_))
    refine (Bf.find_calls HB.out (m : Int) w).mono ?_
    rintro r w1 ⟨rfl, g1⟩
    rw [HFD.out]
    unfold Bf.foundV
    go_wp2_with (fail)
    go_ret
    exact ⟨rfl, mi_same HH.out g1⟩
  | none =>
    have HL : Hid (s.load i m = s.mem.getD m 0) := by show s.load i m = _; unfold Ms.load; rw [hfd]; rfl
    have HFD := hide hfd
    rw [HL.out]
    clear h iB sr c0 c1 hc hv hfd HL
    generalize s.mem.getD m 0 = v at HC ⊢
    go_enter Tryz.func42, Tryz.ntmps42
    go_wp2_with (first
      | (refine wpList_load_mid rfl 83 _ rfl x.g 13 rfl B.toList _ rB Tryz.underlying83 rfl ib ?_))
    refine (Bf.find_calls HB.out (m : Int) w).mono ?_
    rintro r w1 ⟨rfl, g1⟩
    rw [HFD.out]
    unfold Bf.foundV
    obtain ⟨d0, d1, d2⟩ := HC.out w1 g1
    go_wp2_with (fail)
    go_ret
    exact ⟨rfl, mi_same HH.out g1⟩
end Go.Proofs.YtfhplbmgjgfihaaGreatDoor.Mc
