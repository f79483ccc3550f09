/-
  What Step does, of any thread and any code. No condition but that the port's functions are such, and have room, and that the code is of words.
-/
import Derived.Test.YthbenfnanhpcoaaGreatDoorZtaw
import Derived.Test.YthbenfnanhpcoaaGreatDoorZtaxMStpA
import Derived.Test.YthbenfnanhpcoaaGreatDoorZtao
namespace Go.Proofs.YthbenfnanhpcoaaGreatDoor.Mp
open Go.ChangeShapes Go.WideShapes Go.ChangeAt Go.RowKit
set_option linter.unusedVariables false
set_option maxRecDepth 20000

theorem step_does {S : Type} {I : List Nat → S → World → Prop} {M : Prt S} {f : Fns} (P : PortOk I M f) {t : Th} (ht : ThOk t) (code : List Ins) (hi : ∀ i ∈ code, InsOk i) (hlen : code.length < 4611686018427387904) (ad : Option Addr) (cap : Nat) (s : S) (hq : 1000 ≤ M.fuel s) (w : World) (hrow : RowAt w ad (flatOf insL code)) :
    Does I s w 62 #[.agg (thC t), .slice ad code.length cap, .agg (portA M.size f)] (.agg (thC (stepM M t code s).1)) (stepM M t code s).2 := by
  cases hs : (t.st != 0)
  · cases h0 : (decide (t.pc < 0) || decide ((code.length : Int) ≤ t.pc))
    · have h1 : 0 ≤ t.pc ∧ t.pc < code.length := by
        rw [Bool.or_eq_false_iff, decide_eq_false_iff_not, decide_eq_false_iff_not] at h0
        omega
      obtain ⟨n, hn⟩ := Int.eq_ofNat_of_zero_le h1.1
      have hl : n < code.length := by omega
      refine step_at P ht code ad cap s hq w hrow hs n hn hl hlen ?_
      rw [List.getD_eq_getElem?_getD, List.getElem?_eq_getElem hl]
      exact hi _ (List.getElem_mem hl)
    · exact step_end P ht code ad cap hs h0 s hq w hrow
  · exact step_not P ht code ad cap hs s hq w hrow
/-- a thread's step leaves a thread -/
theorem stepM_ok {S : Type} {I : List Nat → S → World → Prop} {M : Prt S} {f : Fns} (P : PortOk I M f) {F : List Nat} {s : S} {w : World} (hI : I F s w) {t : Th} (ht : ThOk t) (code : List Ins) (hi : ∀ i ∈ code, InsOk i) : ThOk (stepM M t code s).1 := by
  unfold stepM
  split
  · exact ht
  split
  · exact ht.is 2
  · rename_i h1 h2
    have h3 : ¬ (t.pc < 0 ∨ (code.length : Int) ≤ t.pc) := by simpa using h2
    unfold atM
    split
    · exact ht.is 3
    split
    · exact ht
    · refine doneM_ok P hI ht _ ?_
      have hl : t.pc.toNat < code.length := by omega
      rw [List.getD_eq_getElem?_getD, List.getElem?_eq_getElem hl]
      exact hi _ (List.getElem_mem hl)
end Go.Proofs.YthbenfnanhpcoaaGreatDoor.Mp

namespace Go.Proofs.YthbenfnanhpcoaaGreatDoor.Mc
open Go.ChangeShapes Go.WideShapes Go.ChangeAt Go.RowKit
set_option linter.unusedVariables false
set_option maxRecDepth 20000

/-- where a side lies, and its code's slice -/
structure Sk where
  g : Nat
  cv : Value
/-- where a machine lies: its block, its sides' slice, its memory's slice, how many words, its sides -/
structure Mk where
  mb : Nat
  sv : Value
  bv : Value
  N : Nat
  ss : List Sk
def fnsT (g : Nat) : Mp.Fns := ⟨74, 75, 76, 77, 40, 78, 79, 80, 81, 64, .pointer (some ⟨g, 0, none⟩)⟩
/-- a side's cells -/
def sideL (mb i : Nat) (cv : Value) (t : Th) (B : Array Value) (z : Int) (g : Nat) : List Value := [.pointer (some ⟨mb, 0, none⟩), .int .i64 i, cv] ++ (thL t ++ (B.toList ++ (Mp.portA z (fnsT g)).toList))
def sideA (mb i : Nat) (cv : Value) (t : Th) (B : Array Value) (z : Int) (g : Nat) : Array Value := (sideL mb i cv t B z g).toArray

/-- a side lies in the world -/
structure Si (k : Mk) (room : Nat) (i : Nat) (x : Sk) (d : Sd) (w : World) : Prop where
  hs : ∃ B, Has w x.g (sideA k.mb i x.cv d.t B k.N x.g) 105 ∧ Bf.IsB B room d.buf
  code : InssO w 0 x.cv d.code
  th : ThOk d.t
  ins : ∀ c ∈ d.code, InsOk c
  ent : ∀ c ∈ d.buf, (0 ≤ c.a ∧ c.a < k.N) ∧ U32 c.v
def Mk.foot (k : Mk) (e : Value) : List Nat := k.mb :: (ob k.sv ++ (ob k.bv ++ (ob e ++ (k.ss.map Sk.g ++ k.ss.flatMap fun x => ob x.cv))))
/-- the machine lies in the world -/
structure Mw (k : Mk) (s : Ms) (e : Value) (w : World) : Prop where
  laid : Laid w
  q : Kq.Q w k.mb k.sv k.bv e s.slp
  row : w.ownsRow 0 89 1 k.sv k.ss.length (k.ss.map fun x => .pointer (some ⟨x.g, 0, none⟩))
  len : k.ss.length = s.sides.length
  side : ∀ i x, k.ss[i]? = some x → Si k s.room i x (s.side i) w
  nod : (k.ss.map Sk.g).Nodup
  mem : WordsO w 0 k.bv s.mem
  evs : EvsO w 0 e s.evs
  num : s.mem.length = k.N
  most : k.N ≤ 100000
  wrd : ∀ x ∈ s.mem, U32 x
  ok : s.okB = true
  slp : Kn.Ok s.slp
  few : ∀ x ∈ s.slp, x.a < s.sides.length
  pos : 0 ∉ k.foot e

theorem mem_foot {k : Mk} {e : Value} {x : Nat} : x ∈ k.foot e ↔ x = k.mb ∨ x ∈ ob k.sv ∨ x ∈ ob k.bv ∨ x ∈ ob e ∨ (∃ y ∈ k.ss, y.g = x) ∨ (∃ y ∈ k.ss, x ∈ ob y.cv) := by
  simp [Mk.foot]
theorem Si.kept {k : Mk} {room i : Nat} {x : Sk} {d : Sd} {w w' : World} {G : List Nat} (h : Si k room i x d w) (q : Kp G w w') (hg : x.g ∉ G) (hc : ∀ y ∈ ob x.cv, y ∉ G) : Si k room i x d w' := by
  obtain ⟨B, hB, iB⟩ := h.hs
  exact ⟨⟨B, hB.kept q hg, iB⟩, own_kept h.code q fun y e => hc y (mem_ob.2 e), h.th, h.ins, h.ent⟩
theorem own_lt {w : World} {base sz n : Nat} {t : TypeId} {v : Value} {xs : List Value} (h : w.ownsRow base t sz v n xs) {x : Nat} (hx : x ∈ ob v) : x < w.heap.size := by
  obtain ⟨C, hC⟩ := own_has h hx
  exact hC.lt
theorem Laid.kept {w w' : World} {G : List Nat} (h : Laid w) (k : Kp G w w') (hG : 0 ∉ G) : Laid w' := by
  have hb := k.block 0 h.lt hG
  have c : ∀ o, w'.cell? ⟨0, o, none⟩ = w.cell? ⟨0, o, none⟩ := fun o => cell_same o hb
  refine ⟨fun n hn => ?_⟩
  obtain ⟨h0, h1, h2, h3, h4⟩ := h.kd n hn
  exact ⟨(c _).trans h0, (c _).trans h1, (c _).trans h2, (c _).trans h3, (c _).trans h4⟩
theorem mem_get {α : Type} {l : List α} {i : Nat} {x : α} (h : l[i]? = some x) : x ∈ l := List.mem_of_getElem? h
theorem get_of_mem {α : Type} {l : List α} {x : α} (h : x ∈ l) : ∃ i : Nat, l[i]? = some x := List.getElem?_of_mem h

theorem Mw.kept {k : Mk} {s : Ms} {e : Value} {w w' : World} {G : List Nat} (h : Mw k s e w) (q : Kp G w w') (hG : ∀ x ∈ G, x ∉ k.foot e ∧ x ≠ 0) : Mw k s e w' := by
  have n : ∀ {x}, x ∈ k.foot e → x ∉ G := fun hx hg => (hG _ hg).1 hx
  exact ⟨Laid.kept h.laid q (fun hg => (hG 0 hg).2 rfl), h.q.kept q (n (mem_foot.2 (.inl rfl))), own_kept h.row q fun g y => n (mem_foot.2 (.inr (.inl (mem_ob.2 y)))), h.len,
    fun i x hx => (h.side i x hx).kept q (n (mem_foot.2 (.inr (.inr (.inr (.inr (.inl ⟨x, mem_get hx, rfl⟩))))))) (fun y hy => n (mem_foot.2 (.inr (.inr (.inr (.inr (.inr ⟨x, mem_get hx, hy⟩))))))), h.nod,
    own_kept h.mem q fun g y => n (mem_foot.2 (.inr (.inr (.inl (mem_ob.2 y))))), own_kept h.evs q fun g y => n (mem_foot.2 (.inr (.inr (.inr (.inl (mem_ob.2 y)))))), h.num, h.most, h.wrd, h.ok, h.slp, h.few, h.pos⟩
theorem Mw.later {k : Mk} {s : Ms} {e : Value} {w w' : World} (h : Mw k s e w) (g : Gr w w') : Mw k s e w' := h.kept (g.kp []) (by simp)
theorem Mw.bnd {k : Mk} {s : Ms} {e : Value} {w : World} (h : Mw k s e w) : ∀ x ∈ k.foot e, x < w.heap.size := by
  intro x hx
  rcases mem_foot.1 hx with rfl | y | y | y | ⟨y, hy, rfl⟩ | ⟨y, hy, hc⟩
  · exact h.q.lt
  · exact own_lt h.row y
  · exact own_lt h.mem y
  · exact own_lt h.evs y
  · obtain ⟨i, hi⟩ := get_of_mem hy
    obtain ⟨B, hB, -⟩ := (h.side i y hi).hs
    exact hB.lt
  · obtain ⟨i, hi⟩ := get_of_mem hy
    exact own_lt (h.side i y hi).code hc
/-- the machine, whose blocks are these -/
def MI (k : Mk) (F : List Nat) (s : Ms) (w : World) : Prop := ∃ e, Mw k s e w ∧ F = k.foot e
theorem mi_inv (k : Mk) : Inv (MI k) where
  stab := by
    rintro F s w w' G ⟨e, h, rfl⟩ q hG
    exact ⟨e, h.kept q hG, rfl⟩
  bnd := by
    rintro F s w ⟨e, h, rfl⟩ x hx
    exact h.bnd x hx
  laid := by
    rintro F s w ⟨e, h, rfl⟩
    exact h.laid
/-- behind a call: the machine as it is then -/
theorem mi_post {k : Mk} {s s' : Ms} {e e' : Value} {w w' : World} (h : Mw k s e w) (h' : Mw k s' e' w') (q : Kp (k.foot e) w w') (he : ∀ x ∈ ob e', x ∈ k.foot e ∨ w.heap.size ≤ x) : Pst (MI k) (k.foot e) w [] s' w' := by
  refine ⟨k.foot e', ⟨e', h', rfl⟩, q, fun x hx => ⟨?_, by simp⟩, by simp, h.laid.lt⟩
  rcases mem_foot.1 hx with y | y | y | y | y | y
  · exact .inl (mem_foot.2 (.inl y))
  · exact .inl (mem_foot.2 (.inr (.inl y)))
  · exact .inl (mem_foot.2 (.inr (.inr (.inl y))))
  · exact he x y
  · exact .inl (mem_foot.2 (.inr (.inr (.inr (.inr (.inl y))))))
  · exact .inl (mem_foot.2 (.inr (.inr (.inr (.inr (.inr y))))))
theorem foot_evs {k : Mk} {e : Value} {w : World} : ∀ x ∈ ob e, x ∈ k.foot e ∨ w.heap.size ≤ x := fun x hx => .inl (mem_foot.2 (.inr (.inr (.inr (.inl hx)))))
/-- a call that leaves the machine as it is -/
theorem mi_same {k : Mk} {s : Ms} {e : Value} {w w' : World} (h : Mw k s e w) (g : Gr w w') : Pst (MI k) (k.foot e) w [] s w' := mi_post h (h.later g) (g.kp _) foot_evs
end Go.Proofs.YthbenfnanhpcoaaGreatDoor.Mc
