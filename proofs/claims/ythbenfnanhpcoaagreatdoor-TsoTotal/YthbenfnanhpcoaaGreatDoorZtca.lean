/-
  What came in, said of plain lists: slices of records, instructions, words, picks, codes, a program. No condition.
-/
import Derived.Test.YthbenfnanhpcoaaGreatDoorZtbhChk
import Derived.ChangeSlices
import Derived.Deep.Slices
import Derived.Test.YthbenfnanhpcoaaGreatDoorZtbs
import Derived.Test.YthbenfnanhpcoaaGreatDoorZtbt
namespace Go.Proofs.YthbenfnanhpcoaaGreatDoor
open Go.ChangeShapes Go.WideShapes Go.ChangeAt Go.RowKit Go.Deep
set_option linter.unusedVariables false
set_option maxRecDepth 20000

theorem cells_ins : Tryz.prog.cellsOf 72 = 5 := by kernel_rfl
theorem cells_ent : Tryz.prog.cellsOf 93 = 2 := by kernel_rfl
theorem cells_wrd : Tryz.prog.cellsOf 39 = 1 := by kernel_rfl
theorem cells_pic : Tryz.prog.cellsOf 48 = 2 := by kernel_rfl
theorem cells_prg : Tryz.prog.cellsOf 27 = 3 := by kernel_rfl
theorem cells_iss : Tryz.prog.cellsOf 65 = 1 := by kernel_rfl
theorem cells_thr : Tryz.prog.cellsOf 42 = 10 := by kernel_rfl

theorem list2 {α : Type} {l : List α} (h : l.length = 2) : ∃ a b, l = [a, b] := by
  match l, h with
  | [a, b], _ => exact ⟨a, b, rfl⟩
theorem list3 {α : Type} {l : List α} (h : l.length = 3) : ∃ a b c, l = [a, b, c] := by
  match l, h with
  | [a, b, c], _ => exact ⟨a, b, c, rfl⟩
theorem list5 {α : Type} {l : List α} (h : l.length = 5) : ∃ a b c d e, l = [a, b, c, d, e] := by
  match l, h with
  | [a, b, c, d, e], _ => exact ⟨a, b, c, d, e, rfl⟩
theorem list6 {α : Type} {l : List α} (h : l.length = 6) : ∃ a b c d e f, l = [a, b, c, d, e, f] := by
  match l, h with
  | [a, b, c, d, e, f], _ => exact ⟨a, b, c, d, e, f, rfl⟩
theorem list8 {α : Type} {l : List α} (h : l.length = 8) : ∃ a b c d e f g i, l = [a, b, c, d, e, f, g, i] := by
  match l, h with
  | [a, b, c, d, e, f, g, i], _ => exact ⟨a, b, c, d, e, f, g, i, rfl⟩
theorem list10 {α : Type} {l : List α} (h : l.length = 10) : ∃ p a b c d e f g i q, l = [p, a, b, c, d, e, f, g, i, q] := by
  match l, h with
  | [p, a, b, c, d, e, f, g, i, q], _ => exact ⟨p, a, b, c, d, e, f, g, i, q, rfl⟩
theorem list15 {α : Type} {l : List α} (h : l.length = 15) : ∃ p a b c d e f g i q s t u v x, l = [p, a, b, c, d, e, f, g, i, q, s, t, u, v, x] := by
  match l, h with
  | [p, a, b, c, d, e, f, g, i, q, s, t, u, v, x], _ => exact ⟨p, a, b, c, d, e, f, g, i, q, s, t, u, v, x, rfl⟩
theorem addr_add (b o : Nat) (n : Nat) : (⟨b, o, none⟩ : Addr).add n = ⟨b, o + n, none⟩ := Addr.add_mid b o n

section
variable {H : Type} {enc : TypeId × Value → H} {w : World} {held : Bool}

theorem open_recs {α : Type} (f : α → List Value) (sz : Nat) (hf : ∀ x, (f x).length = sz) (hsz : 0 < sz) (d0 : α) (ok : α → Prop) {T t : TypeId} (hT : Tryz.prog.underlying T = some (.slice t)) (hc : Tryz.prog.cellsOf t = sz)
    (each : ∀ {n : Nat} {cs : List Value} {x : DataW H × List MemPlace}, DataW.trod enc Tryz.prog w 0 (fun _ => true) held n t cs = some x → ∃ i, cs = f i ∧ ok i)
    {n : Nat} {v : Value} {x : DataW H × List MemPlace} (h : DataW.trod enc Tryz.prog w 0 (fun _ => true) held n T [v] = some x) :
    ∃ a cap l, v = .slice a (l : List α).length cap ∧ RowAt w a (flatOf f l) ∧ (∀ i ∈ l, ok i) ∧ (a = none → cap = 0 ∧ l = []) ∧ l.length ≤ maxLen := by
  rcases open_slice hT h with ⟨h0, _⟩ | ⟨a, len, cap, m, n', D, Pl, hcs, _, hl, hm, hmm, _, hx⟩
  · simp at h0
    exact ⟨none, 0, [], h0, .inl rfl, by simp, by simp, Nat.zero_le _⟩
  · simp at hcs hmm
    subst hmm
    rw [hc] at hx
    have each' : ∀ i, i < len → ∃ g : α, w.cells? 0 (a.add (i * sz)) sz = some (f g) ∧ ok g := by
      intro i hi
      obtain ⟨cs', h1, h2⟩ := hx i (by omega)
      obtain ⟨g, rfl, hg⟩ := each h2
      exact ⟨g, h1, hg⟩
    have inh : Inhabited α := ⟨d0⟩
    obtain ⟨g, hg⟩ := choose_lt each'
    refine ⟨some a, _, (List.range len).map g, by simpa using hcs, ?_, ?_, by simp, by simpa using Nat.le_trans hl hm⟩
    · by_cases h0 : len = 0
      · subst h0; exact .inl rfl
      right
      obtain ⟨b, off, spot⟩ := a
      have hs : spot = none := by
        obtain ⟨_, _, hc⟩ := World.cells?_some (hg 0 (by omega)).1
        have h1 := hc 0 hsz
        rw [List.getElem?_eq_getElem (by rw [hf]; exact hsz)] at h1
        have := World.cell?_spot h1
        simpa [Addr.add] using this
      subst hs
      refine ⟨b, off, rfl, fun j hj => ?_⟩
      rw [flatOf_length hf, List.length_map, List.length_range] at hj
      obtain ⟨i, r, rfl, hi, hr⟩ : ∃ i r, j = i * sz + r ∧ i < len ∧ r < sz :=
        ⟨j / sz, j % sz, (Nat.div_add_mod' j sz).symm, Nat.div_lt_of_lt_mul (by rw [Nat.mul_comm]; exact hj), Nat.mod_lt _ hsz⟩
      obtain ⟨_, _, hcell⟩ := World.cells?_some (hg i hi).1
      have h1 := hcell r hr
      simp only [addr_add] at h1
      rw [flatOf_get hf _ i r d0 (by simpa using hi) hr, ← Nat.add_assoc, h1]
      simp [List.getD_eq_getElem?_getD, hi]
    · intro i hi
      obtain ⟨j, hj, rfl⟩ := List.mem_map.1 hi
      exact (hg j (List.mem_range.1 hj)).2

theorem open_ins1 {n : Nat} {cs : List Value} {x : DataW H × List MemPlace} (h : DataW.trod enc Tryz.prog w 0 (fun _ => true) held n 72 cs = some x) : ∃ i : Ins, cs = insL i ∧ InsOk i := by
  obtain ⟨xs, m, rfl, _, hl, hlen, hf⟩ := DataW.trod_struct Tryz.underlying72 h
  rw [cells_ins] at hl
  obtain ⟨c0, c1, c2, c3, c4, rfl⟩ := list5 hl
  obtain ⟨x0, x1, x2, x3, x4, rfl⟩ := list5 hlen
  obtain ⟨n0, e0, _, _⟩ := DataW.trod_int Tryz.underlying3 (hf 0 _ rfl)
  obtain ⟨n1, e1, _, _⟩ := DataW.trod_int Tryz.underlying3 (hf 1 _ rfl)
  obtain ⟨n2, e2, _, _⟩ := DataW.trod_int Tryz.underlying3 (hf 2 _ rfl)
  obtain ⟨n3, e3, _, _⟩ := DataW.trod_int Tryz.underlying3 (hf 3 _ rfl)
  obtain ⟨n4, e4, _, w4⟩ := DataW.trod_int Tryz.underlying39 (hf 4 _ rfl)
  have q0 : [c0] = [Value.int .i64 n0] := e0
  have q1 : [c1] = [Value.int .i64 n1] := e1
  have q2 : [c2] = [Value.int .i64 n2] := e2
  have q3 : [c3] = [Value.int .i64 n3] := e3
  have q4 : [c4] = [Value.int .u32 n4] := e4
  simp only [List.cons.injEq, and_true] at q0 q1 q2 q3 q4
  subst q0 q1 q2 q3 q4
  have := bounds_u32 w4
  exact ⟨⟨n0, n1, n2, n3, n4⟩, rfl, this.1, by show n4 < 4294967296; omega⟩
theorem open_wrd1 {n : Nat} {cs : List Value} {x : DataW H × List MemPlace} (h : DataW.trod enc Tryz.prog w 0 (fun _ => true) held n 39 cs = some x) : ∃ i : Int, cs = wordL i ∧ U32 i := by
  obtain ⟨n1, e1, _, w1⟩ := DataW.trod_int Tryz.underlying39 h
  have := bounds_u32 w1
  exact ⟨n1, e1, this.1, by omega⟩
theorem open_inss {n : Nat} {v : Value} {x : DataW H × List MemPlace} (h : DataW.trod enc Tryz.prog w 0 (fun _ => true) held n 65 [v] = some x) :
    ∃ a cap l, v = .slice a (l : List Ins).length cap ∧ RowAt w a (flatOf insL l) ∧ (∀ i ∈ l, InsOk i) ∧ (a = none → cap = 0 ∧ l = []) ∧ l.length ≤ maxLen :=
  open_recs insL 5 insL_len (by omega) ins0 InsOk Tryz.underlying65 cells_ins open_ins1 h
theorem open_wordsR {n : Nat} {v : Value} {x : DataW H × List MemPlace} (h : DataW.trod enc Tryz.prog w 0 (fun _ => true) held n 25 [v] = some x) :
    ∃ a cap l, v = .slice a (l : List Int).length cap ∧ RowAt w a (flatOf wordL l) ∧ (∀ i ∈ l, U32 i) ∧ (a = none → cap = 0 ∧ l = []) ∧ l.length ≤ maxLen :=
  open_recs wordL 1 wordL_len (by omega) 0 U32 Tryz.underlying25 cells_wrd open_wrd1 h

theorem open_pic1 {n : Nat} {cs : List Value} {x : DataW H × List MemPlace} (h : DataW.trod enc Tryz.prog w 0 (fun _ => true) held n 48 cs = some x) : ∃ i : Ent, cs = slpL i ∧ True := by
  obtain ⟨xs, m, rfl, _, hl, hlen, hf⟩ := DataW.trod_struct Tryz.underlying48 h
  rw [cells_pic] at hl
  obtain ⟨c0, c1, rfl⟩ := list2 hl
  obtain ⟨x0, x1, rfl⟩ := list2 hlen
  obtain ⟨n0, e0, _, _⟩ := DataW.trod_int Tryz.underlying3 (hf 0 _ rfl)
  obtain ⟨n1, e1, _, _⟩ := DataW.trod_int Tryz.underlying3 (hf 1 _ rfl)
  have q0 : [c0] = [Value.int .i64 n0] := e0
  have q1 : [c1] = [Value.int .i64 n1] := e1
  simp only [List.cons.injEq, and_true] at q0 q1
  subst q0 q1
  exact ⟨⟨n0, n1⟩, rfl, trivial⟩
theorem open_picks {n : Nat} {v : Value} {x : DataW H × List MemPlace} (h : DataW.trod enc Tryz.prog w 0 (fun _ => true) held n 35 [v] = some x) :
    ∃ a cap l, v = .slice a (l : List Ent).length cap ∧ RowAt w a (flatOf slpL l) ∧ (a = none → cap = 0 ∧ l = []) ∧ l.length ≤ maxLen := by
  obtain ⟨a, cap, l, h1, h2, -, h4, h5⟩ := open_recs slpL 2 slpL_len (by omega) ent0 (fun _ => True) Tryz.underlying35 cells_pic open_pic1 h
  exact ⟨a, cap, l, h1, h2, h4, h5⟩
theorem open_cd1 {n : Nat} {cs : List Value} {x : DataW H × List MemPlace} (h : DataW.trod enc Tryz.prog w 0 (fun _ => true) held n 65 cs = some x) (hl : cs.length = 1) : ∃ i : Mc.Cd, cs = Mc.codeV i ∧ Mc.CdAt i w := by
  obtain ⟨v, rfl⟩ : ∃ v, cs = [v] := by
    match cs, hl with
    | [v], _ => exact ⟨v, rfl⟩
  obtain ⟨a, cap, l, rfl, h1, h2, h3, -⟩ := open_inss h
  exact ⟨⟨a, cap, l⟩, rfl, h1, h3, h2⟩
theorem open_recsL {α : Type} (f : α → List Value) (sz : Nat) (hf : ∀ x, (f x).length = sz) (hsz : 0 < sz) (d0 : α) (ok : α → Prop) {T t : TypeId} (hT : Tryz.prog.underlying T = some (.slice t)) (hc : Tryz.prog.cellsOf t = sz)
    (each : ∀ {n : Nat} {cs : List Value} {x : DataW H × List MemPlace}, DataW.trod enc Tryz.prog w 0 (fun _ => true) held n t cs = some x → cs.length = sz → ∃ i, cs = f i ∧ ok i)
    {n : Nat} {v : Value} {x : DataW H × List MemPlace} (h : DataW.trod enc Tryz.prog w 0 (fun _ => true) held n T [v] = some x) :
    ∃ a cap l, v = .slice a (l : List α).length cap ∧ RowAt w a (flatOf f l) ∧ (∀ i ∈ l, ok i) ∧ (a = none → cap = 0 ∧ l = []) ∧ l.length ≤ maxLen := by
  rcases open_slice hT h with ⟨h0, _⟩ | ⟨a, len, cap, m, n', D, Pl, hcs, _, hl, hm, hmm, _, hx⟩
  · simp at h0
    exact ⟨none, 0, [], h0, .inl rfl, by simp, by simp, Nat.zero_le _⟩
  · simp at hcs hmm
    subst hmm
    rw [hc] at hx
    have each' : ∀ i, i < len → ∃ g : α, w.cells? 0 (a.add (i * sz)) sz = some (f g) ∧ ok g := by
      intro i hi
      obtain ⟨cs', h1, h2⟩ := hx i (by omega)
      obtain ⟨g, rfl, hg⟩ := each h2 (World.cells?_some h1).2.1
      exact ⟨g, h1, hg⟩
    have inh : Inhabited α := ⟨d0⟩
    obtain ⟨g, hg⟩ := choose_lt each'
    refine ⟨some a, _, (List.range len).map g, by simpa using hcs, ?_, ?_, by simp, by simpa using Nat.le_trans hl hm⟩
    · by_cases h0 : len = 0
      · subst h0; exact .inl rfl
      right
      obtain ⟨b, off, spot⟩ := a
      have hs : spot = none := by
        obtain ⟨_, _, hc⟩ := World.cells?_some (hg 0 (by omega)).1
        have h1 := hc 0 hsz
        rw [List.getElem?_eq_getElem (by rw [hf]; exact hsz)] at h1
        have := World.cell?_spot h1
        simpa [Addr.add] using this
      subst hs
      refine ⟨b, off, rfl, fun j hj => ?_⟩
      rw [flatOf_length hf, List.length_map, List.length_range] at hj
      obtain ⟨i, r, rfl, hi, hr⟩ : ∃ i r, j = i * sz + r ∧ i < len ∧ r < sz :=
        ⟨j / sz, j % sz, (Nat.div_add_mod' j sz).symm, Nat.div_lt_of_lt_mul (by rw [Nat.mul_comm]; exact hj), Nat.mod_lt _ hsz⟩
      obtain ⟨_, _, hcell⟩ := World.cells?_some (hg i hi).1
      have h1 := hcell r hr
      simp only [addr_add] at h1
      rw [flatOf_get hf _ i r d0 (by simpa using hi) hr, ← Nat.add_assoc, h1]
      simp [List.getD_eq_getElem?_getD, hi]
    · intro i hi
      obtain ⟨j, hj, rfl⟩ := List.mem_map.1 hi
      exact (hg j (List.mem_range.1 hj)).2


theorem open_cds {n : Nat} {v : Value} {x : DataW H × List MemPlace} (h : DataW.trod enc Tryz.prog w 0 (fun _ => true) held n 24 [v] = some x) :
    ∃ a cap l, v = .slice a (l : List Mc.Cd).length cap ∧ RowAt w a (flatOf Mc.codeV l) ∧ (∀ i ∈ l, Mc.CdAt i w) ∧ (a = none → cap = 0 ∧ l = []) ∧ l.length ≤ maxLen :=
  open_recsL Mc.codeV 1 Mc.codeV_len (by omega) Mc.cd0 (fun i => Mc.CdAt i w) Tryz.underlying24 cells_iss open_cd1 h
theorem open_prog {r : Reach} {b0 : Nat} {v : Value} {d : DataW H} {p : List MemPlace} (hv : Value.okWide Tryz.prog w r b0 27 v) (h : DataW.Trod enc Tryz.prog w 0 (fun _ => true) held 27 v d p) :
    ∃ q : Mc.Pgm, v = .agg (Mc.pgA q) ∧ Mc.PgAt q w ∧ q.codes.length ≤ maxLen := by
  obtain ⟨cs, rfl, hsz⟩ := okWide_struct Tryz.underlying27 hv
  obtain ⟨n, h⟩ := h
  obtain ⟨l⟩ := cs
  simp only [Value.cells] at h
  obtain ⟨xs, m, rfl, _, hl, hlen, hf⟩ := DataW.trod_struct Tryz.underlying27 h
  rw [cells_prg] at hl
  obtain ⟨v1, v2, v3, rfl⟩ := list3 hl
  obtain ⟨x0, x1, x2, rfl⟩ := list3 hlen
  have h0 : DataW.trod enc Tryz.prog w 0 (fun _ => true) held m 24 [v1] = some x0 := hf 0 _ rfl
  have h1 : DataW.trod enc Tryz.prog w 0 (fun _ => true) held m 25 [v2] = some x1 := hf 1 _ rfl
  obtain ⟨a1, n1, l1, rfl, r1, o1, z1, m1⟩ := open_cds h0
  obtain ⟨a2, n2, l2, rfl, r2, o2, z2, m2⟩ := open_wordsR h1
  obtain ⟨k3, e3, _, _⟩ := DataW.trod_int Tryz.underlying3 (hf 2 _ rfl)
  have q3 : [v3] = [Value.int .i64 k3] := e3
  simp only [List.cons.injEq, and_true] at q3
  subst q3
  exact ⟨⟨a1, n1, l1, a2, n2, l2, k3⟩, rfl, ⟨r1, o1, r2, z2, o2⟩, m1⟩
end
end Go.Proofs.YthbenfnanhpcoaaGreatDoor

namespace Go.Proofs.YthbenfnanhpcoaaGreatDoor.Mc
open Go.ChangeShapes Go.WideShapes Go.ChangeAt Go.RowKit
set_option linter.unusedVariables false
set_option maxRecDepth 20000

section
variable {H : Type} {enc : TypeId × Value → H} {w : World} {held : Bool}
theorem cells_byt : Tryz.prog.cellsOf 5 = 1 := by kernel_rfl
theorem open_byt1 {n : Nat} {cs : List Value} {x : DataW H × List MemPlace} (h : DataW.trod enc Tryz.prog w 0 (fun _ => true) held n 5 cs = some x) : ∃ i : Int, cs = byteL i ∧ (0 ≤ i ∧ i < 256) := by
  obtain ⟨n1, e1, _, w1⟩ := DataW.trod_int Tryz.underlying5 h
  have := bounds_u8 w1
  exact ⟨n1, e1, this.1, by omega⟩
theorem open_bytesR {n : Nat} {v : Value} {x : DataW H × List MemPlace} (h : DataW.trod enc Tryz.prog w 0 (fun _ => true) held n 22 [v] = some x) :
    ∃ a cap l, v = .slice a (l : List Int).length cap ∧ RowAt w a (flatOf byteL l) ∧ (∀ i ∈ l, 0 ≤ i ∧ i < 256) ∧ l.length ≤ maxLen := by
  obtain ⟨a, cap, l, h1, h2, h3, -, h4⟩ := open_recs byteL 1 byteL_len (by omega) 0 (fun i => 0 ≤ i ∧ i < 256) Tryz.underlying22 cells_byt open_byt1 h
  exact ⟨a, cap, l, h1, h2, h3, h4⟩
end
end Go.Proofs.YthbenfnanhpcoaaGreatDoor.Mc

namespace Go.Proofs.YthbenfnanhpcoaaGreatDoor.Cd
open Go.ChangeShapes Go.WideShapes Go.ChangeAt Go.RowKit Go.Deep
set_option linter.unusedVariables false
set_option maxRecDepth 20000

theorem open_bytes {H : Type} {enc : TypeId × Value → H} {w : World} {held : Bool} {n : Nat} {a : Option Addr} {len cap : Nat} {x : DataW H × List MemPlace} (h : DataW.trod enc Tryz.prog w 0 (fun _ => true) held n 22 [.slice a len cap] = some x) :
    ∃ L : List Int, L.length = len ∧ isBytes L ∧ BytesAt w a L ∧ len ≤ cap ∧ cap ≤ maxLen ∧ (a = none → cap = 0) := by
  rcases open_ints Tryz.underlying22 Tryz.underlying5 (by kernel_rfl) h with ⟨hcs, _⟩ | ⟨x, l, c, zs, hcs, _, hl, hm, hz, _, hcell, hwz⟩
  · simp at hcs
    obtain ⟨rfl, rfl, rfl⟩ := hcs
    exact ⟨[], rfl, by intro x hx; simp at hx, .inl rfl, Nat.le_refl _, Nat.zero_le _, fun _ => rfl⟩
  · simp at hcs
    obtain ⟨rfl, rfl, rfl⟩ := hcs
    have hzl : zs.length = cap := by simpa using hz
    refine ⟨zs.take len, by simp; omega, fun y hy => bounds_u8 (hwz y (List.mem_of_mem_take hy)), ?_, hl, hm, fun h => by cases h⟩
    by_cases h0 : len = 0
    · exact .inl (by simp [h0])
    · obtain ⟨b, off, spot⟩ := x
      have hc := hcell 0 (by omega)
      have hspot : spot = none := by simpa [Addr.add] using World.cell?_spot hc
      subst hspot
      refine .inr ⟨b, off, rfl, fun j y hy => ?_⟩
      have hj : j < len := by
        rcases Nat.lt_or_ge j len with h' | h'
        · exact h'
        · rw [List.getElem?_eq_none (by simp; omega)] at hy; cases hy
      rw [List.getElem?_take, if_pos hj] at hy
      have hcj := hcell j (by omega)
      rw [Addr.add_mid] at hcj
      rw [hcj, List.getD_eq_getElem?_getD, hy]
      rfl
end Go.Proofs.YthbenfnanhpcoaaGreatDoor.Cd
