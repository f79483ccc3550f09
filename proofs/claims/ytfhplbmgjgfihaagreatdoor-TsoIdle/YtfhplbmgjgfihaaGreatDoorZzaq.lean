/-
  What slices.Clone, isa.checkCode and isa.Check answer. No condition but what each law names.
-/
import Derived.Test.YtfhplbmgjgfihaaGreatDoorZzac
import Derived.Lib.LazyBuf
import Derived.Test.YtfhplbmgjgfihaaGreatDoorZzad
namespace Go.Proofs.YtfhplbmgjgfihaaGreatDoor.Mc
open Go.ChangeShapes Go.WideShapes Go.ChangeAt Go.RowKit
set_option linter.unusedVariables false
set_option maxRecDepth 20000
theorem clone_run {T t : TypeId} {zero : Value} {sz bytes : Nat} (hT : Tryz.prog.underlying T = some (.slice t)) (info : (Tryz.prog.info? t).map (fun i => (i.zero, i.size, i.bytes)) = some (some zero, sz, bytes)) (hz : zero.cells.size = sz) (hsz : 0 < sz) (hby : bytes ≤ 1000)
    {α : Type} {f : α → List Value} (hf : ∀ x, (f x).length = sz) (h1 : ∀ x, ∀ u ∈ f x, u.oneCell' = true) (w : World) (ty : TypeId) (a : Option Addr) (c : Nat) (l : List α) (h : RowAt w a (flatOf f l)) (hc : a = none → c = 0 ∧ l = []) (hn : l.length ≤ 100000) :
    ∃ v' w', (Builtin.append_ #[T, T] ty #[.slice (some ⟨w.heap.size, 0, none⟩) 0 0, .slice a l.length c]).run Tryz.prog (w.alloc (.cells #[] t)) = .ok v' w' ∧ w'.ownsRow w.heap.size t sz v' l.length (flatOf f l) ∧ Gr w w' := by
  have hown : (w.alloc (.cells #[] t)).ownsRow w.heap.size t sz (.slice (some ⟨w.heap.size, 0, none⟩) 0 0) 0 [] := World.ownsRow_made w #[] 0 (Nat.le_refl _) (Nat.zero_le _) (by simp)
  obtain ⟨v', w', hr, ho, hg, -⟩ := app_row (ty := ty) hT info hz hsz hby hown a c l.length (flatOf f l) (h.later ((Gr.refl w).alloc _ _)) (fun e => ⟨(hc e).1, by rw [(hc e).2]; rfl⟩) (flatOf_length hf l) (flatOf_one h1 l) (by omega) (by simp)
  rw [Nat.zero_add, List.nil_append] at ho
  exact ⟨v', w', hr, ho, grown_gr ((Gr.refl w).alloc _ _) hown hg (Nat.le_refl _)⟩

def CloneP (w : World) (t : TypeId) (sz n : Nat) (xs : List Value) (r : Ending) (w' : World) : Prop := ∃ v, r = .returned v ∧ w'.ownsRow w.heap.size t sz v n xs ∧ Gr w w'
theorem cloneW_calls (a : Option Addr) (c : Nat) (l : List Int) (w : World) (h : RowAt w a (flatOf wordL l)) (hc : a = none → c = 0 ∧ l = []) (hn : l.length ≤ 100000) :
    Calls Tryz.prog 14 #[.slice a l.length c] w (CloneP w 43 1 l.length (flatOf wordL l)) := by
  cases a with
  | none =>
    obtain ⟨rfl, rfl⟩ := hc rfl
    have g := Gr.refl w
    clear hc hn h
    go_enter Tryz.func14, Tryz.ntmps14
    go_wp2_with (fail)
    rw [run_eql_slice_nil _ 23 43 _ _ _ Tryz.underlying23]
    go_simp
    go_wp2_with (fail)
    go_ret
    exact ⟨_, rfl, own_nil _ _ _ _, g⟩
  | some y =>
    obtain ⟨v', w', hr, ho, hg⟩ := clone_run Tryz.underlying23 infoWrd rfl (by omega) (by omega) wordL_len wordL_one w 23 (some y) c l h hc hn
    have HR := hide hr
    have HO := hide ho
    clear h hc hr ho
    go_enter Tryz.func14, Tryz.ntmps14
    go_wp2_with (fail)
    rw [run_eql_slice_nil _ 23 43 _ _ _ Tryz.underlying23]
    go_simp
    trace_state
    go_wp2_with (first
      | (refine step_app rfl (some 7) rfl _ _ 23 rfl _ _ rfl rfl _ _ HR.out ?_))
    go_ret
    exact ⟨_, rfl, HO.out, hg⟩
theorem cloneI_calls (a : Option Addr) (c : Nat) (l : List Ins) (w : World) (h : RowAt w a (flatOf insL l)) (hc : a = none → c = 0 ∧ l = []) (hn : l.length ≤ 100000) :
    Calls Tryz.prog 27 #[.slice a l.length c] w (CloneP w 53 5 l.length (flatOf insL l)) := by
  cases a with
  | none =>
    obtain ⟨rfl, rfl⟩ := hc rfl
    have g := Gr.refl w
    clear hc hn h
    go_enter Tryz.func27, Tryz.ntmps27
    go_wp2_with (fail)
    rw [run_eql_slice_nil _ 51 53 _ _ _ Tryz.underlying51]
    go_simp
    go_wp2_with (fail)
    go_ret
    exact ⟨_, rfl, own_nil _ _ _ _, g⟩
  | some y =>
    obtain ⟨v', w', hr, ho, hg⟩ := clone_run Tryz.underlying51 infoIns rfl (by omega) (by omega) insL_len insL_one w 51 (some y) c l h hc hn
    have HR := hide hr
    have HO := hide ho
    clear h hc hr ho
    go_enter Tryz.func27, Tryz.ntmps27
    go_wp2_with (fail)
    rw [run_eql_slice_nil _ 51 53 _ _ _ Tryz.underlying51]
    go_simp
    trace_state
    go_wp2_with (first
      | (refine step_app rfl (some 7) rfl _ _ 51 rfl _ _ rfl rfl _ _ HR.out ?_))
    go_ret
    exact ⟨_, rfl, HO.out, hg⟩
theorem cloneE_calls (a : Option Addr) (c : Nat) (l : List Ev) (w : World) (h : RowAt w a (flatOf evL l)) (hc : a = none → c = 0 ∧ l = []) (hn : l.length ≤ 100000) :
    Calls Tryz.prog 38 #[.slice a l.length c] w (CloneP w 79 8 l.length (flatOf evL l)) := by
  cases a with
  | none =>
    obtain ⟨rfl, rfl⟩ := hc rfl
    have g := Gr.refl w
    clear hc hn h
    go_enter Tryz.func38, Tryz.ntmps38
    go_wp2_with (fail)
    rw [run_eql_slice_nil _ 39 79 _ _ _ Tryz.underlying39]
    go_simp
    go_wp2_with (fail)
    go_ret
    exact ⟨_, rfl, own_nil _ _ _ _, g⟩
  | some y =>
    obtain ⟨v', w', hr, ho, hg⟩ := clone_run Tryz.underlying39 infoEv rfl (by omega) (by omega) evL_len evL_one w 39 (some y) c l h hc hn
    have HR := hide hr
    have HO := hide ho
    clear h hc hr ho
    go_enter Tryz.func38, Tryz.ntmps38
    go_wp2_with (fail)
    rw [run_eql_slice_nil _ 39 79 _ _ _ Tryz.underlying39]
    go_simp
    trace_state
    go_wp2_with (first
      | (refine step_app rfl (some 7) rfl _ _ 39 rfl _ _ rfl rfl _ _ HR.out ?_))
    go_ret
    exact ⟨_, rfl, HO.out, hg⟩

/-- which instruction is wrong first -/
def chkFrom (n : Nat) : Nat → List Ins → Int × Int
  | k, [] => (0, 0)
  | k, x :: l => if rightB x.op x.a x.b x.c x.k n then chkFrom n (k + 1) l else ((k : Int), 3)
def chkC (l : List Ins) : Int × Int := if 4000 < l.length then (-1, 4) else chkFrom l.length 0 l
theorem chk_drop {l : List Ins} {k : Nat} (h : k < l.length) (n : Nat) : chkFrom n k (l.drop k) = if rightB (l.getD k ins0).op (l.getD k ins0).a (l.getD k ins0).b (l.getD k ins0).c (l.getD k ins0).k n then chkFrom n (k + 1) (l.drop (k + 1)) else ((k : Int), 3) := by
  rw [List.drop_eq_getElem_cons h, List.getD_eq_getElem?_getD, List.getElem?_eq_getElem h]
  rfl
theorem insOk_at {l : List Ins} (h : ∀ x ∈ l, InsOk x) (k : Nat) : InsOk (l.getD k ins0) := by
  rw [List.getD_eq_getElem?_getD]
  cases he : l[k]? with
  | none => exact ⟨by show (0 : Int) ≤ 0; omega, by show (0 : Int) < 4294967296; omega⟩
  | some x => exact h x (List.mem_of_getElem? he)

set_option maxHeartbeats 400000 in
theorem checkCode_calls (a : Option Addr) (c : Nat) (l : List Ins) (hi : ∀ x ∈ l, InsOk x) (w : World) (L : Laid w) (h : RowAt w a (flatOf insL l)) :
    Calls Tryz.prog 26 #[.slice a l.length c] w fun r w' => r = .returned (.tuple #[.int .i64 (chkC l).1, .int .i64 (chkC l).2]) ∧ Gr w w' := by
  by_cases h4 : 4000 < l.length
  · have e : Hid (chkC l = (-1, 4)) := by show _ = _; unfold chkC; rw [if_pos h4]
    rw [e.out]
    have h4' : (4000 : Int) < l.length := by omega
    have g := Gr.refl w
    clear h hi L e
    go_enter Tryz.func26, Tryz.ntmps26
    go_wp2_with (fail)
    exact bodyPost_ret (results_tmp2 rfl _ _ _) rfl ⟨rfl, g⟩
  · have e : Hid (chkC l = chkFrom l.length 0 (l.drop 0)) := by show _ = _; unfold chkC; rw [if_neg h4]; rfl
    rw [e.out]
    have h4' : ¬ (4000 : Int) < l.length := by omega
    have g := Gr.refl w
    have HI := hide hi
    have HL := hide L
    have HH := hide h
    clear h hi L e
    generalize hR : chkFrom l.length 0 (l.drop 0) = R
    have HR := hide hR
    clear hR
    go_enter Tryz.func26, Tryz.ntmps26
    go_wp2_with (fail)
    go_loopw [11] (fun v wr => ∃ j : Nat, j ≤ l.length ∧ v = .int .i64 j ∧ Gr w wr ∧ chkFrom l.length j (l.drop j) = R) (fun v _ => l.length - (intOf v).toNat)
    case atStart => exact ⟨0, by omega, rfl, g, HR.out⟩
    case round =>
      clear g
      obtain ⟨j, hj, rfl, g, hr⟩ := hrel
      by_cases hlt : j < l.length
      · have hlt' : (j : Int) < l.length := by omega
        have rw1 := HH.out.later g
        obtain ⟨b, off, had, -⟩ := rw1.get (by rw [flatOf_length insL_len]; omega)
        subst had
        have c0 := rw1.cell insL_len hlt ins0 0 (by omega)
        have c1 := rw1.cell insL_len hlt ins0 1 (by omega)
        have c2 := rw1.cell insL_len hlt ins0 2 (by omega)
        have c3 := rw1.cell insL_len hlt ins0 3 (by omega)
        have c4 := rw1.cell insL_len hlt ins0 4 (by omega)
        have hd := chk_drop hlt l.length
        have ok := insOk_at HI.out j
        generalize l.getD j ins0 = x at c0 c1 c2 c3 c4 hd ok
        rw [hd] at hr
        have HK := hide hr
        have lw := HL.out.later g
        clear hd hr rw1
        simp only [insL, List.getElem?_cons_zero, List.getElem?_cons_succ, Nat.add_zero, ← Nat.add_assoc] at c0 c1 c2 c3 c4
        go_wp2_with (fail)
        have G1 := g.alloc #[.int .i64 x.op, .int .i64 x.a, .int .i64 x.b, .int .i64 x.c, .int .u32 x.k] 53
        have L1 := lw.later ((Gr.refl wr).alloc #[.int .i64 x.op, .int .i64 x.a, .int .i64 x.b, .int .i64 x.c, .int .u32 x.k] 53)
        refine (right_calls x.op x.a x.b x.c x.k l.length ok.k0 ok.k1 _ L1).mono ?_
        rintro r u ⟨rfl, g2⟩
        have GG := G1.trans g2
        clear c0 c1 c2 c3 c4 G1 g2 L1 g
        cases hb : rightB x.op x.a x.b x.c x.k l.length with
        | true =>
          rw [hb] at HK
          have HK2 := hide (show chkFrom l.length (j + 1) (l.drop (j + 1)) = R by have := HK.out; rwa [if_pos rfl] at this)
          clear HK
          go_wp2_with (fail)
          exact ⟨⟨j + 1, by omega, by go_num, GG, HK2.out⟩, by simp [intOf]; omega⟩
        | false =>
          rw [hb] at HK
          have HK2 := hide (show (((j : Int), (3 : Int)) : Int × Int) = R by have := HK.out; rwa [if_neg (by decide)] at this)
          clear HK
          go_wp2_with (fail)
          rw [← HK2.out]
          exact bodyPost_ret (results_tmp2 rfl _ _ _) rfl ⟨rfl, GG⟩
      · have hj' : j = l.length := by omega
        subst hj'
        have e0 : R = (0, 0) := by rw [← hr, List.drop_length]; rfl
        have HE := hide e0
        clear hr HR e0
        go_wp2_with (fail)
        rw [HE.out]
        exact bodyPost_ret (results_tmp2 rfl _ _ _) rfl ⟨rfl, g⟩

/-- a code, and where it lies -/
structure Cd where
  a : Option Addr
  c : Nat
  l : List Ins
def cd0 : Cd := ⟨none, 0, []⟩
def codeV (x : Cd) : List Value := [.slice x.a x.l.length x.c]
theorem codeV_len (x : Cd) : (codeV x).length = 1 := rfl
/-- a program, and where its parts lie -/
structure Pgm where
  ca : Option Addr
  cc : Nat
  codes : List Cd
  ma : Option Addr
  mc : Nat
  mem : List Int
  room : Int
def pgA (p : Pgm) : Array Value := #[.slice p.ca p.codes.length p.cc, .slice p.ma p.mem.length p.mc, .int .i64 p.room]
structure CdAt (x : Cd) (w : World) : Prop where
  row : RowAt w x.a (flatOf insL x.l)
  nil : x.a = none → x.c = 0 ∧ x.l = []
  ins : ∀ i ∈ x.l, InsOk i
structure PgAt (p : Pgm) (w : World) : Prop where
  row : RowAt w p.ca (flatOf codeV p.codes)
  each : ∀ x ∈ p.codes, CdAt x w
  mem : RowAt w p.ma (flatOf wordL p.mem)
  nil : p.ma = none → p.mc = 0 ∧ p.mem = []
  wrd : ∀ x ∈ p.mem, U32 x
theorem CdAt.later {x : Cd} {w w' : World} (h : CdAt x w) (g : Gr w w') : CdAt x w' := ⟨h.row.later g, h.nil, h.ins⟩
theorem PgAt.later {p : Pgm} {w w' : World} (h : PgAt p w) (g : Gr w w') : PgAt p w' := ⟨h.row.later g, fun x hx => (h.each x hx).later g, h.mem.later g, h.nil, h.wrd⟩
/-- what is wrong with codes first -/
def chkP : Nat → List Cd → Int × Int × Int
  | _, [] => (0, 0, 0)
  | k, x :: l => if (chkC x.l).2 = 0 then chkP (k + 1) l else ((k : Int), (chkC x.l).1, (chkC x.l).2)
def chkM (p : Pgm) : Int × Int × Int :=
  if (p.codes.length < 1 ∨ 8 < p.codes.length) ∨ (p.room < 1 ∨ 16 < p.room) then (-1, -1, 1) else if 1024 < p.mem.length then (-1, -1, 4) else chkP 0 p.codes
theorem chkP_drop {l : List Cd} {k : Nat} (h : k < l.length) : chkP k (l.drop k) = if (chkC (l.getD k cd0).l).2 = 0 then chkP (k + 1) (l.drop (k + 1)) else ((k : Int), (chkC (l.getD k cd0).l).1, (chkC (l.getD k cd0).l).2) := by
  rw [List.drop_eq_getElem_cons h, List.getD_eq_getElem?_getD, List.getElem?_eq_getElem h]
  rfl
theorem cd_mem {l : List Cd} {k : Nat} (h : k < l.length) : l.getD k cd0 ∈ l := by
  rw [List.getD_eq_getElem?_getD, List.getElem?_eq_getElem h]
  exact List.getElem_mem h
theorem chk_len {p : Pgm} (h : (chkM p).2.2 = 0) : (1 ≤ p.codes.length ∧ p.codes.length ≤ 8) ∧ (1 ≤ p.room ∧ p.room ≤ 16) ∧ p.mem.length ≤ 1024 := by
  unfold chkM at h
  split at h
  · cases h
  · split at h
    · cases h
    · omega
theorem chkC_len {l : List Ins} (h : (chkC l).2 = 0) : l.length ≤ 4000 := by
  unfold chkC at h
  split at h
  · cases h
  · omega
theorem chkP_all : ∀ (l : List Cd) (k : Nat), (chkP k l).2.2 = 0 → ∀ x ∈ l, (chkC x.l).2 = 0
  | [], k, _, x, hx => by cases hx
  | y :: l, k, h, x, hx => by
    have e : chkP k (y :: l) = if (chkC y.l).2 = 0 then chkP (k + 1) l else ((k : Int), (chkC y.l).1, (chkC y.l).2) := rfl
    rw [e] at h
    by_cases h0 : (chkC y.l).2 = 0
    · rw [if_pos h0] at h
      rcases List.mem_cons.1 hx with rfl | hx
      · exact h0
      · exact chkP_all l (k + 1) h x hx
    · rw [if_neg h0] at h
      exact absurd h h0
theorem chk_codes {p : Pgm} (h : (chkM p).2.2 = 0) : ∀ x ∈ p.codes, x.l.length ≤ 4000 := by
  intro x hx
  have h1 := chk_len h
  unfold chkM at h
  rw [if_neg (by omega), if_neg (by omega)] at h
  exact chkC_len (chkP_all _ _ h x hx)
end Go.Proofs.YtfhplbmgjgfihaaGreatDoor.Mc
namespace Go.Proofs.YtfhplbmgjgfihaaGreatDoor.Bf
open Go.ChangeShapes Go.WideShapes Go.ChangeAt Go.RowKit
set_option linter.unusedVariables false
set_option maxRecDepth 20000

/-- a slice of entries: none, or their cells from an address on -/
def EntsAt (w : World) (a : Option Addr) (l : List Ent) : Prop :=
  l = [] ∨ ∃ b off, a = some ⟨b, off, none⟩ ∧ ∀ i, i < l.length → w.cell? ⟨b, off + i * 2, none⟩ = some (.int .i64 (l.getD i ent0).a) ∧ w.cell? ⟨b, off + i * 2 + 1, none⟩ = some (.int .u32 (l.getD i ent0).v)
theorem EntsAt.later {w w' : World} {a : Option Addr} {l : List Ent} (h : EntsAt w a l) (g : Gr w w') : EntsAt w' a l := by
  rcases h with h | ⟨b, off, ha, h⟩
  · exact .inl h
  · refine .inr ⟨b, off, ha, fun i hi => ?_⟩
    obtain ⟨h1, h2⟩ := h i hi
    exact ⟨(Below.cell g (p := ⟨b, _, none⟩) (block_lt_of_cell h1)).trans h1, (Below.cell g (p := ⟨b, _, none⟩) (block_lt_of_cell h2)).trans h2⟩
theorem EntsAt.get {w : World} {a : Option Addr} {l : List Ent} (h : EntsAt w a l) {i : Nat} (hi : i < l.length) :
    ∃ b off, a = some ⟨b, off, none⟩ ∧ w.cell? ⟨b, off + i * 2, none⟩ = some (.int .i64 (l.getD i ent0).a) ∧ w.cell? ⟨b, off + i * 2 + 1, none⟩ = some (.int .u32 (l.getD i ent0).v) := by
  rcases h with h | ⟨b, off, ha, h⟩
  · subst h; simp at hi
  · exact ⟨b, off, ha, h i hi⟩

theorem flatC_a (l : List Ent) (i : Nat) (hi : i < l.length) : (flat l).toArray[i * 2]? = some (.int .i64 (l.getD i ent0).a) := by
  rw [List.getElem?_toArray, flat_a, List.getD_eq_getElem?_getD, List.getElem?_eq_getElem hi]; rfl
theorem flatC_v (l : List Ent) (i : Nat) (hi : i < l.length) : (flat l).toArray[i * 2 + 1]? = some (.int .u32 (l.getD i ent0).v) := by
  rw [List.getElem?_toArray, flat_v, List.getD_eq_getElem?_getD, List.getElem?_eq_getElem hi]; rfl
theorem flatC_size (l : List Ent) : (flat l).toArray.size = l.length * 2 := by simp [flat_length]
end Go.Proofs.YtfhplbmgjgfihaaGreatDoor.Bf
namespace Go.Proofs.YtfhplbmgjgfihaaGreatDoor
open Go.ChangeShapes Go.WideShapes Go.ChangeAt Go.RowKit
set_option linter.unusedVariables false
set_option maxRecDepth 20000
open Go.Proofs.YtfhplbmgjgfihaaGreatDoor.Bf
end Go.Proofs.YtfhplbmgjgfihaaGreatDoor
namespace Go.Proofs.YtfhplbmgjgfihaaGreatDoor.Bf
open Go.ChangeShapes Go.WideShapes Go.ChangeAt Go.RowKit
set_option linter.unusedVariables false
set_option maxRecDepth 20000
end Go.Proofs.YtfhplbmgjgfihaaGreatDoor.Bf
namespace Go.Proofs.YtfhplbmgjgfihaaGreatDoor
open Go.ChangeShapes Go.WideShapes Go.ChangeAt Go.RowKit
set_option linter.unusedVariables false
set_option maxRecDepth 20000
open Go.Proofs.YtfhplbmgjgfihaaGreatDoor.Bf
theorem Has.setFlat {w : World} {g : Nat} {t : TypeId} {l : List Ent} (h : Has w g (flat l).toArray t) (i : Nat) (x : Ent) :
    Has (w.setCells g (i * 2) [.int .i64 x.a, .int .u32 x.v]) g (flat (l.set i x)).toArray t := by
  have := (h.set (i * 2) (.int .i64 x.a)).set (i * 2 + 1) (.int .u32 x.v)
  rw [List.setIfInBounds_toArray, List.setIfInBounds_toArray, ← flat_set] at this
  exact this
end Go.Proofs.YtfhplbmgjgfihaaGreatDoor
namespace Go.Proofs.YtfhplbmgjgfihaaGreatDoor.Bf
open Go.ChangeShapes Go.WideShapes Go.ChangeAt Go.RowKit
set_option linter.unusedVariables false
set_option maxRecDepth 20000
abbrev zeroE : Value := .agg #[.int .i64 0, .int .u32 0]
theorem infoE3 : (Tryz.prog.info? 77).map (fun i => (i.zero, i.size, i.bytes)) = some (some zeroE, 2, 16) := by kernel_rfl
theorem flat_rep : ∀ n : Nat, (madeCells zeroE.cells (n * 2)) = (flat (List.replicate n ent0)).toArray := by
  intro n
  apply Array.ext_getElem?
  intro i
  rcases Nat.lt_or_ge i (n * 2) with h | h
  · have e : i = i / 2 * 2 + i % 2 := by omega
    have hi : i / 2 < n := by omega
    rcases (by omega : i % 2 = 0 ∨ i % 2 = 1) with h2 | h2
    · have e2 : i = i / 2 * 2 := by omega
      rw [e2, flatC_a _ _ (by simpa using hi)]
      have e3 : (List.replicate n ent0).getD (i / 2) ent0 = ent0 := by simp [List.getD_eq_getElem?_getD, hi]
      rw [e3]
      have : i / 2 * 2 < n * 2 := by omega
      simp [madeCells, this, Value.cells, ent0]
    · have e2 : i = i / 2 * 2 + 1 := by omega
      rw [e2, flatC_v _ _ (by simpa using hi)]
      have e3 : (List.replicate n ent0).getD (i / 2) ent0 = ent0 := by simp [List.getD_eq_getElem?_getD, hi]
      rw [e3]
      have : i / 2 * 2 + 1 < n * 2 := by omega
      have m : (i / 2 * 2 + 1) % 2 = 1 := by omega
      simp [madeCells, this, Value.cells, ent0, m]
  · rw [Array.getElem?_eq_none (by simpa [size_madeCells] using h), Array.getElem?_eq_none (by simpa [flat_length] using h)]
theorem make_ents (n : Nat) (h : n ≤ 5000) (w : World) : (Instr.makeSlice 47 (.int .i64 n) (.int .i64 n)).run Tryz.prog w = .ok (.slice (some ⟨w.heap.size, 0, none⟩) n n) (w.alloc (.cells (flat (List.replicate n ent0)).toArray 77)) := by
  obtain ⟨i, h1, h2, h3, h4⟩ := info_parts infoE3
  have := run_make (P := Tryz.prog) w 47 77 i zeroE Tryz.underlying47 h1 h2 .i64 .i64 n n (by omega) (Int.le_refl _) (by rw [h4]; omega) (by omega)
  rw [h3] at this
  rw [← flat_rep]
  simpa using this
end Go.Proofs.YtfhplbmgjgfihaaGreatDoor.Bf
namespace Go.Proofs.YtfhplbmgjgfihaaGreatDoor.Bf
open Go.ChangeShapes Go.WideShapes Go.ChangeAt Go.RowKit
set_option linter.unusedVariables false
set_option maxRecDepth 20000
/-- the first k are laid -/
def part (l : List Ent) (k : Nat) : List Ent := l.take k ++ List.replicate (l.length - k) ent0
theorem part_zero (l : List Ent) : part l 0 = List.replicate l.length ent0 := by simp [part]
theorem part_all (l : List Ent) : part l l.length = l := by simp [part]
theorem part_length (l : List Ent) (k : Nat) (h : k ≤ l.length) : (part l k).length = l.length := by simp [part]; omega
theorem part_succ (l : List Ent) (k : Nat) (h : k < l.length) : (part l k).set k (l.getD k ent0) = part l (k + 1) := by
  unfold part
  have e : l.length - k = (l.length - (k + 1)) + 1 := by omega
  have hk : (l.take k).length = k := by simp; omega
  rw [List.set_append_right _ _ (by omega), hk, Nat.sub_self, e, List.replicate_succ, List.set_cons_zero, List.take_succ_eq_append_getElem h, List.append_assoc]
  congr 2
  rw [List.getD_eq_getElem?_getD, List.getElem?_eq_getElem h]
  rfl

set_option maxHeartbeats 400000 in
theorem entries_calls {C : Array Value} {room : Nat} {l : List Ent} (h : IsB C room l) (w : World) :
    Calls Tryz.prog 40 #[.agg C] w fun e w' => e = .returned (.slice (some ⟨w.heap.size + 1, 0, none⟩) l.length l.length) ∧ Gr w w' ∧ Has w' (w.heap.size + 1) (flat l).toArray 77 := by
  obtain ⟨r, first, hi⟩ := h
  have HB := hide hi
  have HI : Hid (IsB C room l) := ⟨r, first, hi⟩
  have hf := hi.fst
  have hm := hi.most
  have hlen := hi.len
  have c33 : C[33]? = some (.int .i64 first) := by rw [hi.cells]; exact bufC_first hi.ring _ _ _
  have C33 := hide c33
  have c34 : C[34]? = some (.int .i64 l.length) := by rw [hi.cells]; exact bufC_count hi.ring _ _ _
  have HS := hide HI.out.size
  have hmk := make_ents l.length (by omega)
  have b0 := (Has.new w C 83).alloc (flat (List.replicate l.length ent0)).toArray 77
  have b1 := Has.new (w.alloc (.cells C 83)) (flat (List.replicate l.length ent0)).toArray 77
  rw [show (w.alloc (.cells C 83)).heap.size = w.heap.size + 1 by simp] at b1
  have bg := ((Gr.refl w).alloc C 83).alloc (flat (List.replicate l.length ent0)).toArray 77
  clear hi c33
  go_enter Tryz.func40, Tryz.ntmps40
  go_wp2_with (fail)
  go_loopw [10] (fun i wr => ∃ k : Nat, k ≤ l.length ∧ i = .int .i64 k ∧ Has wr w.heap.size C 83 ∧ Gr w wr ∧ Has wr (w.heap.size + 1) (flat (part l k)).toArray 77) (fun i _ => l.length - (intOf i).toNat)
  case atStart => exact ⟨0, by omega, rfl, b0, bg, by rw [part_zero]; exact b1⟩
  case round =>
    clear b0 b1 bg c34 hmk
    obtain ⟨k, hk, rfl, b0, bg, b1⟩ := hrel
    by_cases hlt : k < l.length
    · obtain ⟨ca, cv⟩ := HB.out.ent k hlt
      have HP := hide (part_succ l k hlt)
      have hps : k * 2 + 2 ≤ (flat (part l k)).toArray.size := by rw [flatC_size, part_length l k hk]; omega
      have HPS := hide hps
      clear hps
      generalize l.getD k ent0 = x at ca cv HP
      have CA := hide ca
      have CV := hide cv
      clear ca cv
      go_wp2_with (first | (refine load_buf rfl _ rfl w.heap.size rfl C b0 HS.out ?_))
      refine (place_calls C33.out hf k (by omega) _).mono ?_
      rintro e w1 ⟨rfl, g1⟩
      replace b0 := b0.later g1
      replace b1 := b1.later g1
      replace bg := bg.trans g1
      clear g1
      have ca := b0.cell CA.out
      have cv := b0.cell CV.out
      generalize hpp : (first + k) % 16 = p at ca cv ⊢
      have hp : p < 16 := by omega
      have hp' : (p : Int) < 16 := by omega
      clear CA CV hpp
      go_wp2_with (first | (refine store_ent rfl rfl _ _ rfl (w.heap.size + 1) (k * 2) rfl x rfl _ 77 b1 HPS.out ?_))
      exact ⟨⟨k + 1, by omega, by go_num, b0.setCells (by omega) _ _ _, bg.setCells (by omega) _ _ _, (b1.setFlat k x).of (by rw [HP.out])⟩, by simp [intOf]; omega⟩
    · obtain rfl : k = l.length := by omega
      rw [part_all] at b1
      go_wp2_with (fail)
      go_ret
      exact ⟨rfl, bg, b1⟩
end Go.Proofs.YtfhplbmgjgfihaaGreatDoor.Bf
