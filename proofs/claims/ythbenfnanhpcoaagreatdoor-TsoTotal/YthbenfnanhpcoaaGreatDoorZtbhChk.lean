/-
  What slices.Clone, isa.checkCode and isa.Check answer. No condition but what each law names.
-/
import Derived.Test.YthbenfnanhpcoaaGreatDoorZtag
import Derived.Lib.LazyBuf
namespace Go.Proofs.YthbenfnanhpcoaaGreatDoor.Mc
open Go.ChangeShapes Go.WideShapes Go.ChangeAt Go.RowKit
set_option linter.unusedVariables false
set_option maxRecDepth 20000

theorem clone_run {T t : TypeId} {zero : Value} {sz bytes : Nat} (hT : Tryz.prog.underlying T = some (.slice t)) (info : (Tryz.prog.info? t).map (fun i => (i.zero, i.size, i.bytes)) = some (some zero, sz, bytes)) (hz : zero.cells.size = sz) (hsz : 0 < sz) (hby : bytes ≤ 1000)
    {α : Type} {f : α → List Value} (hf : ∀ x, (f x).length = sz) (h1 : ∀ x, ∀ u ∈ f x, u.oneCell' = true) (w : World) (ty : TypeId) (a : Option Addr) (c : Nat) (l : List α) (h : RowAt w a (flatOf f l)) (hc : a = none → c = 0 ∧ l = []) (hn : l.length ≤ 100000) :
    ∃ v' w', (Builtin.append_ #[T, T] ty #[.slice (some ⟨w.heap.size, 0, none⟩) 0 0, .slice a l.length c]).run Tryz.prog (w.alloc (.cells #[] t)) = .ok v' w' ∧ w'.ownsRow w.heap.size t sz v' l.length (flatOf f l) ∧ Gr w w' := by
  have hown : (w.alloc (.cells #[] t)).ownsRow w.heap.size t sz (.slice (some ⟨w.heap.size, 0, none⟩) 0 0) 0 [] := World.ownsRow_made w #[] 0 (Nat.le_refl _) (Nat.zero_le _) (by simp)
  obtain ⟨v', w', hr, ho, hg, -⟩ := app_row (ty := ty) hT info hz hsz hby hown a c l.length (flatOf f l) (h.later ((Gr.refl w).alloc _ _)) (fun e => ⟨(hc e).1, by rw [(hc e).2]; rfl⟩) (flatOf_length hf l) (flatOf_one h1 l) (by omega) (by simp)
  rw [Nat.zero_add, List.nil_append] at ho
  exact ⟨v', w', hr, ho, grown_gr ((Gr.refl w).alloc _ _) hown hg (Nat.le_refl _)⟩

def CloneP (w : World) (t : TypeId) (sz n : Nat) (xs : List Value) (r : Ending) (w' : World) : Prop := ∃ v, r = .returned v ∧ w'.ownsRow w.heap.size t sz v n xs ∧ Gr w w'
theorem cloneW_calls (a : Option Addr) (c : Nat) (l : List Int) (w : World) (h : RowAt w a (flatOf wordL l)) (hc : a = none → c = 0 ∧ l = []) (hn : l.length ≤ 100000) :
    Calls Tryz.prog 32 #[.slice a l.length c] w (CloneP w 39 1 l.length (flatOf wordL l)) := by
  cases a with
  | none =>
    obtain ⟨rfl, rfl⟩ := hc rfl
    have g := Gr.refl w
    clear hc hn h
    go_enter Tryz.func32, Tryz.ntmps32
    go_wp2_with (fail)
    rw [run_eql_slice_nil _ 25 39 _ _ _ Tryz.underlying25]
    go_simp
    go_wp2_with (fail)
    go_ret
    exact ⟨_, rfl, own_nil _ _ _ _, g⟩
  | some y =>
    obtain ⟨v', w', hr, ho, hg⟩ := clone_run Tryz.underlying25 infoWrd rfl (by omega) (by omega) wordL_len wordL_one w 25 (some y) c l h hc hn
    have HR := hide hr
    have HO := hide ho
    clear h hc hr ho
    go_enter Tryz.func32, Tryz.ntmps32
    go_wp2_with (fail)
    rw [run_eql_slice_nil _ 25 39 _ _ _ Tryz.underlying25]
    go_simp
    trace_state
    go_wp2_with (first
      | (refine step_app rfl (some 7) rfl _ _ 25 rfl _ _ rfl rfl _ _ HR.out ?_))
    go_ret
    exact ⟨_, rfl, HO.out, hg⟩
theorem cloneI_calls (a : Option Addr) (c : Nat) (l : List Ins) (w : World) (h : RowAt w a (flatOf insL l)) (hc : a = none → c = 0 ∧ l = []) (hn : l.length ≤ 100000) :
    Calls Tryz.prog 54 #[.slice a l.length c] w (CloneP w 72 5 l.length (flatOf insL l)) := by
  cases a with
  | none =>
    obtain ⟨rfl, rfl⟩ := hc rfl
    have g := Gr.refl w
    clear hc hn h
    go_enter Tryz.func54, Tryz.ntmps54
    go_wp2_with (fail)
    rw [run_eql_slice_nil _ 65 72 _ _ _ Tryz.underlying65]
    go_simp
    go_wp2_with (fail)
    go_ret
    exact ⟨_, rfl, own_nil _ _ _ _, g⟩
  | some y =>
    obtain ⟨v', w', hr, ho, hg⟩ := clone_run Tryz.underlying65 infoIns rfl (by omega) (by omega) insL_len insL_one w 65 (some y) c l h hc hn
    have HR := hide hr
    have HO := hide ho
    clear h hc hr ho
    go_enter Tryz.func54, Tryz.ntmps54
    go_wp2_with (fail)
    rw [run_eql_slice_nil _ 65 72 _ _ _ Tryz.underlying65]
    go_simp
    trace_state
    go_wp2_with (first
      | (refine step_app rfl (some 7) rfl _ _ 65 rfl _ _ rfl rfl _ _ HR.out ?_))
    go_ret
    exact ⟨_, rfl, HO.out, hg⟩
theorem cloneE_calls (a : Option Addr) (c : Nat) (l : List Ev) (w : World) (h : RowAt w a (flatOf evL l)) (hc : a = none → c = 0 ∧ l = []) (hn : l.length ≤ 100000) :
    Calls Tryz.prog 49 #[.slice a l.length c] w (CloneP w 68 8 l.length (flatOf evL l)) := by
  cases a with
  | none =>
    obtain ⟨rfl, rfl⟩ := hc rfl
    have g := Gr.refl w
    clear hc hn h
    go_enter Tryz.func49, Tryz.ntmps49
    go_wp2_with (fail)
    rw [run_eql_slice_nil _ 52 68 _ _ _ Tryz.underlying52]
    go_simp
    go_wp2_with (fail)
    go_ret
    exact ⟨_, rfl, own_nil _ _ _ _, g⟩
  | some y =>
    obtain ⟨v', w', hr, ho, hg⟩ := clone_run Tryz.underlying52 infoEv rfl (by omega) (by omega) evL_len evL_one w 52 (some y) c l h hc hn
    have HR := hide hr
    have HO := hide ho
    clear h hc hr ho
    go_enter Tryz.func49, Tryz.ntmps49
    go_wp2_with (fail)
    rw [run_eql_slice_nil _ 52 68 _ _ _ Tryz.underlying52]
    go_simp
    trace_state
    go_wp2_with (first
      | (refine step_app rfl (some 7) rfl _ _ 52 rfl _ _ rfl rfl _ _ HR.out ?_))
    go_ret
    exact ⟨_, rfl, HO.out, hg⟩

/-- which instruction is wrong first -/
def chkFrom (n : Nat) : Nat → List Ins → Int × Int
  | k, [] => (0, 0)
  | k, x :: l => if rightB x.op x.a x.b x.c x.k n then chkFrom n (k + 1) l else ((k : Int), 3)
def chkC (l : List Ins) : Int × Int := if 4000 < l.length then (-1, 4) else chkFrom l.length 0 l
theorem chk_drop {l : List Ins} {k : Nat} (h : k < l.length) (n : Nat) : chkFrom n k (l.drop k) = if rightB (l.getD k ins0).op (l.getD k ins0).a (l.getD k ins0).b (l.getD k ins0).c (l.getD k ins0).k n then chkFrom n (k + 1) (l.drop (k + 1)) else ((k : Int), 3) := by
  rw [List.drop_eq_getElem_cons h, List.getD_eq_getElem?_getD, List.getElem?_eq_getElem h]
  rfl
theorem insOk_at {l : List Ins} (h : ∀ x ∈ l, InsOk x) (k : Nat) : InsOk (l.getD k ins0) := by
  rw [List.getD_eq_getElem?_getD]
  cases he : l[k]? with
  | none => exact ⟨by show (0 : Int) ≤ 0; omega, by show (0 : Int) < 4294967296; omega⟩
  | some x => exact h x (List.mem_of_getElem? he)

set_option maxHeartbeats 400000 in
theorem checkCode_calls (a : Option Addr) (c : Nat) (l : List Ins) (hi : ∀ x ∈ l, InsOk x) (w : World) (L : Laid w) (h : RowAt w a (flatOf insL l)) :
    Calls Tryz.prog 53 #[.slice a l.length c] w fun r w' => r = .returned (.tuple #[.int .i64 (chkC l).1, .int .i64 (chkC l).2]) ∧ Gr w w' := by
  by_cases h4 : 4000 < l.length
  · have e : Hid (chkC l = (-1, 4)) := by show _ = _; unfold chkC; rw [if_pos h4]
    rw [e.out]
    have h4' : (4000 : Int) < l.length := by omega
    have g := Gr.refl w
    clear h hi L e
    go_enter Tryz.func53, Tryz.ntmps53
    go_wp2_with (fail)
    exact bodyPost_ret (results_tmp2 rfl _ _ _) rfl ⟨rfl, g⟩
  · have e : Hid (chkC l = chkFrom l.length 0 (l.drop 0)) := by show _ = _; unfold chkC; rw [if_neg h4]; rfl
    rw [e.out]
    have h4' : ¬ (4000 : Int) < l.length := by omega
    have g := Gr.refl w
    have HI := hide hi
    have HL := hide L
    have HH := hide h
    clear h hi L e
    generalize hR : chkFrom l.length 0 (l.drop 0) = R
    have HR := hide hR
    clear hR
    go_enter Tryz.func53, Tryz.ntmps53
    go_wp2_with (fail)
    go_loopw [11] (fun v wr => ∃ j : Nat, j ≤ l.length ∧ v = .int .i64 j ∧ Gr w wr ∧ chkFrom l.length j (l.drop j) = R) (fun v _ => l.length - (intOf v).toNat)
    case atStart => exact ⟨0, by omega, rfl, g, HR.out⟩
    case round =>
      clear g
      obtain ⟨j, hj, rfl, g, hr⟩ := hrel
      by_cases hlt : j < l.length
      · have hlt' : (j : Int) < l.length := by omega
        have rw1 := HH.out.later g
        obtain ⟨b, off, had, -⟩ := rw1.get (by rw [flatOf_length insL_len]; omega)
        subst had
        have c0 := rw1.cell insL_len hlt ins0 0 (by omega)
        have c1 := rw1.cell insL_len hlt ins0 1 (by omega)
        have c2 := rw1.cell insL_len hlt ins0 2 (by omega)
        have c3 := rw1.cell insL_len hlt ins0 3 (by omega)
        have c4 := rw1.cell insL_len hlt ins0 4 (by omega)
        have hd := chk_drop hlt l.length
        have ok := insOk_at HI.out j
        generalize l.getD j ins0 = x at c0 c1 c2 c3 c4 hd ok
        rw [hd] at hr
        have HK := hide hr
        have lw := HL.out.later g
        clear hd hr rw1
        simp only [insL, List.getElem?_cons_zero, List.getElem?_cons_succ, Nat.add_zero, ← Nat.add_assoc] at c0 c1 c2 c3 c4
        go_wp2_with (fail)
        have G1 := g.alloc #[.int .i64 x.op, .int .i64 x.a, .int .i64 x.b, .int .i64 x.c, .int .u32 x.k] 72
        have L1 := lw.later ((Gr.refl wr).alloc #[.int .i64 x.op, .int .i64 x.a, .int .i64 x.b, .int .i64 x.c, .int .u32 x.k] 72)
        refine (right_calls x.op x.a x.b x.c x.k l.length ok.k0 ok.k1 _ L1).mono ?_
        rintro r u ⟨rfl, g2⟩
        have GG := G1.trans g2
        clear c0 c1 c2 c3 c4 G1 g2 L1 g
        cases hb : rightB x.op x.a x.b x.c x.k l.length with
        | true =>
          rw [hb] at HK
          have HK2 := hide (show chkFrom l.length (j + 1) (l.drop (j + 1)) = R by have := HK.out; rwa [if_pos rfl] at this)
          clear HK
          go_wp2_with (fail)
          exact ⟨⟨j + 1, by omega, by go_num, GG, HK2.out⟩, by simp [intOf]; omega⟩
        | false =>
          rw [hb] at HK
          have HK2 := hide (show (((j : Int), (3 : Int)) : Int × Int) = R by have := HK.out; rwa [if_neg (by decide)] at this)
          clear HK
          go_wp2_with (fail)
          rw [← HK2.out]
          exact bodyPost_ret (results_tmp2 rfl _ _ _) rfl ⟨rfl, GG⟩
      · have hj' : j = l.length := by omega
        subst hj'
        have e0 : R = (0, 0) := by rw [← hr, List.drop_length]; rfl
        have HE := hide e0
        clear hr HR e0
        go_wp2_with (fail)
        rw [HE.out]
        exact bodyPost_ret (results_tmp2 rfl _ _ _) rfl ⟨rfl, g⟩

/-- a code, and where it lies -/
structure Cd where
  a : Option Addr
  c : Nat
  l : List Ins
def cd0 : Cd := ⟨none, 0, []⟩
def codeV (x : Cd) : List Value := [.slice x.a x.l.length x.c]
theorem codeV_len (x : Cd) : (codeV x).length = 1 := rfl
/-- a program, and where its parts lie -/
structure Pgm where
  ca : Option Addr
  cc : Nat
  codes : List Cd
  ma : Option Addr
  mc : Nat
  mem : List Int
  room : Int
def pgA (p : Pgm) : Array Value := #[.slice p.ca p.codes.length p.cc, .slice p.ma p.mem.length p.mc, .int .i64 p.room]
structure CdAt (x : Cd) (w : World) : Prop where
  row : RowAt w x.a (flatOf insL x.l)
  nil : x.a = none → x.c = 0 ∧ x.l = []
  ins : ∀ i ∈ x.l, InsOk i
structure PgAt (p : Pgm) (w : World) : Prop where
  row : RowAt w p.ca (flatOf codeV p.codes)
  each : ∀ x ∈ p.codes, CdAt x w
  mem : RowAt w p.ma (flatOf wordL p.mem)
  nil : p.ma = none → p.mc = 0 ∧ p.mem = []
  wrd : ∀ x ∈ p.mem, U32 x
theorem CdAt.later {x : Cd} {w w' : World} (h : CdAt x w) (g : Gr w w') : CdAt x w' := ⟨h.row.later g, h.nil, h.ins⟩
theorem PgAt.later {p : Pgm} {w w' : World} (h : PgAt p w) (g : Gr w w') : PgAt p w' := ⟨h.row.later g, fun x hx => (h.each x hx).later g, h.mem.later g, h.nil, h.wrd⟩
/-- what is wrong with codes first -/
def chkP : Nat → List Cd → Int × Int × Int
  | _, [] => (0, 0, 0)
  | k, x :: l => if (chkC x.l).2 = 0 then chkP (k + 1) l else ((k : Int), (chkC x.l).1, (chkC x.l).2)
def chkM (p : Pgm) : Int × Int × Int :=
  if (p.codes.length < 1 ∨ 8 < p.codes.length) ∨ (p.room < 1 ∨ 16 < p.room) then (-1, -1, 1) else if 1024 < p.mem.length then (-1, -1, 4) else chkP 0 p.codes
theorem chkP_drop {l : List Cd} {k : Nat} (h : k < l.length) : chkP k (l.drop k) = if (chkC (l.getD k cd0).l).2 = 0 then chkP (k + 1) (l.drop (k + 1)) else ((k : Int), (chkC (l.getD k cd0).l).1, (chkC (l.getD k cd0).l).2) := by
  rw [List.drop_eq_getElem_cons h, List.getD_eq_getElem?_getD, List.getElem?_eq_getElem h]
  rfl
theorem cd_mem {l : List Cd} {k : Nat} (h : k < l.length) : l.getD k cd0 ∈ l := by
  rw [List.getD_eq_getElem?_getD, List.getElem?_eq_getElem h]
  exact List.getElem_mem h
theorem chk_len {p : Pgm} (h : (chkM p).2.2 = 0) : (1 ≤ p.codes.length ∧ p.codes.length ≤ 8) ∧ (1 ≤ p.room ∧ p.room ≤ 16) ∧ p.mem.length ≤ 1024 := by
  unfold chkM at h
  split at h
  · cases h
  · split at h
    · cases h
    · omega
theorem chkC_len {l : List Ins} (h : (chkC l).2 = 0) : l.length ≤ 4000 := by
  unfold chkC at h
  split at h
  · cases h
  · omega
theorem chkP_all : ∀ (l : List Cd) (k : Nat), (chkP k l).2.2 = 0 → ∀ x ∈ l, (chkC x.l).2 = 0
  | [], k, _, x, hx => by cases hx
  | y :: l, k, h, x, hx => by
    have e : chkP k (y :: l) = if (chkC y.l).2 = 0 then chkP (k + 1) l else ((k : Int), (chkC y.l).1, (chkC y.l).2) := rfl
    rw [e] at h
    by_cases h0 : (chkC y.l).2 = 0
    · rw [if_pos h0] at h
      rcases List.mem_cons.1 hx with rfl | hx
      · exact h0
      · exact chkP_all l (k + 1) h x hx
    · rw [if_neg h0] at h
      exact absurd h h0
theorem chk_codes {p : Pgm} (h : (chkM p).2.2 = 0) : ∀ x ∈ p.codes, x.l.length ≤ 4000 := by
  intro x hx
  have h1 := chk_len h
  unfold chkM at h
  rw [if_neg (by omega), if_neg (by omega)] at h
  exact chkC_len (chkP_all _ _ h x hx)
end Go.Proofs.YthbenfnanhpcoaaGreatDoor.Mc
