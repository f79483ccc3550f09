/-
  What has and Pick of a machine do. No condition but what each law names.
-/
import Derived.Test.YthbenfnanhpcoaaGreatDoorZtbg
namespace Go.Proofs.YthbenfnanhpcoaaGreatDoor.Mc
open Go.ChangeShapes Go.WideShapes Go.ChangeAt Go.RowKit
set_option linter.unusedVariables false
set_option maxRecDepth 20000

def hasB (s : Ms) (who : Int) : Bool := decide (0 ≤ who) && decide (who < s.sides.length)
theorem Mw.svAt {k : Mk} {s : Ms} {e : Value} {w : World} (h : Mw k s e w) : ∃ a c, k.sv = .slice a s.sides.length c := by
  have hr0 := h.row
  rw [sideP_flat] at hr0
  obtain ⟨a, c, hv, -⟩ := own_at hr0
  exact ⟨a, c, by rw [hv, h.len]⟩

set_option maxHeartbeats 400000 in
theorem has_calls {k : Mk} {s : Ms} {e : Value} {w : World} (h : Mw k s e w) (who : Int) :
    Calls Tryz.prog 35 #[.pointer (some ⟨k.mb, 0, none⟩), .int .i64 who] w fun r w' => r = .returned (.bool (hasB s who)) ∧ Gr w w' := by
  obtain ⟨a, c, hsv⟩ := h.svAt
  have c0 := h.mach.2.1
  rw [hsv] at c0
  have HP := hide (Gr.refl w)
  clear h hsv
  by_cases h0 : 0 ≤ who
  · have HB : Hid (hasB s who = decide (who < s.sides.length)) := by show _ = _; simp [hasB, h0]
    rw [HB.out]
    generalize s.sides.length = n at c0 ⊢
    go_enter Tryz.func35, Tryz.ntmps35
    go_wp2_with (fail)
    go_ret
    exact ⟨rfl, HP.out⟩
  · have HB : Hid (hasB s who = false) := by show _ = _; simp [hasB, h0]
    rw [HB.out]
    go_enter Tryz.func35, Tryz.ntmps35
    go_wp2_with (fail)
    go_ret
    exact ⟨rfl, HP.out⟩
end Go.Proofs.YthbenfnanhpcoaaGreatDoor.Mc

namespace Go.Proofs.YthbenfnanhpcoaaGreatDoor.Mc
open Go.ChangeShapes Go.WideShapes Go.ChangeAt Go.RowKit
set_option linter.unusedVariables false
set_option maxRecDepth 20000

set_option maxHeartbeats 1000000 in
theorem pick_does (k : Mk) (s : Ms) (kind who : Int) (hq : 1000 ≤ s.fuel) (hc : ∀ i, (s.side i).code.length ≤ 100000) (w : World) :
    Does (MI k) s w 17 #[.pointer (some ⟨k.mb, 0, none⟩), .agg #[.int .i64 kind, .int .i64 who]] (.tuple #[]) (s.pick k.N kind who) := by
  rintro F ⟨e, h, rfl⟩
  have ga := (Gr.refl w).alloc #[.int .i64 kind, .int .i64 who] 48
  have hb := Has.new w #[.int .i64 kind, .int .i64 who] 48
  have HH := hide h
  have HHAS := hide (has_calls (h.later ga) who)
  cases hh : hasB s who with
  | false =>
    have HR : Hid (s.pick k.N kind who = s) := by
      show _ = _
      unfold Ms.pick
      rw [if_neg]
      intro hx
      simp [hasB, hx.1, hx.2] at hh
    rw [HR.out]
    rw [hh] at HHAS
    have c1 := hb.cell (o := 1) rfl
    clear h HR hh
    go_enter Tryz.func17, Tryz.ntmps17
    go_wp2_with (fail)
    change Calls _ _ _ (w.alloc (.cells #[.int .i64 kind, .int .i64 who] 48)) _
    generalize w.alloc (.cells #[.int .i64 kind, .int .i64 who] 48) = w1 at HHAS c1 hb ga ⊢
    refine HHAS.out.mono ?_
    rintro r u ⟨rfl, g2⟩
    have HP := hide (mi_same HH.out (ga.trans g2))
    go_wp2_with (fail)
    exact bodyPost_ret (results_none rfl _ _ _) rfl ⟨rfl, HP.out⟩
  | true =>
    rw [hh] at HHAS
    have hwho : 0 ≤ who ∧ who < s.sides.length := by simpa [hasB] using hh
    obtain ⟨n, rfl⟩ := nat_of hwho.1
    obtain ⟨y, hy⟩ : ∃ y, k.ss[n]? = some y := ⟨_, List.getElem?_eq_getElem (by rw [h.len]; omega)⟩
    have HY := hide hy
    have hn1 : (n : Int) < k.ss.length := by rw [h.len]; omega
    have hn0 : ¬ (n : Int) < 0 := by omega
    clear h hh
    go_enter Tryz.func17, Tryz.ntmps17
    go_wp2_with (fail)
    change Calls _ _ _ (w.alloc (.cells #[.int .i64 kind, .int .i64 (n : Int)] 48)) _
    generalize w.alloc (.cells #[.int .i64 kind, .int .i64 (n : Int)] 48) = w1 at HHAS hb ga ⊢
    refine HHAS.out.mono ?_
    rintro r u ⟨rfl, g2⟩
    have h2 := HH.out.later (ga.trans g2)
    have hb2 := hb.later g2
    have c0 := hb2.cell (o := 0) (v := .int .i64 kind) rfl
    have c1 := hb2.cell (o := 1) (v := .int .i64 (n : Int)) rfl
    obtain ⟨bs, cs, hsv, hcs⟩ := h2.sideAt hy
    have cm := h2.mach.2.1
    rw [hsv] at cm
    have GG := hide (ga.trans g2)
    have HB2 := hide hb2
    clear hb hb2 h2 ga g2 hsv hy
    go_upto_region 2 with (fail)
    go_quiet (fail)
    have GU := GG.out.drewN nq
    have c0' : (u.drewN nq).cell? ⟨w.heap.size, 0, none⟩ = some (.int .i64 kind) := c0
    have hpk : s.pick k.N kind (n : Int) = if kind = 0 then s.step k.N n else if kind = 1 then s.flush n else if kind = 2 then s.rouse n else s := by
      unfold Ms.pick
      rw [if_pos hwho]
      rfl
    have HPK := hide hpk
    have P0 := hide (mi_same HH.out GU)
    have hev : s.evs.length ≤ 95000 := fuel_evs (by omega)
    clear c0 c1 hcs cm GG HB2 GU hpk
    generalize u.drewN nq = u2 at c0' P0 ⊢
    by_cases k0 : kind = 0
    · subst k0
      have HR : Hid (s.pick k.N 0 n = s.step k.N n) := by show _ = _; rw [HPK.out, if_pos rfl]
      clear HPK
      have HD := hide (step_does k n y HY.out s hq (hc n) u2)
      go_wp2_with (fail)
      refine (HD.out.go P0.out).mono ?_
      rintro r u3 ⟨⟨rfl, -⟩, p1⟩
      have PQ := hide p1
      clear p1 c0'
      go_wp2_with (fail)
      go_end0
      exact ⟨rfl, by rw [HR.out]; exact PQ.out⟩
    · have k0' : (kind == 0) = false := by simpa using k0
      by_cases k1 : kind = 1
      · subst k1
        have HR : Hid (s.pick k.N 1 n = s.flush n) := by show _ = _; rw [HPK.out, if_neg (by decide), if_pos rfl]
        clear HPK
        have HD := hide (flush_does k n y HY.out s hev u2)
        go_wp2_with (fail)
        refine (HD.out.go P0.out).mono ?_
        rintro r u3 ⟨⟨rfl, -⟩, p1⟩
        have PQ := hide p1
        clear p1 c0'
        go_wp2_with (fail)
        go_end0
        exact ⟨rfl, by rw [HR.out]; exact PQ.out⟩
      · have k1' : (kind == 1) = false := by simpa using k1
        by_cases k2 : kind = 2
        · subst k2
          have HR : Hid (s.pick k.N 2 n = s.rouse n) := by show _ = _; rw [HPK.out, if_neg (by decide), if_neg (by decide), if_pos rfl]
          clear HPK
          have HD := hide (rouse_does k n y HY.out s hev u2)
          go_wp2_with (fail)
          refine (HD.out.go P0.out).mono ?_
          rintro r u3 ⟨⟨rfl, -⟩, p1⟩
          have PQ := hide p1
          clear p1 c0'
          go_wp2_with (fail)
          go_end0
          exact ⟨rfl, by rw [HR.out]; exact PQ.out⟩
        · have k2' : (kind == 2) = false := by simpa using k2
          have HR : Hid (s.pick k.N kind n = s) := by show _ = _; rw [HPK.out, if_neg k0, if_neg k1, if_neg k2]
          clear HPK
          go_wp2_with (fail)
          go_end0
          exact ⟨rfl, by rw [HR.out]; exact P0.out⟩
end Go.Proofs.YthbenfnanhpcoaaGreatDoor.Mc

namespace Go.Proofs.YthbenfnanhpcoaaGreatDoor.Mc
set_option linter.unusedVariables false

def entE (x : Ev) : Ent := ⟨x.addr, x.value⟩
/-- a thread's stores that wait, behind one more event -/
def wait1 (who : Int) (out : List Ev) (x : Ev) : List Ev := if x.who = who then (if x.kind = 2 then out ++ [x] else if x.kind = 3 then out.tail else out) else out
def waitE (who : Int) (l : List Ev) : List Ev := l.foldl (wait1 who) []
theorem waitE_snoc (who : Int) (l : List Ev) (x : Ev) : waitE who (l ++ [x]) = wait1 who (waitE who l) x := by simp [waitE]
def inR (a : Int) (n : Nat) : Bool := decide (0 ≤ a) && decide (a < n)
/-- memory behind an event, if it tells what it has to -/
def seeM (pre : List Ev) (mem : List Int) (x : Ev) : Option (List Int) :=
  if x.kind = 3 then (if inR x.addr mem.length then some (mem.set x.addr.toNat x.value) else none)
  else if x.kind = 4 then (if inR x.addr mem.length && mem.getD x.addr.toNat 0 == x.old then some (mem.set x.addr.toNat x.value) else none)
  else if x.kind = 8 then (if inR x.addr mem.length && mem.getD x.addr.toNat 0 == x.value then some mem else none)
  else if x.kind = 1 then (match Bf.findR x.addr ((waitE x.who pre).map entE) with
    | some v => if v == x.value then some mem else none
    | none => if inR x.addr mem.length && mem.getD x.addr.toNat 0 == x.value then some mem else none)
  else some mem
def see1 (p : Option (List Ev × List Int)) (x : Ev) : Option (List Ev × List Int) := match p with
  | none => none
  | some q => match seeM q.1 q.2 x with
    | none => none
    | some m => some (q.1 ++ [x], m)
def seeL (first : List Int) (l : List Ev) : Option (List Ev × List Int) := l.foldl see1 (some ([], first))
theorem seeL_snoc (first : List Int) (l : List Ev) (x : Ev) : seeL first (l ++ [x]) = see1 (seeL first l) x := by simp [seeL]
/-- is an event in its order? -/
def ordB (pre : List Ev) (x : Ev) : Bool :=
  if x.kind = 3 then (match waitE x.who pre with
    | [] => false
    | y :: _ => y.addr == x.addr && y.value == x.value)
  else if x.kind = 4 ∨ x.kind = 5 ∨ x.kind = 8 ∨ x.kind = 9 ∨ x.kind = 10 then (waitE x.who pre).isEmpty else true
def ord1 (p : List Ev × Bool) (x : Ev) : List Ev × Bool := (p.1 ++ [x], p.2 && ordB p.1 x)
def ordL (l : List Ev) : List Ev × Bool := l.foldl ord1 ([], true)
theorem ordL_snoc (l : List Ev) (x : Ev) : ordL (l ++ [x]) = ord1 (ordL l) x := by simp [ordL]

structure Good (first : List Int) (s : Ms) : Prop where
  see : seeL first s.evs = some (s.evs, s.mem)
  ord : ordL s.evs = (s.evs, true)
  buf : ∀ i : Nat, i < s.sides.length → (waitE i s.evs).map entE = (s.side i).buf
  rng : ∀ i : Nat, i < s.sides.length → ∀ c ∈ (s.side i).buf, 0 ≤ c.a ∧ c.a < s.mem.length

theorem Good.same {first : List Int} {s s' : Ms} (h : Good first s) (he : s'.evs = s.evs) (hm : s'.mem = s.mem) (hl : s'.sides.length = s.sides.length) (hb : ∀ j, j < s.sides.length → (s'.side j).buf = (s.side j).buf) : Good first s' := by
  refine ⟨by rw [he, hm]; exact h.see, by rw [he]; exact h.ord, fun i hi => ?_, fun i hi => ?_⟩
  · rw [hl] at hi
    rw [he, hb i hi]; exact h.buf i hi
  · rw [hl] at hi
    rw [hm, hb i hi]; exact h.rng i hi
def wentB (b : List Ent) (x : Ev) : List Ent := if x.kind = 2 then b ++ [entE x] else if x.kind = 3 then b.tail else b
theorem wait1_own {who : Int} {x : Ev} (h : x.who = who) (out : List Ev) : (wait1 who out x).map entE = wentB (out.map entE) x := by
  unfold wait1 wentB
  rw [if_pos h]
  split
  · simp
  · split
    · simp [List.map_tail]
    · rfl
theorem Good.add {first : List Int} {s s' : Ms} {x : Ev} {i : Nat} (h : Good first s) (hx : x.who = i) (he : s'.evs = s.evs ++ [x]) (hl : s'.sides.length = s.sides.length) (hm : seeM s.evs s.mem x = some s'.mem) (ho : ordB s.evs x = true)
    (hml : s'.mem.length = s.mem.length) (hr : x.kind = 2 → 0 ≤ x.addr ∧ x.addr < s.mem.length)
    (hb : ∀ j, j < s.sides.length → (s'.side j).buf = if j = i then wentB (s.side j).buf x else (s.side j).buf) : Good first s' := by
  refine ⟨?_, ?_, fun j hj => ?_, fun j hj => ?_⟩
  · rw [he, seeL_snoc, h.see]
    show (match seeM s.evs s.mem x with | none => none | some m => some (s.evs ++ [x], m)) = _
    rw [hm]
  · rw [he, ordL_snoc, h.ord]
    show (s.evs ++ [x], true && ordB s.evs x) = _
    rw [ho]; rfl
  · rw [hl] at hj
    rw [he, waitE_snoc, hb j hj]
    by_cases hji : j = i
    · subst hji
      rw [if_pos rfl, wait1_own hx, h.buf j hj]
    · rw [if_neg hji]
      unfold wait1
      rw [if_neg (by rw [hx]; omega)]
      exact h.buf j hj
  · rw [hl] at hj
    rw [hb j hj, hml]
    intro c hc
    by_cases hji : j = i
    · rw [if_pos hji] at hc
      unfold wentB at hc
      split at hc
      · rename_i hk
        rcases List.mem_append.1 hc with hc | hc
        · exact h.rng j hj c hc
        · rw [show c = entE x by simpa using hc]
          exact hr hk
      · split at hc
        · exact h.rng j hj c (List.mem_of_mem_tail hc)
        · exact h.rng j hj c hc
    · rw [if_neg hji] at hc
      exact h.rng j hj c hc
theorem Good.noWait {first : List Int} {s : Ms} (h : Good first s) {i : Nat} (hi : i < s.sides.length) (hb : (s.side i).buf = []) : waitE i s.evs = [] := by
  have := h.buf i hi
  rw [hb] at this
  simpa using this
theorem Good.note {first : List Int} {s : Ms} (h : Good first s) {i : Nat} (hi : i < s.sides.length) (x : Ev) (h2 : x.kind ≠ 2) (h3 : x.kind ≠ 3) (hs : seeM s.evs s.mem (evOf x i) = some s.mem) (ho : ordB s.evs (evOf x i) = true) : Good first (s.note i x) := by
  refine h.add (i := i) (x := evOf x i) rfl rfl rfl hs ho rfl (fun e => absurd e h2) fun j hj => ?_
  show (s.side j).buf = _
  split
  · unfold wentB
    rw [if_neg (show (evOf x i).kind ≠ 2 from h2), if_neg (show (evOf x i).kind ≠ 3 from h3)]
  · rfl
/-- an event that tells nothing of memory -/
theorem Good.plain {first : List Int} {s : Ms} (h : Good first s) {i : Nat} (hi : i < s.sides.length) (x : Ev) (hk : x.kind = 12 ∨ x.kind = 13 ∨ x.kind = 6 ∨ x.kind = 7 ∨ x.kind = 11) : Good first (s.note i x) := by
  refine h.note hi x (by omega) (by omega) ?_ ?_
  · show (if x.kind = 3 then _ else if x.kind = 4 then _ else if x.kind = 8 then _ else if x.kind = 1 then _ else _) = _
    rw [if_neg (by omega), if_neg (by omega), if_neg (by omega), if_neg (by omega)]
  · show (if x.kind = 3 then _ else if x.kind = 4 ∨ x.kind = 5 ∨ x.kind = 8 ∨ x.kind = 9 ∨ x.kind = 10 then _ else _) = _
    rw [if_neg (by omega), if_neg (by omega)]
/-- an event that finds the buffer empty -/
theorem Good.clear {first : List Int} {s : Ms} (h : Good first s) {i : Nat} (hi : i < s.sides.length) (hb : (s.side i).buf = []) (x : Ev) (hk : x.kind = 5 ∨ x.kind = 9 ∨ x.kind = 10) : Good first (s.note i x) := by
  refine h.note hi x (by omega) (by omega) ?_ ?_
  · show (if x.kind = 3 then _ else if x.kind = 4 then _ else if x.kind = 8 then _ else if x.kind = 1 then _ else _) = _
    rw [if_neg (by omega), if_neg (by omega), if_neg (by omega), if_neg (by omega)]
  · show (if x.kind = 3 then _ else if x.kind = 4 ∨ x.kind = 5 ∨ x.kind = 8 ∨ x.kind = 9 ∨ x.kind = 10 then (waitE (i : Int) s.evs).isEmpty else _) = _
    rw [if_neg (by omega), if_pos (by omega), h.noWait hi hb]; rfl

theorem setS_len (s : Ms) (i : Nat) (d : Sd) : (s.setS i d).sides.length = s.sides.length := by simp [Ms.setS]
theorem flush_len (s : Ms) (i : Nat) : (s.flush i).sides.length = s.sides.length := by
  unfold Ms.flush
  cases (s.side i).buf with
  | nil => rfl
  | cons x l => exact setS_len s i _
theorem flush_bufs {s : Ms} {i : Nat} (hi : i < s.sides.length) (j : Nat) : ((s.flush i).side j).buf = if j = i then (s.side j).buf.tail else (s.side j).buf := by
  unfold Ms.flush
  cases hb : (s.side i).buf with
  | nil =>
    show (s.side j).buf = _
    split
    · rename_i e; rw [e, hb]; rfl
    · rfl
  | cons x l =>
    show ((s.setB i l).side j).buf = _
    unfold Ms.setB
    rw [side_set hi]
    split
    · rename_i e; rw [e, hb]; rfl
    · rfl
theorem inR_of {a : Int} {n : Nat} (h : 0 ≤ a ∧ a < n) : inR a n = true := by simp [inR, h]
theorem Good.flush {first : List Int} {s : Ms} (h : Good first s) {i : Nat} (hi : i < s.sides.length) : Good first (s.flush i) := by
  have hbs := fun j => flush_bufs hi j
  have hfl := flush_len s i
  cases hb : (s.side i).buf with
  | nil =>
    have : s.flush i = s := by unfold Ms.flush; rw [hb]
    rw [this]; exact h
  | cons y l =>
    have e : s.flush i = ((s.setB i l).setM y.a y.v).note i ⟨3, 0, 0, y.a, y.v, 0, 0, false⟩ := by unfold Ms.flush; rw [hb]
    have hr := h.rng i hi y (by rw [hb]; exact List.mem_cons_self)
    have hw := h.buf i hi
    rw [hb] at hw
    rw [e] at hbs hfl ⊢
    refine h.add (i := i) (x := evOf ⟨3, 0, 0, y.a, y.v, 0, 0, false⟩ i) rfl rfl hfl ?_ ?_ (by show (s.mem.set _ _).length = _; simp) (fun e => by cases e) fun j hj => ?_
    · show (if inR y.a s.mem.length then some (s.mem.set y.a.toNat y.v) else none) = some (s.mem.set y.a.toNat y.v)
      rw [if_pos (inR_of hr)]
    · show (match waitE (i : Int) s.evs with | [] => false | z :: _ => z.addr == y.a && z.value == y.v) = true
      cases hz : waitE (i : Int) s.evs with
      | nil => rw [hz] at hw; cases hw
      | cons z r =>
        rw [hz] at hw
        have hzy : entE z = y := (List.cons.inj hw).1
        rw [← hzy]
        simp [entE]
    · rw [hbs j]; rfl
theorem drain_len (i : Nat) : ∀ (n : Nat) (s : Ms), (s.drain i n).sides.length = s.sides.length
  | 0, s => rfl
  | n + 1, s => (drain_len i n (s.flush i)).trans (flush_len s i)
theorem drain_bufs {i : Nat} (j : Nat) : ∀ (n : Nat) {s : Ms}, i < s.sides.length → ((s.drain i n).side j).buf = if j = i then (s.side j).buf.drop n else (s.side j).buf
  | 0, s, hi => by split <;> rfl
  | n + 1, s, hi => by
    show (((s.flush i).drain i n).side j).buf = _
    rw [drain_bufs j n (by rw [flush_len]; exact hi), flush_bufs hi]
    split
    · simp
    · rfl
theorem Good.drain {first : List Int} {i : Nat} : ∀ (n : Nat) {s : Ms}, Good first s → i < s.sides.length → Good first (s.drain i n)
  | 0, s, h, hi => h
  | n + 1, s, h, hi => (Good.drain n (h.flush hi) (by rw [flush_len]; exact hi) : Good first ((s.flush i).drain i n))
theorem rem1_len (s : Ms) (i : Nat) : (s.drain i (s.side i).buf.length).sides.length = s.sides.length := drain_len _ _ _
theorem Good.remF {first : List Int} : ∀ (l : List Nat) {s : Ms}, Good first s → (∀ i ∈ l, i < s.sides.length) →
    (Good first (l.foldl (fun s i => s.drain i (s.side i).buf.length) s) ∧ (l.foldl (fun s i => s.drain i (s.side i).buf.length) s).sides.length = s.sides.length)
      ∧ ∀ j, j < s.sides.length → ((s.side j).buf = [] ∨ j ∈ l) → ((l.foldl (fun s i => s.drain i (s.side i).buf.length) s).side j).buf = []
  | [], s, h, hl => ⟨⟨h, rfl⟩, fun j hj hb => by
    rcases hb with hb | hb
    · exact hb
    · cases hb⟩
  | i :: l, s, h, hl => by
    have hi := hl i List.mem_cons_self
    obtain ⟨⟨h1, h2⟩, h3⟩ := Good.remF l (h.drain (s.side i).buf.length hi) (fun j hj => by rw [drain_len]; exact hl j (List.mem_cons_of_mem _ hj))
    refine ⟨⟨h1, h2.trans (drain_len _ _ _)⟩, fun j hj hb => h3 j (by rw [drain_len]; exact hj) ?_⟩
    rw [drain_bufs j _ hi]
    by_cases hji : j = i
    · subst hji
      left; simp
    · rw [if_neg hji]
      rcases hb with hb | hb
      · exact .inl hb
      · exact .inr (by simpa [hji] using hb)
theorem Good.remote {first : List Int} {s : Ms} (h : Good first s) : (Good first s.remote ∧ s.remote.sides.length = s.sides.length) ∧ ∀ j, j < s.sides.length → (s.remote.side j).buf = [] := by
  obtain ⟨h1, h2⟩ := Good.remF (List.range s.sides.length) h (fun i hi => List.mem_range.1 hi)
  exact ⟨h1, fun j hj => h2 j hj (.inr (List.mem_range.2 hj))⟩
theorem rises {s : Ms} : ∀ (l : List Int) (s : Ms), (l.foldl Ms.rise s).evs = s.evs ∧ (l.foldl Ms.rise s).mem = s.mem ∧ (l.foldl Ms.rise s).sides.length = s.sides.length ∧ ∀ j, ((l.foldl Ms.rise s).side j).buf = (s.side j).buf
  | [], s => ⟨rfl, rfl, rfl, fun _ => rfl⟩
  | x :: l, s => by
    obtain ⟨h1, h2, h3, h4⟩ := rises (s := s) l (s.rise x)
    refine ⟨h1, h2, h3.trans (setS_len _ _ _), fun j => (h4 j).trans ?_⟩
    show ((s.setT x.toNat _).side j).buf = _
    unfold Ms.setT
    by_cases hx : x.toNat < s.sides.length
    · rw [side_set hx]
      split
      · rename_i e; rw [e]
      · rfl
    · unfold Ms.side Ms.setS
      rw [List.set_eq_of_length_le (by omega)]
theorem Good.setT {first : List Int} {s : Ms} (h : Good first s) {i : Nat} (hi : i < s.sides.length) (t : Th) : Good first (s.setT i t) := by
  refine h.same rfl rfl (setS_len _ _ _) fun j hj => ?_
  unfold Ms.setT
  rw [side_set hi]
  split
  · rename_i e; rw [e]
  · rfl
end Go.Proofs.YthbenfnanhpcoaaGreatDoor.Mc
