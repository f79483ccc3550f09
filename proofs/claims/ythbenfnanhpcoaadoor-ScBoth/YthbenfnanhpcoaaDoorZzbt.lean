/-
  What Small answers of any program: yes or no. No condition but what each law names.
-/
import Derived.Test.YthbenfnanhpcoaaDoorZzbjChk
import Derived.Deep.CutBlock
import Derived.Deep.LoopGhost
import Derived.Test.YthbenfnanhpcoaaDoorZzas
import Derived.Test.YthbenfnanhpcoaaDoorZzbgPSee
namespace Go.Proofs.YthbenfnanhpcoaaDoor.Mc
open Go.ChangeShapes Go.WideShapes Go.ChangeAt Go.RowKit
set_option linter.unusedVariables false
set_option maxRecDepth 20000

/-- yes or no -/
def YesNo (w : World) (r : Ending) (w' : World) : Prop := (∃ b, r = .returned (.bool b)) ∧ Gr w w'
set_option maxHeartbeats 1000000 in
theorem small_calls (p : Pgm) (hp : p.codes.length ≤ maxLen) (w : World) (h : PgAt p w) : Calls Tryd.prog 9 #[.agg (pgA p), .int .i64 400] w (YesNo w) := by
  have g0 := (Gr.refl w).alloc (pgA p) 25
  have hb := Has.new w (pgA p) 25
  have HH := hide h
  have hml : (p.codes.length : Int) ≤ 9223372036854775807 := by unfold maxLen at hp; omega
  clear h hp
  go_enter Tryd.func9, Tryd.ntmps9
  go_upto_region 1 with (fail)
  change Code.wp _ _ _ _ (w.alloc (.cells (pgA p) 25))
  generalize w.alloc (.cells (pgA p) 25) = w1 at g0 hb ⊢
  have d0 := hb.cell (o := 0) (v := .slice p.ca p.codes.length p.cc) rfl
  have d1 := hb.cell (o := 1) (v := .slice p.ma p.mem.length p.mc) rfl
  have q1 := HH.out.later g0
  have GG := hide g0
  go_wp2_with (fail)
  go_loopw [5, 6] (fun v u wr => ∃ j n : Nat, j ≤ p.codes.length ∧ n ≤ 801 ∧ v = .int .i64 n ∧ u = .int .i64 j ∧ wr = w1) (fun _ u _ => p.codes.length - (intOf u).toNat)
  case atStart => exact ⟨0, 0, by omega, by omega, rfl, rfl, rfl⟩
  case round =>
    obtain ⟨j, n, hj, hn, rfl, rfl, rfl⟩ := hrel
    have d0 := hb.cell (o := 0) (v := .slice p.ca p.codes.length p.cc) rfl
    have d1 := hb.cell (o := 1) (v := .slice p.ma p.mem.length p.mc) rfl
    by_cases hlt : j < p.codes.length
    · have hlt' : (j : Int) < p.codes.length := by omega
      by_cases hn4 : n ≤ 400
      · have hn4' : (n : Int) ≤ 400 := by omega
        have rw1 := q1.row
        obtain ⟨b, off, had, -⟩ := rw1.get (by rw [flatOf_length codeV_len]; omega)
        rw [had] at rw1 d0
        have c0 := rw1.cell codeV_len hlt cd0 0 (by omega)
        generalize p.codes.getD j cd0 = x at c0
        simp only [codeV, List.getElem?_cons_zero, Nat.add_zero, Nat.mul_one] at c0
        clear rw1
        by_cases h4 : 401 < x.l.length
        · have h4' : (401 : Int) < x.l.length := by omega
          go_wp2_with (fail)
          exact ⟨⟨j + 1, n + 401, by omega, by omega, by go_num, by go_num, trivial⟩, by simp [intOf]; omega⟩
        · have h4' : ¬ (401 : Int) < x.l.length := by omega
          go_wp2_with (fail)
          exact ⟨⟨j + 1, n + x.l.length, by omega, by omega, by go_num, by go_num, trivial⟩, by simp [intOf]; omega⟩
      · have hn4' : ¬ (n : Int) ≤ 400 := by omega
        go_wp2_with (fail)
        go_ret
        exact ⟨⟨_, rfl⟩, GG.out⟩
    · have hlt' : ¬ (j : Int) < p.codes.length := by omega
      by_cases hn4 : n ≤ 400
      · have hn4' : (n : Int) ≤ 400 := by omega
        by_cases hm : p.mem.length ≤ 2000
        · have hm' : (p.mem.length : Int) ≤ 2000 := by omega
          by_cases hc : p.codes.length ≤ 100
          · have hc' : (p.codes.length : Int) ≤ 100 := by omega
            go_wp2_with (fail)
            go_ret
            exact ⟨⟨_, rfl⟩, GG.out⟩
          · have hc' : ¬ (p.codes.length : Int) ≤ 100 := by omega
            go_wp2_with (fail)
            go_ret
            exact ⟨⟨_, rfl⟩, GG.out⟩
        · have hm' : ¬ (p.mem.length : Int) ≤ 2000 := by omega
          go_wp2_with (fail)
          go_ret
          exact ⟨⟨_, rfl⟩, GG.out⟩
      · have hn4' : ¬ (n : Int) ≤ 400 := by omega
        go_wp2_with (fail)
        go_ret
        exact ⟨⟨_, rfl⟩, GG.out⟩
end Go.Proofs.YthbenfnanhpcoaaDoor.Mc

namespace Go.Proofs.YthbenfnanhpcoaaDoor.Mc
open Go.ChangeShapes Go.WideShapes Go.ChangeAt Go.RowKit
set_option linter.unusedVariables false
set_option maxRecDepth 20000

def SubO (w : World) (base : Nat) (v : Value) (l : List Ev) : Prop :=
  (v = .slice none 0 0 ∧ l = []) ∨ ∃ g off cap cur, (v = .slice (some ⟨g, off, none⟩) l.length cap ∧ base ≤ g) ∧ (Has w g cur 78 ∧ l.length ≤ cap ∧ cap ≤ maxLen) ∧ off + cap * 8 ≤ cur.size ∧ ∀ j, j < l.length * 8 → cur[off + j]? = (flatOf evL l)[j]?
theorem SubO.nil (w : World) (base : Nat) : SubO w base (.slice none 0 0) [] := .inl ⟨rfl, rfl⟩
theorem SubO.later {w w' : World} {base : Nat} {v : Value} {l : List Ev} (h : SubO w base v l) (g : Gr w w') : SubO w' base v l := by
  rcases h with h | ⟨b, off, cap, cur, h1, ⟨h2, h3⟩, h4⟩
  · exact .inl h
  · exact .inr ⟨b, off, cap, cur, h1, ⟨h2.later g, h3⟩, h4⟩
theorem SubO.len {w : World} {base : Nat} {v : Value} {l : List Ev} (h : SubO w base v l) : ∃ a c, v = .slice a l.length c := by
  rcases h with ⟨rfl, rfl⟩ | ⟨b, off, cap, cur, ⟨rfl, -⟩, -⟩
  · exact ⟨none, 0, rfl⟩
  · exact ⟨_, _, rfl⟩
theorem SubO.row {w : World} {base : Nat} {v : Value} {l : List Ev} (h : SubO w base v l) : ∃ a c, v = .slice a l.length c ∧ RowAt w a (flatOf evL l) := by
  rcases h with ⟨rfl, rfl⟩ | ⟨b, off, cap, cur, ⟨rfl, -⟩, ⟨h2, h3⟩, h4, h5⟩
  · exact ⟨none, 0, rfl, .inl rfl⟩
  · refine ⟨_, _, rfl, .inr ⟨b, off, rfl, fun j hj => ?_⟩⟩
    rw [flatOf_length evL_len] at hj
    exact (cell_of_row w b (off + j) cur 78 (0, 0) h2).trans (h5 j hj)
theorem run_room_off {w : World} (t ty e : TypeId) (i : TypeInfo) (ht : Tryd.prog.underlying t = some (.slice e)) (hi : Tryd.prog.info? e = some i)
    (g off sLen sCap : Nat) (cur : Array Value) (hg : w.heap[g]? = some (.cells cur e (0, 0)))
    (a : Addr) (m c : Nat) (news : List Value) (hl : news.length = m * i.size) (hnews : ∀ j u, news[j]? = some u → w.cell? (a.add j) = some u) (h1 : ∀ u ∈ news, u.oneCell' = true)
    (hroom : sLen + m ≤ sCap) (hfit : off + sLen * i.size + news.length ≤ cur.size) :
    (Builtin.append_ #[t, t] ty #[.slice (some ⟨g, off, none⟩) sLen sCap, .slice (some a) m c]).run Tryd.prog w =
      .ok (.slice (some ⟨g, off, none⟩) (sLen + m) sCap) (w.setRow g (cur.toList.take (off + sLen * i.size) ++ news ++ cur.toList.drop (off + sLen * i.size + news.length)).toArray) := by
  have hf := run_firstCells_some (P := Tryd.prog) w i.size m a m c news hl hnews
  have hst := run_storeCells_at Tryd.prog g (off + sLen * i.size) e news 0 cur w hg (by simpa using hfit) h1
  simp only [Nat.add_zero] at hst
  simp [Builtin.append_, run_underlying ht, sizeOf, typeInfo, hi, Builtin.lenOf, hroom, hf, Addr.add_mid, hst]
/-- an event is appended -/
theorem app_sub {w : World} {base : Nat} {v : Value} {l : List Ev} (h : SubO w base v l) (x : Ev) (hn : l.length ≤ 100000) (w0 : World) (g0 : Gr w0 w) (hb : w0.heap.size = base) (ty : TypeId) :
    ∃ v' w', (Builtin.append_ #[35, 35] ty #[v, .slice (some ⟨w.heap.size, 0, none⟩) 1 1]).run Tryd.prog (w.alloc (.cells (evA x) 78)) = .ok v' w' ∧ SubO w' base v' (l ++ [x]) ∧ Gr w0 w' := by
  subst hb
  have hx : Has (w.alloc (.cells (evA x) 78)) w.heap.size (evA x) 78 := Has.new w _ _
  have ga := g0.alloc (evA x) 78
  have hsz := g0.size
  have hxn : ∀ j u, (evL x)[j]? = some u → (w.alloc (.cells (evA x) 78)).cell? ((⟨w.heap.size, 0, none⟩ : Addr).add j) = some u := by
    intro j u hu
    rw [Addr.add_mid, Nat.zero_add]
    refine hx.cell ?_
    rw [show evA x = (evL x).toArray from rfl, List.getElem?_toArray]
    exact hu
  obtain ⟨i, h1, h2, h3, h4⟩ := info_parts infoEv
  rcases h with ⟨rfl, rfl⟩ | ⟨g, off, cap, cur, ⟨rfl, hg⟩, ⟨hC, hlc, hcm⟩, hfit, hcur⟩
  · obtain ⟨v', w', q1, q2, q3, -⟩ := app_rec (ty := ty) evL_len evL_one (T := 35) Tryd.underlying35 infoEv (by decide) (by decide) (by decide) (show w.ownsRow w0.heap.size 78 8 (.slice none 0 0) ([] : List Ev).length (flatOf evL []) from own_nil w w0.heap.size 8 78) x (evA x) rfl (Nat.zero_le _) hsz
    refine ⟨v', w', q1, ?_, grown_gr ga (own_later (own_nil w w0.heap.size 8 78) ((Gr.refl w).alloc _ _)) q3 (Nat.le_refl _)⟩
    rcases q2.2 with ⟨_, h0⟩ | ⟨g, cap, cur, rfl, hb, hg, hnc, hcm, hcs, htk⟩
    · simp at h0
    · refine .inr ⟨g, 0, cap, cur, ⟨rfl, hb⟩, ⟨hg, hnc, hcm⟩, by omega, fun j hj => ?_⟩
      rw [← htk, List.getElem?_take, if_pos hj]
      simp
  · have hC1 := hC.later ((Gr.refl w).alloc (evA x) 78)
    by_cases hroom : l.length + 1 ≤ cap
    · have hr := run_room_off 35 ty 78 i Tryd.underlying35 h1 g off l.length cap cur hC1 ⟨w.heap.size, 0, none⟩ 1 1 (evL x) (by rw [h3]; rfl) hxn (evL_one x) hroom (by rw [h3]; show _ + 8 ≤ _; omega)
      rw [h3] at hr
      refine ⟨_, _, hr, .inr ⟨g, off, cap, _, ⟨by rw [List.length_append]; rfl, hg⟩, ⟨hC1.row _, by rw [List.length_append]; exact hroom, hcm⟩, ?_, fun j hj => ?_⟩, ga.setRow hg _⟩
      · simp only [List.size_toArray, List.length_append, List.length_take, List.length_drop, Array.length_toList]
        have : (evL x).length = 8 := rfl
        have h8 : l.length * 8 + 8 ≤ cap * 8 := by omega
        omega
      · rw [List.length_append] at hj
        have hj' : j < l.length * 8 + 8 := by simp at hj; omega
        have hll : (flatOf evL l).length = l.length * 8 := flatOf_length evL_len l
        have htl : (cur.toList.take (off + l.length * 8)).length = off + l.length * 8 := by
          have h9 : l.length * 8 ≤ cap * 8 := Nat.mul_le_mul_right 8 (by omega)
          rw [List.length_take, Array.length_toList (xs := cur), Nat.min_eq_left (by clear hj hj' hr hcur; omega)]
        rw [List.getElem?_toArray, flatOf_append, List.append_assoc]
        by_cases hlt : j < l.length * 8
        · rw [List.getElem?_append_left (by omega), List.getElem?_append_left (by omega), List.getElem?_take, if_pos (by omega), ← hcur j hlt]
          simp
        · have e1 : ∀ A B C : List Value, A.length = off + l.length * 8 → B.length = 8 → (A ++ (B ++ C))[off + j]? = B[j - l.length * 8]? := by
            intro A B C hA hB
            rw [List.getElem?_append_right (by omega), List.getElem?_append_left (by omega)]
            congr 1
            omega
          have e2 : (flatOf evL l ++ flatOf evL [x])[j]? = (evL x)[j - l.length * 8]? := by
            rw [List.getElem?_append_right (by omega), hll]
            simp [flatOf]
          rw [e1 _ _ _ htl rfl, e2]
    · have hcl : cap = l.length := by omega
      have holds : ∀ j u, (flatOf evL l)[j]? = some u → (w.alloc (.cells (evA x) 78)).cell? ((⟨g, off, none⟩ : Addr).add j) = some u := by
        intro j u hu
        rw [Addr.add_mid]
        refine hC1.cell ?_
        rw [hcur j (by have := (List.getElem?_eq_some_iff.1 hu).1; rw [flatOf_length evL_len] at this; exact this)]
        exact hu
      have hr := run_append_grow (P := Tryd.prog) (w.alloc (.cells (evA x) 78)) 35 ty 78 i _ Tryd.underlying35 h1 h2 ⟨g, off, none⟩ l.length cap (flatOf evL l) (by rw [h3]; exact flatOf_length evL_len l) holds ⟨w.heap.size, 0, none⟩ 1 1 (evL x) (by rw [h3]; rfl) hxn (by omega) (by omega) (growslice_fits (by omega) (by rw [h4]; omega))
      have hge := grownCap_ge (w.alloc (.cells (evA x) 78)) (l.length + 1) cap 78
      have hcm' : grownCap (w.alloc (.cells (evA x) 78)) (l.length + 1) cap 78 ≤ maxLen := grownCap_le_maxLen _ _ _ _ (by unfold maxLen; omega)
      generalize grownCap (w.alloc (.cells (evA x) 78)) (l.length + 1) cap 78 = gc at hr hge hcm'
      have hn' := Has.new (w.alloc (.cells (evA x) 78)).drew ((flatOf evL l).toArray ++ (evL x).toArray ++ Builtin.zeroCells (Value.cells (.agg #[.int .i64 0, .int .i64 0, .int .i64 0, .int .i64 0, .int .u32 0, .int .u32 0, .int .u32 0, .bool false])) (gc - (l.length + 1))) 78
      have hz : (w.alloc (.cells (evA x) 78)).heap.size = w.heap.size + 1 := by simp
      refine ⟨_, _, hr, .inr ⟨(w.alloc (.cells (evA x) 78)).heap.size, 0, gc, _, ⟨by rw [List.length_append]; rfl, by omega⟩, ⟨hn', by rw [List.length_append]; exact hge, hcm'⟩, ?_, fun j hj => ?_⟩, ga.drew.alloc _ _⟩
      · simp only [Array.size_append, List.size_toArray, size_zeroCells, flatOf_length evL_len]
        show 0 + gc * 8 ≤ l.length * 8 + 8 + (gc - (l.length + 1)) * 8
        omega
      · rw [List.length_append] at hj
        have hj' : j < l.length * 8 + 8 := by simp at hj; omega
        have e : (flatOf evL l).toArray ++ (evL x).toArray = (flatOf evL (l ++ [x])).toArray := by rw [flatOf_append]; simp [flatOf]
        rw [e, Nat.zero_add, Array.getElem?_append_left (by rw [List.size_toArray, flatOf_length evL_len, List.length_append]; simp; omega)]
        simp
/-- the first one is left out -/
theorem SubO.tail {w : World} {base g off cap : Nat} {x : Ev} {l : List Ev} (h : SubO w base (.slice (some ⟨g, off, none⟩) (l.length + 1) cap) (x :: l)) : SubO w base (.slice (some ⟨g, off + 8, none⟩) l.length (cap - 1)) l := by
  rcases h with ⟨h, -⟩ | ⟨g', off', cap', cur, ⟨h1, h2⟩, ⟨h3, h4, h5⟩, h6, h7⟩
  · cases h
  · cases h1
    rw [List.length_cons] at h4 h7
    refine .inr ⟨g, off + 8, cap - 1, cur, ⟨rfl, h2⟩, ⟨h3, by omega, by omega⟩, by omega, fun j hj => ?_⟩
    have := h7 (8 + j) (by omega)
    rw [← Nat.add_assoc] at this
    rw [this, flatOf_cons, List.getElem?_append_right (by show 8 ≤ _; omega)]
    show (flatOf evL l)[8 + j - 8]? = _
    rw [Nat.add_sub_cancel_left]
theorem SubO.tail' {w : World} {base g off cap : Nat} {x : Ev} {l : List Ev} (h : SubO w base (.slice (some ⟨g, off, none⟩) (l.length + 1) cap) (x :: l)) : SubO w base (.slice (if cap = 1 then some ⟨g, off, none⟩ else some ⟨g, off + 8, none⟩) l.length (cap - 1)) l := by
  by_cases hc : cap = 1
  · subst hc
    rw [if_pos rfl]
    rcases h with ⟨h, -⟩ | ⟨g', off', cap', cur, ⟨h1, h2⟩, ⟨h3, h4, h5⟩, h6, h7⟩
    · cases h
    · cases h1
      have hl : l = [] := List.eq_nil_of_length_eq_zero (by rw [List.length_cons] at h4; omega)
      subst hl
      exact .inr ⟨g, off, 0, cur, ⟨rfl, h2⟩, ⟨h3, Nat.le_refl _, Nat.zero_le _⟩, by omega, fun j hj => by simp at hj⟩
  · rw [if_neg hc]
    exact h.tail
end Go.Proofs.YthbenfnanhpcoaaDoor.Mc
