/-
  A builder in memory and what lies beside it: which of them are kept where the others change; strings appended to a row of one's own. No condition but what each law names.
-/
import Derived.Test.YtcfkcnkekdafgaaDoorBld5
import Derived.Test.YtcfkcnkekdafgaaDoorJoi
import Derived.Test.YtcfkcnkekdafgaaDoorRefs
import Derived.Maps.AppendAt
namespace Go.Proofs.YtcfkcnkekdafgaaDoor
open Go.ChangeShapes Go.WideShapes Go.ChangeAt Go.RowKit
set_option linter.unusedVariables false

theorem row_keepB {w w' : World} {B sz n : Nat} {t : TypeId} {v : Value} {xs : List Value} (h : w.ownsRow B t sz v n xs) (k : ∀ i, v.ownBlock = some i → w'.heap[i]? = w.heap[i]?) : w'.ownsRow B t sz v n xs := by
  refine ⟨h.1, ?_⟩
  rcases h.2 with h2 | ⟨g, cap, cur, rfl, hb, hg, rest⟩
  · exact .inl h2
  · exact .inr ⟨g, cap, cur, rfl, hb, (k g rfl).trans hg, rest⟩
theorem BRow.keepO {w w' : World} {own : Nat → Prop} {g : Nat} {vc vm vj : Value} {st : St} {wr : Bool} (h : BRow w own g vc vm vj st wr) (k : ∀ i, own i → w'.heap[i]? = w.heap[i]?) (hs : w.heap.size ≤ w'.heap.size) : BRow w' own g vc vm vj st wr := by
  refine ⟨(k g h.og).trans h.row, row_keepB h.oc fun i hi => k i (h.wc i hi), row_keepB h.oj fun i hi => k i (h.wj i hi), ?_, h.og, h.wc, h.wj, fun i hi => Nat.lt_of_lt_of_le (h.lt i hi) hs⟩
  rcases h.mp with h1 | ⟨m, h1, h2, h3⟩
  · exact .inl h1
  · exact .inr ⟨m, h1, h2.keep fun es c hb => (k m h3).trans hb, h3⟩
theorem BAt.keepO {w w' : World} {own : Nat → Prop} {g : Nat} {st : St} {wr : Bool} (h : BAt w own g st wr) (k : ∀ i, own i → w'.heap[i]? = w.heap[i]?) (hs : w.heap.size ≤ w'.heap.size) : BAt w' own g st wr := by
  obtain ⟨vc, vm, vj, h⟩ := h
  exact ⟨vc, vm, vj, h.keepO k hs⟩
theorem Ko.mapAt {own : Nat → Prop} {w w' : World} {m : Nat} {ns : List (Bs × Nat)} (k : Ko own w w') (h : MapAt w m ns) (hm : ¬ own m) : MapAt w' m ns :=
  h.keep fun es c hb => (k.block m (heap_lt hb) hm).trans hb
theorem Ko.row {own : Nat → Prop} {w w' : World} {B sz n : Nat} {t : TypeId} {v : Value} {xs : List Value} (k : Ko own w w') (h : w.ownsRow B t sz v n xs) (hv : ∀ i, v.ownBlock = some i → ¬ own i) : w'.ownsRow B t sz v n xs :=
  row_keepB h fun i hi => k.block i (h.lt i hi).2 (hv i hi)

theorem infoS3 : (Tryd.prog.info? 9).map (fun i => (i.zero, i.size, i.bytes)) = some (some (.string ⟨#[]⟩), 1, 16) := by kernel_rfl
/-- a row of strings of one's own -/
def Sown (w : World) (base : Nat) (v : Value) (l : List Bs) : Prop := w.ownsRow base 9 1 v l.length (strsV l)
theorem strs_one (l : List Bs) : ∀ u ∈ strsV l, u.oneCell' = true := by
  intro v hv
  obtain ⟨x, _, rfl⟩ := List.mem_map.1 hv
  rfl
/-- one string is appended -/
theorem app_str {w : World} {base : Nat} {v : Value} {xs : List Bs} (hown : Sown w base v xs) (s : Bs) (hn : xs.length ≤ 100000) (hb : base ≤ w.heap.size) :
    ∃ v' w', (Builtin.append_ #[37, 37] 37 #[v, .slice (some ⟨w.heap.size, 0, none⟩) 1 1]).run Tryd.prog (w.alloc (.cells #[.string ⟨s.toArray⟩] 9)) = .ok v' w' ∧ Sown w' base v' (xs ++ [s]) ∧ (w.alloc (.cells #[.string ⟨s.toArray⟩] 9)).grownBy w' v.ownBlock ∧ (v'.ownBlock = v.ownBlock ∨ v'.ownBlock = some (w.heap.size + 1)) := by
  unfold Sown at *
  obtain ⟨i, h1, h2, h3, h4⟩ := info_parts infoS3
  have hown' := own_gr hown ((Gr.refl w).alloc #[.string ⟨s.toArray⟩] 9)
  obtain ⟨v', w', hr, ho, hg, -, hx⟩ := run_append_own_at (P := Tryd.prog) (w.alloc (.cells #[.string ⟨s.toArray⟩] 9)) base 37 37 9 i (.string ⟨#[]⟩) 1 16 Tryd.underlying37 h1 h2 h3 h4 rfl (by omega) v _ _ hown' ⟨w.heap.size, 0, none⟩ 1 1 [.string ⟨s.toArray⟩] rfl (by
    intro j u hj
    have hj0 : j = 0 := by have := (List.getElem?_eq_some_iff.1 hj).1; simp at this; exact this
    subst hj0
    simp only [List.getElem?_cons_zero, Option.some.injEq] at hj
    subst hj
    rw [Addr.add_mid]
    simp) (by simp [Value.oneCell']) (by unfold maxLen; omega) (by omega) (by simp; omega)
  refine ⟨v', w', hr, ?_, hg, ?_⟩
  · have e : strsV (xs ++ [s]) = strsV xs ++ [.string ⟨s.toArray⟩] := by simp [strsV, strV]
    rw [e, List.length_append]
    exact ho
  · simpa using hx
/-- one instruction is appended -/
theorem app_ins {w : World} {base : Nat} {v : Value} {xs : List Ins} (hown : Iown w base v xs) (i : Ins) (hn : xs.length ≤ 100000) (hb : base ≤ w.heap.size) :
    ∃ v' w', (Builtin.append_ #[22, 22] 22 #[v, .slice (some ⟨w.heap.size, 0, none⟩) 1 1]).run Tryd.prog (w.alloc (.cells #[.int .i64 i.op, .int .i64 i.a, .int .i64 i.b, .int .i64 i.c, .int .u32 i.k] 28)) = .ok v' w' ∧ Iown w' base v' (xs ++ [i]) ∧ (w.alloc (.cells #[.int .i64 i.op, .int .i64 i.a, .int .i64 i.b, .int .i64 i.c, .int .u32 i.k] 28)).grownBy w' v.ownBlock ∧ (v'.ownBlock = v.ownBlock ∨ v'.ownBlock = some (w.heap.size + 1)) := by
  unfold Iown at *
  obtain ⟨inf, h1, h2, h3, h4⟩ := info_parts infoI3
  have hown' := own_gr hown ((Gr.refl w).alloc #[.int .i64 i.op, .int .i64 i.a, .int .i64 i.b, .int .i64 i.c, .int .u32 i.k] 28)
  obtain ⟨v', w', hr, ho, hg, -, hx⟩ := run_append_own_at (P := Tryd.prog) (w.alloc (.cells #[.int .i64 i.op, .int .i64 i.a, .int .i64 i.b, .int .i64 i.c, .int .u32 i.k] 28)) base 22 22 28 inf zInst 5 40 Tryd.underlying22 h1 h2 h3 h4 rfl (by omega) v _ _ hown' ⟨w.heap.size, 0, none⟩ 1 1 (flatI [i]) (flatI_length [i]) (by
    intro j u hj
    have hj5 : j < 5 := by have := (List.getElem?_eq_some_iff.1 hj).1; rw [flatI_length] at this; simpa using this
    rw [Addr.add_mid, Nat.zero_add, ← hj]
    rcases (by omega : j = 0 ∨ j = 1 ∨ j = 2 ∨ j = 3 ∨ j = 4) with rfl | rfl | rfl | rfl | rfl <;> simp [flatI]) (flatI_one [i]) (by unfold maxLen; omega) (by omega) (by simp; omega)
  refine ⟨v', w', hr, ?_, hg, ?_⟩
  · rw [flatI_append, List.length_append]
    exact ho
  · simpa using hx
end Go.Proofs.YtcfkcnkekdafgaaDoor

namespace Go.Proofs.YtcfkcnkekdafgaaDoor
open Go.ChangeShapes Go.WideShapes Go.ChangeAt Go.RowKit
set_option linter.unusedVariables false

/-- the builder in g (its blocks are own), the map m, the code at vw, the strings at vl, all new since w0 -/
structure BI (w0 : World) (g m : Nat) (st : St) (bad : Bool) (ns : List (Bs × Nat)) (cw : List Ins) (cl : List Bs) (own : Nat → Prop) (vw vl : Value) (wr : World) : Prop where
  b : BAt wr own g st bad
  mp : MapAt wr m ns
  wn : Iown wr w0.heap.size vw cw
  lk : Sown wr w0.heap.size vl cl
  gr : Gr w0 wr
  new : ∀ k, own k → w0.heap.size ≤ k
  mn : w0.heap.size ≤ m
  mo : ¬ own m
  wo : ∀ k, vw.ownBlock = some k → ¬ own k
  lo : ∀ k, vl.ownBlock = some k → ¬ own k

section
variable {w0 : World} {g m : Nat} {st st' : St} {bad bad' : Bool} {ns : List (Bs × Nat)} {cw : List Ins} {cl : List Bs} {own : Nat → Prop} {vw vl : Value} {wr w' : World}

theorem BI.m_lt (h : BI w0 g m st bad ns cw cl own vw vl wr) : m < wr.heap.size := by
  obtain ⟨es, c, hb⟩ := h.mp.map
  exact heap_lt hb
/-- memory grew -/
theorem BI.later (h : BI w0 g m st bad ns cw cl own vw vl wr) (k : Gr wr w') : BI w0 g m st bad ns cw cl own vw vl w' :=
  ⟨h.b.gr k, h.mp.keep fun es c hb => (k.block m (heap_lt hb)).trans hb, own_gr h.wn k, own_gr h.lk k, h.gr.trans k, h.new, h.mn, h.mo, h.wo, h.lo⟩
/-- a call of the builder -/
theorem BI.call (h : BI w0 g m st bad ns cw cl own vw vl wr) {e : Ending} (hb : BldP own g st' bad' wr e w') : e = .returned (.tuple #[]) ∧ ∃ own', BI w0 g m st' bad' ns cw cl own' vw vl w' := by
  obtain ⟨he, own', hB, hsub, hK⟩ := hb
  refine ⟨he, own', hB, hK.mapAt h.mp h.mo, hK.row h.wn h.wo, hK.row h.lk h.lo, hK.gr h.gr h.new, fun k hk => ?_, h.mn, fun hm => ?_, fun k hk hk' => ?_, fun k hk hk' => ?_⟩
  · rcases hsub k hk with h1 | h1
    · exact h.new k h1
    · exact Nat.le_trans h.gr.size h1
  · rcases hsub m hm with h1 | h1
    · exact h.mo h1
    · have := h.m_lt; omega
  · rcases hsub k hk' with h1 | h1
    · exact h.wo k hk h1
    · have := (World.ownsRow.lt h.wn k hk).2; omega
  · rcases hsub k hk' with h1 | h1
    · exact h.lo k hk h1
    · have := (World.ownsRow.lt h.lk k hk).2; omega
/-- blocks of cells of two types, or of a map, are apart -/
theorem cells_ne {w : World} {i k : Nat} {C D : Array Value} {t u : TypeId} (h1 : w.heap[i]? = some (.cells C t)) (h2 : w.heap[k]? = some (.cells D u)) (ht : t ≠ u) : i ≠ k := by
  rintro rfl
  have := Option.some.inj (h1.symm.trans h2)
  injection this with _ e _
  exact ht e
theorem own_blockI {w : World} {B sz n k : Nat} {t : TypeId} {v : Value} {xs : List Value} (h : w.ownsRow B t sz v n xs) (hk : v.ownBlock = some k) : ∃ cur, w.heap[k]? = some (.cells cur t) := by
  rcases h.2 with ⟨rfl, _⟩ | ⟨q, cap, cur, rfl, _, hq, _⟩
  · simp [Value.ownBlock] at hk
  · simp [Value.ownBlock] at hk
    subst hk
    exact ⟨cur, hq⟩
/-- an instruction is appended to the code -/
theorem BI.appW (h : BI w0 g m st bad ns cw cl own vw vl wr) (i : Ins) (hn : cw.length ≤ 1000) :
    ∃ v' w', (Builtin.append_ #[22, 22] 22 #[vw, .slice (some ⟨wr.heap.size, 0, none⟩) 1 1]).run Tryd.prog (wr.alloc (.cells #[.int .i64 i.op, .int .i64 i.a, .int .i64 i.b, .int .i64 i.c, .int .u32 i.k] 28)) = .ok v' w' ∧ BI w0 g m st bad ns (cw ++ [i]) cl own v' vl w' := by
  obtain ⟨v', w', hr, ho, hg, hx⟩ := app_ins h.wn i (by omega) h.gr.size
  have ga := (Gr.refl wr).alloc #[.int .i64 i.op, .int .i64 i.a, .int .i64 i.b, .int .i64 i.c, .int .u32 i.k] 28
  have h1 := h.later ga
  obtain ⟨vc, vm, vj, B0⟩ := h.b
  have keep : ∀ k, k < wr.heap.size → vw.ownBlock ≠ some k → w'.heap[k]? = (wr.alloc (.cells #[.int .i64 i.op, .int .i64 i.a, .int .i64 i.b, .int .i64 i.c, .int .u32 i.k] 28)).heap[k]? := fun k hk hne => hg.block k (Nat.lt_of_lt_of_le hk ga.size) (fun q => hne q.symm)
  refine ⟨v', w', hr, h1.b.keepO (fun k hk => keep k (B0.lt k hk) (fun q => h.wo k q hk)) hg.size, ?_, ho, ?_, ?_, h.new, h.mn, h.mo, ?_, h.lo⟩
  · refine h1.mp.keep fun es c hb => (keep m h.m_lt (fun q => ?_)).trans hb
    obtain ⟨cur, hc⟩ := own_blockI h1.wn q
    rw [hc] at hb
    cases hb
  · refine row_keepB h1.lk fun k hk => keep k (World.ownsRow.lt h.lk k hk).2 (fun q => ?_)
    obtain ⟨cur, hc⟩ := own_blockI h1.wn q
    obtain ⟨cur', hc'⟩ := own_blockI h1.lk hk
    exact cells_ne hc hc' (by decide) rfl
  · exact Below.grown h1.gr hg h1.gr.size (fun k hk => (World.ownsRow.lt h.wn k hk).1)
  · intro k hk hk'
    rcases hx with hx | hx
    · exact h.wo k (by rw [← hx]; exact hk) hk'
    · rw [hx] at hk
      have := B0.lt k hk'
      simp only [Option.some.injEq] at hk
      omega
/-- a string is appended to the strings -/
theorem BI.appL (h : BI w0 g m st bad ns cw cl own vw vl wr) (s : Bs) (hn : cl.length ≤ 1000) :
    ∃ v' w', (Builtin.append_ #[37, 37] 37 #[vl, .slice (some ⟨wr.heap.size, 0, none⟩) 1 1]).run Tryd.prog (wr.alloc (.cells #[.string ⟨s.toArray⟩] 9)) = .ok v' w' ∧ BI w0 g m st bad ns cw (cl ++ [s]) own vw v' w' := by
  obtain ⟨v', w', hr, ho, hg, hx⟩ := app_str h.lk s (by omega) h.gr.size
  have ga := (Gr.refl wr).alloc #[.string ⟨s.toArray⟩] 9
  have h1 := h.later ga
  obtain ⟨vc, vm, vj, B0⟩ := h.b
  have keep : ∀ k, k < wr.heap.size → vl.ownBlock ≠ some k → w'.heap[k]? = (wr.alloc (.cells #[.string ⟨s.toArray⟩] 9)).heap[k]? := fun k hk hne => hg.block k (Nat.lt_of_lt_of_le hk ga.size) (fun q => hne q.symm)
  refine ⟨v', w', hr, h1.b.keepO (fun k hk => keep k (B0.lt k hk) (fun q => h.lo k q hk)) hg.size, ?_, ?_, ho, ?_, h.new, h.mn, h.mo, h.wo, ?_⟩
  · refine h1.mp.keep fun es c hb => (keep m h.m_lt (fun q => ?_)).trans hb
    obtain ⟨cur, hc⟩ := own_blockI h1.lk q
    rw [hc] at hb
    cases hb
  · refine row_keepB h1.wn fun k hk => keep k (World.ownsRow.lt h.wn k hk).2 (fun q => ?_)
    obtain ⟨cur, hc⟩ := own_blockI h1.lk q
    obtain ⟨cur', hc'⟩ := own_blockI h1.wn hk
    exact cells_ne hc hc' (by decide) rfl
  · exact Below.grown h1.gr hg h1.gr.size (fun k hk => (World.ownsRow.lt h.lk k hk).1)
  · intro k hk hk'
    rcases hx with hx | hx
    · exact h.lo k (by rw [← hx]; exact hk) hk'
    · rw [hx] at hk
      have := B0.lt k hk'
      simp only [Option.some.injEq] at hk
      omega
/-- a place is put into the map -/
theorem BI.put (h : BI w0 g m st bad ns cw cl own vw vl wr) (s : Bs) (hs : s.length ≤ 9223372036854775807) (hl : look ns s = none) (p : Nat) (hp : p ≤ 2147483648) (hn : ns.length ≤ 2147483648) :
    ∃ w', (Instr.mapUpdate 38 (.map (some m)) (.string ⟨s.toArray⟩) (.int .i64 p)).run Tryd.prog wr = .ok () w' ∧ BI w0 g m st bad (ns ++ [(s, p)]) cw cl own vw vl w' := by
  obtain ⟨D, hD, hd1, hd2⟩ := id h.mp
  obtain ⟨w2, hup, hD2, hgr⟩ := hD.update (t := 38) (val := .int .i64 p) keyed9 Tryd.underlying38 (by unfold maxLen; omega) (key_of s hs) (plainElem_int Tryd.underlying3 (wf64b p hp))
  have HM := mapAt_put s p hl hD2 hD.isMap hd1 hd2
  obtain ⟨es, ck, hmap⟩ := h.mp.map
  have keep : ∀ k, k < wr.heap.size → k ≠ m → w2.heap[k]? = wr.heap[k]? := fun i hi hne => hgr.block i hi (by simp; exact hne)
  obtain ⟨vc, vm, vj, B0⟩ := h.b
  refine ⟨w2, hup, h.b.keepO (fun k hk => keep k (B0.lt k hk) (fun q => h.mo (by rw [← q]; exact hk))) hgr.size, HM, ?_, ?_, ?_, h.new, h.mn, h.mo, h.wo, h.lo⟩
  · refine row_keepB h.wn fun k hk => keep k (World.ownsRow.lt h.wn k hk).2 (fun q => ?_)
    obtain ⟨cur, hc⟩ := own_blockI h.wn hk
    rw [q, hmap] at hc
    cases hc
  · refine row_keepB h.lk fun k hk => keep k (World.ownsRow.lt h.lk k hk).2 (fun q => ?_)
    obtain ⟨cur, hc⟩ := own_blockI h.lk hk
    rw [q, hmap] at hc
    cases hc
  · exact Below.grown h.gr hgr h.gr.size (fun k hk => by simp at hk; have := h.mn; omega)
/-- K of an instruction of the code is set -/
theorem BI.setW {cb cc : Nat} (h : BI w0 g m st bad ns cw cl own (.slice (some ⟨cb, 0, none⟩) cw.length cc) vl wr) {n : Nat} {i : Ins} (hi : cw[n]? = some i) (k : Int) :
    BI w0 g m st bad ns (setK cw n k) cl own (.slice (some ⟨cb, 0, none⟩) cw.length cc) vl (wr.setCell ⟨cb, n * 5 + 4, none⟩ (.int .u32 k)) := by
  have hcb : w0.heap.size ≤ cb := (World.ownsRow.lt h.wn cb rfl).1
  obtain ⟨cur, hcur⟩ := own_blockI h.wn (k := cb) rfl
  have hnl : n < cw.length := (List.getElem?_eq_some_iff.1 hi).1
  have keep : ∀ q, q ≠ cb → (wr.setCell ⟨cb, n * 5 + 4, none⟩ (.int .u32 k)).heap[q]? = wr.heap[q]? := fun q hq => Below.heap_setCell _ _ _ _ hq
  have hsz : (wr.setCell ⟨cb, n * 5 + 4, none⟩ (.int .u32 k)).heap.size = wr.heap.size := by simp [World.setCell]
  have hos := own_set (xs := codeV cw) h.wn (n * 5 + 4) (by rw [codeV_len]; omega) (.int .u32 k)
  rw [codeV_set cw n i k hi, ← setK_eq cw n i k hi] at hos
  refine ⟨h.b.keepO (fun q hq => keep q (fun e => h.wo cb rfl (by rw [← e]; exact hq))) (by omega), ?_, ?_, ?_, h.gr.setCell hcb _, h.new, h.mn, h.mo, h.wo, h.lo⟩
  · refine h.mp.keep fun es c hb => (keep m (fun e => ?_)).trans hb
    rw [e, hcur] at hb
    cases hb
  · have e : (setK cw n k).length = cw.length := by unfold setK; rw [List.length_set]
    unfold Iown
    rw [e]
    exact hos
  · refine row_keepB h.lk fun q hq => keep q (fun e => ?_)
    obtain ⟨cur', hc'⟩ := own_blockI h.lk hq
    rw [e] at hc'
    exact cells_ne hcur hc' (by decide) rfl
end
end Go.Proofs.YtcfkcnkekdafgaaDoor
