/-
  What it is that a value is a program in memory; that what the reader has gathered is one. Worlds and lists alone: no condition on inputs.
-/
import Derived.Test.YthooopcoemdphaaDoorPgm2
namespace Go.Proofs.YthooopcoemdphaaDoor
open Go.ChangeShapes Go.WideShapes Go.ChangeAt Go.RowKit Go.Deep
set_option linter.unusedVariables false

/-- a slice of words lies where its address says -/
def MemAt (w : World) (a : Option Addr) (m : List Int) : Prop :=
  m.length ≤ maxLen ∧ (m = [] ∨ ∃ b off, a = some ⟨b, off, none⟩ ∧ ∀ j x, m[j]? = some x → w.cell? ⟨b, off + j, none⟩ = some (.int .u32 x)) ∧ ∀ x ∈ m, 0 ≤ x ∧ x < 4294967296
theorem MemAt.later {w w' : World} {a : Option Addr} {m : List Int} (h : MemAt w a m) (g : Gr w w') : MemAt w' a m := by
  refine ⟨h.1, ?_, h.2.2⟩
  rcases h.2.1 with h0 | ⟨b, off, ha, hc⟩
  · exact .inl h0
  · exact .inr ⟨b, off, ha, fun j x hx => cell_later g (hc j x hx)⟩
/-- a value is a program -/
def ProgAt (w : World) (v : Value) (p : Pg) : Prop :=
  ∃ a cap A C ma mc, v = progV a p.codes.length cap ma p.mem.length mc p.room ∧ CodeRow w a p.codes.length A p.L C p.F ∧ MemAt w ma p.mem
theorem ProgAt.later {w w' : World} {v : Value} {p : Pg} (h : ProgAt w v p) (g : Gr w w') : ProgAt w' v p := by
  obtain ⟨a, cap, A, C, ma, mc, hv, hc, hm⟩ := h
  exact ⟨a, cap, A, C, ma, mc, hv, hc.later g, hm.later g⟩
theorem progAt_nil (w : World) : ProgAt w (.agg #[.slice none 0 0, .slice none 0 0, .int .i64 0]) pg0 :=
  ⟨none, 0, fun _ => none, fun _ => 0, none, 0, rfl, ⟨Nat.zero_le _, .inl rfl⟩, ⟨Nat.zero_le _, .inl rfl, by intro x hx; simp [pg0] at hx⟩⟩

theorem vals_at (c : List Ins) (i t : Nat) (ht : t < 5) (hi : i < c.length) : (c.flatMap Ins.vals)[i * 5 + t]? = (Ins.vals (c.getD i ins0))[t]? := by
  induction c generalizing i with
  | nil => simp at hi
  | cons x c ih =>
    rw [List.flatMap_cons]
    cases i with
    | zero =>
      rw [List.getElem?_append_left (by simp [Ins.vals]; omega)]
      simp
    | succ i =>
      rw [List.getElem?_append_right (by simp [Ins.vals]; omega)]
      have e : (i + 1) * 5 + t - (Ins.vals x).length = i * 5 + t := by simp [Ins.vals]; omega
      rw [e, ih i (by simpa using hi)]
      rfl
theorem own_insrow {w : World} {B : Nat} {v : Value} {c : List Ins} (h : w.ownsRow B 47 5 v c.length (c.flatMap Ins.vals)) (hok : ∀ i ∈ c, i.ok) (hl : c.length ≤ 65536) :
    ∃ a cap, v = .slice a c.length cap ∧ InsRow w a c.length (fun i => c.getD i ins0) := by
  rcases h.2 with ⟨rfl, h0⟩ | ⟨g, cap, cur, rfl, _, hg, h1, h2, _, _⟩
  · exact ⟨none, 0, by rw [h0], by unfold maxLen; omega, .inl h0⟩
  · refine ⟨_, cap, rfl, by unfold maxLen; omega, .inr ⟨g, 0, rfl, fun i hi => ?_⟩⟩
    have cell : ∀ t u, t < 5 → (Ins.vals (c.getD i ins0))[t]? = some u → w.cell? ⟨g, 0 + (i * 5 + t), none⟩ = some u := by
      intro t u ht hu
      have := World.ownsRow.cells h (g := g) rfl (i * 5 + t) u (by rw [vals_at c i t ht hi]; exact hu)
      rw [Addr.add_mid] at this
      exact this
    have hc : (c.getD i ins0).ok := by
      rw [List.getD_eq_getElem?_getD, List.getElem?_eq_getElem hi]
      exact hok _ (List.getElem_mem hi)
    refine ⟨⟨?_, ?_, ?_, ?_, ?_⟩, hc⟩
    · have := cell 0 _ (by omega) rfl; simpa using this
    · have := cell 1 _ (by omega) rfl; simpa [Nat.add_assoc] using this
    · have := cell 2 _ (by omega) rfl; simpa [Nat.add_assoc] using this
    · have := cell 3 _ (by omega) rfl; simpa [Nat.add_assoc] using this
    · have := cell 4 _ (by omega) rfl; simpa [Nat.add_assoc] using this
theorem own_mem {w : World} {B : Nat} {v : Value} {m : List Int} (h : w.ownsRow B 45 1 v m.length (m.map (Value.int .u32))) (hm : m.length ≤ maxLen) (hb : ∀ x ∈ m, 0 ≤ x ∧ x < 4294967296) : ∃ a cap, v = .slice a m.length cap ∧ MemAt w a m := by
  rcases h.2 with ⟨rfl, h0⟩ | ⟨g, cap, cur, rfl, _, hg, h1, h2, _, _⟩
  · exact ⟨none, 0, by rw [h0], hm, .inl (List.eq_nil_of_length_eq_zero h0), hb⟩
  · refine ⟨_, cap, rfl, hm, .inr ⟨g, 0, rfl, fun j x hx => ?_⟩, hb⟩
    have := World.ownsRow.cells h (g := g) rfl j (.int .u32 x) (by rw [List.getElem?_map, hx]; rfl)
    rw [Addr.add_mid] at this
    exact this
theorem own_codes {w : World} {B : Nat} {v : Value} {vs : List Value} {cs : List (List Ins)} (h : w.ownsRow B 55 1 v vs.length vs) (hr : CRows w B vs cs) (hl : vs.length ≤ 255) (m : List Int) (room : Int) :
    ∃ a cap A C, v = .slice a cs.length cap ∧ CodeRow w a cs.length A (Pg.L ⟨cs, m, room⟩) C (Pg.F ⟨cs, m, room⟩) := by
  have each : ∀ r, r < cs.length → ∃ y : Option Addr × Nat, vs[r]? = some (.slice y.1 (cs.getD r []).length y.2) ∧ InsRow w y.1 (cs.getD r []).length (fun i => (cs.getD r []).getD i ins0) := by
    intro r hr'
    have h1 : vs[r]? = some (vs[r]'(by rw [hr.1]; exact hr')) := List.getElem?_eq_getElem _
    have h2 : cs[r]? = some (cs.getD r []) := by rw [List.getD_eq_getElem?_getD, List.getElem?_eq_getElem hr']; rfl
    obtain ⟨hO, hok, hlen⟩ := hr.2 r _ _ h1 h2
    obtain ⟨a, cap, hv, hI⟩ := own_insrow hO hok hlen
    exact ⟨(a, cap), by rw [h1, hv], hI⟩
  obtain ⟨y, hy⟩ := choose_lt each
  rcases h.2 with ⟨rfl, h0⟩ | ⟨g, cap, cur, rfl, _, hg, h1, h2, _, _⟩
  · exact ⟨none, 0, fun _ => none, fun _ => 0, by rw [← hr.1, h0], by rw [← hr.1]; unfold maxLen; omega, .inl (by rw [← hr.1]; exact h0)⟩
  · refine ⟨_, cap, fun r => (y r).1, fun r => (y r).2, by rw [hr.1], by rw [← hr.1]; unfold maxLen; omega, .inr ⟨g, 0, rfl, fun r hr' => ⟨?_, (hy r hr').2⟩⟩⟩
    have := World.ownsRow.cells h (g := g) rfl r _ (hy r hr').1
    rw [Addr.add_mid] at this
    exact this
theorem words_bytes {L : List Int} (hb : isBytes L) (i n : Nat) : ∀ x ∈ memAt L i n, 0 ≤ x ∧ x < 4294967296 := by
  intro x hx
  unfold memAt at hx
  obtain ⟨j, _, rfl⟩ := List.mem_map.1 hx
  exact leAt_bounds hb _ 4
/-- what the reader has gathered is the program that the bytes tell -/
theorem progAt_of {w : World} {B : Nat} {vC vM : Value} {vs : List Value} {cs : List (List Ins)} {L : List Int} (hb : isBytes L) (h : w.ownsRow B 55 1 vC vs.length vs) (hr : CRows w B vs cs) (hl : vs.length ≤ 255) (hm : w.ownsRow B 45 1 vM (words L) ((memAt L 7 (words L)).map (Value.int .u32))) :
    ProgAt w (.agg #[vC, vM, .int .i64 (L.getD 4 0)]) (pgOf L cs) := by
  obtain ⟨a, cap, A, C, rfl, hC⟩ := own_codes h hr hl (memAt L 7 (words L)) (L.getD 4 0)
  have hwl : words L < 65536 := by have := leAt_bounds hb 5 2; unfold words; have := this.2; simp at this; omega
  obtain ⟨ma, mc, rfl, hM⟩ := own_mem (m := memAt L 7 (words L)) (by rw [memAt_len]; exact hm) (by rw [memAt_len]; unfold maxLen; omega) (words_bytes hb 7 (words L))
  exact ⟨a, cap, A, C, ma, mc, rfl, hC, hM⟩

/-- what isa.Check and the reference's Check answer of a program -/
theorem check_pg (v : Value) (p : Pg) (w : World) (L : Laid w) (h : ProgAt w v p) :
    Calls Tryd.prog 18 #[v] w fun e w' => ∃ x y, e = .returned (.tuple #[.int .i64 x, .int .i64 y, .int .i64 p.err]) ∧ Gr w w' := by
  obtain ⟨a, cap, A, C, ma, mc, rfl, hc, hm⟩ := h
  exact (pcheck_calls a _ cap ma _ mc _ A p.L C p.F w L hc hm.1).mono fun e w' ⟨he, hg⟩ => ⟨_, _, he, hg⟩
theorem rcheck_pg (v : Value) (p : Pg) (w : World) (h : ProgAt w v p) :
    Calls Tryd.prog 13 #[v] w fun e w' => ∃ x y, e = .returned (.tuple #[.int .i64 x, .int .i64 y, .int .i64 p.err]) ∧ Gr w w' := by
  obtain ⟨a, cap, A, C, ma, mc, rfl, hc, hm⟩ := h
  exact (qcheck_calls a _ cap ma _ mc _ A p.L C p.F w hc hm.1).mono fun e w' ⟨he, hg⟩ => ⟨_, _, he, hg⟩
end Go.Proofs.YthooopcoemdphaaDoor
