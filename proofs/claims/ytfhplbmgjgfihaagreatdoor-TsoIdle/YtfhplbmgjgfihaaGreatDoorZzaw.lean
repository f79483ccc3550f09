/-
  Two threads that each store, and load the other's word, where stores are in memory at once: whatever the turns, one sees the other's. By plain lists; no program, no condition.
-/
import Derived.Test.YtfhplbmgjgfihaaGreatDoorZzas
import Derived.Test.YtfhplbmgjgfihaaGreatDoorZzavAwk9
import Derived.Test.YtfhplbmgjgfihaaGreatDoorZzar
import Derived.WalkKit
namespace Go.Proofs.YtfhplbmgjgfihaaGreatDoor.Mc
set_option linter.unusedVariables false
set_option maxRecDepth 20000
/-- what befell left out -/
def clr (s : Ms) : Ms := ⟨s.sides, s.mem, s.slp, [], s.room⟩
theorem clr_rises : ∀ (l : List Int) (s : Ms), clr (l.foldl Ms.rise s) = l.foldl Ms.rise (clr s)
  | [], s => rfl
  | x :: l, s => clr_rises l (s.rise x)
/-- the same machine but for what befell, all buffers empty -/
structure Eag (a b : Ms) : Prop where
  same : clr a = clr b
  buf : ∀ j, (a.side j).buf = []
  room : 1 ≤ a.room
theorem Eag.sides {a b : Ms} (h : Eag a b) : a.sides = b.sides := (show (clr a).sides = (clr b).sides from congrArg Ms.sides h.same)
theorem Eag.mem {a b : Ms} (h : Eag a b) : a.mem = b.mem := (show (clr a).mem = (clr b).mem from congrArg Ms.mem h.same)
theorem Eag.slp {a b : Ms} (h : Eag a b) : a.slp = b.slp := (show (clr a).slp = (clr b).slp from congrArg Ms.slp h.same)
theorem Eag.note {a b : Ms} (h : Eag a b) (i : Nat) (x y : Ev) : Eag (a.note i x) (b.note i y) := ⟨h.same, h.buf, h.room⟩
theorem Eag.setM {a b : Ms} (h : Eag a b) (m v : Int) : Eag (a.setM m v) (b.setM m v) := ⟨by show (clr a).setM m v = (clr b).setM m v; rw [h.same], h.buf, h.room⟩
theorem Eag.setQ {a b : Ms} (h : Eag a b) (l : List Ent) : Eag (a.setQ l) (b.setQ l) := ⟨by show (clr a).setQ l = (clr b).setQ l; rw [h.same], h.buf, h.room⟩
theorem setT_bufs (s : Ms) (i : Nat) (t : Th) (j : Nat) : ((s.setT i t).side j).buf = (s.side j).buf := by
  unfold Ms.setT
  by_cases hi : i < s.sides.length
  · rw [side_set hi]
    split
    · rename_i e; rw [e]
    · rfl
  · unfold Ms.side Ms.setS
    rw [List.set_eq_of_length_le (by omega)]
theorem Eag.setT {a b : Ms} (h : Eag a b) (i : Nat) (t : Th) : Eag (a.setT i t) (b.setT i t) := by
  refine ⟨?_, fun j => (setT_bufs a i t j).trans (h.buf j), h.room⟩
  show (clr a).setT i t = (clr b).setT i t
  rw [h.same]
theorem Eag.wake {a b : Ms} (h : Eag a b) (m v : Int) : Eag (a.wake m v) (b.wake m v) := by
  have e : ∀ s : Ms, clr (s.wake m v) = (clr s).wake m v := fun s => clr_rises _ _
  obtain ⟨-, -, -, h4⟩ := rises (s := a) (a.sift m v.toNat).out (a.setQ (a.sift m v.toNat).left)
  refine ⟨by rw [e, e, h.same], fun j => (h4 j).trans (h.buf j), ?_⟩
  have hr : ∀ (l : List Int) (s : Ms), (l.foldl Ms.rise s).room = s.room := by
    intro l
    induction l with
    | nil => intro s; rfl
    | cons x l ih => intro s; exact ih (s.rise x)
  show 1 ≤ ((a.sift m v.toNat).out.foldl Ms.rise (a.setQ (a.sift m v.toNat).left)).room
  rw [hr]
  exact h.room
theorem Eag.load {a b : Ms} (h : Eag a b) (i : Nat) (m : Int) : a.load i m = b.mem.getD m.toNat 0 := by
  unfold Ms.load
  rw [h.buf i, ← h.mem]
  rfl
section
variable {a b : Ms} {i : Nat} {n : Int} {t : Th} {c : Ins}
end
end Go.Proofs.YtfhplbmgjgfihaaGreatDoor.Mc
namespace Go.Proofs.YtfhplbmgjgfihaaGreatDoor.Wl
open Go.Proofs.YtfhplbmgjgfihaaGreatDoor.Mc Go.ChangeShapes Go.WideShapes Go.ChangeAt Go.RowKit
set_option linter.unusedVariables false
set_option maxRecDepth 20000
section
variable {k : Wk} {v : Wv} {s : Ms} {w w' : World}
theorem ths_setT (s : Ms) (i : Nat) (t : Th) : (s.setT i t).ths = s.ths.set i t := by
  unfold Ms.ths Ms.setT Ms.setS
  rw [List.map_set]
theorem ths_setB (s : Ms) (i : Nat) (l : List Ent) : (s.setB i l).ths = s.ths := by
  unfold Ms.ths Ms.setB Ms.setS
  rw [List.map_set]
  apply List.ext_getElem?
  intro j
  rw [List.getElem?_set]
  split
  · rename_i e
    subst e
    rw [List.length_map]
    split
    · rename_i hi
      simp [Ms.side, List.getD_eq_getElem?_getD, hi]
    · rename_i hi
      simp [List.getElem?_eq_none (show s.sides.length ≤ i by omega)]
  · rfl
/-- where memory's words lie; a word is stored -/
theorem Ws.memAt (h : Ws k v s w) (hn : 0 < s.mem.length) : ∃ b c C, v.mv = .slice (some ⟨b, 0, none⟩) s.mem.length c ∧ k.w0.heap.size ≤ b ∧ Has w b C 43 ∧ RowAt w (some ⟨b, 0, none⟩) (flatOf wordL s.mem) := own_cell h.mem (by rw [flatOf_length wordL_len]; omega)
theorem flatW_set (l : List Int) (i : Nat) (x : Int) : (flatOf wordL l).set i (.int .u32 x) = flatOf wordL (l.set i x) := by
  induction l generalizing i with
  | nil => rfl
  | cons y l ih =>
    cases i with
    | zero => simp [flatOf, wordL]
    | succ i => rw [flatOf_cons, List.set_cons_succ, flatOf_cons, ← ih]; rfl
theorem Ws.setM (h : Ws k v s w) {b c : Nat} (hb : v.mv = .slice (some ⟨b, 0, none⟩) s.mem.length c) (i : Nat) (hi : i < s.mem.length) (x : Int) : Ws k v (s.setM i x) (w.setCell ⟨b, i, none⟩ (.int .u32 x)) := by
  have hm := h.mem
  rw [hb] at hm
  obtain ⟨b', c', C, e, hB, hC, -⟩ := own_cell hm (by rw [flatOf_length wordL_len]; omega)
  cases e
  have r := h.rest hC hB (Kp.setCell w b i (.int .u32 x))
  have o := own_set hm i (.int .u32 x) (by omega)
  rw [flatW_set, ← hb] at o
  exact ⟨r.box (by decide), r.lo, r.gr, r.pg, r.th (by decide), r.bf (by decide), r.bn, r.each (by decide), by
    show World.ownsRow _ _ _ _ _ (s.mem.set (i : Int).toNat x).length (flatOf wordL (s.mem.set (i : Int).toNat x))
    rw [List.length_set]; exact o, r.slp (by decide), r.evs (by decide)⟩
/-- where the threads lie; a thread's status, a thread is stored -/
theorem Ws.thAt (h : Ws k v s w) (hn : 0 < s.sides.length) : ∃ b c C, v.tv = .slice (some ⟨b, 0, none⟩) s.sides.length c ∧ k.w0.heap.size ≤ b ∧ Has w b C 46 ∧ RowAt w (some ⟨b, 0, none⟩) (flatOf thR s.ths) := by
  obtain ⟨b, c, C, h1, h2, h3, h4⟩ := own_cell h.th (by rw [flatOf_length thR_len, ths_len]; omega)
  rw [ths_len] at h1
  exact ⟨b, c, C, h1, h2, h3, h4⟩
theorem Ws.setTh (h : Ws k v s w) {b c : Nat} (hb : v.tv = .slice (some ⟨b, 0, none⟩) s.sides.length c) (i : Nat) (hi : i < s.sides.length) (t : Th) : Ws k v (s.setT i t) (w.setCells b (i * 10) (thR t)) := by
  have hm := h.th
  rw [hb, ths_len] at hm
  obtain ⟨b', c', C, e, hB, hC, -⟩ := own_cell hm (by rw [flatOf_length thR_len, ths_len]; omega)
  cases e
  have r := h.rest hC hB (Kq.kp_setCells (b := b) (thR t) (i * 10) w)
  have o := own_sets (thR t) (i * 10) w _ hm (by rw [thR_len]; omega)
  rw [flat_sets thR_len s.ths i (by rw [ths_len]; exact hi) t, ← hb] at o
  have esl : (s.setT i t).sides.length = s.sides.length := setS_len _ _ _
  exact ⟨r.box (by decide), r.lo, r.gr, r.pg, by rw [ths_setT, List.length_set, ths_len]; exact o, r.bf (by decide), by rw [esl]; exact r.bn, fun j x hx => by rw [setT_bufs]; exact r.each (by decide) j x hx, r.mem (by decide), r.slp (by decide), r.evs (by decide)⟩
theorem thR_st (t : Th) (st : Int) : (thR t).set 9 (.int .i64 st) = thR (t.is st) := by
  unfold thR Th.is
  rfl
theorem Ws.setSt (h : Ws k v s w) {b c : Nat} (hb : v.tv = .slice (some ⟨b, 0, none⟩) s.sides.length c) (i : Nat) (hi : i < s.sides.length) (st : Int) : Ws k v (s.setT i ((s.side i).t.is st)) (w.setCell ⟨b, i * 10 + 9, none⟩ (.int .i64 st)) := by
  have hm := h.th
  rw [hb, ths_len] at hm
  obtain ⟨b', c', C, e, hB, hC, -⟩ := own_cell hm (by rw [flatOf_length thR_len, ths_len]; omega)
  cases e
  have r := h.rest hC hB (Kp.setCell w b (i * 10 + 9) (.int .i64 st))
  have o := own_set hm (i * 10 + 9) (.int .i64 st) (by omega)
  have e2 : (flatOf thR s.ths).set (i * 10 + 9) (.int .i64 st) = flatOf thR (s.ths.set i ((s.side i).t.is st)) := by
    rw [← flat_sets thR_len s.ths i (by rw [ths_len]; exact hi), ← thR_st, List.length_set, thR_len]
    have h1 : s.ths.getD i thZ = (s.side i).t := ths_at s hi
    have hl : (flatOf thR s.ths).length = s.sides.length * 10 := by rw [flatOf_length thR_len, ths_len]
    have h2 : flatOf thR s.ths = (flatOf thR s.ths).take (i * 10) ++ thR (s.side i).t ++ (flatOf thR s.ths).drop (i * 10 + 10) := by
      have q := flat_sets thR_len s.ths i (by rw [ths_len]; exact hi) (s.side i).t
      rw [thR_len] at q
      rw [q]
      congr 1
      rw [← h1]
      apply List.ext_getElem?
      intro j
      rw [List.getElem?_set]
      split
      · rename_i ej
        subst ej
        rw [if_pos (by rw [ths_len]; exact hi), List.getD_eq_getElem?_getD, List.getElem?_eq_getElem (by rw [ths_len]; exact hi)]
        rfl
      · rfl
    conv => lhs; rw [h2]
    rw [List.append_assoc, List.set_append_right _ _ (by rw [List.length_take, hl]; omega), List.length_take, hl, Nat.min_eq_left (by omega), show i * 10 + 9 - i * 10 = 9 by omega, List.set_append_left _ _ (by rw [thR_len]; omega), List.append_assoc]
  rw [e2, ← hb] at o
  have esl : (s.setT i ((s.side i).t.is st)).sides.length = s.sides.length := setS_len _ _ _
  exact ⟨r.box (by decide), r.lo, r.gr, r.pg, by rw [ths_setT, List.length_set, ths_len]; exact o, r.bf (by decide), by rw [esl]; exact r.bn, fun j x hx => by rw [setT_bufs]; exact r.each (by decide) j x hx, r.mem (by decide), r.slp (by decide), r.evs (by decide)⟩
/-- where the buffers' slices lie; a buffer is stored -/
theorem Ws.bfAt (h : Ws k v s w) (hn : 0 < s.sides.length) : ∃ b c C, v.bv = .slice (some ⟨b, 0, none⟩) s.sides.length c ∧ k.w0.heap.size ≤ b ∧ Has w b C 47 ∧ RowAt w (some ⟨b, 0, none⟩) v.bl := by
  obtain ⟨b, c, C, h1, h2, h3, h4⟩ := own_cell h.bf (by rw [h.bn]; omega)
  rw [h.bn] at h1
  exact ⟨b, c, C, h1, h2, h3, h4⟩
theorem Ws.setB (h : Ws k v s w) {b c : Nat} (hb : v.bv = .slice (some ⟨b, 0, none⟩) s.sides.length c) (i : Nat) (hi : i < s.sides.length) (l : List Ent) (x : Value) (hx : w.ownsRow k.w0.heap.size 77 2 x l.length (Bf.flat l)) :
    Ws k ⟨v.tv, v.bv, v.mv, v.sv, v.ev, v.bl.set i x⟩ (s.setB i l) (w.setCell ⟨b, i, none⟩ x) := by
  have hm := h.bf
  rw [hb, h.bn] at hm
  obtain ⟨b', c', C, e, hB, hC, -⟩ := own_cell hm (by rw [h.bn]; omega)
  cases e
  have kp := Kp.setCell w b i x
  have r := h.rest hC hB kp
  have o := own_set hm i x (by omega)
  rw [← hb] at o
  have esl : (s.setB i l).sides.length = s.sides.length := setS_len _ _ _
  refine ⟨r.box (by decide), r.lo, r.gr, r.pg, by rw [ths_setB]; exact r.th (by decide), by
    show World.ownsRow _ _ _ _ _ (v.bl.set i x).length (v.bl.set i x)
    rw [List.length_set, h.bn]; exact o, by
    show (v.bl.set i x).length = _
    rw [List.length_set, esl]; exact r.bn, fun j y hy => ?_, r.mem (by decide), r.slp (by decide), r.evs (by decide)⟩
  have hy' : (v.bl.set i x)[j]? = some y := hy
  rw [List.getElem?_set] at hy'
  unfold Ms.setB
  rw [side_set hi]
  split at hy'
  · rename_i ej
    subst ej
    rw [if_pos (by rw [h.bn]; exact hi)] at hy'
    cases hy'
    rw [if_pos rfl]
    exact own_kt hx hC (by decide) kp
  · rename_i ej
    rw [if_neg (fun q => ej q.symm)]
    exact r.each (by decide) j y hy'
theorem Ws.setQ (h : Ws k v s w) (l : List Ent) (x : Value) (hx : w.ownsRow k.w0.heap.size 80 2 x l.length (Kn.flat l)) : Ws k ⟨v.tv, v.bv, v.mv, x, v.ev, v.bl⟩ (s.setQ l) (w.setCell ⟨k.g, 5, none⟩ x) := by
  obtain ⟨hb, r⟩ := h.field 5 x ⟨v.tv, v.bv, v.mv, x, v.ev, v.bl⟩ s rfl
  exact ⟨hb, r.lo, r.gr, r.pg, r.th (by decide), r.bf (by decide), r.bn, r.each (by decide), r.mem (by decide), own_kt hx h.box (by decide) (Kp.setCell w k.g 5 x), r.evs (by decide)⟩
/-- a buffer's slice, and where its entries lie -/
theorem Ws.buf (h : Ws k v s w) {i : Nat} (hi : i < s.sides.length) : ∃ a c, v.bl[i]? = some (.slice a (s.side i).buf.length c) ∧ (s.side i).buf.length ≤ c ∧ RowAt w a (Bf.flat (s.side i).buf) := by
  have e : v.bl[i]? = some (v.bl[i]'(by rw [h.bn]; exact hi)) := List.getElem?_eq_getElem _
  obtain ⟨a, c, hv, hr, -, hn, -⟩ := own_at (h.each i _ e)
  exact ⟨a, c, by rw [e, hv], hn, hr⟩
end
end Go.Proofs.YtfhplbmgjgfihaaGreatDoor.Wl
namespace Go.Proofs.YtfhplbmgjgfihaaGreatDoor.Ra
set_option linter.unusedVariables false
set_option maxRecDepth 20000
/-- the number whose digits are f j, f (j + 1), .. (c of them), the lowest first -/
def numB (f : Nat → Nat) : Nat → Nat → Nat
  | _, 0 => 0
  | j, c + 1 => f j + 2 * numB f (j + 1) c
/-- the digit of a number -/
def bitN (a i : Nat) : Nat := a / 2 ^ i % 2

theorem bitN_le (a i : Nat) : bitN a i ≤ 1 := by unfold bitN; omega

theorem numB_snoc (f : Nat → Nat) : ∀ (c j : Nat), numB f j (c + 1) = numB f j c + 2 ^ c * f (j + c)
  | 0, j => by simp [numB]
  | c + 1, j => by
    have h := numB_snoc f c (j + 1)
    show f j + 2 * numB f (j + 1) (c + 1) = (f j + 2 * numB f (j + 1) c) + 2 ^ (c + 1) * f (j + (c + 1))
    rw [h, Nat.pow_succ, show j + 1 + c = j + (c + 1) by omega]
    rw [Nat.mul_add, Nat.mul_comm (2 ^ c) 2, Nat.mul_assoc]
    omega

theorem numB_lt (f : Nat → Nat) (hf : ∀ i, f i ≤ 1) : ∀ (c j : Nat), numB f j c < 2 ^ c
  | 0, j => by simp [numB]
  | c + 1, j => by
    have h := numB_lt f hf c (j + 1)
    have := hf j
    show f j + 2 * numB f (j + 1) c < 2 ^ (c + 1)
    rw [Nat.pow_succ]
    omega

theorem numB_congr (f g : Nat → Nat) : ∀ (c j : Nat), (∀ i, j ≤ i → i < j + c → f i = g i) → numB f j c = numB g j c
  | 0, j, _ => rfl
  | c + 1, j, h => by
    show f j + 2 * numB f (j + 1) c = g j + 2 * numB g (j + 1) c
    rw [h j (by omega) (by omega), numB_congr f g c (j + 1) (fun i a b => h i (by omega) (by omega))]

theorem numB_bits (a : Nat) : ∀ k, numB (bitN a) 0 k = a % 2 ^ k
  | 0 => by simp [numB, Nat.mod_one]
  | k + 1 => by
    rw [numB_snoc, numB_bits a k, Nat.mod_pow_succ, Nat.zero_add]
    rfl

theorem numB_word (a : Nat) (h : a < 4294967296) : numB (bitN a) 0 32 = a := by
  rw [numB_bits]
  exact Nat.mod_eq_of_lt (by omega)

/-! ### sums, with what is carried -/
def carryF (a b : Nat) : Nat → Nat
  | 0 => 0
  | k + 1 => (bitN a k + bitN b k + carryF a b k) / 2
def addF (a b k : Nat) : Nat := (bitN a k + bitN b k + carryF a b k) % 2
theorem carryF_le (a b : Nat) : ∀ k, carryF a b k ≤ 1
  | 0 => by simp [carryF]
  | k + 1 => by
    have h := carryF_le a b k
    have := bitN_le a k
    have := bitN_le b k
    show (bitN a k + bitN b k + carryF a b k) / 2 ≤ 1
    omega
theorem addF_le (a b k : Nat) : addF a b k ≤ 1 := by unfold addF; omega
theorem add_inv (a b : Nat) : ∀ k, numB (addF a b) 0 k + 2 ^ k * carryF a b k = a % 2 ^ k + b % 2 ^ k
  | 0 => by simp [numB, carryF, Nat.mod_one]
  | k + 1 => by
    have h := add_inv a b k
    rw [numB_snoc, Nat.mod_pow_succ, Nat.mod_pow_succ, Nat.zero_add, Nat.pow_succ]
    have e1 : a / 2 ^ k % 2 = bitN a k := rfl
    have e2 : b / 2 ^ k % 2 = bitN b k := rfl
    have e3 : addF a b k = (bitN a k + bitN b k + carryF a b k) % 2 := rfl
    have e4 : carryF a b (k + 1) = (bitN a k + bitN b k + carryF a b k) / 2 := rfl
    rw [e1, e2, e3, e4]
    have e5 : (bitN a k + bitN b k + carryF a b k) = (bitN a k + bitN b k + carryF a b k) % 2 + 2 * ((bitN a k + bitN b k + carryF a b k) / 2) := by omega
    have e6 := congrArg (fun x => 2 ^ k * x) e5
    simp only [Nat.mul_add] at e6 ⊢
    rw [Nat.mul_assoc]
    omega
theorem add_word (a b : Nat) (ha : a < 4294967296) (hb : b < 4294967296) : numB (addF a b) 0 32 = (a + b) % 4294967296 := by
  have h := add_inv a b 32
  have hl := numB_lt (addF a b) (addF_le a b) 32 0
  rw [Nat.mod_eq_of_lt (show a < 2 ^ 32 by omega), Nat.mod_eq_of_lt (show b < 2 ^ 32 by omega)] at h
  omega

/-! ### minus -/
theorem not_inv (n : Nat) : ∀ (c j : Nat), numB (fun i => 1 - bitN n i) j c + numB (bitN n) j c = 2 ^ c - 1
  | 0, j => by simp [numB]
  | c + 1, j => by
    have h := not_inv n c (j + 1)
    have hb := bitN_le n j
    have hp : 0 < 2 ^ c := Nat.pow_pos (by omega)
    show (1 - bitN n j) + 2 * numB (fun i => 1 - bitN n i) (j + 1) c + (bitN n j + 2 * numB (bitN n) (j + 1) c) = 2 ^ (c + 1) - 1
    rw [Nat.pow_succ]
    omega
theorem not_word (n : Nat) (h : n < 4294967296) : numB (fun i => 1 - bitN n i) 0 32 = 4294967295 - n := by
  have h1 := not_inv n 32 0
  rw [numB_word n h] at h1
  omega

/-! ### moves -/
theorem bit_up (n s i : Nat) : bitN (n * 2 ^ s) i = if s ≤ i then bitN n (i - s) else 0 := by
  unfold bitN
  split
  · rename_i h
    rw [show 2 ^ i = 2 ^ (i - s) * 2 ^ s by rw [← Nat.pow_add]; congr 1; omega, Nat.mul_div_mul_right _ _ (Nat.pow_pos (by omega))]
  · rename_i h
    rw [show 2 ^ s = 2 ^ (s - i - 1) * 2 * 2 ^ i by rw [← Nat.pow_succ, ← Nat.pow_add]; congr 1; omega, ← Nat.mul_assoc, Nat.mul_div_cancel _ (Nat.pow_pos (by omega)), ← Nat.mul_assoc]
    omega
theorem bit_down (n s i : Nat) (h : n < 4294967296) : bitN (n / 2 ^ s) i = if i + s < 32 then bitN n (i + s) else 0 := by
  unfold bitN
  rw [Nat.div_div_eq_div_mul, ← Nat.pow_add, Nat.add_comm s i]
  split
  · rfl
  · rename_i h'
    have hp : (2 : Nat) ^ 32 ≤ 2 ^ (i + s) := Nat.pow_le_pow_right (by omega) (by omega)
    rw [Nat.div_eq_of_lt (by omega)]
/-- a word's bits, moved up by so many places (down, below 0) -/
def moveF (n : Nat) (by_ : Int) (i : Nat) : Nat := if 0 ≤ (i : Int) - by_ ∧ (i : Int) - by_ < 32 then bitN n ((i : Int) - by_).toNat else 0
theorem moveF_le (n : Nat) (by_ : Int) (i : Nat) : moveF n by_ i ≤ 1 := by
  unfold moveF
  split
  · exact bitN_le _ _
  · omega
theorem up_word (n s : Nat) : numB (moveF n (s : Int)) 0 32 = n * 2 ^ s % 4294967296 := by
  have h := numB_bits (n * 2 ^ s) 32
  rw [numB_congr (moveF n (s : Int)) (bitN (n * 2 ^ s)) 32 0, h]
  intro i _ hi
  rw [bit_up]
  unfold moveF
  split
  · rename_i hc
    rw [if_pos (by omega)]
    exact congrArg (bitN n) (by omega)
  · rw [if_neg (by omega)]
theorem down_word (n s : Nat) (hn : n < 4294967296) : numB (moveF n (-(s : Int))) 0 32 = n / 2 ^ s := by
  have hd : n / 2 ^ s ≤ n := Nat.div_le_self _ _
  have h := numB_word (n / 2 ^ s) (by omega)
  rw [numB_congr (moveF n (-(s : Int))) (bitN (n / 2 ^ s)) 32 0, h]
  intro i _ hi
  rw [bit_down n s i hn]
  unfold moveF
  split
  · rename_i hc
    rw [if_pos (by omega)]
    exact congrArg (bitN n) (by omega)
  · rw [if_neg (by omega)]

/-! ### products -/
def mulF (a b k : Nat) : Nat := a * (b % 2 ^ k) % 4294967296
theorem mul_zero' (a b : Nat) : mulF a b 0 = 0 := by unfold mulF; simp [Nat.mod_one]
theorem mul_one' (a b k : Nat) (h : bitN b k = 1) : (mulF a b k + a * 2 ^ k % 4294967296) % 4294967296 = mulF a b (k + 1) := by
  unfold mulF
  rw [Nat.mod_pow_succ, show b / 2 ^ k % 2 = 1 from h, Nat.mul_one, Nat.mul_add, ← Nat.add_mod]
theorem mul_none (a b k : Nat) (h : bitN b k ≠ 1) : mulF a b k = mulF a b (k + 1) := by
  have hb := bitN_le b k
  unfold mulF
  rw [Nat.mod_pow_succ, show b / 2 ^ k % 2 = 0 from (by show bitN b k = 0; omega), Nat.mul_zero, Nat.add_zero]
theorem mul_word (a b : Nat) (hb : b < 4294967296) : mulF a b 32 = a * b % 4294967296 := by
  unfold mulF
  rw [Nat.mod_eq_of_lt (show b < 2 ^ 32 by omega)]

/-! ### order -/
theorem less_same (a b i : Nat) (h : a / 2 ^ (i + 1) = b / 2 ^ (i + 1)) (e : bitN a i = bitN b i) : a / 2 ^ i = b / 2 ^ i := by
  have h1 : a / 2 ^ (i + 1) = a / 2 ^ i / 2 := by rw [Nat.pow_succ, Nat.div_div_eq_div_mul]
  have h2 : b / 2 ^ (i + 1) = b / 2 ^ i / 2 := by rw [Nat.pow_succ, Nat.div_div_eq_div_mul]
  have e1 : a / 2 ^ i % 2 = b / 2 ^ i % 2 := e
  rw [h1, h2] at h
  omega
theorem less_here (a b i : Nat) (h : a / 2 ^ (i + 1) = b / 2 ^ (i + 1)) (e : bitN a i ≠ bitN b i) : bitN b i = if a < b then 1 else 0 := by
  have h1 : a / 2 ^ (i + 1) = a / 2 ^ i / 2 := by rw [Nat.pow_succ, Nat.div_div_eq_div_mul]
  have h2 : b / 2 ^ (i + 1) = b / 2 ^ i / 2 := by rw [Nat.pow_succ, Nat.div_div_eq_div_mul]
  have e1 : ¬ a / 2 ^ i % 2 = b / 2 ^ i % 2 := e
  have eb : bitN b i = b / 2 ^ i % 2 := rfl
  rw [h1, h2] at h
  split
  · rename_i hlt
    have : a / 2 ^ i ≤ b / 2 ^ i := Nat.div_le_div_right (by omega)
    omega
  · rename_i hlt
    have : b / 2 ^ i ≤ a / 2 ^ i := Nat.div_le_div_right (by omega)
    omega

/-! ### and, or, xor -/
theorem bitN_test (a i : Nat) : bitN a i = (a.testBit i).toNat := by
  unfold bitN
  rw [Nat.testBit_eq_decide_div_mod_eq]
  by_cases h : a / 2 ^ i % 2 = 1
  · simp [h]
  · have : a / 2 ^ i % 2 = 0 := by omega
    simp [this]
theorem and_bit (a b i : Nat) : (bitN a i + bitN b i) / 2 = bitN (a &&& b) i := by
  rw [bitN_test, bitN_test, bitN_test, Nat.testBit_and]
  cases a.testBit i <;> cases b.testBit i <;> rfl
theorem or_bit' (a b i : Nat) : (bitN a i + bitN b i + 1) / 2 = bitN (a ||| b) i := by
  rw [bitN_test, bitN_test, bitN_test, Nat.testBit_or]
  cases a.testBit i <;> cases b.testBit i <;> rfl
theorem xor_bit (a b i : Nat) : (bitN a i + bitN b i) % 2 = bitN (a ^^^ b) i := by
  rw [bitN_test, bitN_test, bitN_test, Nat.testBit_xor]
  cases a.testBit i <;> cases b.testBit i <;> rfl
end Go.Proofs.YtfhplbmgjgfihaaGreatDoor.Ra
