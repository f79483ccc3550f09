/-
  The laws' yard: what In.world and a new box make; a step over it, with what stays. No condition but what each law names.
-/
import Derived.Test.YtbmlliohepidaaaDoorWrd0
import Derived.Test.YtbmlliohepidaaaDoorPrtf
import Derived.Test.YtbmlliohepidaaaDoorStp2
import Derived.Test.YtbmlliohepidaaaDoorLng
import Derived.Test.YtbmlliohepidaaaDoorEqs
import Derived.Test.YtbmlliohepidaaaDoorAwk
namespace Go.Proofs.YtbmlliohepidaaaDoor
open Go.ChangeShapes Go.WideShapes Go.ChangeAt Go.RowKit
set_option linter.unusedVariables false

theorem pick_mem {N room : Nat} : ∀ (m l : List Ent) (x : Ent), x ∈ m.foldl (pick1 N room) l → x ∈ l ∨ (x ∈ m ∧ 0 ≤ x.a ∧ x.a < N)
  | [], l, x, h => .inl h
  | y :: m, l, x, h => by
    rw [List.foldl_cons] at h
    rcases pick_mem m _ x h with h | ⟨h, h2⟩
    · unfold pick1 at h
      split at h
      · rename_i q
        rcases List.mem_append.1 h with h | h
        · exact .inl h
        · obtain rfl := List.mem_singleton.1 h
          exact .inr ⟨by simp, q.2⟩
      · exact .inl h
    · exact .inr ⟨by simp [h], h2⟩
theorem slpF_len (l : List Int) : (slpF l).length = l.length := by simp [slpF]

/-- the yard of an input -/
def ys0 (d : InD) : Ys := ⟨d.mem, pickF d.mem.length (roomN d.room) d.buf, slpF d.asl, [], [], roomN d.room⟩
theorem ys0_fuel {d : InD} (hs : d.asl.length ≤ 7) : 1000 ≤ (ys0 d).fuel := by
  have h1 : (pickF d.mem.length (roomN d.room) d.buf).length ≤ roomN d.room := pick_len _ [] (by simp)
  have h2 : roomN d.room ≤ 16 := by unfold roomN; omega
  show 1000 ≤ 90000 - (([] : List Ev).length + (pickF d.mem.length (roomN d.room) d.buf).length + (slpF d.asl).length + ([] : List UInt8).length)
  rw [slpF_len]
  simp only [List.length_nil]
  omega
def yc0 (d : InD) (y gb : Nat) (vm cs : Value) (ta : Option Addr) (nt ct nb cb : Nat) : Yc := ⟨y, 0, 0, 0, gb, vm, cs, ta, nt, ct, nb, cb, d.mem.length⟩
theorem own_pos {w : World} {base sz n : Nat} {t : TypeId} {v : Value} {xs : List Value} (h : w.ownsRow base t sz v n xs) (hb : 0 < base) : 0 ∉ ob v := by
  intro q
  have := (h.lt 0 (mem_ob.1 q)).1
  omega
abbrev yardA (cs ths : Value) (gb nb cb : Nat) (vm : Value) (room : Int) (vs : Value) : Array Value := #[cs, ths, .slice (some ⟨gb, 0, none⟩) nb cb, vm, .int .i64 room, vs, .slice none 0 0, .bool false, .string ⟨#[]⟩]

theorem y0_of {d : InD} {w u : World} {cs : Value} {ta : Option Addr} {nt ct gb nb cb : Nat} {vbuf vs vm : Value} {B : Array Value} (hat : InAt d w) (hm : d.mem.length ≤ 300) (hw : Laid w) (gu : Gr w u) (hnt : 0 < nt) (hnb : 0 < nb) (hgb : w.heap.size ≤ gb)
    (hB : Has u gb B 27) (hB0 : B[0]? = some vbuf) (he : EntsO u w.heap.size vbuf (pickF d.mem.length (roomN d.room) d.buf)) (hs : SlpsO u w.heap.size vs (slpF d.asl)) (hv : WordsO u w.heap.size vm d.mem) :
    Y0 (yc0 d u.heap.size gb vm cs ta nt ct nb cb) (ys0 d) vbuf vs (.slice none 0 0) B (u.alloc (.cells (yardA cs (.slice ta nt ct) gb nb cb vm (1 + (d.room : Int) % 16) vs) 43)) := by
  have ga := (Gr.refl u).alloc (yardA cs (.slice ta nt ct) gb nb cb vm (1 + (d.room : Int) % 16) vs) 43
  have hz := hw.lt
  have hsz := gu.size
  have e : yardA cs (.slice ta nt ct) gb nb cb vm (1 + (d.room : Int) % 16) vs = yardC (yc0 d u.heap.size gb vm cs ta nt ct nb cb) (ys0 d).room (ys0 d).asks vs (.slice none 0 0) := by
    have hr : ((roomN d.room : Nat) : Int) = 1 + (d.room : Int) % 16 := by unfold roomN; omega
    show yardA cs (.slice ta nt ct) gb nb cb vm (1 + (d.room : Int) % 16) vs = #[cs, .slice ta nt ct, .slice (some ⟨gb, 0, none⟩) nb cb, vm, .int .i64 ((roomN d.room : Nat) : Int), vs, .slice none 0 0, .bool false, .string ⟨#[]⟩]
    rw [hr]
  have r16 : roomN d.room ≤ 16 := by unfold roomN; omega
  exact {
    laid := hw.later (gu.trans ga)
    hy := (Has.new u _ _).of e
    hgb := hB.later ga
    hB := hB0
    hnb := hnb
    hnt := hnt
    buf := own_lower (own_later he ga) (Nat.zero_le _)
    slp := own_lower (own_later hs ga) (Nat.zero_le _)
    evs := own_nil _ _ _ _
    mem := own_lower (own_later hv ga) (Nat.zero_le _)
    num := rfl
    most := (by show d.mem.length ≤ 1000; omega)
    rng := fun x hx => by
      rcases pick_mem _ _ _ hx with h | ⟨h, h2⟩
      · cases h
      · exact ⟨h2, hat.ent x h⟩
    wrd := hat.wrd
    room := r16
    pos := ⟨(by show 0 ≠ u.heap.size; omega), (by show 0 ≠ gb; omega), own_pos hv hz, own_pos he hz, own_pos hs hz, by simp [ob, Value.ownBlock]⟩ }

theorem Y0.later {k : Yc} {s : Ys} {vbuf vs ve : Value} {B : Array Value} {w w' : World} (h : Y0 k s vbuf vs ve B w) (g : Gr w w') : Y0 k s vbuf vs ve B w' :=
  ⟨h.laid.later g, h.hy.later g, h.hgb.later g, h.hB, h.hnb, h.hnt, own_later h.buf g, own_later h.slp g, own_later h.evs g, own_later h.mem g, h.num, h.most, h.rng, h.wrd, h.room, h.pos⟩
theorem foot_low {k : Yc} {n b : Nat} {vbuf vs : Value} (hy : b ≤ k.y) (hg : b ≤ k.gb) (hv : ∀ x ∈ ob k.vm, b ≤ x) (hb : ∀ x ∈ ob vbuf, b ≤ x) (hs : ∀ x ∈ ob vs, b ≤ x) (hn : b ≤ n) : ∀ x ∈ foot (k.boxes n) vbuf vs (.slice none 0 0), b ≤ x := by
  intro x q
  rcases mem_foot.1 q with e | e | e | e | e | e | e | e | e
  · rw [e]; exact hy
  · rw [e]; exact hn
  · rw [e]; show b ≤ n + 1 + 1; omega
  · rw [e]; show b ≤ n + 1 + 1 + 1; omega
  · rw [e]; exact hg
  · exact hv x e
  · exact hb x e
  · exact hs x e
  · simp [ob, Value.ownBlock] at e
/-- a step over a yard -/
theorem step_yard {k : Yc} {s : Ys} {vbuf vs ve : Value} {B : Array Value} {w : World} (h : Yd k s vbuf vs ve B w) {t : Th} (ht : ThOk t) (code : List Ins) (hi : ∀ i ∈ code, InsOk i) (hlen : code.length < 4611686018427387904) (ad : Option Addr) (cap : Nat) (hq : 1000 ≤ s.fuel) (hrow : RowAt w ad (flatOf insL code)) :
    Calls Tryd.prog 12 #[.agg (thC t), .slice ad code.length cap, .agg (portA k.N (fnsY k))] w fun e w' => e = .returned (.agg (thC (stepM (yardM k.N) t code s).1)) ∧
      (∃ vbuf' vs' ve' B', Yd k (stepM (yardM k.N) t code s).2 vbuf' vs' ve' B' w' ∧ ∀ x ∈ foot k vbuf' vs' ve', x ∈ foot k vbuf vs ve ∨ w.heap.size ≤ x) ∧ Kp (foot k vbuf vs ve) w w' := by
  have d := step_does (yard_ok k h.most) ht code hi hlen ad cap s hq w hrow
  refine (d _ ⟨vbuf, vs, ve, B, h, rfl⟩).mono ?_
  rintro e w' ⟨rfl, F', ⟨v1, v2, v3, B', hy, rfl⟩, hk, hn, -⟩
  exact ⟨rfl, ⟨v1, v2, v3, B', hy, fun x hx => (hn x hx).1⟩, hk⟩
theorem step_th {k : Yc} {s : Ys} {vbuf vs ve : Value} {B : Array Value} {w : World} (h : Yd k s vbuf vs ve B w) {t : Th} (ht : ThOk t) (code : List Ins) (hi : ∀ i ∈ code, InsOk i) : ThOk (stepM (yardM k.N) t code s).1 :=
  stepM_ok (yard_ok k h.most) ⟨vbuf, vs, ve, B, h, rfl⟩ ht code hi

/-- a block of another kind is none of the yard's -/
theorem Yd.besides {k : Yc} {s : Ys} {vbuf vs ve : Value} {B : Array Value} {w : World} (h : Yd k s vbuf vs ve B w) {g : Nat} {C : Array Value} {t : TypeId} (hg : Has w g C t) (ht : t ∉ [43, 33, 94, 95, 27, 22, 83, 85, 81]) : g ∉ foot k vbuf vs ve := by
  simp only [List.mem_cons, List.not_mem_nil, or_false, not_or] at ht
  obtain ⟨t1, t2, t3, t4, t5, t6, t7, t8, t9⟩ := ht
  intro q
  rcases mem_foot.1 q with e | e | e | e | e | e | e | e | e
  · exact hg.apart h.hy t1 e
  · exact hg.apart h.hyb t2 e
  · exact hg.apart h.hwb t3 e
  · exact hg.apart h.hab t4 e
  · exact hg.apart h.hgb t5 e
  · exact own_aside h.mem hg (Ne.symm t6) e
  · exact own_aside h.buf hg (Ne.symm t7) e
  · exact own_aside h.slp hg (Ne.symm t8) e
  · exact own_aside h.evs hg (Ne.symm t9) e

theorem infoIn : (Tryd.prog.info? 31).map (·.size) = some 15 := by kernel_rfl
theorem load_inp {ops : Array Oper} {rest : List Oper} {op : Oper} {a : Act} {w : World} {Q : Exit → Act → World → Prop} (hg0 : op.guard = none) (x : Operand) (ho : op.op = .load 31 x) (g : Nat) (hx : a.eval x = .pointer (some ⟨g, 0, none⟩)) (d : InD) (hd : ThOk d.t)
    (hg : Has w g (inC d) 31) (h : wpList Tryd.prog ops Q rest (a.put op.dst (.agg (inC d))) w) : wpList Tryd.prog ops Q (op :: rest) a w :=
  wpList_load_row hg0 31 x ho g hx 31 (inC d) (0, 0) _ hg Tryd.underlying31 rfl (by rw [inC_size hd]; exact infoIn) h
theorem load_inp_g {ops : Array Oper} {rest : List Oper} {op : Oper} {a : Act} {w : World} {Q : Exit → Act → World → Prop} (x : Operand) (ho : op.op = .load 31 x) (hw : Region.wanted op (yielded ops a.tmps) = true) (g : Nat) (hx : a.eval x = .pointer (some ⟨g, 0, none⟩)) (d : InD) (hd : ThOk d.t)
    (hg : Has w g (inC d) 31) (h : wpList Tryd.prog ops Q rest (a.put op.dst (.agg (inC d))) w) : wpList Tryd.prog ops Q (op :: rest) a w :=
  wpList_wants hw fun _ hK => wp_load_row 31 x ho g hx 31 (inC d) (0, 0) _ hg Tryd.underlying31 rfl (by rw [inC_size hd]; exact infoIn) (hK _ _ h)
theorem run_load_inp {w : World} {g : Nat} {d : InD} (hd : ThOk d.t) (hg : Has w g (inC d) 31) : (loadVar 31 ⟨g, 0, none⟩).run Tryd.prog w = .ok (.agg (inC d)) w :=
  run_loadVar_row w g 31 31 (inC d) (0, 0) _ hg Tryd.underlying31 rfl (by rw [inC_size hd]; exact infoIn)
end Go.Proofs.YtbmlliohepidaaaDoor
