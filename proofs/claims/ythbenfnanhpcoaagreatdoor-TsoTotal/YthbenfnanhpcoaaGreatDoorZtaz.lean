/-
  A side's cells; what room, empty and load of a side answer. No condition but what each law names.
-/
import Derived.Test.YthbenfnanhpcoaaGreatDoorZtay
namespace Go.Proofs.YthbenfnanhpcoaaGreatDoor.Mc
open Go.ChangeShapes Go.WideShapes Go.ChangeAt Go.RowKit
set_option linter.unusedVariables false
set_option maxRecDepth 20000

theorem thL_len {t : Th} (h : ThOk t) : (thL t).length = 10 := by simp [thL, h.len]
section
variable {mb i : Nat} {cv : Value} {t : Th} {B : Array Value} {z : Int} {g : Nat}
theorem side_0 : (sideA mb i cv t B z g)[0]? = some (.pointer (some ⟨mb, 0, none⟩)) := by simp [sideA, sideL]
theorem side_1 : (sideA mb i cv t B z g)[1]? = some (.int .i64 i) := by simp [sideA, sideL]
theorem side_2 : (sideA mb i cv t B z g)[2]? = some cv := by simp [sideA, sideL]
theorem side_th (h : ThOk t) {j : Nat} (hj : j < 10) : (sideA mb i cv t B z g)[3 + j]? = (thL t)[j]? := by
  simp only [sideA, sideL, List.getElem?_toArray]
  rw [List.getElem?_append_right (by simp), List.getElem?_append_left (by rw [thL_len h]; simp; omega)]
  simp
theorem side_buf (h : ThOk t) {j : Nat} (hj : j < B.size) : (sideA mb i cv t B z g)[13 + j]? = B[j]? := by
  simp only [sideA, sideL, List.getElem?_toArray]
  rw [List.getElem?_append_right (by simp; omega), List.getElem?_append_right (by rw [thL_len h]; simp; omega), List.getElem?_append_left (by rw [thL_len h]; simp; omega), thL_len h]
  simp
  rw [show 13 + j - 3 - 10 = j from by omega]
theorem side_port (h : ThOk t) (hB : B.size = 35) {j : Nat} (hj : j < 11) : (sideA mb i cv t B z g)[48 + j]? = (Mp.portA z (fnsT g))[j]? := by
  simp only [sideA, sideL, List.getElem?_toArray]
  rw [List.getElem?_append_right (by simp; omega), List.getElem?_append_right (by rw [thL_len h]; simp; omega), List.getElem?_append_right (by rw [thL_len h]; simp; omega), thL_len h]
  simp [hB]
  rw [show 48 + j - 3 - 10 - 35 = j from by omega]
theorem side_size (h : ThOk t) (hB : B.size = 35) : (sideA mb i cv t B z g).size = 59 := by
  simp [sideA, sideL, thL_len h, hB]
theorem side_setB (h : ThOk t) {D : Array Value} (hB : B.size = 35) (hD : D.size = 35) : Kq.setA (sideA mb i cv t B z g) 13 D.toList = sideA mb i cv t D z g := by
  have e := Kq.setA_seg D.toList ([.pointer (some ⟨mb, 0, none⟩), .int .i64 i, cv] ++ thL t) B.toList (Mp.portA z (fnsT g)).toList (by simp [hB, hD])
  have e2 : ([.pointer (some ⟨mb, 0, none⟩), .int .i64 i, cv] ++ thL t).length = 13 := by simp [thL_len h]
  rw [e2] at e
  simpa [sideA, sideL] using e
theorem side_setT (h : ThOk t) {t' : Th} (h' : ThOk t') : Kq.setA (sideA mb i cv t B z g) 3 (thL t') = sideA mb i cv t' B z g := by
  have e := Kq.setA_seg (thL t') [.pointer (some ⟨mb, 0, none⟩), .int .i64 i, cv] (thL t) (B.toList ++ (Mp.portA z (fnsT g)).toList) (by rw [thL_len h, thL_len h'])
  simpa [sideA, sideL] using e
end

/-- a side's parts in the world -/
structure Sr (k : Mk) (x : Sk) (i : Nat) (d : Sd) (B : Array Value) (w : World) : Prop where
  has : Has w x.g (sideA k.mb i x.cv d.t B k.N x.g) 105
  th : ThOk d.t
  sz : B.size = 35
theorem Sr.c0 {k : Mk} {x : Sk} {i : Nat} {d : Sd} {B : Array Value} {w : World} (h : Sr k x i d B w) : w.cell? ⟨x.g, 0, none⟩ = some (.pointer (some ⟨k.mb, 0, none⟩)) := h.has.cell side_0
theorem Sr.c1 {k : Mk} {x : Sk} {i : Nat} {d : Sd} {B : Array Value} {w : World} (h : Sr k x i d B w) : w.cell? ⟨x.g, 1, none⟩ = some (.int .i64 i) := h.has.cell side_1
theorem Sr.c2 {k : Mk} {x : Sk} {i : Nat} {d : Sd} {B : Array Value} {w : World} (h : Sr k x i d B w) : w.cell? ⟨x.g, 2, none⟩ = some x.cv := h.has.cell side_2
theorem Sr.rT {k : Mk} {x : Sk} {i : Nat} {d : Sd} {B : Array Value} {w : World} (h : Sr k x i d B w) : w.rangeAt x.g 3 (thL d.t) := fun j v hv =>
  h.has.cell (by rw [side_th h.th (by have := (List.getElem?_eq_some_iff.1 hv).1; rw [thL_len h.th] at this; exact this)]; exact hv)
theorem Sr.rB {k : Mk} {x : Sk} {i : Nat} {d : Sd} {B : Array Value} {w : World} (h : Sr k x i d B w) : w.rangeAt x.g 13 B.toList := fun j v hv =>
  h.has.cell (by rw [side_buf h.th (by have := (List.getElem?_eq_some_iff.1 hv).1; simpa using this)]; simpa using hv)
theorem Sr.rP {k : Mk} {x : Sk} {i : Nat} {d : Sd} {B : Array Value} {w : World} (h : Sr k x i d B w) : w.rangeAt x.g 48 (Mp.portA k.N (fnsT x.g)).toList := fun j v hv =>
  h.has.cell (by rw [side_port h.th h.sz (by have := (List.getElem?_eq_some_iff.1 hv).1; simpa using this)]; simpa using hv)
theorem Sr.later {k : Mk} {x : Sk} {i : Nat} {d : Sd} {B : Array Value} {w w' : World} (h : Sr k x i d B w) (g : Gr w w') : Sr k x i d B w' := ⟨h.has.later g, h.th, h.sz⟩
theorem Mw.sr {k : Mk} {s : Ms} {e : Value} {w : World} (h : Mw k s e w) {i : Nat} {x : Sk} (hx : k.ss[i]? = some x) : ∃ B, Sr k x i (s.side i) B w ∧ Bf.IsB B s.room (s.side i).buf := by
  obtain ⟨B, hB, iB⟩ := (h.side i x hx).hs
  exact ⟨B, ⟨hB, (h.side i x hx).th, by obtain ⟨r, f, iB⟩ := iB; rw [iB.cells]; exact Bf.bufC_size iB.ring _ _ _⟩, iB⟩
theorem infoBf : (Tryz.prog.info? 96).map (·.size) = some 35 := by kernel_rfl
theorem infoBl {B : Array Value} (h : B.size = 35) : (Tryz.prog.info? 96).map (·.size) = some B.toList.length := by rw [Array.length_toList, h]; exact infoBf

set_option maxHeartbeats 400000 in
theorem room_does (k : Mk) (i : Nat) (x : Sk) (hx : k.ss[i]? = some x) (s : Ms) (w : World) : Does (MI k) s w 75 #[.pointer (some ⟨x.g, 0, none⟩)] (.bool (!(Bf.fullB (s.side i).buf s.room))) s := by
  rintro F ⟨e, h, rfl⟩
  obtain ⟨B, sr, iB⟩ := h.sr hx
  have rB := sr.rB
  have ib := infoBl sr.sz
  have HH := hide h
  have HB := hide iB
  clear h iB sr
  go_enter Tryz.func75, Tryz.ntmps75
  go_wp2_with (first
    | (refine wpList_load_mid rfl 96 _ rfl x.g 13 rfl B.toList _ rB Tryz.underlying96 rfl ib ?_))
  refine (Bf.full_calls HB.out w).mono ?_
  rintro r w1 ⟨rfl, g1⟩
  go_wp2_with (fail)
  go_ret
  exact ⟨rfl, mi_same HH.out g1⟩
set_option maxHeartbeats 400000 in
theorem empty_does (k : Mk) (i : Nat) (x : Sk) (hx : k.ss[i]? = some x) (s : Ms) (w : World) : Does (MI k) s w 77 #[.pointer (some ⟨x.g, 0, none⟩)] (.bool (((s.side i).buf.length : Int) == 0)) s := by
  rintro F ⟨e, h, rfl⟩
  obtain ⟨B, sr, iB⟩ := h.sr hx
  have rB := sr.rB
  have ib := infoBl sr.sz
  have HH := hide h
  have HB := hide iB
  clear h iB sr
  go_enter Tryz.func77, Tryz.ntmps77
  go_wp2_with (first
    | (refine wpList_load_mid rfl 96 _ rfl x.g 13 rfl B.toList _ rB Tryz.underlying96 rfl ib ?_))
  refine (Bf.len_calls HB.out w).mono ?_
  rintro r w1 ⟨rfl, g1⟩
  go_wp2_with (fail)
  go_ret
  exact ⟨rfl, mi_same HH.out g1⟩
end Go.Proofs.YthbenfnanhpcoaaGreatDoor.Mc

namespace Go.Proofs.YthbenfnanhpcoaaGreatDoor.Mc
open Go.ChangeShapes Go.WideShapes Go.ChangeAt Go.RowKit
set_option linter.unusedVariables false
set_option maxRecDepth 20000

theorem words_set (l : List Int) (a : Nat) (v : Int) : flatOf wordL (l.set a v) = (flatOf wordL l).set a (.int .u32 v) := by
  have e : ∀ l : List Int, flatOf wordL l = l.map (Value.int .u32) := fun l => by induction l with
    | nil => rfl
    | cons x l ih => rw [flatOf_cons, ih]; rfl
  rw [e, e, List.map_set]
/-- where a word of memory lies -/
theorem Mw.memAt {k : Mk} {s : Ms} {e : Value} {w : World} (h : Mw k s e w) {m : Nat} (hm : m < k.N) : ∃ b c, k.bv = .slice (some ⟨b, 0, none⟩) k.N c ∧ w.cell? ⟨b, m, none⟩ = some (.int .u32 (s.mem.getD m 0)) ∧ w.frozen? ⟨b, m, none⟩ = false := by
  obtain ⟨a, c, hv, hr, -, -, hb⟩ := own_at h.mem
  obtain ⟨b, o, rfl, -⟩ := hr.get (by rw [flatOf_length wordL_len, h.num]; omega)
  obtain ⟨-, ho, hob⟩ := hb _ rfl
  cases ho
  have hc := hr.cell wordL_len (i := m) (by rw [h.num]; exact hm) 0 0 (by omega)
  obtain ⟨D, hD⟩ := own_has h.mem (k := b) (mem_ob.2 hob)
  refine ⟨b, c, by rw [hv, h.num], ?_, hD.free m⟩
  simpa [wordL] using hc
/-- a word of memory is set -/
theorem Mw.setM {k : Mk} {s : Ms} {e : Value} {w : World} (h : Mw k s e w) {b c : Nat} (hv : k.bv = .slice (some ⟨b, 0, none⟩) k.N c) {m : Nat} (hm : m < k.N) (v : Int) (hu : U32 v) : Mw k (s.setM m v) e (w.setCell ⟨b, m, none⟩ (.int .u32 v)) := by
  have q := Kp.setCell w b m (.int .u32 v)
  have hob : b ∈ ob k.bv := by rw [hv, mem_ob]; rfl
  have n1 : ∀ {t sz n v xs}, w.ownsRow 0 t sz v n xs → t ≠ 39 → ∀ g, v.ownBlock = some g → g ∉ [b] := fun hr ht g hg z => own_apart hr h.mem ht (mem_ob.2 hg) (by rw [show g = b by simpa using z]; exact hob)
  have n2 : ∀ {g C t}, Has w g C t → t ≠ 39 → g ∉ [b] := fun {g C t} hg ht z => own_aside h.mem hg (fun e => ht e.symm) (by rw [show g = b by simpa using z]; exact hob)
  have h0 : 0 ∉ [b] := fun z => h.pos (mem_foot.2 (.inr (.inr (.inl (by rw [show 0 = b by simpa using z]; exact hob)))))
  obtain ⟨C, hC, -⟩ := id h.q
  have hmem : WordsO (w.setCell ⟨b, m, none⟩ (.int .u32 v)) 0 k.bv (s.mem.set m v) := by
    have h1 : w.ownsRow 0 39 1 k.bv s.mem.length (flatOf wordL s.mem) := h.mem
    rw [hv] at h1 ⊢
    show World.ownsRow _ _ _ _ _ (s.mem.set m v).length (flatOf wordL (s.mem.set m v))
    rw [words_set, List.length_set]
    have hn : s.mem.length = k.N := h.num
    rw [hn] at h1 ⊢
    exact own_set h1 m _ (by omega)
  refine ⟨Laid.kept h.laid q h0, h.q.kept q (n2 hC (by decide)), own_kept h.row q (n1 h.row (by decide)), h.len, fun i x hx => ?_, h.nod, ?_, own_kept h.evs q (n1 h.evs (by decide)), by rw [← h.num]; simp [Ms.setM], h.most, ?_, h.ok, h.slp, h.few, h.pos⟩
  · have hs := h.side i x hx
    obtain ⟨B, hB, -⟩ := hs.hs
    exact Si.kept hs q (n2 hB (by decide)) (fun y hy => n1 hs.code (by decide) y (mem_ob.1 hy))
  · have e1 : (s.setM m v).mem = s.mem.set m v := by simp [Ms.setM]
    rw [e1]
    exact hmem
  · intro y hy
    rcases List.mem_or_eq_of_mem_set hy with h1 | rfl
    · exact h.wrd y h1
    · exact hu
theorem Mw.mach {k : Mk} {s : Ms} {e : Value} {w : World} (h : Mw k s e w) : w.cell? ⟨k.mb, 1, none⟩ = some k.bv ∧ w.cell? ⟨k.mb, 0, none⟩ = some k.sv ∧ w.cell? ⟨k.mb, 19, none⟩ = some e ∧ w.frozen? ⟨k.mb, 19, none⟩ = false := by
  obtain ⟨C, hC, iC⟩ := h.q
  exact ⟨hC.cell (Kq.mach_1 _ _ _ _), hC.cell (Kq.mach_0 _ _ _ _), hC.cell (Kq.mach_e iC.size), hC.free 19⟩

set_option maxHeartbeats 400000 in
theorem swap_does (k : Mk) (i : Nat) (x : Sk) (hx : k.ss[i]? = some x) (s : Ms) (m : Nat) (hm : m < k.N) (v : Int) (hu : U32 v) (w : World) :
    Does (MI k) s w 78 #[.pointer (some ⟨x.g, 0, none⟩), .int .i64 m, .int .u32 v] (.int .u32 (s.mem.getD m 0)) (s.setM m v) := by
  rintro F ⟨e, h, rfl⟩
  obtain ⟨B, sr, -⟩ := h.sr hx
  obtain ⟨b, c, hv, hc, hf⟩ := h.memAt hm
  have hm' : (m : Int) < k.N := by omega
  have hm0 : ¬ (m : Int) < 0 := by omega
  have c0 := sr.c0
  have c1 := h.mach.1
  rw [hv] at c1
  have hob : b ∈ ob k.bv := by rw [hv, mem_ob]; rfl
  have HP := hide (mi_post h (h.setM hv hm v hu) ((Kp.setCell w b m (.int .u32 v)).trans (Kp.refl (k.foot e) _) (fun y hy => mem_foot.2 (.inr (.inr (.inl (by rw [show y = b by simpa using hy]; exact hob))))) (fun y hy => .inl hy)) foot_evs)
  generalize s.mem.getD m 0 = old at hc ⊢
  clear h sr hu hv hob
  go_enter Tryz.func78, Tryz.ntmps78
  go_wp2_with (fail)
  go_ret
  exact ⟨rfl, HP.out⟩
set_option maxHeartbeats 400000 in
theorem load_does (k : Mk) (i : Nat) (x : Sk) (hx : k.ss[i]? = some x) (s : Ms) (m : Nat) (hm : m < k.N) (w : World) :
    Does (MI k) s w 74 #[.pointer (some ⟨x.g, 0, none⟩), .int .i64 m] (.int .u32 (s.load i m)) s := by
  rintro F ⟨e, h, rfl⟩
  obtain ⟨B, sr, iB⟩ := h.sr hx
  obtain ⟨b, c, hv, hc, -⟩ := h.memAt hm
  have hm' : (m : Int) < k.N := by omega
  have hm0 : ¬ (m : Int) < 0 := by omega
  have rB := sr.rB
  have ib := infoBl sr.sz
  have c0 := sr.c0
  have c1 := h.mach.1
  rw [hv] at c1
  have HH := hide h
  have HB := hide iB
  have HC : Hid (∀ u, Gr w u → u.cell? ⟨x.g, 0, none⟩ = some (.pointer (some ⟨k.mb, 0, none⟩)) ∧ u.cell? ⟨k.mb, 1, none⟩ = some (.slice (some ⟨b, 0, none⟩) k.N c) ∧ u.cell? ⟨b, m, none⟩ = some (.int .u32 (s.mem.getD m 0))) := fun u g =>
    ⟨(Below.cell g (World.block_lt_of_cell? w _ c0)).trans c0, (Below.cell g (World.block_lt_of_cell? w _ c1)).trans c1, (Below.cell g (World.block_lt_of_cell? w _ hc)).trans hc⟩
  cases hfd : Bf.findR (m : Int) (s.side i).buf with
  | some v =>
    have HL : Hid (s.load i m = v) := by show s.load i m = v; unfold Ms.load; rw [hfd]
    have HFD := hide hfd
    rw [HL.out]
    clear h iB sr c0 c1 hc hv hfd
    go_enter Tryz.func74, Tryz.ntmps74
    go_wp2_with (first
      | (refine wpList_load_mid rfl 96 _ rfl x.g 13 rfl B.toList _ rB Tryz.underlying96 rfl ib ?_))
    refine (Bf.find_calls HB.out (m : Int) w).mono ?_
    rintro r w1 ⟨rfl, g1⟩
    rw [HFD.out]
    unfold Bf.foundV
    go_wp2_with (fail)
    go_ret
    exact ⟨rfl, mi_same HH.out g1⟩
  | none =>
    have HL : Hid (s.load i m = s.mem.getD m 0) := by show s.load i m = _; unfold Ms.load; rw [hfd]; rfl
    have HFD := hide hfd
    rw [HL.out]
    clear h iB sr c0 c1 hc hv hfd HL
    generalize s.mem.getD m 0 = v at HC ⊢
    go_enter Tryz.func74, Tryz.ntmps74
    go_wp2_with (first
      | (refine wpList_load_mid rfl 96 _ rfl x.g 13 rfl B.toList _ rB Tryz.underlying96 rfl ib ?_))
    refine (Bf.find_calls HB.out (m : Int) w).mono ?_
    rintro r w1 ⟨rfl, g1⟩
    rw [HFD.out]
    unfold Bf.foundV
    obtain ⟨d0, d1, d2⟩ := HC.out w1 g1
    go_wp2_with (fail)
    go_ret
    exact ⟨rfl, mi_same HH.out g1⟩
end Go.Proofs.YthbenfnanhpcoaaGreatDoor.Mc
