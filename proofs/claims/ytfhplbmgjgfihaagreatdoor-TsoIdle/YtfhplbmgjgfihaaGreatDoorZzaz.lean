/-
  The youngest entry of an address, one more entry behind. By plain lists; no program, no condition.
-/
import Derived.Test.YtfhplbmgjgfihaaGreatDoorZzae
import Derived.Test.YtfhplbmgjgfihaaGreatDoorZzaa
import Derived.Test.YtfhplbmgjgfihaaGreatDoorZzay
import Derived.Test.YtfhplbmgjgfihaaGreatDoorZzah
import Derived.Test.YtfhplbmgjgfihaaGreatDoorZzaq
import Derived.BigQuiet
import Derived.Deep.QuietTactic
namespace Go.Proofs.YtfhplbmgjgfihaaGreatDoor.Mc
set_option linter.unusedVariables false
theorem findR_snoc (addr : Int) (l : List Ent) (x : Ent) : Bf.findR addr (l ++ [x]) = if x.a = addr then some x.v else Bf.findR addr l := by
  rw [Bf.findR_append]
  by_cases h : x.a = addr <;> simp [Bf.findR, h]
end Go.Proofs.YtfhplbmgjgfihaaGreatDoor.Mc
namespace Go.Proofs.YtfhplbmgjgfihaaGreatDoor.Wl
open Go.Proofs.YtfhplbmgjgfihaaGreatDoor.Mc Go.ChangeShapes Go.WideShapes Go.ChangeAt Go.RowKit
set_option linter.unusedVariables false
set_option maxRecDepth 20000
theorem add_int {a b : Int} (ha : U32 a) (hb : U32 b) (w : World) : Calls Tryz.prog 55 #[.int .u32 a, .int .u32 b] w fun e w' => e = .returned (.int .u32 (IntKind.u32.wrap (a + b))) ∧ Gr w w' := by
  obtain ⟨A, rfl, hA⟩ := u32_nat ha
  obtain ⟨B, rfl, hB⟩ := u32_nat hb
  refine (Ra.add_ref A B hA hB w).mono ?_
  rintro e w' ⟨rfl, g⟩
  refine ⟨?_, g⟩
  rw [IntKind.wrap_u32, show ((A + B) % 4294967296 : Nat) = (((A : Int) + B) % 4294967296) by omega]
theorem do_int {op a b : Int} (ha : U32 a) (hb : U32 b) (w : World) : Calls Tryz.prog 57 #[.int .i64 op, .int .u32 a, .int .u32 b] w fun e w' => e = .returned (.tuple #[.int .u32 (doI op a b), .int .i64 (Ra.isN op)]) ∧ Gr w w' := by
  obtain ⟨A, rfl, hA⟩ := u32_nat ha
  obtain ⟨B, rfl, hB⟩ := u32_nat hb
  refine (Ra.ref_do op A B hA hB w).mono ?_
  rintro e w' ⟨rfl, g⟩
  exact ⟨by rw [doI_nat op A B hA hB], g⟩
/-- what the document's Find answers -/
def findV (o : Option Int) : Value := match o with
  | some v => .tuple #[.int .u32 v, .int .i64 1]
  | none => .tuple #[.int .u32 0, .int .i64 0]
def findN (o : Option Int) : Int × Int := match o with
  | some v => (v, 1)
  | none => (0, 0)
theorem findV_is (o : Option Int) : findV o = .tuple #[.int .u32 (findN o).1, .int .i64 (findN o).2] := by cases o <;> rfl
set_option maxHeartbeats 1000000 in
theorem rfind_calls (a : Option Addr) (c : Nat) (l : List Ent) (hl : l.length ≤ 1000) (m : Int) (w : World) (h : RowAt w a (flatOf entL l)) :
    Calls Tryz.prog 78 #[.slice a l.length c, .int .i64 m] w fun e w' => e = .returned (findV (Bf.findR m l)) ∧ w' = w := by
  have HH := hide h
  clear h
  rw [findV_is]
  go_enter Tryz.func78, Tryz.ntmps78
  go_wp2_with (fail)
  go_loop [6, 7, 8] (fun p q i => ∃ k : Nat, k ≤ l.length ∧ i = .int .i64 k ∧ p = .int .u32 (findN (Bf.findR m (l.take k))).1 ∧ q = .int .i64 (findN (Bf.findR m (l.take k))).2) (fun _ _ i => l.length - (intOf i).toNat)
  case atStart => exact ⟨0, by omega, rfl, rfl, rfl⟩
  case round =>
    obtain ⟨k, hk, rfl, rfl, rfl⟩ := hrel
    by_cases hlt : k < l.length
    · have hlt' : (k : Int) < l.length := by omega
      obtain ⟨b, off, rfl, -⟩ := HH.out.get (by rw [flatOf_length entL_len]; omega)
      have c0 := HH.out.cell entL_len hlt ent0 0 (by omega)
      have c1 := HH.out.cell entL_len hlt ent0 1 (by omega)
      have HT := hide (show Bf.findR m (l.take (k + 1)) = if (l.getD k ent0).a = m then some (l.getD k ent0).v else Bf.findR m (l.take k) by rw [show l.take (k + 1) = l.take k ++ [l.getD k ent0] by rw [List.take_succ_eq_append_getElem hlt, List.getD_eq_getElem?_getD, List.getElem?_eq_getElem hlt]; rfl, findR_snoc])
      generalize l.getD k ent0 = x at c0 c1 HT
      generalize Bf.findR m (l.take k) = o at HT ⊢
      simp only [entL, List.getElem?_cons_zero, List.getElem?_cons_succ, Nat.add_zero, ← Nat.add_assoc] at c0 c1
      by_cases hx : x.a = m
      · have hx' : (x.a == m) = true := by simpa using hx
        have HR : Hid (Bf.findR m (l.take (k + 1)) = some x.v) := by show _ = _; rw [HT.out, if_pos hx]
        clear hx HT
        go_wp2_with (fail)
        exact ⟨⟨k + 1, by omega, by go_num, by rw [HR.out]; rfl, by rw [HR.out]; rfl⟩, by simp [intOf]; omega⟩
      · have hx' : (x.a == m) = false := by simpa using hx
        have HR : Hid (Bf.findR m (l.take (k + 1)) = o) := by show _ = _; rw [HT.out, if_neg hx]
        clear hx HT
        go_wp2_with (fail)
        exact ⟨⟨k + 1, by omega, by go_num, by rw [HR.out], by rw [HR.out]⟩, by simp [intOf]; omega⟩
    · obtain rfl : k = l.length := by omega
      rw [List.take_length]
      go_wp2_with (fail)
      go_ret2
      exact ⟨rfl, rfl⟩
set_option maxHeartbeats 1000000 in
theorem addr_calls {t : Th} (h : ThOk t) {i : Ins} (hi : InsOk i) (w : World) :
    Calls Tryz.prog 53 #[.agg (thC t), .agg (insA i)] w fun e w' => e = .returned (.int .u32 (addrM t i)) ∧ Gr w w' := by
  obtain ⟨op, a, b, c, k⟩ := i
  have g0 := ((Gr.refl w).alloc (thC t) 46).alloc (insA ⟨op, a, b, c, k⟩) 53
  cases hr : regB b
  · have HM : Hid (addrM t ⟨op, a, b, c, k⟩ = k) := by show addrM t _ = k; simp [addrM, hr]
    have HG := hide g0
    by_cases h0 : b < 0
    · clear hr h g0
      go_enter Tryz.func53, Tryz.ntmps53
      go_wp2_with (fail)
      go_ret
      exact ⟨by rw [HM.out]; rfl, HG.out⟩
    · have h8 : 7 < b := by
        simp [regB] at hr
        omega
      clear hr h g0
      go_enter Tryz.func53, Tryz.ntmps53
      go_wp2_with (fail)
      go_ret
      exact ⟨by rw [HM.out]; rfl, HG.out⟩
  · obtain ⟨n, rfl, hn⟩ := reg_nat hr
    have hn7 : ¬ 7 < (n : Int) := by omega
    have hn0 : ¬ (n : Int) < 0 := by omega
    have hn8 : (n : Int) < 8 := by omega
    have HM : Hid (addrM t ⟨op, a, n, c, k⟩ = IntKind.u32.wrap (t.reg n + k)) := by show addrM t _ = _; simp [addrM, hr, Int.add_comm]
    have t0 := (Has.new w (thC t) 46).alloc (insA ⟨op, a, n, c, k⟩) 53
    have i0 := Has.new (w.alloc (.cells (thC t) 46)) (insA ⟨op, a, n, c, k⟩) 53
    rw [show (w.alloc (.cells (thC t) 46)).heap.size = w.heap.size + 1 by simp] at i0
    have cr := t0.cell (thC_reg h n hn)
    have ur := h.reg n
    have AD := hide (fun u => add_int (a := t.reg n) (b := k) ur ⟨hi.k0, hi.k1⟩ u)
    clear hr h
    go_enter Tryz.func53, Tryz.ntmps53
    go_upto_region 1 with (fail)
    change Code.wp _ _ _ _ ((w.alloc (.cells (thC t) 46)).alloc (.cells (insA ⟨op, a, n, c, k⟩) 53))
    generalize (w.alloc (.cells (thC t) 46)).alloc (.cells (insA ⟨op, a, n, c, k⟩) 53) = w1 at g0 t0 i0 cr ⊢
    have i2 := i0.cell (o := 2) (v := .int .i64 (n : Int)) rfl
    have i4 := i0.cell (o := 4) (v := .int .u32 k) rfl
    go_upto_region 3 with (fail)
    have d2 : w1.drew.cell? ⟨w.heap.size + 1, 2, none⟩ = _ := i2
    have d4 : w1.drew.cell? ⟨w.heap.size + 1, 4, none⟩ = _ := i4
    have dr : w1.drew.cell? ⟨w.heap.size, 1 + n, none⟩ = _ := cr
    refine begin_late 9 [] (fun w' => Gr w1.drew w') (by kernel_rfl) rfl ?_
    have hH : Gr w1.drew w1.drew := Gr.refl _
    refine AnyL.pp 0 15 (.pointer (some ⟨w.heap.size + 1, 2, none⟩)) rfl rfl (by kernel_rfl) (fun _ _ _ h => h) (fun _ => by go_simp) hH ?_
    simp only [pz, pz0, pzs]
    refine AnyL.tt 1 16 (.int .i64 n) rfl rfl (by kernel_rfl) (fun _ _ _ h => h) (fun w' hw' => by have q1 := cell_later hw' d2; go_simp) hH ?_
    simp only [pz, pz0, pzs]
    refine AnyL.pp 2 17 (.pointer (some ⟨w.heap.size, 1, none⟩)) rfl rfl (by kernel_rfl) (fun _ _ _ h => h) (fun _ => by go_simp) hH ?_
    simp only [pz, pz0, pzs]
    refine AnyL.pp 3 18 (.pointer (some ⟨w.heap.size, 1 + n, none⟩)) rfl rfl (by kernel_rfl) (fun _ _ _ h => h) (fun _ => by go_simp) hH ?_
    simp only [pz, pz0, pzs]
    refine AnyL.tt 4 19 (.int .u32 (t.reg n)) rfl rfl (by kernel_rfl) (fun _ _ _ h => h) (fun w' hw' => by have q1 := cell_later hw' dr; go_simp) hH ?_
    simp only [pz, pz0, pzs]
    refine AnyL.pp 5 20 (.pointer (some ⟨w.heap.size + 1, 4, none⟩)) rfl rfl (by kernel_rfl) (fun _ _ _ h => h) (fun _ => by go_simp) hH ?_
    simp only [pz, pz0, pzs]
    refine AnyL.tt 6 21 (.int .u32 k) rfl rfl (by kernel_rfl) (fun _ _ _ h => h) (fun w' hw' => by have q1 := cell_later hw' d4; go_simp) hH ?_
    simp only [pz, pz0, pzs]
    refine AnyL.one 7 (by kernel_rfl) rfl (by kernel_rfl) ?_
    refine wp_call (some 22) rfl _ _ (by kernel_rfl) (AD.out _) ?_
    rintro r w2 ⟨rfl, g2⟩
    refine ⟨_, rfl, fun _ => g2, ?_⟩
    simp only [pz, pz0, pzs]
    replace hH := g2
    refine AnyL.pp 8 4 (.int .u32 (IntKind.u32.wrap (t.reg n + k))) rfl rfl (by kernel_rfl) (fun _ _ _ h => h) (fun _ => by go_simp) hH ?_
    simp only [pz, pz0, pzs]
    refine AnyL.done (by kernel_rfl) ?_
    have HG := hide ((g0.drew).trans g2)
    clear AD hH g2 i2 i4 cr d2 d4 dr t0 i0
    go_wp2_with (fail)
    go_ret
    exact ⟨by rw [HM.out]; rfl, HG.out⟩
set_option maxHeartbeats 1000000 in
theorem load_calls (k : Wk) (v : Wv) (s : Ms) (w : World) (h : Ws k v s w) (i : Nat) (hi : i < s.sides.length) (hbl : (s.side i).buf.length ≤ 16) (m : Nat) (hm : m < s.mem.length) :
    Calls Tryz.prog 54 #[.pointer (some ⟨k.g, 0, none⟩), .int .i64 i, .int .i64 m] w fun e w' => e = .returned (.int .u32 (s.load i m)) ∧ w' = w := by
  obtain ⟨tv, bv, mv, sv, ev, bl⟩ := v
  have hi0 : ¬ (i : Int) < 0 := by omega
  have hi1 : (i : Int) < s.sides.length := by omega
  have hm0 : ¬ (m : Int) < 0 := by omega
  have hm1 : (m : Int) < s.mem.length := by omega
  have c2 := h.box.cell (o := 2) (v := bv) rfl
  have c3 := h.box.cell (o := 3) (v := mv) rfl
  obtain ⟨bb, bc, C, hbv, -, -, hr⟩ := h.bfAt (by omega)
  simp only at hbv
  subst hbv
  obtain ⟨mb, mc, C3, hmv, -, -, hmr⟩ := h.memAt (by omega)
  simp only at hmv
  subst hmv
  obtain ⟨a, cc, hbi, hcc, hra⟩ := h.buf hi
  have ci := row_nth hr hbi
  have cm := hmr.cell wordL_len hm 0 0 (by omega)
  simp only [wordL, List.getElem?_cons_zero, Nat.mul_one, Nat.add_zero, Nat.zero_add] at cm
  have RF := hide (rfind_calls a cc (s.side i).buf (by omega) (m : Int) w hra)
  have HL : Hid (s.load i m = match Bf.findR (m : Int) (s.side i).buf with | some v => v | none => s.mem.getD m 0) := by show _ = _; rfl
  generalize s.mem.getD m 0 = x at cm HL
  clear h hr hra hmr hbi
  generalize (s.side i).buf.length = bn at ci RF
  go_enter Tryz.func54, Tryz.ntmps54
  go_wp2_with (fail)
  refine RF.out.mono ?_
  rintro r u ⟨rfl, rfl⟩
  cases ho : Bf.findR (m : Int) (s.side i).buf with
  | some v =>
    have HR : Hid (s.load i m = v) := by show _ = _; rw [HL.out, ho]
    clear ho HL RF
    unfold findV
    go_wp2_with (fail)
    go_ret
    exact ⟨by rw [HR.out]; rfl, rfl⟩
  | none =>
    have HR : Hid (s.load i m = x) := by show _ = _; rw [HL.out, ho]
    clear ho HL RF
    unfold findV
    go_wp2_with (fail)
    go_ret
    exact ⟨by rw [HR.out]; rfl, rfl⟩
end Go.Proofs.YtfhplbmgjgfihaaGreatDoor.Wl
namespace Go.Proofs.YtfhplbmgjgfihaaGreatDoor.Nm
open Go.ChangeShapes Go.WideShapes Go.ChangeAt Go.RowKit
set_option linter.unusedVariables false
def nameL : List (List UInt8) := [[104, 97, 108, 116], [115, 101, 116], [109, 111, 118, 101], [97, 100, 100], [115, 117, 98], [109, 117, 108], [97, 110, 100], [111, 114], [120, 111, 114], [115, 104, 108], [115, 104, 114], [108, 101, 115, 115], [115, 97, 109, 101], [106, 117, 109, 112], [122, 101, 114, 111], [115, 111, 109, 101], [108, 111, 97, 100], [115, 116, 111, 114, 101], [102, 101, 110, 99, 101], [115, 119, 97, 112], [102, 101, 116, 99, 104], [99, 97, 115], [111, 117, 116], [119, 97, 105, 116], [119, 97, 107, 101], [114, 101, 109, 111, 116, 101], [121, 105, 101, 108, 100], [109, 97, 114, 107]]
def rowL : List (List UInt8) := [[104, 97, 108, 116], [115, 101, 116, 32, 65, 75], [109, 111, 118, 101, 32, 65, 66], [97, 100, 100, 32, 65, 66, 67], [115, 117, 98, 32, 65, 66, 67], [109, 117, 108, 32, 65, 66, 67], [97, 110, 100, 32, 65, 66, 67], [111, 114, 32, 65, 66, 67], [120, 111, 114, 32, 65, 66, 67], [115, 104, 108, 32, 65, 66, 67], [115, 104, 114, 32, 65, 66, 67], [108, 101, 115, 115, 32, 65, 66, 67], [115, 97, 109, 101, 32, 65, 66, 67], [106, 117, 109, 112, 32, 84], [122, 101, 114, 111, 32, 65, 84], [115, 111, 109, 101, 32, 65, 84], [108, 111, 97, 100, 32, 65, 77, 75], [115, 116, 111, 114, 101, 32, 65, 77, 75], [102, 101, 110, 99, 101], [115, 119, 97, 112, 32, 65, 77, 75], [102, 101, 116, 99, 104, 32, 65, 77, 75], [99, 97, 115, 32, 65, 67, 77, 75], [111, 117, 116, 32, 65], [119, 97, 105, 116, 32, 65, 77, 75], [119, 97, 107, 101, 32, 65, 77, 75], [114, 101, 109, 111, 116, 101], [121, 105, 101, 108, 100], [109, 97, 114, 107, 32, 65, 75]]
def fieldL : List (List UInt8) := [[], [65, 75], [65, 66], [65, 66, 67], [65, 66, 67], [65, 66, 67], [65, 66, 67], [65, 66, 67], [65, 66, 67], [65, 66, 67], [65, 66, 67], [65, 66, 67], [65, 66, 67], [84], [65, 84], [65, 84], [65, 77, 75], [65, 77, 75], [], [65, 77, 75], [65, 77, 75], [65, 67, 77, 75], [65], [65, 77, 75], [65, 77, 75], [], [], [65, 75]]
def nameAt (n : Nat) : ByteArray := ⟨(nameL.getD n []).toArray⟩
def rowAt (n : Nat) : ByteArray := ⟨(rowL.getD n []).toArray⟩
def fieldAt (n : Nat) : ByteArray := ⟨(fieldL.getD n []).toArray⟩
def nameB (op : Int) : ByteArray := if isB op then nameAt op.toNat else ⟨#[]⟩
def fB (op : Int) : ByteArray := if isB op then fieldAt op.toNat else ⟨#[]⟩
def hasF (s : ByteArray) (f : Int) : Bool := s.data.toList.any fun b => (b.toNat : Int) == f
def hasB (op f : Int) : Bool := hasF (fB op) f


def rowsV : Array Value := #[.string ⟨#[104, 97, 108, 116]⟩, .string ⟨#[115, 101, 116, 32, 65, 75]⟩, .string ⟨#[109, 111, 118, 101, 32, 65, 66]⟩, .string ⟨#[97, 100, 100, 32, 65, 66, 67]⟩, .string ⟨#[115, 117, 98, 32, 65, 66, 67]⟩, .string ⟨#[109, 117, 108, 32, 65, 66, 67]⟩, .string ⟨#[97, 110, 100, 32, 65, 66, 67]⟩, .string ⟨#[111, 114, 32, 65, 66, 67]⟩, .string ⟨#[120, 111, 114, 32, 65, 66, 67]⟩, .string ⟨#[115, 104, 108, 32, 65, 66, 67]⟩, .string ⟨#[115, 104, 114, 32, 65, 66, 67]⟩, .string ⟨#[108, 101, 115, 115, 32, 65, 66, 67]⟩, .string ⟨#[115, 97, 109, 101, 32, 65, 66, 67]⟩, .string ⟨#[106, 117, 109, 112, 32, 84]⟩, .string ⟨#[122, 101, 114, 111, 32, 65, 84]⟩, .string ⟨#[115, 111, 109, 101, 32, 65, 84]⟩, .string ⟨#[108, 111, 97, 100, 32, 65, 77, 75]⟩, .string ⟨#[115, 116, 111, 114, 101, 32, 65, 77, 75]⟩, .string ⟨#[102, 101, 110, 99, 101]⟩, .string ⟨#[115, 119, 97, 112, 32, 65, 77, 75]⟩, .string ⟨#[102, 101, 116, 99, 104, 32, 65, 77, 75]⟩, .string ⟨#[99, 97, 115, 32, 65, 67, 77, 75]⟩, .string ⟨#[111, 117, 116, 32, 65]⟩, .string ⟨#[119, 97, 105, 116, 32, 65, 77, 75]⟩, .string ⟨#[119, 97, 107, 101, 32, 65, 77, 75]⟩, .string ⟨#[114, 101, 109, 111, 116, 101]⟩, .string ⟨#[121, 105, 101, 108, 100]⟩, .string ⟨#[109, 97, 114, 107, 32, 65, 75]⟩]
theorem rowsV_at (n : Nat) (h : n < 28) : rowsV[n]? = some (.string (rowAt n)) := by
  have e : rowsV = ((List.range 28).map fun n => Value.string (rowAt n)).toArray := rfl
  rw [e]
  simp [h]
theorem rows_cell (w : World) (n : Nat) (h : n < 28) : (w.alloc (.cells #[.string ⟨#[104, 97, 108, 116]⟩, .string ⟨#[115, 101, 116, 32, 65, 75]⟩, .string ⟨#[109, 111, 118, 101, 32, 65, 66]⟩, .string ⟨#[97, 100, 100, 32, 65, 66, 67]⟩, .string ⟨#[115, 117, 98, 32, 65, 66, 67]⟩, .string ⟨#[109, 117, 108, 32, 65, 66, 67]⟩, .string ⟨#[97, 110, 100, 32, 65, 66, 67]⟩, .string ⟨#[111, 114, 32, 65, 66, 67]⟩, .string ⟨#[120, 111, 114, 32, 65, 66, 67]⟩, .string ⟨#[115, 104, 108, 32, 65, 66, 67]⟩, .string ⟨#[115, 104, 114, 32, 65, 66, 67]⟩, .string ⟨#[108, 101, 115, 115, 32, 65, 66, 67]⟩, .string ⟨#[115, 97, 109, 101, 32, 65, 66, 67]⟩, .string ⟨#[106, 117, 109, 112, 32, 84]⟩, .string ⟨#[122, 101, 114, 111, 32, 65, 84]⟩, .string ⟨#[115, 111, 109, 101, 32, 65, 84]⟩, .string ⟨#[108, 111, 97, 100, 32, 65, 77, 75]⟩, .string ⟨#[115, 116, 111, 114, 101, 32, 65, 77, 75]⟩, .string ⟨#[102, 101, 110, 99, 101]⟩, .string ⟨#[115, 119, 97, 112, 32, 65, 77, 75]⟩, .string ⟨#[102, 101, 116, 99, 104, 32, 65, 77, 75]⟩, .string ⟨#[99, 97, 115, 32, 65, 67, 77, 75]⟩, .string ⟨#[111, 117, 116, 32, 65]⟩, .string ⟨#[119, 97, 105, 116, 32, 65, 77, 75]⟩, .string ⟨#[119, 97, 107, 101, 32, 65, 77, 75]⟩, .string ⟨#[114, 101, 109, 111, 116, 101]⟩, .string ⟨#[121, 105, 101, 108, 100]⟩, .string ⟨#[109, 97, 114, 107, 32, 65, 75]⟩] 9)).cell? ⟨w.heap.size, n, none⟩ = some (.string (rowAt n)) := by
  refine (World.cell?_alloc_mark w rowsV 9 (0, 0) n).trans (rowsV_at n h)

theorem hd_step (s : ByteArray) (k : Nat) (hlt : k < s.size) (hd : Hid (∀ j, j < k → s.data[j]? ≠ some 32)) (hb : ((s[k].toNat : Int) == 32) = false) : Hid (∀ j, j < k + 1 → s.data[j]? ≠ some 32) := by
  intro j hj
  by_cases e : j = k
  · subst e
    intro h
    have h1 : s.data[j]? = some s[j] := by
      show s.data[j]? = some (s.data[j])
      rw [Array.getElem?_eq_getElem]
    rw [h1] at h
    simp only [Option.some.injEq] at h
    rw [h] at hb
    simp at hb
  · exact hd.out j (by omega)
theorem rowAt_all : ∀ n : Fin 28, (rowAt n).size ≤ 9 := by decide +kernel
theorem rowAt_small (n : Nat) (hn : n < 28) : (rowAt n).size ≤ 9 := rowAt_all ⟨n, hn⟩
theorem all_end : ∀ n : Fin 28, (∀ j : Fin (rowAt n).size, (rowAt n).data[j.val]? ≠ some 32) → rowAt n = nameAt n ∧ fieldAt n = ⟨#[]⟩ := by decide +kernel
theorem ret_end (n : Nat) (hn : n < 28) (s : ByteArray) (hs : Hid (rowAt n = s)) (hd : Hid (∀ j, j < s.size → s.data[j]? ≠ some 32)) : Ending.returned (.tuple #[.string s, .string ⟨#[]⟩]) = .returned (.tuple #[.string (nameAt n), .string (fieldAt n)]) := by
  have hs := hs.out
  subst hs
  have := all_end ⟨n, hn⟩ (fun j => hd.out j.val j.isLt)
  simp only at this
  rw [this.2, this.1]

theorem all_mid : ∀ n : Fin 28, ∀ k : Fin (rowAt n).size, (∀ j : Fin k, (rowAt n).data[j.val]? ≠ some 32) → (rowAt n).data[k.val]? = some 32 → (rowAt n).extract 0 k = nameAt n ∧ (rowAt n).extract (k + 1) (rowAt n).size = fieldAt n := by decide +kernel
theorem ret_mid (n : Nat) (hn : n < 28) (s : ByteArray) (hs : Hid (rowAt n = s)) (k : Nat) (hlt : k < s.size) (hd : Hid (∀ j, j < k → s.data[j]? ≠ some 32)) (hb : ((s[k].toNat : Int) == 32) = true) :
    Ending.returned (.tuple #[.string (s.extract 0 k), .string (s.extract (k + 1) s.size)]) = .returned (.tuple #[.string (nameAt n), .string (fieldAt n)]) := by
  have hs := hs.out
  subst hs
  have h32 : (rowAt n).data[k]? = some 32 := by
    have h1 : (rowAt n).data[k]? = some ((rowAt n)[k]) := by
      show (rowAt n).data[k]? = some ((rowAt n).data[k])
      rw [Array.getElem?_eq_getElem]
    rw [h1]
    congr 1
    have h2 : (((rowAt n)[k]).toNat : Int) = 32 := by simpa using hb
    have : ((rowAt n)[k]).toNat = 32 := by omega
    exact UInt8.toNat_inj.1 this
  have := all_mid ⟨n, hn⟩ ⟨k, hlt⟩ (fun j => hd.out j.val j.isLt) h32
  simp only at this
  rw [this.1, this.2]

set_option maxHeartbeats 1000000 in
theorem refname_no (op : Int) (h : isB op = false) (w : World) :
    Calls Tryz.prog 77 #[.int .i64 op] w fun e w' => e = .returned (.tuple #[.string ⟨#[]⟩, .string ⟨#[]⟩]) ∧ Gr w w' := by
  by_cases h0 : op < 0
  · go_enter Tryz.func77, Tryz.ntmps77
    go_wp2
    go_ret2
    exact ⟨rfl, Gr.alloc (Gr.refl _) _ _⟩
  · have h1 : ¬ op < 28 := by simp [isB] at h; omega
    go_enter Tryz.func77, Tryz.ntmps77
    go_wp2
    go_ret2
    exact ⟨rfl, Gr.alloc (Gr.refl _) _ _⟩

set_option maxHeartbeats 1000000 in
theorem refname_yes (n : Nat) (hn : n < 28) (w : World) :
    Calls Tryz.prog 77 #[.int .i64 n] w fun e w' => e = .returned (.tuple #[.string (nameAt n), .string (fieldAt n)]) ∧ Gr w w' := by
  have hc := rows_cell w n hn
  have hi : (n : Int) < 28 := by omega
  have hg : Gr w (w.alloc (.cells #[.string ⟨#[104, 97, 108, 116]⟩, .string ⟨#[115, 101, 116, 32, 65, 75]⟩, .string ⟨#[109, 111, 118, 101, 32, 65, 66]⟩, .string ⟨#[97, 100, 100, 32, 65, 66, 67]⟩, .string ⟨#[115, 117, 98, 32, 65, 66, 67]⟩, .string ⟨#[109, 117, 108, 32, 65, 66, 67]⟩, .string ⟨#[97, 110, 100, 32, 65, 66, 67]⟩, .string ⟨#[111, 114, 32, 65, 66, 67]⟩, .string ⟨#[120, 111, 114, 32, 65, 66, 67]⟩, .string ⟨#[115, 104, 108, 32, 65, 66, 67]⟩, .string ⟨#[115, 104, 114, 32, 65, 66, 67]⟩, .string ⟨#[108, 101, 115, 115, 32, 65, 66, 67]⟩, .string ⟨#[115, 97, 109, 101, 32, 65, 66, 67]⟩, .string ⟨#[106, 117, 109, 112, 32, 84]⟩, .string ⟨#[122, 101, 114, 111, 32, 65, 84]⟩, .string ⟨#[115, 111, 109, 101, 32, 65, 84]⟩, .string ⟨#[108, 111, 97, 100, 32, 65, 77, 75]⟩, .string ⟨#[115, 116, 111, 114, 101, 32, 65, 77, 75]⟩, .string ⟨#[102, 101, 110, 99, 101]⟩, .string ⟨#[115, 119, 97, 112, 32, 65, 77, 75]⟩, .string ⟨#[102, 101, 116, 99, 104, 32, 65, 77, 75]⟩, .string ⟨#[99, 97, 115, 32, 65, 67, 77, 75]⟩, .string ⟨#[111, 117, 116, 32, 65]⟩, .string ⟨#[119, 97, 105, 116, 32, 65, 77, 75]⟩, .string ⟨#[119, 97, 107, 101, 32, 65, 77, 75]⟩, .string ⟨#[114, 101, 109, 111, 116, 101]⟩, .string ⟨#[121, 105, 101, 108, 100]⟩, .string ⟨#[109, 97, 114, 107, 32, 65, 75]⟩] 9)) := Gr.alloc (Gr.refl _) _ _
  go_enter Tryz.func77, Tryz.ntmps77
  go_wp2
  have hsz := rowAt_small n hn
  generalize hs : rowAt n = s at hsz ⊢
  have HS := hide hs
  clear hs hc
  generalize w.alloc (.cells #[.string ⟨#[104, 97, 108, 116]⟩, .string ⟨#[115, 101, 116, 32, 65, 75]⟩, .string ⟨#[109, 111, 118, 101, 32, 65, 66]⟩, .string ⟨#[97, 100, 100, 32, 65, 66, 67]⟩, .string ⟨#[115, 117, 98, 32, 65, 66, 67]⟩, .string ⟨#[109, 117, 108, 32, 65, 66, 67]⟩, .string ⟨#[97, 110, 100, 32, 65, 66, 67]⟩, .string ⟨#[111, 114, 32, 65, 66, 67]⟩, .string ⟨#[120, 111, 114, 32, 65, 66, 67]⟩, .string ⟨#[115, 104, 108, 32, 65, 66, 67]⟩, .string ⟨#[115, 104, 114, 32, 65, 66, 67]⟩, .string ⟨#[108, 101, 115, 115, 32, 65, 66, 67]⟩, .string ⟨#[115, 97, 109, 101, 32, 65, 66, 67]⟩, .string ⟨#[106, 117, 109, 112, 32, 84]⟩, .string ⟨#[122, 101, 114, 111, 32, 65, 84]⟩, .string ⟨#[115, 111, 109, 101, 32, 65, 84]⟩, .string ⟨#[108, 111, 97, 100, 32, 65, 77, 75]⟩, .string ⟨#[115, 116, 111, 114, 101, 32, 65, 77, 75]⟩, .string ⟨#[102, 101, 110, 99, 101]⟩, .string ⟨#[115, 119, 97, 112, 32, 65, 77, 75]⟩, .string ⟨#[102, 101, 116, 99, 104, 32, 65, 77, 75]⟩, .string ⟨#[99, 97, 115, 32, 65, 67, 77, 75]⟩, .string ⟨#[111, 117, 116, 32, 65]⟩, .string ⟨#[119, 97, 105, 116, 32, 65, 77, 75]⟩, .string ⟨#[119, 97, 107, 101, 32, 65, 77, 75]⟩, .string ⟨#[114, 101, 109, 111, 116, 101]⟩, .string ⟨#[121, 105, 101, 108, 100]⟩, .string ⟨#[109, 97, 114, 107, 32, 65, 75]⟩] 9) = w1 at hg ⊢
  go_loop [6] (fun i => ∃ k : Nat, k ≤ s.size ∧ i = .int .i64 k ∧ Hid (∀ j, j < k → s.data[j]? ≠ some 32)) (fun i => s.size - (intOf i).toNat)
  case atStart => exact ⟨0, by omega, rfl, fun j hj => by omega⟩
  case round =>
    obtain ⟨k, hk, rfl, hd⟩ := hrel
    by_cases hlt : k < s.size
    · cases hb : ((s[k].toNat : Int) == 32)
      · go_wp2
        exact ⟨⟨k + 1, by omega, by go_num, hd_step s k hlt hd hb⟩, by simp [intOf]; omega⟩
      · go_wp2
        go_quiet (fail)
        go_wp2
        go_ret2
        exact ⟨ret_mid n hn s HS k hlt hd hb, hg.drewN _⟩
    · obtain rfl : k = s.size := by omega
      go_wp2
      go_ret2
      exact ⟨ret_end n hn s HS hd, hg⟩

theorem fieldAt_all : ∀ n : Fin 28, (fieldAt n).size ≤ 9 := by decide +kernel
theorem fB_small (op : Int) : (fB op).size ≤ 9 := by
  unfold fB
  cases h : isB op
  · exact Nat.zero_le _
  · obtain ⟨n, rfl, hn⟩ := isB_nat h
    simpa using fieldAt_all ⟨n, hn⟩
theorem refname_calls (op : Int) (w : World) :
    Calls Tryz.prog 77 #[.int .i64 op] w fun e w' => e = .returned (.tuple #[.string (nameB op), .string (fB op)]) ∧ Gr w w' := by
  cases h : isB op
  · have e1 : nameB op = ⟨#[]⟩ := by simp [nameB, h]
    have e2 : fB op = ⟨#[]⟩ := by simp [fB, h]
    rw [e1, e2]
    exact refname_no op h w
  · obtain ⟨n, rfl, hn⟩ := isB_nat h
    have e1 : nameB (n : Int) = nameAt n := by simp [nameB, h]
    have e2 : fB (n : Int) = fieldAt n := by simp [fB, h]
    rw [e1, e2]
    exact refname_yes n hn w

theorem at_data (s : ByteArray) (k : Nat) (h : k < s.size) : s.data[k]? = some s[k] := by
  show s.data[k]? = some (s.data[k])
  rw [Array.getElem?_eq_getElem]
theorem hasF_yes (s : ByteArray) (f : Int) (k : Nat) (h : k < s.size) (hb : ((s[k].toNat : Int) == f) = true) : hasF s f = true := by
  have h1 := at_data s k h
  unfold hasF
  rw [List.any_eq_true]
  refine ⟨s[k], ?_, hb⟩
  have h2 : s.data.toList[k]? = some s[k] := by simpa using h1
  exact List.mem_of_getElem? h2
theorem hasF_no (s : ByteArray) (f : Int) (hd : ∀ j, (h : j < s.size) → ((s[j].toNat : Int) == f) = false) : hasF s f = false := by
  unfold hasF
  rw [List.any_eq_false]
  intro b hb
  obtain ⟨j, hj, rfl⟩ := List.mem_iff_getElem.1 hb
  have h1 : j < s.size := by simpa using hj
  have h2 := hd j h1
  have h3 : s.data.toList[j] = s[j] := rfl
  rw [h3, h2]
  simp
theorem has_step (s : ByteArray) (f : Int) (k : Nat) (hlt : k < s.size) (hd : Hid (∀ j, j < k → (h : j < s.size) → ((s[j].toNat : Int) == f) = false)) (hb : ((s[k].toNat : Int) == f) = false) : Hid (∀ j, j < k + 1 → (h : j < s.size) → ((s[j].toNat : Int) == f) = false) := by
  intro j hj h
  by_cases e : j = k
  · subst e; exact hb
  · exact hd.out j (by omega) h

set_option maxHeartbeats 1000000 in
theorem has_calls (op f : Int) (w : World) :
    Calls Tryz.prog 52 #[.int .i64 op, .int .u8 f] w fun e w' => e = .returned (.bool (hasB op f)) ∧ Gr w w' := by
  have hsz := fB_small op
  unfold hasB
  generalize hs : fB op = s at hsz ⊢
  have HS := hide hs
  clear hs
  go_enter Tryz.func52, Tryz.ntmps52
  go_wp2_with (go_at_call 77; refine (refname_calls _ _).mono ?_; rw [HS.out]; rintro e w1 ⟨rfl, hg⟩)
  go_loop [7] (fun i => ∃ k : Nat, k ≤ s.size ∧ i = .int .i64 k ∧ Hid (∀ j, j < k → (h : j < s.size) → ((s[j].toNat : Int) == f) = false)) (fun i => s.size - (intOf i).toNat)
  case atStart => exact ⟨0, by omega, rfl, fun j hj => by omega⟩
  case round =>
    obtain ⟨k, hk, rfl, hd⟩ := hrel
    by_cases hlt : k < s.size
    · cases hb : ((s[k].toNat : Int) == f)
      · go_wp2
        exact ⟨⟨k + 1, by omega, by go_num, has_step s f k hlt hd hb⟩, by simp [intOf]; omega⟩
      · have e1 := hasF_yes s f k hlt hb
        go_wp2
        go_ret
        exact ⟨rfl, hg⟩
    · obtain rfl : k = s.size := by omega
      have e1 := hasF_no s f (fun j h => hd.out j h h)
      go_wp2
      go_ret
      exact ⟨rfl, hg⟩

theorem has_ask : ∀ n : Fin 28, hasB (n.val : Int) 77 = askB (n.val : Int) := by decide +kernel
theorem has_is (op : Int) : hasB op 77 = askB op := by
  cases h : isB op with
  | true =>
    obtain ⟨n, rfl, hn⟩ := isB_nat h
    exact has_ask ⟨n, hn⟩
  | false =>
    unfold hasB fB askB
    rw [h]
    rfl
end Go.Proofs.YtfhplbmgjgfihaaGreatDoor.Nm
