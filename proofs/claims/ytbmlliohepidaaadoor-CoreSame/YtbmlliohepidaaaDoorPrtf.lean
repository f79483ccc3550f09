/-
  What port answers of a yard: a port whose functions are the yard's. No condition but what each law names.
-/
import Derived.Test.YtbmlliohepidaaaDoorPick
namespace Go.Proofs.YtbmlliohepidaaaDoor
open Go.ChangeShapes Go.WideShapes Go.ChangeAt Go.RowKit
set_option linter.unusedVariables false

/-- a yard ahead of its port -/
structure Y0 (k : Yc) (s : Ys) (vbuf vs ve : Value) (B : Array Value) (w : World) : Prop where
  laid : Laid w
  hy : Has w k.y (yardC k s.room s.asks vs ve) 43
  hgb : Has w k.gb B 27
  hB : B[0]? = some vbuf
  hnb : 0 < k.nb
  hnt : 0 < k.nt
  buf : EntsO w 0 vbuf s.buf
  slp : SlpsO w 0 vs s.slp
  evs : EvsO w 0 ve s.evs
  mem : WordsO w 0 k.vm s.mem
  num : s.mem.length = k.N
  most : k.N ≤ 1000
  rng : ∀ x ∈ s.buf, (0 ≤ x.a ∧ x.a < k.N) ∧ U32 x.v
  wrd : ∀ x ∈ s.mem, U32 x
  room : s.room ≤ 16
  pos : 0 ≠ k.y ∧ 0 ≠ k.gb ∧ 0 ∉ ob k.vm ∧ 0 ∉ ob vbuf ∧ 0 ∉ ob vs ∧ 0 ∉ ob ve
/-- the boxes that port makes -/
def Yc.boxes (k : Yc) (n : Nat) : Yc := { k with yb := n, wb := n + 1 + 1, ab := n + 1 + 1 + 1 }

set_option maxRecDepth 20000 in
set_option maxHeartbeats 1000000 in
theorem port_calls {k : Yc} {s : Ys} {vbuf vs ve : Value} {B : Array Value} {w : World} (h : Y0 k s vbuf vs ve B w) :
    Calls Tryd.prog 13 #[.pointer (some ⟨k.y, 0, none⟩)] w fun e w' => (e = .returned (.agg (portA k.N (fnsY (k.boxes w.heap.size)))) ∧ Gr w w') ∧ Yd (k.boxes w.heap.size) s vbuf vs ve B w' := by
  obtain ⟨ad, cap, hvm, -, -, -, -⟩ := own_at h.mem
  rw [h.num] at hvm
  have HH := hide h
  have hz := h.laid.lt
  have b0 := ((Has.new w #[.pointer (some ⟨k.y, 0, none⟩)] 33).alloc port0 51)
  have b1 := Has.new (w.alloc (.cells #[.pointer (some ⟨k.y, 0, none⟩)] 33)) port0 51
  rw [size1] at b1
  have gg := ((Gr.refl w).alloc #[.pointer (some ⟨k.y, 0, none⟩)] 33).alloc port0 51
  have hs2 : ((w.alloc (.cells #[.pointer (some ⟨k.y, 0, none⟩)] 33)).alloc (.cells port0 51)).heap.size = w.heap.size + 1 + 1 := by rw [size1, size1]
  have e2 : ((((w.alloc (.cells #[.pointer (some ⟨k.y, 0, none⟩)] 33)).alloc (.cells port0 51)).alloc (.cells #[.pointer (some ⟨k.y, 0, none⟩)] 94))).heap.size = w.heap.size + 1 + 1 + 1 := by rw [size1, hs2]
  have b2 := Has.new ((w.alloc (.cells #[.pointer (some ⟨k.y, 0, none⟩)] 33)).alloc (.cells port0 51)) #[.pointer (some ⟨k.y, 0, none⟩)] 94
  rw [hs2] at b2
  have b3 := Has.new (((w.alloc (.cells #[.pointer (some ⟨k.y, 0, none⟩)] 33)).alloc (.cells port0 51)).alloc (.cells #[.pointer (some ⟨k.y, 0, none⟩)] 94)) #[.func (.func 36) #[] #[.pointer (some ⟨w.heap.size, 0, none⟩)]] 95
  rw [e2] at b3
  replace b0 := (b0.alloc #[.pointer (some ⟨k.y, 0, none⟩)] 94).alloc #[.func (.func 36) #[] #[.pointer (some ⟨w.heap.size, 0, none⟩)]] 95
  replace b1 := (b1.alloc #[.pointer (some ⟨k.y, 0, none⟩)] 94).alloc #[.func (.func 36) #[] #[.pointer (some ⟨w.heap.size, 0, none⟩)]] 95
  replace b2 := b2.alloc #[.func (.func 36) #[] #[.pointer (some ⟨w.heap.size, 0, none⟩)]] 95
  replace gg := (gg.alloc #[.pointer (some ⟨k.y, 0, none⟩)] 94).alloc #[.func (.func 36) #[] #[.pointer (some ⟨w.heap.size, 0, none⟩)]] 95
  have cy := (h.hy.later gg).cell (o := 3) (v := k.vm) rfl
  rw [hvm] at cy
  have hyl := h.hy.lt
  have hgl := h.hgb.lt
  clear h hs2 e2
  go_enter Tryd.func13, Tryd.ntmps13
  go_wp2_with (first
    | (refine store_port rfl _ _ rfl (w.heap.size + 1) rfl k.N (fnsY (k.boxes w.heap.size)) rfl port0 b1 rfl ?_))
  have b1' := b1.row (portA k.N (fnsY (k.boxes w.heap.size)))
  refine bodyPost_ret (results_port rfl _ _ (w.heap.size + 1) k.N (fnsY (k.boxes w.heap.size)) rfl b1') rfl ⟨⟨rfl, gg.setRow (by omega) _⟩, ?_⟩
  have h := HH.out
  have g2 := gg.setRow (g := w.heap.size + 1) (by omega) (portA k.N (fnsY (k.boxes w.heap.size)))
  refine ⟨h.laid.later g2, h.hy.later g2, b0.rowAside (by omega) _, b2.rowAside (by omega) _, b3.rowAside (by omega) _, h.hgb.later g2, h.hB, h.hnb, h.hnt, own_later h.buf g2, own_later h.slp g2, own_later h.evs g2, own_later h.mem g2, h.num, h.most, h.rng, h.wrd, h.room, fun z => ?_⟩
  obtain ⟨p1, p2, p3, p4, p5, p6⟩ := h.pos
  rcases mem_foot.1 z with e | e | e | e | e | e | e | e | e
  · exact p1 e
  · have : 0 = w.heap.size := e
    omega
  · have : 0 = w.heap.size + 1 + 1 := e
    omega
  · have : 0 = w.heap.size + 1 + 1 + 1 := e
    omega
  · exact p2 e
  · exact p3 e
  · exact p4 e
  · exact p5 e
  · exact p6 e
end Go.Proofs.YtbmlliohepidaaaDoor
