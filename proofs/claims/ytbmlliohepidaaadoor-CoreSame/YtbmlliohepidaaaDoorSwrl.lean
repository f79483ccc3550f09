/-
  What sameWorld answers of two worlds with the same memory, first buffer and sleepers: true. No condition but that, and lengths.
-/
import Derived.Test.YtbmlliohepidaaaDoorWrd0
import Derived.Laws.StructEq
namespace Go.Proofs.YtbmlliohepidaaaDoor
open Go.ChangeShapes Go.WideShapes Go.ChangeAt Go.RowKit
set_option linter.unusedVariables false

/-- where a world's parts lie -/
structure Sw where
  cs : Value
  ths : Value
  gb : Nat
  nb : Nat
  cb : Nat
  ma : Option Addr
  mc : Nat
  room : Int
  sa : Option Addr
  sc : Nat
  ve : Value
  ba : Option Addr
  bc : Nat
abbrev Sw.C (x : Sw) (m s : Nat) : Array Value := worA x.cs x.ths (.slice (some ⟨x.gb, 0, none⟩) x.nb x.cb) (.slice x.ma m x.mc) x.room (.slice x.sa s x.sc) x.ve
structure SwOk (x : Sw) (mem : List Int) (buf slp : List Ent) (w : World) : Prop where
  nb : 0 < x.nb
  hb : w.cell? ⟨x.gb, 0, none⟩ = some (.slice x.ba buf.length x.bc)
  rm : RowAt w x.ma (flatOf wordL mem)
  rb : RowAt w x.ba (flatOf entL buf)
  rs : RowAt w x.sa (flatOf slpL slp)
theorem SwOk.later {x : Sw} {mem : List Int} {buf slp : List Ent} {w w' : World} (h : SwOk x mem buf slp w) (k : Gr w w') : SwOk x mem buf slp w' :=
  ⟨h.nb, (Below.cell k (World.block_lt_of_cell? w _ h.hb)).trans h.hb, h.rm.later k, h.rb.later k, h.rs.later k⟩
/-- the two in their boxes -/
structure Sw2 (x y : Sw) (g j : Nat) (mem : List Int) (buf slp : List Ent) (w u : World) : Prop where
  gr : Gr w u
  hx : Has u g (x.C mem.length slp.length) 40
  hy : Has u j (y.C mem.length slp.length) 40
  ox : SwOk x mem buf slp u
  oy : SwOk y mem buf slp u
theorem Sw2.later {x y : Sw} {g j : Nat} {mem : List Int} {buf slp : List Ent} {w u u' : World} (h : Sw2 x y g j mem buf slp w u) (k : Gr u u') : Sw2 x y g j mem buf slp w u' :=
  ⟨h.gr.trans k, h.hx.later k, h.hy.later k, h.ox.later k, h.oy.later k⟩

set_option maxRecDepth 20000 in
set_option maxHeartbeats 1000000 in
theorem sameWorld_calls (x y : Sw) (mem : List Int) (buf slp : List Ent) (w : World) (hx : SwOk x mem buf slp w) (hy : SwOk y mem buf slp w) (hm : mem.length ≤ 1000) (hb : buf.length ≤ 1000) (hs : slp.length ≤ 1000) :
    Calls Tryd.prog 14 #[.agg (x.C mem.length slp.length), .agg (y.C mem.length slp.length)] w fun e w' => e = .returned (.bool true) ∧ Gr w w' := by
  have S2 : Sw2 x y w.heap.size (w.heap.size + 1) mem buf slp w ((w.alloc (.cells (x.C mem.length slp.length) 40)).alloc (.cells (y.C mem.length slp.length) 40)) := by
    have g := ((Gr.refl w).alloc (x.C mem.length slp.length) 40).alloc (y.C mem.length slp.length) 40
    refine ⟨g, (Has.new w _ _).alloc _ _, ?_, hx.later g, hy.later g⟩
    have := Has.new (w.alloc (.cells (x.C mem.length slp.length) 40)) (y.C mem.length slp.length) 40
    rwa [size1] at this
  have hm' : (mem.length : Int) ≤ 1000 := by omega
  have hb' : (buf.length : Int) ≤ 1000 := by omega
  have hs' : (slp.length : Int) ≤ 1000 := by omega
  have nbx : (0 : Int) < x.nb := by have := hx.nb; omega
  have nby : (0 : Int) < y.nb := by have := hy.nb; omega
  clear hx hy
  go_enter Tryd.func14, Tryd.ntmps14
  go_wp2_with (fail)
  generalize ((w.alloc (.cells (x.C mem.length slp.length) 40)).alloc (.cells (y.C mem.length slp.length) 40)) = u0 at S2 ⊢
  generalize w.heap.size = g at S2 ⊢
  have a3 := S2.hx.cell (o := 3) (v := .slice x.ma mem.length x.mc) rfl
  have a2 := S2.hx.cell (o := 2) (v := .slice (some ⟨x.gb, 0, none⟩) x.nb x.cb) rfl
  have a5 := S2.hx.cell (o := 5) (v := .slice x.sa slp.length x.sc) rfl
  have b3 := S2.hy.cell (o := 3) (v := .slice y.ma mem.length y.mc) rfl
  have b2 := S2.hy.cell (o := 2) (v := .slice (some ⟨y.gb, 0, none⟩) y.nb y.cb) rfl
  have b5 := S2.hy.cell (o := 5) (v := .slice y.sa slp.length y.sc) rfl
  have ab := S2.ox.hb
  have bb := S2.oy.hb
  have SS := hide S2
  clear S2
  go_quiet (fail)
  replace SS := hide (SS.out.later ((Gr.refl u0).drewN nq))
  clear a2 a3 a5 b2 b3 b5 ab bb
  generalize u0.drewN nq = u1 at SS ⊢
  go_wp2_with (fail)
  go_loopw [5] (fun i wr => ∃ k : Nat, k ≤ mem.length ∧ i = .int .i64 k ∧ Hid (Sw2 x y g (g + 1) mem buf slp w wr)) (fun i _ => mem.length - (intOf i).toNat)
  case atStart => exact ⟨0, by omega, rfl, SS⟩
  case round =>
    clear SS
    obtain ⟨k, hk, rfl, SS⟩ := hrel
    have a3 := SS.out.hx.cell (o := 3) (v := .slice x.ma mem.length x.mc) rfl
    by_cases hlt : k < mem.length
    · have hlt' : (k : Int) < (mem.length : Int) := by omega
      have b3 := SS.out.hy.cell (o := 3) (v := .slice y.ma mem.length y.mc) rfl
      have hlen : 0 < (flatOf wordL mem).length := by rw [flatOf_length wordL_len]; omega
      obtain ⟨a1, o1, ha1, -⟩ := SS.out.ox.rm.get hlen
      obtain ⟨a2, o2, ha2, -⟩ := SS.out.oy.rm.get hlen
      have r1 := SS.out.ox.rm
      have r2 := SS.out.oy.rm
      rw [ha1] at r1 a3
      rw [ha2] at r2 b3
      have c1 : wr.cell? ⟨a1, o1 + k, none⟩ = some (.int .u32 (mem.getD k 0)) := by
        have := r1.cell wordL_len hlt 0 0 (by omega)
        simpa [wordL] using this
      have c2 : wr.cell? ⟨a2, o2 + k, none⟩ = some (.int .u32 (mem.getD k 0)) := by
        have := r2.cell wordL_len hlt 0 0 (by omega)
        simpa [wordL] using this
      clear r1 r2 hlen
      generalize mem.getD k 0 = v at c1 c2
      have hv : (v != v) = false := by simp
      go_wp2_with (fail)
      go_quiet (fail)
      replace SS := hide (SS.out.later ((Gr.refl wr).drewN nq))
      clear a3 b3 c1 c2
      generalize wr.drewN nq = wr2 at SS ⊢
      go_wp2_with (fail)
      go_roundw
      case rel => exact ⟨k + 1, by omega, by go_num, SS⟩
      case measure => simp [intOf]; omega
    · have hlt' : decide ((k : Int) < (mem.length : Int)) = false := by simp; omega
      clear hk
      go_wp2_with (fail)
      clear a3
      go_loopw [6] (fun i wr => ∃ k : Nat, k ≤ buf.length ∧ i = .int .i64 k ∧ Hid (Sw2 x y g (g + 1) mem buf slp w wr)) (fun i _ => buf.length - (intOf i).toNat)
      case atStart => exact ⟨0, by omega, rfl, SS⟩
      case round =>
        clear SS hlt'
        obtain ⟨k2, hk, rfl, SS⟩ := hrel
        have a2 := SS.out.hx.cell (o := 2) (v := .slice (some ⟨x.gb, 0, none⟩) x.nb x.cb) rfl
        have ab := SS.out.ox.hb
        by_cases hlt : k2 < buf.length
        · have hlt' : (k2 : Int) < (buf.length : Int) := by omega
          have b2 := SS.out.hy.cell (o := 2) (v := .slice (some ⟨y.gb, 0, none⟩) y.nb y.cb) rfl
          have bb := SS.out.oy.hb
          have hlen : 0 < (flatOf entL buf).length := by rw [flatOf_length entL_len]; omega
          obtain ⟨a1, o1, ha1, -⟩ := SS.out.ox.rb.get hlen
          obtain ⟨a3, o3, ha3, -⟩ := SS.out.oy.rb.get hlen
          have r1 := SS.out.ox.rb
          have r2 := SS.out.oy.rb
          rw [ha1] at r1 ab
          rw [ha3] at r2 bb
          have c1 : wr.cell? ⟨a1, o1 + k2 * 2, none⟩ = some (.int .i64 (buf.getD k2 ent0).a) := r1.cell entL_len hlt ent0 0 (by omega)
          have c2 : wr.cell? ⟨a1, o1 + k2 * 2 + 1, none⟩ = some (.int .u32 (buf.getD k2 ent0).v) := by rw [Nat.add_assoc]; exact r1.cell entL_len hlt ent0 1 (by omega)
          have c3 : wr.cell? ⟨a3, o3 + k2 * 2, none⟩ = some (.int .i64 (buf.getD k2 ent0).a) := r2.cell entL_len hlt ent0 0 (by omega)
          have c4 : wr.cell? ⟨a3, o3 + k2 * 2 + 1, none⟩ = some (.int .u32 (buf.getD k2 ent0).v) := by rw [Nat.add_assoc]; exact r2.cell entL_len hlt ent0 1 (by omega)
          clear r1 r2 hlen
          generalize buf.getD k2 ent0 = v at c1 c2 c3 c4
          go_wp2_with (fail)
          go_quiet (fail)
          replace SS := hide (SS.out.later ((Gr.refl wr).drewN nq))
          clear a2 b2 ab bb c1 c2 c3 c4
          generalize wr.drewN nq = wr2 at SS ⊢
          go_wp2_with (fail)
          go_roundw
          case rel => exact ⟨k2 + 1, by omega, by go_num, SS⟩
          case measure => simp [intOf]; omega
        · have hlt' : decide ((k2 : Int) < (buf.length : Int)) = false := by simp; omega
          clear hk
          go_wp2_with (fail)
          clear a2 ab
          go_loopw [7] (fun i wr => ∃ k : Nat, k ≤ slp.length ∧ i = .int .i64 k ∧ Hid (Sw2 x y g (g + 1) mem buf slp w wr)) (fun i _ => slp.length - (intOf i).toNat)
          case atStart => exact ⟨0, by omega, rfl, SS⟩
          case round =>
            clear SS hlt'
            obtain ⟨k3, hk, rfl, SS⟩ := hrel
            have a5 := SS.out.hx.cell (o := 5) (v := .slice x.sa slp.length x.sc) rfl
            by_cases hlt : k3 < slp.length
            · have hlt' : (k3 : Int) < (slp.length : Int) := by omega
              have b5 := SS.out.hy.cell (o := 5) (v := .slice y.sa slp.length y.sc) rfl
              have hlen : 0 < (flatOf slpL slp).length := by rw [flatOf_length slpL_len]; omega
              obtain ⟨a1, o1, ha1, -⟩ := SS.out.ox.rs.get hlen
              obtain ⟨a3, o3, ha3, -⟩ := SS.out.oy.rs.get hlen
              have r1 := SS.out.ox.rs
              have r2 := SS.out.oy.rs
              rw [ha1] at r1 a5
              rw [ha3] at r2 b5
              have c1 : wr.cell? ⟨a1, o1 + k3 * 2, none⟩ = some (.int .i64 (slp.getD k3 ent0).a) := r1.cell slpL_len hlt ent0 0 (by omega)
              have c2 : wr.cell? ⟨a1, o1 + k3 * 2 + 1, none⟩ = some (.int .i64 (slp.getD k3 ent0).v) := by rw [Nat.add_assoc]; exact r1.cell slpL_len hlt ent0 1 (by omega)
              have c3 : wr.cell? ⟨a3, o3 + k3 * 2, none⟩ = some (.int .i64 (slp.getD k3 ent0).a) := r2.cell slpL_len hlt ent0 0 (by omega)
              have c4 : wr.cell? ⟨a3, o3 + k3 * 2 + 1, none⟩ = some (.int .i64 (slp.getD k3 ent0).v) := by rw [Nat.add_assoc]; exact r2.cell slpL_len hlt ent0 1 (by omega)
              clear r1 r2 hlen ha1 ha3
              generalize slp.getD k3 ent0 = v at c1 c2 c3 c4
              obtain ⟨v1, v2⟩ := v
              have q1 : (v1 != v1) = false := by simp
              have q2 : (v2 != v2) = false := by simp
              go_wp2_with (fail)
              go_quiet (fail)
              replace SS := hide (SS.out.later ((Gr.refl wr).drewN nq))
              clear a5 b5 c1 c2 c3 c4
              generalize wr.drewN nq = wr2 at SS ⊢
              go_wp2_with (fail)
              go_roundw
              case rel => exact ⟨k3 + 1, by omega, by go_num, SS⟩
              case measure => simp [intOf]; omega
            · have hlt' : decide ((k3 : Int) < (slp.length : Int)) = false := by simp; omega
              clear hk
              go_wp2_with (fail)
              go_ret
              exact ⟨rfl, SS.out.gr⟩
end Go.Proofs.YtbmlliohepidaaaDoor
