/-
  Pop of what is due. No condition but what each law names.
-/
import Derived.Test.YtokbbjpnahpeaaaDue2
namespace Go.Proofs.Ytokbbjpnahpeaaa
open Go.ChangeShapes Go.WideShapes Go.ChangeAt Go.RowKit
set_option linter.unusedVariables false

set_option maxHeartbeats 1000000 in
theorem pop_calls {w : World} {base d : Nat} {v : Value} {l : List Du} (h : Ds w base d v l) (n : Nat) (hn : l.length = n + 1) (hl : n ≤ 1000) :
    Calls Try.prog 45 #[.pointer (some ⟨d, 0, none⟩)] w fun e w' => (e = .returned (.iface 49 (duV (fn l n))) ∧ Fr base w w') ∧ ∃ v', Ds w' base d v' (l.take n) := by
  have hb := h.size
  obtain ⟨g, cap, cur, rfl, hbg, hg, hc, hm, hs, ht⟩ := h.row.open (by omega)
  have c3 := dc_at ht n (by omega)
  have hd := h.head
  have hlow := h.low
  have HT := hide ht
  have HS := hide hs
  have hdg := hd.apart hg (by decide)
  clear h ht hs
  generalize fn l n = x at c3 ⊢
  obtain ⟨e1, e2, e3⟩ := c3
  have q1 := hg.cell e1
  have q2 := hg.cell e2
  have q3 := hg.cell e3
  rw [hn] at hd HT hc
  have r1 := hd.cell (o := 0) rfl
  have r2 := hd.free 0
  have hcn : ((n + 1 : Nat) : Int) = (n : Int) + 1 := by omega
  have hncap : (n : Int) ≤ cap := by omega
  have s0 := (hd.set 0 (.slice (some ⟨g, 0, none⟩) n cap)).alloc #[.int .i64 x.k, .int .i64 x.who, .int .i64 x.b] 49
  have hgs := (hg.aside (k := d) (Ne.symm hdg) 0 (.slice (some ⟨g, 0, none⟩) n cap)).alloc #[.int .i64 x.k, .int .i64 x.who, .int .i64 x.b] 49
  have fr0 := Fr.setCell hd hlow (.inl rfl) 0 (.slice (some ⟨g, 0, none⟩) n cap)
  have fr2 := fr0.trans (Fr.gr ((Gr.refl (w.setCell ⟨d, 0, none⟩ (.slice (some ⟨g, 0, none⟩) n cap))).alloc #[.int .i64 x.k, .int .i64 x.who, .int .i64 x.b] 49) (Nat.le_trans hb fr0.size))
  have hdw := hd.lt
  have S0 := hide s0
  have HG := hide hgs
  have FR := hide fr2
  clear hg e1 e2 e3 hd fr0 s0 hgs fr2
  go_enter Try.func45, Try.ntmps45
  go_wp2_with (fail)
  go_ret
  have e : (l.take n).length = n := by rw [List.length_take]; omega
  refine ⟨⟨rfl, FR.out⟩, .slice (some ⟨g, 0, none⟩) n cap, S0.out, ⟨flatD_length _, .inr ⟨g, cap, cur, by rw [e], hbg, HG.out, by rw [e]; omega, hm, HS.out, ?_⟩⟩, hlow⟩
  rw [e, flatD_take, ← HT.out, List.take_take, Nat.min_eq_left (by omega)]

end Go.Proofs.Ytokbbjpnahpeaaa
