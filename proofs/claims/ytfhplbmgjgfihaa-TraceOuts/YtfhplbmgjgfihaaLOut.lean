/-
  TraceOuts' walk: of any events, thread and address it answers true. No condition but that the slice's cells hold the events.
-/
import Derived.Test.YtfhplbmgjgfihaaRsm2
import Derived.Test.YtfhplbmgjgfihaaRsm3
import Derived.Test.YtfhplbmgjgfihaaAwk
namespace Go.Proofs.Ytfhplbmgjgfihaa
open Go.ChangeShapes Go.WideShapes Go.ChangeAt Go.RowKit
set_option linter.unusedVariables false
set_option maxRecDepth 20000

set_option maxHeartbeats 2000000 in
theorem outs_few (a : Option Addr) (c : Nat) (l : List Ev) (hl : ∀ x ∈ l, EvOk x) (hn : l.length ≤ 400) (t ad : Int) (w : World) (h : RowAt w a (flatOf evL l)) :
    Calls Try.prog 3 #[.slice a l.length c, .int .i64 t, .int .i64 ad] w fun e w' => e = .returned (.bool true) ∧ Gr w w' := by
  have hn' : (l.length : Int) ≤ 400 := by omega
  have C1 : Hid (∀ u, Gr w u → Calls Try.prog 10 #[.slice a l.length c, .int .i64 t] u (WordsP u (outsF t l))) := fun u g => by
    have := outs_calls a c l hl (by omega) t u (h.later g)
    rw [outs_same] at this
    exact this
  have C2 : Hid (∀ u, Gr w u → Calls Try.prog 11 #[.slice a l.length c, .int .i64 t] u (WordsP u (outsF t l))) := fun u g => routs_calls a c l (by omega) t u (h.later g)
  have C3 : Hid (∀ u, Gr w u → Calls Try.prog 12 #[.slice a l.length c, .int .i64 ad] u (WordsP u (valsF ad l))) := fun u g => vals_calls a c l (by omega) ad u (h.later g)
  have C4 : Hid (∀ u, Gr w u → Calls Try.prog 13 #[.slice a l.length c, .int .i64 ad] u (WordsP u (valsF ad l))) := fun u g => rvals_calls a c l (by omega) ad u (h.later g)
  have ho : (outsF t l).length ≤ 100000 := by have := outsF_len t l; omega
  have hv : (valsF ad l).length ≤ 100000 := by have := valsF_len ad l; omega
  clear h
  generalize outsF t l = o at C1 C2 ho
  generalize valsF ad l = p at C3 C4 hv
  go_enter Try.func3, Try.ntmps3
  go_wp2_with (fail)
  refine (awake_calls _).mono ?_
  rintro e w1 ⟨rfl, g1⟩
  go_wp2_with (fail)
  refine (C1.out _ g1).mono ?_
  rintro e w2 ⟨v2, ⟨rfl, h2⟩, g2⟩
  go_wp2_with (fail)
  replace g2 := g1.trans g2
  refine (C2.out _ g2).mono ?_
  rintro e w3 ⟨v3, ⟨rfl, h3⟩, g3⟩
  obtain ⟨a2, c2, rfl, r2, -⟩ := own_at h2
  obtain ⟨a3, c3, rfl, r3, -⟩ := own_at h3
  have HS := words_same a2 a3 c2 c3 o ho w3 (r2.later g3) r3
  replace g3 := g2.trans g3
  clear h2 h3 r2 r3
  go_wp2_with (fail)
  refine HS.mono ?_
  rintro e w4 ⟨rfl, g4⟩
  replace g4 := g3.trans g4
  clear HS
  go_wp2_with (fail)
  refine (C3.out _ g4).mono ?_
  rintro e w5 ⟨v5, ⟨rfl, h5⟩, g5⟩
  replace g5 := g4.trans g5
  go_wp2_with (fail)
  refine (C4.out _ g5).mono ?_
  rintro e w6 ⟨v6, ⟨rfl, h6⟩, g6⟩
  obtain ⟨a5, c5, rfl, r5, -⟩ := own_at h5
  obtain ⟨a6, c6, rfl, r6, -⟩ := own_at h6
  have HS := words_same a5 a6 c5 c6 p hv w6 (r5.later g6) r6
  replace g6 := g5.trans g6
  clear h5 h6 r5 r6
  go_wp2_with (fail)
  refine HS.mono ?_
  rintro e w7 ⟨rfl, g7⟩
  clear HS
  go_wp2_with (fail)
  go_ret
  exact ⟨rfl, g6.trans g7⟩
set_option maxHeartbeats 1000000 in
theorem outs_many (ad : Option Addr) (cap : Nat) (n : Nat) (hn : 400 < n) (hm : n ≤ maxLen) (t x : Int) (w : World) :
    Calls Try.prog 3 #[.slice ad n cap, .int .i64 t, .int .i64 x] w fun e w' => e = .returned (.bool true) ∧ Gr w w' := by
  unfold maxLen at hm
  go_enter Try.func3, Try.ntmps3
  go_wp2_with (fail)
  refine (awake_calls _).mono ?_
  rintro e w1 ⟨rfl, g1⟩
  go_wp2_with (fail)
  refine (awake_calls _).mono ?_
  rintro e w2 ⟨rfl, g2⟩
  go_wp2_with (fail)
  go_ret
  exact ⟨rfl, g1.trans g2⟩
end Go.Proofs.Ytfhplbmgjgfihaa
