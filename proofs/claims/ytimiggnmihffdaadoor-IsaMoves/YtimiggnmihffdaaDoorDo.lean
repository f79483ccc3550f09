/-
  For any two words and any world: the program's Do adds them, by 2^32. Conditions: words are from 0 to 2^32 - 1.
-/
import Derived.Test.YtimiggnmihffdaaDoorBase
import Derived.Laws.EntriesVeiled
import Derived.Laws.BitsAllLaws
namespace Go.Proofs.YtimiggnmihffdaaDoor
open Go.ChangeShapes Go.WideShapes Go.ChangeAt Go.RowKit
set_option linter.unusedVariables false

abbrev table : Array Value := #[.nilFunc, .nilFunc, .nilFunc, .func (Fn.func 28) #[] #[],
              .func (Fn.func 29) #[] #[], .func (Fn.func 30) #[] #[], .func (Fn.func 31) #[] #[],
              .func (Fn.func 32) #[] #[], .func (Fn.func 33) #[] #[], .func (Fn.func 34) #[] #[],
              .func (Fn.func 35) #[] #[], .func (Fn.func 36) #[] #[], .func (Fn.func 37) #[] #[]]
set_option maxHeartbeats 400000 in
theorem ops_calls (w : World) :
    Calls Tryd.prog 27 #[] w fun e w' => e = .returned (.agg table) ∧ Gr w w' := by
  go_enter Tryd.func27, Tryd.ntmps27
  go_wp2
  exact bodyPost_ret (v := .agg table) (by simp [results, Tryd.results27, go_sem]) rfl ⟨rfl, Gr.alloc (Gr.refl _) _ _⟩

theorem aluis_calls (op : Int) (w : World) :
    Calls Tryd.prog 26 #[.int .i64 op] w fun e w' => e = .returned (.bool (decide (3 ≤ op) && decide (op ≤ 12))) ∧ w' = w := by
  by_cases h : 3 ≤ op <;> by_cases h' : op ≤ 12
  all_goals
    go_enter Tryd.func26, Tryd.ntmps26
    go_wp2
    go_ret
    exact ⟨by simp [h, h'], rfl⟩

theorem ret2 {x y : Int} (h : x = y) : Ending.returned (.tuple #[.int .u32 x, .bool true]) = .returned (.tuple #[.int .u32 y, .bool true]) := by rw [h]

set_option maxHeartbeats 400000 in
theorem do_add (a b : Int) (ha : 0 ≤ a) (ha' : a < 4294967296) (hb : 0 ≤ b) (hb' : b < 4294967296) (w : World) :
    Calls Tryd.prog 24 #[.int .i64 3, .int .u32 a, .int .u32 b] w fun e w' => e = .returned (.tuple #[.int .u32 ((a + b) % 4294967296), .bool true]) ∧ Gr w w' := by
  go_enter Tryd.func24, Tryd.ntmps24
  go_wp2_with (first | (go_at_call 26; refine (aluis_calls _ _).mono ?_; rintro e w' ⟨rfl, rfl⟩) | (go_at_call 27; refine (ops_calls _).mono ?_; rintro e w1 ⟨rfl, hg⟩) | go_in)
  go_ret2
  exact ⟨ret2 (by simp), Gr.alloc hg _ _⟩
end Go.Proofs.YtimiggnmihffdaaDoor
