/-
  A region that draws its order, walked within a round of a range over a function as elsewhere, where it defers nothing. No condition but that.
-/
import Derived.Test.YtfhplbmgjgfihaaMem
import Derived.OrdersIn
import Derived.RangeFuncNested
import Derived.TacticsIn
namespace Go.Proofs.Ytfhplbmgjgfihaa
set_option linter.unusedVariables false

section
variable {P : Program} {ops : Array Oper} {Q : Exit → Act → World → Prop} {l n : Nat}

theorem rows_in {row : String} {args : Array Value} {w : World} {R : Value → World → Prop} (h : Rows P row args w R) : RowsIn (Fence.wide.inRound l) n P row args w R :=
  fun c cs _ => let ⟨v, w', r, s⟩ := h c cs; ⟨v, w', r, stepsIn_wide.2 s⟩
theorem calls_in {f : FuncId} {args : Array Value} {w : World} {R : Ending → World → Prop} (h : Calls P f args w R) : CallsIn (Fence.wide.inRound l) n P f args w R :=
  CallsIn.inRound l (callsIn_wide.2 h)
/-- an operation that defers nothing -/
theorem oper_in {o : Oper} {a : Act} {w : World} {K : Act → World → Prop} (hd : ∀ c, o.op ≠ .defer c) (h : o.wp P a w K Q) : o.wpIn (Fence.wide.inRound l) n P a w K Q := by
  unfold Oper.wp at h
  unfold Oper.wpIn
  refine ⟨fun _ _ => trivial, ?_⟩
  rw [Fence.inRound_round, Oper.semAt_some l _ _ hd]
  generalize (execOp a.eval o).run P w = r at h
  cases r with
  | ok x w' =>
    cases x <;> simp only [Oper.upon, Oper.uponIn] at h ⊢ <;>
      first
        | exact h
        | exact ⟨fun q => absurd q (by simp [Fence.inRound, Fence.wide]), calls_in h⟩
        | exact ⟨fun q => absurd q (by simp [Fence.inRound, Fence.wide]), rows_in h⟩
        | exact h.elim
  | halt x w' => cases x <;> simp only [Oper.upon, Oper.uponIn] at h ⊢ <;> exact h
def calm (ops : Array Oper) : Bool := ops.all fun o => match o.op with
  | .defer _ => false
  | _ => true
theorem calm_spec (h : calm ops = true) {i : Nat} {o : Oper} (hi : ops[i]? = some o) : ∀ c, o.op ≠ .defer c := by
  intro c hc
  obtain ⟨hlt, rfl⟩ := Array.getElem?_eq_some_iff.1 hi
  have := (Array.all_eq_true.1 h) i hlt
  rw [hc] at this
  cases this
theorem any_in {md : Region.Mode} (hQ : ¬ LetsOut Q) (hc : calm ops = true) : ∀ {fuel : Nat} {listed : Array Bool} {a : Act} {w : World}, wpAny P md ops Q fuel listed a w → wpAnyIn (Fence.wide.inRound l) n P md ops Q fuel listed a w
  | 0, _, _, _, h => h
  | fuel + 1, listed, a, w, h => by
    refine ⟨h.1, fun i hi => ?_⟩
    have := h.2 i hi
    unfold wpOp at this
    unfold wpOpIn
    cases ho : ops[i]? with
    | none =>
      rw [ho] at this
      exact any_in hQ hc this
    | some o =>
      rw [ho] at this
      simp only at this ⊢
      split
      · rename_i hw
        rw [if_pos hw] at this
        refine Oper.wpIn_mono (fun a w k => any_in hQ hc k) (oper_in (calm_spec hc ho) ?_)
        exact this.resolve_right fun q => hQ q.2
      · rename_i hw
        rw [if_neg hw] at this
        exact ⟨fun _ _ => trivial, any_in hQ hc this⟩
/-- a region that draws its order, within a round -/
theorem begin_late_in {id : Nat} {a : Act} {w : World} (m : Nat) (Z : List Nat) (S : World → Prop) (hm : P.follows .mixedOrders = true) (hn : ops.size = m) (hc : calm ops = true) (hQ : ¬ LetsOut Q)
    (h : AnyL P .any ops Q S Z m (Array.replicate m false) a w.drew) : (Code.region id ops true).wpIn (Fence.wide.inRound l) n P Q a w := by
  subst hn
  exact wpIn_region_any hm (any_in hQ hc h.any)
/-- operations one behind the other, within a round -/
theorem list_in (hQ : ¬ LetsOut Q) : ∀ {os : List Oper} {a : Act} {w : World}, (∀ o ∈ os, ∀ c, o.op ≠ .defer c) → wpList P ops Q os a w → wpListIn (Fence.wide.inRound l) n P ops Q os a w
  | [], _, _, _, h => h
  | o :: os, a, w, hd, h => by
    unfold wpListIn
    unfold wpList at h
    split
    · rename_i hw
      rw [if_pos hw] at h
      refine Oper.wpIn_mono (fun a w k => list_in hQ (fun p hp => hd p (List.mem_cons_of_mem _ hp)) k) (oper_in (hd o (List.mem_cons_self ..)) ?_)
      exact h.resolve_right fun q => hQ q.2
    · rename_i hw
      rw [if_neg hw] at h
      exact ⟨fun _ _ => trivial, list_in hQ (fun p hp => hd p (List.mem_cons_of_mem _ hp)) h⟩
end
/-- an append whose run is known, within a round -/
theorem step_app_in {l n : Nat} {ops : Array Oper} {rest : List Oper} {o : Oper} {a : Act} {w : World} {Q : Exit → Act → World → Prop} (hgd : o.guard = none) (d : Option Tmp) (hd : o.dst = d) (s x : Operand) (t : TypeId) (ho : o.op = .call { callee := .builtin .append, args := #[s, x], argTypes := #[t, t] })
    (v u : Value) (hs : a.eval s = v) (hx : a.eval x = u) (v' : Value) (w' : World) (hr : (Builtin.append_ #[t, t] o.type #[v, u]).run Try.prog w = .ok v' w') (h : wpListIn (Fence.wide.inRound l) n Try.prog ops Q rest (a.put d v') w') : wpListIn (Fence.wide.inRound l) n Try.prog ops Q (o :: rest) a w :=
  wpListIn_plain hgd fun _ hK => oper_in (by rw [ho]; intro c q; cases q) (wp_app d hd s x t ho v u hs hx v' w' hr (hK _ _ h))
end Go.Proofs.Ytfhplbmgjgfihaa
