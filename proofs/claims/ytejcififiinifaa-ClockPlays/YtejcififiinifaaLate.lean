/-
  A region that draws its order and ends in stores that wait for all that is read: what is read may be read first, if it is so in every world that meets a condition S, and S is shown anew behind each operation but those late ones. No condition but that.
-/
import Derived.Test.YtejcififiinifaaRows
import Derived.OrdersHeld
import Derived.RegionTactic
namespace Go.Proofs.Ytejcififiinifaa
set_option linter.unusedVariables false

section
variable {P : Program} {ops : Array Oper} {Q : Exit → Act → World → Prop} {md : Region.Mode} {S : World → Prop} {Z : List Nat}

/-- number k waits for number i, directly or by others, and none of them has come up -/
def stuck (md : Region.Mode) (ops : Array Oper) (listed : Array Bool) (i : Nat) : Nat → Nat → Bool
  | 0, k => !(listed.getD k true) && k == i
  | n + 1, k => !(listed.getD k true) && (k == i || match ops[k]? with
    | some o => o.after.any fun e => Region.binds md e && stuck md ops listed i n e.on
    | none => false)
/-- each of the late operations waits for number i -/
def lateB (md : Region.Mode) (ops : Array Oper) (Z : List Nat) (listed : Array Bool) (i : Nat) : Bool := Z.all fun z => stuck md ops listed i 8 z
theorem stuck_un {listed : Array Bool} {i : Nat} : ∀ {n k : Nat}, stuck md ops listed i n k = true → listed.getD k true = false
  | 0, k, h => by simp only [stuck, Bool.and_eq_true, Bool.not_eq_true'] at h; exact h.1
  | n + 1, k, h => by simp only [stuck, Bool.and_eq_true, Bool.not_eq_true'] at h; exact h.1
theorem stuck_not {listed : Array Bool} {i j : Nat} (hr : j ∈ Region.ready md ops listed) (hne : j ≠ i) : ∀ n, stuck md ops listed i n j = false := by
  intro n
  obtain ⟨hun, p, hp, hall⟩ := mem_ready.1 hr
  cases n with
  | zero => simp [stuck, hne]
  | succ n =>
    cases hs : stuck md ops listed i (n + 1) j with
    | false => rfl
    | true =>
      simp only [stuck, hp, Bool.and_eq_true, Bool.or_eq_true, beq_iff_eq, hne, false_or] at hs
      obtain ⟨e, he, h2⟩ := Array.any_eq_true'.1 hs.2
      simp only [Bool.and_eq_true] at h2
      have h3 := hall e he h2.1
      have h4 := stuck_un h2.2
      rcases Nat.lt_or_ge e.on listed.size with hlt | hge
      · simp [hlt] at h3 h4
        rw [h3] at h4
        cases h4
      · simp [Array.getElem?_eq_none hge] at h3
theorem stuck_set {listed : Array Bool} {i j : Nat} (hr : j ∈ Region.ready md ops listed) (hne : j ≠ i) : ∀ {n k : Nat}, stuck md ops listed i n k = true → stuck md ops (listed.setIfInBounds j true) i n k = true
  | 0, k, h => by
    have hk : j ≠ k := fun q => by rw [q] at hr hne; rw [stuck_not hr hne] at h; cases h
    simp only [stuck] at h ⊢
    rw [getD_set_ne true hk]
    exact h
  | n + 1, k, h => by
    have hk : j ≠ k := fun q => by rw [q] at hr hne; rw [stuck_not hr hne] at h; cases h
    simp only [stuck] at h ⊢
    rw [getD_set_ne true hk]
    simp only [Bool.and_eq_true, Bool.or_eq_true] at h ⊢
    refine ⟨h.1, h.2.imp id fun q => ?_⟩
    cases ho : ops[k]? with
    | none => rw [ho] at q; cases q
    | some o =>
      rw [ho] at q
      simp only at q ⊢
      obtain ⟨e, he, h2⟩ := Array.any_eq_true'.1 q
      simp only [Bool.and_eq_true] at h2
      exact Array.any_eq_true'.2 ⟨e, he, by simp only [Bool.and_eq_true]; exact ⟨h2.1, stuck_set hr hne h2.2⟩⟩

/-- none of the late operations has come up -/
def earlyB (Z : List Nat) (listed : Array Bool) : Bool := Z.all fun z => !(listed.getD z true)

theorem early_set {listed : Array Bool} {j : Nat} (h : earlyB Z listed = true) (hj : j ∉ Z) : earlyB Z (listed.setIfInBounds j true) = true := by
  refine List.all_eq_true.2 fun z hz => ?_
  rw [getD_set_ne true (fun q => hj (by rw [q]; exact hz))]
  exact List.all_eq_true.1 h z hz
theorem early_unset {listed : Array Bool} {j : Nat} (h : earlyB Z (listed.setIfInBounds j true) = true) (hj : j ∉ Z) : earlyB Z listed = true := by
  refine List.all_eq_true.2 fun z hz => ?_
  have := List.all_eq_true.1 h z hz
  rw [getD_set_ne true (fun q => hj (by rw [q]; exact hz))] at this
  exact this

/-- whatever order is picked; S holds behind each operation as long as no late one has come up -/
def AnyL (P : Program) (md : Region.Mode) (ops : Array Oper) (Q : Exit → Act → World → Prop) (S : World → Prop) (Z : List Nat) : Nat → Array Bool → Act → World → Prop
  | 0, listed, a, w => Region.ready md ops listed = [] ∧ Q .normal a w
  | fuel + 1, listed, a, w =>
    (Region.ready md ops listed = [] → Q .normal a w) ∧
    ∀ i, i ∈ Region.ready md ops listed → wpOp P ops Q i (fun b u => (earlyB Z (listed.setIfInBounds i true) = true → S u) ∧ AnyL P md ops Q S Z fuel (listed.setIfInBounds i true) b u) a w

theorem AnyL.any {fuel : Nat} : ∀ {listed : Array Bool} {a : Act} {w : World}, AnyL P md ops Q S Z fuel listed a w → wpAny P md ops Q fuel listed a w := by
  induction fuel with
  | zero => exact fun h => h
  | succ fuel ih => exact fun h => ⟨h.1, fun i hi => wpOp_mono (fun b u k => ih k.2) (h.2 i hi)⟩

theorem begin_late {id : Nat} {a : Act} {w : World} (n : Nat) (Z : List Nat) (S : World → Prop) (hm : P.follows .mixedOrders = true) (hn : ops.size = n)
    (h : AnyL P .any ops Q S Z n (Array.replicate n false) a w.drew) : (Code.region id ops true).wp P Q a w := by
  subst hn
  exact wp_region_any hm h.any

theorem not_after {i j : Nat} {listed : Array Bool} (hr : i ∈ Region.ready md ops listed) {p : Oper} (hall : ∀ e ∈ p.after, Region.binds md e = true → listed.getD e.on false = true) :
    ∀ e ∈ p.after, Region.binds md e = true → e.on ≠ i := by
  intro e he hb q
  have hiun := (mem_ready.1 hr).1
  have h1 := hall e he hb
  rw [q] at h1
  rcases Nat.lt_or_ge i listed.size with hlt | hge
  · simp [hlt] at hiun h1
    rw [hiun] at h1
    cases h1
  · simp [Array.getElem?_eq_none hge] at h1

theorem AnyL.first {i : Nat} {o : Oper} {v : Value} (hi : ops[i]? = some o) (hsel : ∀ (j : Nat) (p : Oper) cs b, ops[j]? = some p → p.op ≠ .select cs b)
    (hQ : ∀ c a w, Q (.panic c) (a.put o.dst v) w → Q (.panic c) a w) (hiz : i ∉ Z) {fuel : Nat} :
    ∀ {listed : Array Bool} {a : Act} {w : World}, lateB md ops Z listed i = true → earlyB Z listed = true →
      (∀ j p, ops[j]? = some p → j ≠ i → listed.getD j true = false → (∀ e ∈ p.after, Region.binds md e = true → e.on ≠ i) → o.apart ops p = true) →
      i ∈ Region.ready md ops listed → YieldsIf P ops S o v a → S w →
      AnyL P md ops Q S Z fuel (listed.setIfInBounds i true) (a.put o.dst v) w → AnyL P md ops Q S Z (fuel + 1) listed a w := by
  induction fuel with
  | zero =>
    intro listed a w _ _ _ hr hy hS H
    refine ⟨fun h => (by rw [h] at hr; cases hr), fun j hj => ?_⟩
    rcases Nat.decEq j i with hne | rfl
    · have := ready_mono hj hne
      rw [H.1] at this
      cases this
    · exact hy.wpOp hi hS ⟨fun _ => hS, H⟩
  | succ fuel ih =>
    intro listed a w hl hea hfree hr hy hS H
    refine ⟨fun h => (by rw [h] at hr; cases hr), fun j hj => ?_⟩
    rcases Nat.decEq j i with hne | rfl
    · obtain ⟨hun, p, hp, hall⟩ := mem_ready.1 hj
      have hnot := not_after (j := j) hr hall
      have hz : j ∉ Z := by
        intro hz
        have h1 := List.all_eq_true.1 hl j hz
        rw [stuck_not hj hne] at h1
        cases h1
      have step := wpOp_putIf hp (hfree j p hp hne hun hnot) (fun cs b => hsel i o cs b hi) (fun cs b => hsel j p cs b hp) hQ hy (H.2 j (ready_mono hj hne))
      refine wpOp_mono (fun b u k => ?_) step
      have hu := k.2.1 (early_set (early_set hea hiz) hz)
      refine ⟨fun _ => hu, ih (List.all_eq_true.2 fun z hz => stuck_set hj hne (List.all_eq_true.1 hl z hz)) (early_set hea hz) (fun k q hk hki huk hno => hfree k q hk hki ?_ hno) (ready_mono hr (Ne.symm hne)) k.1 hu ?_⟩
      · rcases Nat.decEq j k with hjk | rfl
        · rw [getD_set_ne true hjk] at huk; exact huk
        · exact hun
      · rw [Array.setIfInBounds_comm _ _ hne]
        exact k.2.2
    · exact hy.wpOp hi hS ⟨fun _ => hS, H⟩

theorem AnyL.firstP {i : Nat} {o : Oper} {v : Value} (hi : ops[i]? = some o) (hsel : ∀ (j : Nat) (p : Oper) cs b, ops[j]? = some p → p.op ≠ .select cs b)
    (hQ : ∀ c a w, Q (.panic c) (a.put o.dst v) w → Q (.panic c) a w) (hiz : i ∉ Z) {fuel : Nat} :
    ∀ {listed : Array Bool} {a : Act} {w : World}, (earlyB Z listed = true → S w) →
      (∀ j p, ops[j]? = some p → j ≠ i → listed.getD j true = false → (∀ e ∈ p.after, Region.binds md e = true → e.on ≠ i) → o.apart ops p = true) →
      i ∈ Region.ready md ops listed → YieldsIf P ops (fun _ => True) o v a →
      AnyL P md ops Q S Z fuel (listed.setIfInBounds i true) (a.put o.dst v) w → AnyL P md ops Q S Z (fuel + 1) listed a w := by
  induction fuel with
  | zero =>
    intro listed a w hS _ hr hy H
    refine ⟨fun h => (by rw [h] at hr; cases hr), fun j hj => ?_⟩
    rcases Nat.decEq j i with hne | rfl
    · have := ready_mono hj hne
      rw [H.1] at this
      cases this
    · exact hy.wpOp hi trivial ⟨fun q => hS (early_unset q hiz), H⟩
  | succ fuel ih =>
    intro listed a w hS hfree hr hy H
    refine ⟨fun h => (by rw [h] at hr; cases hr), fun j hj => ?_⟩
    rcases Nat.decEq j i with hne | rfl
    · obtain ⟨hun, p, hp, hall⟩ := mem_ready.1 hj
      have hnot := not_after (j := j) hr hall
      have step := wpOp_putIf hp (hfree j p hp hne hun hnot) (fun cs b => hsel i o cs b hi) (fun cs b => hsel j p cs b hp) hQ hy (H.2 j (ready_mono hj hne))
      refine wpOp_mono (fun b u k => ?_) step
      have hu : earlyB Z (listed.setIfInBounds j true) = true → S u := fun q => k.2.1 (by rw [Array.setIfInBounds_comm _ _ (Ne.symm hne)]; exact early_set q hiz)
      refine ⟨hu, ih hu (fun k q hk hki huk hno => hfree k q hk hki ?_ hno) (ready_mono hr (Ne.symm hne)) k.1 ?_⟩
      · rcases Nat.decEq j k with hjk | rfl
        · rw [getD_set_ne true hjk] at huk; exact huk
        · exact hun
      · rw [Array.setIfInBounds_comm _ _ hne]
        exact k.2.2
    · exact hy.wpOp hi trivial ⟨fun q => hS (early_unset q hiz), H⟩

/-- number i, which reads, is taken first -/
theorem AnyL.take (i : Nat) {o : Oper} (d : Option Tmp) (v : Value) {fuel : Nat} {listed : Array Bool} {a : Act} {w : World} (hi : ops[i]? = some o) (hd : o.dst = d)
    (hs : Region.noSelect ops = true) (hf : Region.free md ops listed i = true) (hr : (Region.ready md ops listed).contains i = true)
    (hl : (lateB md ops Z listed i && (earlyB Z listed && !(Z.contains i))) = true)
    (hQ : ∀ c a w, Q (.panic c) (a.put d v) w → Q (.panic c) a w) (hy : YieldsIf P ops S o v a) (hS : S w)
    (h : AnyL P md ops Q S Z fuel (listed.setIfInBounds i true) (a.put d v) w) : AnyL P md ops Q S Z (fuel + 1) listed a w := by
  subst hd
  simp only [Bool.and_eq_true, Bool.not_eq_true', List.contains_eq_mem, decide_eq_false_iff_not] at hl
  exact AnyL.first hi (Region.noSelect_spec hs) hQ hl.2.2 hl.1 hl.2.1 (Region.free_spec hi hf) (by simpa using hr) hy hS h

/-- number i, which hangs on no world, is taken first -/
theorem AnyL.takeP (i : Nat) {o : Oper} (d : Option Tmp) (v : Value) {fuel : Nat} {listed : Array Bool} {a : Act} {w : World} (hi : ops[i]? = some o) (hd : o.dst = d)
    (hs : Region.noSelect ops = true) (hf : Region.free md ops listed i = true) (hr : (Region.ready md ops listed).contains i = true)
    (hl : (Z.contains i) = false)
    (hQ : ∀ c a w, Q (.panic c) (a.put d v) w → Q (.panic c) a w) (hw : Region.wanted o (yielded ops a.tmps) = true) (hy : ∀ u, (execOp a.eval o).run P u = .ok (.value v) u) (hS : earlyB Z listed = true → S w)
    (h : AnyL P md ops Q S Z fuel (listed.setIfInBounds i true) (a.put d v) w) : AnyL P md ops Q S Z (fuel + 1) listed a w := by
  subst hd
  simp only [List.contains_eq_mem, decide_eq_false_iff_not] at hl
  exact AnyL.firstP hi (Region.noSelect_spec hs) hQ hl hS (Region.free_spec hi hf) (by simpa using hr) (.inl ⟨hw, fun u _ => hy u⟩) h

/-- number i, whose guard says no, is taken first -/
theorem AnyL.skip (i : Nat) {o : Oper} (d : Option Tmp) {fuel : Nat} {listed : Array Bool} {a : Act} {w : World} (hi : ops[i]? = some o) (hd : o.dst = d)
    (hs : Region.noSelect ops = true) (hf : Region.free md ops listed i = true) (hr : (Region.ready md ops listed).contains i = true)
    (hl : (Z.contains i) = false)
    (hQ : ∀ c a w, Q (.panic c) (a.put d undef) w → Q (.panic c) a w) (hw : Region.wanted o (yielded ops a.tmps) = false) (hS : earlyB Z listed = true → S w)
    (h : AnyL P md ops Q S Z fuel (listed.setIfInBounds i true) (a.put d undef) w) : AnyL P md ops Q S Z (fuel + 1) listed a w := by
  subst hd
  simp only [List.contains_eq_mem, decide_eq_false_iff_not] at hl
  exact AnyL.firstP hi (Region.noSelect_spec hs) hQ hl hS (Region.free_spec hi hf) (by simpa using hr) (.inr ⟨hw, rfl⟩) h

/-- number i alone may come up -/
theorem AnyL.one (i : Nat) {o : Oper} {fuel : Nat} {listed : Array Bool} {a : Act} {w : World} (hr : Region.ready md ops listed = [i]) (hi : ops[i]? = some o)
    (hw : Region.wanted o (yielded ops a.tmps) = true)
    (h : Oper.wp P o a w (fun b u => (earlyB Z (listed.setIfInBounds i true) = true → S u) ∧ AnyL P md ops Q S Z fuel (listed.setIfInBounds i true) b u) Q) : AnyL P md ops Q S Z (fuel + 1) listed a w := by
  refine ⟨fun h0 => (by rw [hr] at h0; cases h0), fun j hj => ?_⟩
  rw [hr] at hj
  obtain rfl := List.mem_singleton.1 hj
  unfold wpOp
  rw [hi]
  show if Region.wanted o (yielded ops a.tmps) = true then _ else _
  rw [if_pos hw]
  exact .inl h

/-- numbers i and j alone may come up -/
theorem AnyL.two (i j : Nat) {o p : Oper} {fuel : Nat} {listed : Array Bool} {a : Act} {w : World} (hr : Region.ready md ops listed = [i, j]) (hi : ops[i]? = some o) (hj : ops[j]? = some p)
    (hw : (Region.wanted o (yielded ops a.tmps) && Region.wanted p (yielded ops a.tmps)) = true)
    (h : Oper.wp P o a w (fun b u => (earlyB Z (listed.setIfInBounds i true) = true → S u) ∧ AnyL P md ops Q S Z fuel (listed.setIfInBounds i true) b u) Q)
    (k : Oper.wp P p a w (fun b u => (earlyB Z (listed.setIfInBounds j true) = true → S u) ∧ AnyL P md ops Q S Z fuel (listed.setIfInBounds j true) b u) Q) : AnyL P md ops Q S Z (fuel + 1) listed a w := by
  rw [Bool.and_eq_true] at hw
  refine ⟨fun h0 => (by rw [hr] at h0; cases h0), fun m hm => ?_⟩
  rw [hr] at hm
  rcases List.mem_cons.1 hm with rfl | hm
  · unfold wpOp
    rw [hi]
    show if Region.wanted o (yielded ops a.tmps) = true then _ else _
    rw [if_pos hw.1]
    exact .inl h
  · obtain rfl := List.mem_singleton.1 hm
    unfold wpOp
    rw [hj]
    show if Region.wanted p (yielded ops a.tmps) = true then _ else _
    rw [if_pos hw.2]
    exact .inl k

/-- all have come up -/
theorem AnyL.done {fuel : Nat} {listed : Array Bool} {a : Act} {w : World} (hr : Region.ready md ops listed = []) (h : Q .normal a w) : AnyL P md ops Q S Z fuel listed a w := by
  cases fuel with
  | zero => exact ⟨hr, h⟩
  | succ fuel => exact ⟨fun _ => h, fun i hi => by rw [hr] at hi; cases hi⟩

/-- a late one has come up: nothing is asked -/
theorem late {b : Bool} (h : b = false) {p : Prop} : b = true → p := fun q => by rw [h] at q; cases q
/-- what yields whatever the world -/
theorem yields_pure {o : Oper} {a : Act} (v : Value) (hw : Region.wanted o (yielded ops a.tmps) = true) (h : ∀ w, (execOp a.eval o).run P w = .ok (.value v) w) : YieldsIf P ops S o v a :=
  .inl ⟨hw, fun w _ => h w⟩
/-- what yields where S holds -/
theorem yields_held {o : Oper} {a : Act} (v : Value) (hw : Region.wanted o (yielded ops a.tmps) = true) (h : ∀ w, S w → (execOp a.eval o).run P w = .ok (.value v) w) : YieldsIf P ops S o v a :=
  .inl ⟨hw, h⟩
/-- a call by its contract -/
theorem wp_call {o : Oper} {a : Act} {w : World} {K : Act → World → Prop} (d : Option Tmp) (hd : o.dst = d) (f : FuncId) (args : Array Value) (hrun : (execOp a.eval o).run P w = .ok (.enter f args) w) {R : Ending → World → Prop}
    (hc : Calls P f args w R) (h : ∀ e u, R e u → ∃ v, e = .returned v ∧ K (a.put d v) u) : Oper.wp P o a w K Q := by
  subst hd
  unfold Oper.wp
  rw [hrun, Oper.upon_enter]
  refine hc.mono fun e u k => ?_
  obtain ⟨v, rfl, hk⟩ := h e u k
  exact hk
/-- an operation that yields a value and makes a world -/
theorem wp_made {o : Oper} {a : Act} {w : World} {K : Act → World → Prop} (d : Option Tmp) (hd : o.dst = d) (v : Value) (u : World) (hrun : (execOp a.eval o).run P w = .ok (.value v) u) (h : K (a.put d v) u) : Oper.wp P o a w K Q := by
  subst hd
  unfold Oper.wp
  rw [hrun]
  exact h
/-- an operation that yields a value -/
theorem wp_value {o : Oper} {a : Act} {w : World} {K : Act → World → Prop} (d : Option Tmp) (hd : o.dst = d) (v : Value) (hrun : (execOp a.eval o).run P w = .ok (.value v) w) (h : K (a.put d v) w) : Oper.wp P o a w K Q := by
  subst hd
  unfold Oper.wp
  rw [hrun]
  exact h
end
end Go.Proofs.Ytejcififiinifaa
