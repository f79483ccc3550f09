/-
  What the lines of a text make of a parser is good: as many lines as instructions, jumps among them, words below 2^32. Lists alone: no condition but that lines are of at most 2^31 bytes.
-/
import Derived.Test.YtcfkcnkekdafgaaDoorPars
import Derived.Test.YtcfkcnkekdafgaaDoorLine
namespace Go.Proofs.YtcfkcnkekdafgaaDoor
set_option linter.unusedVariables false

theorem takeW_ok {x N : Nat} {s : Bs} {i j : Ins} {t u : Bs} (h : takeW x s (i, t) = some (j, u)) (hi : i.ok) (hs : s.length ≤ N) (ht : t.length ≤ N) : j.ok ∧ u.length ≤ N := by
  unfold takeW at h
  split at h
  · simp only [Option.map_eq_some_iff] at h
    obtain ⟨n, hn, e⟩ := h
    cases e
    exact ⟨hi, ht⟩
  split at h
  · simp only [Option.map_eq_some_iff] at h
    obtain ⟨n, hn, e⟩ := h
    cases e
    exact ⟨hi, ht⟩
  split at h
  · simp only [Option.map_eq_some_iff] at h
    obtain ⟨n, hn, e⟩ := h
    cases e
    exact ⟨hi, ht⟩
  split at h
  · simp only [Option.map_eq_some_iff] at h
    obtain ⟨n, hn, e⟩ := h
    cases e
    cases hq : numOf s with
    | none => rw [hq] at hn; cases hn
    | some m =>
      rw [hq] at hn
      cases hn
      have := numOf_le hq
      exact ⟨⟨by show (0 : Int) ≤ m; omega, by show (m : Int) < 4294967296; omega⟩, ht⟩
  split at h
  · simp only [Option.map_eq_some_iff] at h
    obtain ⟨p, hp, e⟩ := h
    split at e
    · cases e
      unfold placeOf at hp
      split at hp
      · split at hp
        · cases hp
          exact ⟨⟨by show (0 : Int) ≤ ((0 : Nat) : Int); omega, by show ((0 : Nat) : Int) < 4294967296; omega⟩, ht⟩
        · simp only [Option.map_eq_some_iff] at hp
          obtain ⟨n, hn, e⟩ := hp
          cases e
          have := numOf_le hn
          exact ⟨⟨by show (0 : Int) ≤ n; omega, by show (n : Int) < 4294967296; omega⟩, ht⟩
      · cases hp
    · cases e
      refine ⟨hi, ?_⟩
      unfold placeOf at hp
      split at hp
      · split at hp
        · cases hp
          have := trim_len s [64]
          show (Lib.trimPrefix s [64]).length ≤ N
          omega
        · simp only [Option.map_eq_some_iff] at hp
          obtain ⟨n, hn, e⟩ := hp
          cases e
          simp at *
      · cases hp
  · simp only [Option.map_eq_some_iff] at h
    obtain ⟨p, hp, e⟩ := h
    cases e
    refine ⟨?_, ht⟩
    have key : p.2 < 4294967296 := by
      unfold addrOf at hp
      split at hp
      · split at hp
        · split at hp
          · rename_i b k hb hk
            cases hp
            exact numOf_le hk
          · cases hp
        · simp only [Option.map_eq_some_iff] at hp
          obtain ⟨n, hn, e⟩ := hp
          cases e
          exact numOf_le hn
      · cases hp
    exact ⟨by show (0 : Int) ≤ (p.2 : Int); omega, by show (p.2 : Int) < 4294967296; omega⟩
theorem takeAll_ok {N : Nat} : ∀ (xs : List Nat) (ss : List Bs) (i j : Ins) (t u : Bs), takeAll xs ss (i, t) = some (j, u) → i.ok → (∀ s ∈ ss, s.length ≤ N) → t.length ≤ N → j.ok ∧ u.length ≤ N
  | [], ss, i, j, t, u, h, hi, hs, ht => by
    simp only [takeAll, Option.some.injEq] at h
    cases h
    exact ⟨hi, ht⟩
  | x :: xs, [], i, j, t, u, h, hi, hs, ht => by simp [takeAll] at h
  | x :: xs, s :: ss, i, j, t, u, h, hi, hs, ht => by
    simp only [takeAll] at h
    cases hw : takeW x s (i, t) with
    | none => rw [hw] at h; cases h
    | some p =>
      rw [hw] at h
      obtain ⟨i', t'⟩ := p
      have := takeW_ok hw hi (hs s (by simp)) ht
      exact takeAll_ok xs ss i' j t' u h this.1 (fun r hr => hs r (by simp [hr])) this.2
theorem readL_ok {t tow : Bs} {i : Ins} (h : readL t = some (i, tow)) : i.ok ∧ tow.length ≤ t.length := by
  unfold readL at h
  split at h
  · refine takeAll_ok _ _ _ _ _ _ h ⟨by show (0 : Int) ≤ 0; omega, by show (0 : Int) < 4294967296; omega⟩ (fun s hs => parts_short 32 t s (List.mem_of_mem_tail hs)) (by simp)
  · cases h

/-- a parser's lists fit together -/
structure Good (st : St) (n : Nat) : Prop where
  c4 : st.code.length ≤ 4000
  ln : st.lines.length = st.code.length
  jl : st.jumps.length ≤ st.code.length
  nl : st.names.length ≤ n
  nv : ∀ x ∈ st.names, x.2 ≤ 4000
  jv : ∀ j ∈ st.jumps, j.1 < st.code.length ∧ j.2.length ≤ 2147483648
  ok : ∀ i ∈ st.code, i.ok
theorem good0 : Good st0 0 := ⟨by simp [st0], rfl, by simp [st0], by simp [st0], by simp [st0], by simp [st0], by simp [st0]⟩
theorem Good.mono {st : St} {n m : Nat} (h : Good st n) (hm : n ≤ m) : Good st m := ⟨h.c4, h.ln, h.jl, Nat.le_trans h.nl hm, h.nv, h.jv, h.ok⟩
theorem good_step {st : St} {n no : Nat} {t : Bs} (h : Good st n) (ht : t.length ≤ 2147483648) : Good (stepL st t no).2 (n + 1) := by
  unfold stepL
  split
  · exact h.mono (by omega)
  split
  · split
    · exact h.mono (by omega)
    split
    · exact h.mono (by omega)
    · refine ⟨h.c4, h.ln, h.jl, by have := h.nl; simp; omega, fun x hx => ?_, h.jv, h.ok⟩
      simp only [List.mem_append, List.mem_singleton] at hx
      rcases hx with hx | rfl
      · exact h.nv x hx
      · exact h.c4
  · split
    · exact h.mono (by omega)
    · rename_i p hp
      obtain ⟨i, tow⟩ := p
      have hr := readL_ok hp
      split
      · rename_i hlt
        refine ⟨by simp; omega, by have := h.ln; simp; omega, ?_, by have := h.nl; show st.names.length ≤ _; omega, h.nv, ?_, ?_⟩
        · have := h.jl
          show List.length (if jumpB i.op = true then st.jumps ++ [(st.code.length, tow)] else st.jumps) ≤ (st.code ++ [i]).length
          split <;> simp <;> omega
        · intro j hj
          show j.1 < (st.code ++ [i]).length ∧ _
          have key : j ∈ st.jumps ∨ j = (st.code.length, tow) := by
            have hj' : j ∈ (if jumpB i.op = true then st.jumps ++ [(st.code.length, tow)] else st.jumps) := hj
            split at hj'
            · simp only [List.mem_append, List.mem_singleton] at hj'
              exact hj'
            · exact .inl hj'
          rcases key with hj | rfl
          · have := h.jv j hj
            exact ⟨by simp; omega, this.2⟩
          · exact ⟨by simp, by show tow.length ≤ _; omega⟩
        · intro k hk
          have hk' : k ∈ st.code ++ [i] := hk
          simp only [List.mem_append, List.mem_singleton] at hk'
          rcases hk' with hk | rfl
          · exact h.ok k hk
          · exact hr.1
      · exact h.mono (by omega)
theorem lines_drop {st : St} {l : List Bs} {k : Nat} {t : Bs} (h : l[k]? = some t) (no : Nat) : linesL st (l.drop k) no = if (stepL st t no).1 = 0 then linesL (stepL st t no).2 (l.drop (k + 1)) (no + 1) else ((stepL st t no).1, no, st) := by
  obtain ⟨h1, e1⟩ := List.getElem?_eq_some_iff.1 h
  rw [List.drop_eq_getElem_cons h1, e1]
  rfl
end Go.Proofs.YtcfkcnkekdafgaaDoor
