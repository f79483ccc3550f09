/-
  container/heap over what is due: up, down, Push and Remove. No condition but what each law names.
-/
import Derived.Test.YtokbbjpnahpeaaaPop
namespace Go.Proofs.Ytokbbjpnahpeaaa
open Go.ChangeShapes Go.WideShapes Go.ChangeAt Go.RowKit
set_option linter.unusedVariables false

/-- what is so while one goes up -/
structure UpI (w : World) (base d : Nat) (v : Value) (l : List Du) (n : Nat) (wr : World) (j : Nat) (l' : List Du) : Prop where
  ds : Ds wr base d v l'
  len : l'.length = l.length
  fr : Fr base w wr
  lt : j < n
  near : Near (fn l') n j
  kids : Kids (fn l') n j
  alike : Alike n (fn l) (fn l')
theorem Ds.swapped {w w' : World} {base d : Nat} {v : Value} {l l' : List Du} (h : Ds w base d v l) (hd : ∀ k C, Has w k C 46 → Has w' k C 46) (hr : Dw w' base v l') : Ds w' base d v l' := ⟨hd _ _ h.head, hr, h.low⟩
theorem UpI.step {w wr w2 : World} {base d n p : Nat} {v : Value} {l l' : List Du} (s : UpI w base d v l n wr (p + 1) l') (hn : n ≤ l.length) (hlt : (fn l' (p + 1)).b < (fn l' (p / 2)).b) (q : Nat)
    (hf : Fr base (wr.drewN q) w2) (hr : Dw w2 base v (swapL l' (p / 2) (p + 1))) (hd : ∀ k C, Has (wr.drewN q) k C 46 → Has w2 k C 46) : UpI w base d v l n w2 (p / 2) (swapL l' (p / 2) (p + 1)) := by
  have h1 := s.lt
  have h2 := s.len
  have e := fn_swapL l' (p / 2) (p + 1) (by omega) (by omega)
  have st := up_step s.near s.kids (by omega) h1 (i := p / 2) (by omega) hlt
  refine ⟨(s.ds.drewN q).swapped hd hr, by rw [swapL_len]; exact h2, (s.fr.trans (Fr.drewN base wr q)).trans hf, by omega, by rw [e]; exact st.1, by rw [e]; exact st.2, ?_⟩
  rw [e]
  exact s.alike.trans (Alike.swp _ (by omega) (by omega))

/-- what comes of going up -/
def UpP (w : World) (base d : Nat) (v : Value) (l : List Du) (n : Nat) (e : Ending) (w' : World) : Prop :=
  (e = .returned (.tuple #[]) ∧ Fr base w w') ∧ ∃ l', Ds w' base d v l' ∧ l'.length = l.length ∧ Heap (fn l') n ∧ Alike n (fn l) (fn l')

set_option maxHeartbeats 1000000 in
theorem up_calls {w : World} {base d : Nat} {v : Value} {l : List Du} (h : Ds w base d v l) (n j : Nat) (hn : n ≤ l.length) (hl : l.length ≤ 1000) (hj : j < n) (hN : Near (fn l) n j) (hK : Kids (fn l) n j) :
    Calls Try.prog 24 #[ifc d, .int .i64 j] w (UpP w base d v l n) := by
  have start : UpI w base d v l n w j l := ⟨h, rfl, Fr.refl _ _, hj, hN, hK, Alike.refl _ _⟩
  obtain ⟨a, c, rfl⟩ := h.row.slice
  clear h hN hK
  go_enter Try.func24, Try.ntmps24
  go_wp2_with (fail)
  go_loopw [1] (fun s1 wr => ∃ (j' : Nat) (l' : List Du), s1 = .int .i64 j' ∧ UpI w base d (.slice a l.length c) l n wr j' l') (fun s1 _ => (intOf s1).toNat)
  case atStart => exact ⟨j, l, rfl, start⟩
  case round =>
    clear start hj
    obtain ⟨j', l', rfl, s⟩ := hrel
    have hlt := s.lt
    have hlen := s.len
    have SS := hide s
    have mL := finds_less s.ds.head
    have mS : ∀ q, Sem.run Try.prog (method 179 53 (.pointer (some ⟨d, 0, none⟩)) "Swap") (wr.drewN q) = .ok (44, .slice a l.length c) (wr.drewN q) := fun q => finds_swap (s.ds.head.drewN q)
    cases j' with
    | zero =>
      clear s mL mS
      go_wp2_with (fail)
      go_end0
      have s := SS.out
      exact ⟨⟨rfl, s.fr⟩, l', s.ds, s.len, s.near.heap s.kids (by omega), s.alike⟩
    | succ p =>
      have ep : ((p / 2 : Nat) : Int) = (p : Int) / 2 := by omega
      have hp : ¬ ((p : Int) / 2 = (p : Int) + 1) := by omega
      have hps : ((p : Int) / 2 == (p : Int) + 1) = false := by simp; omega
      have L := less_calls s.ds.row (p + 1) (p / 2) (by omega) (by omega) (by omega)
      have W := fun q => swap_calls (s.ds.drewN q).row (s.ds.drewN q).size (p / 2) (p + 1) (by omega) (by omega) (by omega)
      rw [ep] at L
      simp only [ep] at W
      rw [show ((p + 1 : Nat) : Int) = (p : Int) + 1 by omega] at L
      simp only [show ((p + 1 : Nat) : Int) = (p : Int) + 1 by omega] at W
      by_cases hb : (fn l' (p + 1)).b < (fn l' (p / 2)).b
      · rw [show decide ((fn l' (p + 1)).b < (fn l' (p / 2)).b) = true by simpa using hb] at L
        have HB := hide hb
        have HL := hide L
        have HW := hide W
        clear L W hb s
        go_wp2_with (first
          | (go_at_call 43; refine HL.out.mono ?_; rintro e w' ⟨rfl, q, rfl⟩)
          | (go_at_call 44; refine (HW.out _).mono ?_; rintro e w2 ⟨⟨rfl, hf⟩, hr, hd⟩))
        exact ⟨⟨p / 2, _, by rw [ep], SS.out.step hn HB.out q hf hr hd⟩, by simp [intOf]; omega⟩
      · rw [show decide ((fn l' (p + 1)).b < (fn l' (p / 2)).b) = false by simpa using hb] at L
        have HB := hide hb
        have HL := hide L
        clear L W hb s
        go_wp2_with (first
          | (go_at_call 43; refine HL.out.mono ?_; rintro e w' ⟨rfl, q, rfl⟩))
        go_end0
        have s := SS.out
        refine ⟨⟨rfl, s.fr.trans (Fr.drewN _ _ q)⟩, l', s.ds.drewN q, s.len, s.near.heap s.kids (fun _ => ?_), s.alike⟩
        rw [show (p + 1 - 1) / 2 = p / 2 by omega]
        have := HB.out
        omega
end Go.Proofs.Ytokbbjpnahpeaaa
