/-
  Slices of words in a world, made, copied and written; entries put into memory, by plain lists. No condition but what each law names.
-/
import Derived.Test.YtiogacfejchimaaEntr
import Derived.Laws.CopyOwn
namespace Go.Proofs.Ytiogacfejchimaa
open Go.ChangeShapes Go.WideShapes Go.ChangeAt Go.RowKit
set_option linter.unusedVariables false

/-- an entry is put into memory -/
def drain1 (m : List Int) (x : Ent) : List Int := if 0 ≤ x.a ∧ x.a < (m.length : Int) then m.set x.a.toNat x.v else m
theorem drain1_length (m : List Int) (x : Ent) : (drain1 m x).length = m.length := by
  unfold drain1
  split <;> simp
/-- entries are put into memory, the oldest first -/
def drainL (l : List Ent) (m : List Int) : List Int := l.foldl drain1 m
theorem drainL_length : ∀ (l : List Ent) (m : List Int), (drainL l m).length = m.length
  | [], m => rfl
  | x :: l, m => by
    show (drainL l (drain1 m x)).length = _
    rw [drainL_length l, drain1_length]
theorem drainL_snoc (l : List Ent) (x : Ent) (m : List Int) : drainL (l ++ [x]) m = drain1 (drainL l m) x := by
  unfold drainL
  rw [List.foldl_append]
  rfl

def wordsC (m : List Int) : Array Value := (m.map (Value.int .u32)).toArray
theorem wordsC_size (m : List Int) : (wordsC m).size = m.length := by simp [wordsC]
theorem wordsC_at (m : List Int) (i : Nat) (h : i < m.length) : (wordsC m)[i]? = some (.int .u32 (m.getD i 0)) := by
  simp [wordsC, List.getD_eq_getElem?_getD, h]
theorem wordsC_set (m : List Int) (i : Nat) (v : Int) : (wordsC m).setIfInBounds i (.int .u32 v) = wordsC (m.set i v) := by
  simp [wordsC, List.map_set]

/-- a slice of words: none, or their cells from an address on -/
def WordsAt (w : World) (a : Option Addr) (m : List Int) : Prop :=
  m = [] ∨ ∃ b off, a = some ⟨b, off, none⟩ ∧ ∀ i, i < m.length → w.cell? ⟨b, off + i, none⟩ = some (.int .u32 (m.getD i 0))
theorem WordsAt.later {w w' : World} {a : Option Addr} {m : List Int} (h : WordsAt w a m) (g : Gr w w') : WordsAt w' a m := by
  rcases h with h | ⟨b, off, ha, h⟩
  · exact .inl h
  · exact .inr ⟨b, off, ha, fun i hi => (Below.cell g (p := ⟨b, _, none⟩) (block_lt_of_cell (h i hi))).trans (h i hi)⟩
theorem WordsAt.get {w : World} {a : Option Addr} {m : List Int} (h : WordsAt w a m) {i : Nat} (hi : i < m.length) :
    ∃ b off, a = some ⟨b, off, none⟩ ∧ w.cell? ⟨b, off + i, none⟩ = some (.int .u32 (m.getD i 0)) := by
  rcases h with h | ⟨b, off, ha, h⟩
  · subst h; simp at hi
  · exact ⟨b, off, ha, h i hi⟩
theorem Has.words {w : World} {g : Nat} {m : List Int} {t : TypeId} (h : Has w g (wordsC m) t) : WordsAt w (some ⟨g, 0, none⟩) m :=
  .inr ⟨g, 0, rfl, fun i hi => by rw [Nat.zero_add]; exact h.cell (wordsC_at m i hi)⟩

theorem infoW3 : (Try.prog.info? 24).map (fun i => (i.zero, i.size, i.bytes)) = some (some (.int .u32 0), 1, 4) := by kernel_rfl
theorem infoW : (Try.prog.info? 24).map (·.size) = some 1 := by kernel_rfl
theorem words_rep (n : Nat) : madeCells (Value.cells (.int .u32 0)) (n * 1) = wordsC (List.replicate n 0) := by
  apply Array.ext_getElem?
  intro i
  rcases Nat.lt_or_ge i n with h | h
  · rw [wordsC_at _ _ (by simpa using h)]
    have e3 : (List.replicate n (0 : Int)).getD i 0 = 0 := by simp [List.getD_eq_getElem?_getD, h]
    rw [e3]
    simp [madeCells, h, Value.cells, Nat.mod_one]
  · rw [Array.getElem?_eq_none (by simpa [size_madeCells] using h), Array.getElem?_eq_none (by simpa [wordsC_size] using h)]
theorem make_words (n : Nat) (h : n ≤ 5000) (w : World) : (Instr.makeSlice 48 (.int .i64 n) (.int .i64 n)).run Try.prog w = .ok (.slice (some ⟨w.heap.size, 0, none⟩) n n) (w.alloc (.cells (wordsC (List.replicate n 0)) 24)) := by
  obtain ⟨i, h1, h2, h3, h4⟩ := info_parts infoW3
  have := run_make (P := Try.prog) w 48 24 i (.int .u32 0) Try.underlying48 h1 h2 .i64 .i64 n n (by omega) (Int.le_refl _) (by rw [h4]; omega) (by omega)
  rw [h3] at this
  rw [← words_rep]
  simpa using this

theorem make_op {o : Oper} {a : Act} {w : World} (n : Nat) (hn : n ≤ 5000) (x y : Operand) (ho : o.op = .makeSlice 48 x y) (hx : a.eval x = .int .i64 n) (hy : a.eval y = .int .i64 n) :
    (execOp a.eval o).run Try.prog w = .ok (.value (.slice (some ⟨w.heap.size, 0, none⟩) n n)) (w.alloc (.cells (wordsC (List.replicate n 0)) 24)) := by
  unfold execOp
  simp only [ho, hx, hy, Sem.run_bind, make_words n hn w, Result.andThen_ok, Sem.run_pure]
theorem Has.either {w u : World} {g k : Nat} {C D : Array Value} {t : TypeId} (h : Has w k C t) (hu : u = w ∨ u = w.setRow g D) (hk : k ≠ g) : Has u k C t := by
  rcases hu with rfl | rfl
  · exact h
  · exact h.rowAside hk _
theorem Gr.either {w0 w u : World} {g : Nat} {D : Array Value} (h : Gr w0 w) (hu : u = w ∨ u = w.setRow g D) (hg : w0.heap.size ≤ g) : Gr w0 u := by
  rcases hu with rfl | rfl
  · exact h
  · exact h.setRow hg _
/-- words are copied into a block of as many -/
theorem copy_words {ops : Array Oper} {rest : List Oper} {op : Oper} {a : Act} {w : World} {Q : Exit → Act → World → Prop} (hgd : op.guard = none) (d s : Operand)
    (ho : op.op = .call { callee := .builtin .copy, args := #[d, s], argTypes := #[48, 48] })
    (g : Nat) (ad : Option Addr) (dCap sCap : Nat) (m : List Int) (hd : a.eval d = .slice (some ⟨g, 0, none⟩) m.length dCap) (hs : a.eval s = .slice ad m.length sCap)
    (k : List Int) (hk : k.length = m.length) (hg : Has w g (wordsC k) 24) (hm : WordsAt w ad m)
    (h : ∀ u, (u = w ∨ u = w.setRow g (wordsC m)) → Has u g (wordsC m) 24 → wpList Try.prog ops Q rest (a.put op.dst (goInt m.length)) u) : wpList Try.prog ops Q (op :: rest) a w := by
  rcases hm with rfl | ⟨b, off, rfl, hc⟩
  · refine wpList_copy_nothing hgd d s _ _ ho 24 Try.underlying48 infoW _ _ _ _ _ _ hd hs rfl (h w (.inl rfl) ?_)
    have : k = [] := List.length_eq_zero_iff.1 hk
    subst this
    exact hg
  · refine wpList_copy_own hgd d s _ _ ho 24 Try.underlying48 infoW g 0 m.length dCap ⟨b, off, none⟩ m.length sCap hd hs (wordsC k) 24 hg (m.map (Value.int .u32)) (by simp) ?_ (by rw [wordsC_size]; simp [hk]) ?_ ?_
    · intro j v hv
      have hj : j < m.length := by
        have := (List.getElem?_eq_some_iff.1 hv).1
        simpa using this
      rw [Addr.add_mid, hc j hj, ← hv]
      simp [List.getD_eq_getElem?_getD, hj]
    · intro v hv
      obtain ⟨x, _, rfl⟩ := List.mem_map.1 hv
      rfl
    · have e : ((wordsC k).toList.take 0 ++ (m.map (Value.int .u32) ++ (wordsC k).toList.drop (0 + (m.map (Value.int .u32)).length))).toArray = wordsC m := by
        have : (wordsC k).toList.drop (0 + (m.map (Value.int .u32)).length) = [] := by
          apply List.drop_eq_nil_of_le
          simp [wordsC_size, hk]
        rw [this]
        simp [wordsC]
      rw [e, List.length_map]
      exact h _ (.inr rfl) (hg.row _)
end Go.Proofs.Ytiogacfejchimaa
