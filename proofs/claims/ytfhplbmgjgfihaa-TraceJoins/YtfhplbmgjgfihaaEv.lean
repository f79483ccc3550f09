/-
  Events, words and numbers, by plain numbers and as cells; slices of them, appended to. No condition but what each law names.
-/
import Derived.Test.YtfhplbmgjgfihaaMem
namespace Go.Proofs.Ytfhplbmgjgfihaa
open Go.ChangeShapes Go.WideShapes Go.ChangeAt Go.RowKit
set_option linter.unusedVariables false

/-- an event -/
structure Ev where
  kind : Int
  who : Int
  pc : Int
  addr : Int
  value : Int
  old : Int
  k : Int
  ok : Bool
abbrev evA (x : Ev) : Array Value := #[.int .i64 x.kind, .int .i64 x.who, .int .i64 x.pc, .int .i64 x.addr, .int .u32 x.value, .int .u32 x.old, .int .u32 x.k, .bool x.ok]
def evL (x : Ev) : List Value := [.int .i64 x.kind, .int .i64 x.who, .int .i64 x.pc, .int .i64 x.addr, .int .u32 x.value, .int .u32 x.old, .int .u32 x.k, .bool x.ok]
def wordL (x : Int) : List Value := [.int .u32 x]
def numL (x : Int) : List Value := [.int .i64 x]
theorem wordL_len (x : Int) : (wordL x).length = 1 := rfl
theorem numL_len (x : Int) : (numL x).length = 1 := rfl
theorem evL_len (x : Ev) : (evL x).length = 8 := rfl
theorem wordL_one (x : Int) : ∀ u ∈ wordL x, u.oneCell' = true := by intro u hu; simp [wordL] at hu; subst hu; rfl
theorem numL_one (x : Int) : ∀ u ∈ numL x, u.oneCell' = true := by intro u hu; simp [numL] at hu; subst hu; rfl
theorem evL_one (x : Ev) : ∀ u ∈ evL x, u.oneCell' = true := by intro u hu; simp [evL] at hu; rcases hu with rfl | rfl | rfl | rfl | rfl | rfl | rfl | rfl <;> rfl
abbrev WordsO (w : World) (base : Nat) (v : Value) (l : List Int) : Prop := w.ownsRow base 33 1 v l.length (flatOf wordL l)
abbrev NumsO (w : World) (base : Nat) (v : Value) (l : List Int) : Prop := w.ownsRow base 3 1 v l.length (flatOf numL l)
abbrev EvsO (w : World) (base : Nat) (v : Value) (l : List Ev) : Prop := w.ownsRow base 35 8 v l.length (flatOf evL l)

/-- records are appended -/
theorem app_recs {α : Type} {f : α → List Value} {sz : Nat} (hf : ∀ x, (f x).length = sz) (h1 : ∀ x, ∀ u ∈ f x, u.oneCell' = true)
    {T t ty : TypeId} {zero : Value} {bytes : Nat} (hT : Try.prog.underlying T = some (.slice t)) (info : (Try.prog.info? t).map (fun i => (i.zero, i.size, i.bytes)) = some (some zero, sz, bytes)) (hz : zero.cells.size = sz) (hsz : 0 < sz) (hby : bytes ≤ 1000)
    {w : World} {base : Nat} {v : Value} {l : List α} (hown : w.ownsRow base t sz v l.length (flatOf f l)) (ad : Option Addr) (c : Nat) (m : List α) (hm : RowAt w ad (flatOf f m)) (hc : ad = none → c = 0 ∧ m = [])
    (hn : l.length + m.length ≤ 100000) (hb : base ≤ w.heap.size) :
    ∃ v' w', (Builtin.append_ #[T, T] ty #[v, .slice ad m.length c]).run Try.prog w = .ok v' w' ∧ w'.ownsRow base t sz v' (l ++ m).length (flatOf f (l ++ m)) ∧ w.grownBy w' v.ownBlock ∧ (v'.ownBlock = v.ownBlock ∨ v'.ownBlock = some w.heap.size) := by
  obtain ⟨v', w', h1, h2, h3, h4⟩ := app_row (ty := ty) hT info hz hsz hby hown ad c m.length (flatOf f m) hm (fun h => ⟨(hc h).1, by rw [(hc h).2]; rfl⟩) (flatOf_length hf m) (flatOf_one h1 m) hn hb
  rw [← flatOf_append, ← List.length_append] at h2
  exact ⟨v', w', h1, h2, h3, h4⟩
/-- one record is appended -/
theorem app_rec {α : Type} {f : α → List Value} {sz : Nat} (hf : ∀ x, (f x).length = sz) (h1 : ∀ x, ∀ u ∈ f x, u.oneCell' = true)
    {T t ty : TypeId} {zero : Value} {bytes : Nat} (hT : Try.prog.underlying T = some (.slice t)) (info : (Try.prog.info? t).map (fun i => (i.zero, i.size, i.bytes)) = some (some zero, sz, bytes)) (hz : zero.cells.size = sz) (hsz : 0 < sz) (hby : bytes ≤ 1000)
    {w : World} {base : Nat} {v : Value} {l : List α} (hown : w.ownsRow base t sz v l.length (flatOf f l)) (x : α) (C : Array Value) (hC : C = (f x).toArray) (hn : l.length ≤ 99999) (hb : base ≤ w.heap.size) :
    ∃ v' w', (Builtin.append_ #[T, T] ty #[v, .slice (some ⟨w.heap.size, 0, none⟩) 1 1]).run Try.prog (w.alloc (.cells C t)) = .ok v' w' ∧ w'.ownsRow base t sz v' (l ++ [x]).length (flatOf f (l ++ [x])) ∧ (w.alloc (.cells C t)).grownBy w' v.ownBlock ∧ (v'.ownBlock = v.ownBlock ∨ v'.ownBlock = some (w.heap.size + 1)) := by
  subst hC
  have hx : Has (w.alloc (.cells (f x).toArray t)) w.heap.size (f x).toArray t := Has.new w _ _
  have hr := hx.rowAt
  have e : f x = flatOf f [x] := by simp [flatOf]
  rw [e] at hr
  obtain ⟨v', w', q1, q2, q3, q4⟩ := app_recs (ty := ty) hf h1 hT info hz hsz hby (own_later hown ((Gr.refl w).alloc (f x).toArray t)) (some ⟨w.heap.size, 0, none⟩) 1 [x] (by rw [e]; exact hr) (by simp) (by simp; omega) (by simp; omega)
  have e2 : (w.alloc (.cells (f x).toArray t)).heap.size = w.heap.size + 1 := by simp
  rw [e2] at q4
  exact ⟨v', w', q1, q2, q3, q4⟩

theorem infoWrd : (Try.prog.info? 33).map (fun i => (i.zero, i.size, i.bytes)) = some (some (.int .u32 0), 1, 4) := by kernel_rfl
theorem infoNum : (Try.prog.info? 3).map (fun i => (i.zero, i.size, i.bytes)) = some (some (.int .i64 0), 1, 8) := by kernel_rfl
theorem infoEv : (Try.prog.info? 35).map (fun i => (i.zero, i.size, i.bytes)) = some (some (.agg #[.int .i64 0, .int .i64 0, .int .i64 0, .int .i64 0, .int .u32 0, .int .u32 0, .int .u32 0, .bool false]), 8, 48) := by kernel_rfl
end Go.Proofs.Ytfhplbmgjgfihaa
