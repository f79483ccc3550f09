/-
  For any number, in any world: what the document's Name and Has answer, said by plain lists. No condition.
-/
import Derived.Test.YthbenfnanhpcoaaDoorZzbiChk
import Derived.BigQuiet
import Derived.Deep.QuietTactic
namespace Go.Proofs.YthbenfnanhpcoaaDoor.Nm
open Go.ChangeShapes Go.WideShapes Go.ChangeAt Go.RowKit
set_option linter.unusedVariables false

def nameL : List (List UInt8) := [[104, 97, 108, 116], [115, 101, 116], [109, 111, 118, 101], [97, 100, 100], [115, 117, 98], [109, 117, 108], [97, 110, 100], [111, 114], [120, 111, 114], [115, 104, 108], [115, 104, 114], [108, 101, 115, 115], [115, 97, 109, 101], [106, 117, 109, 112], [122, 101, 114, 111], [115, 111, 109, 101], [108, 111, 97, 100], [115, 116, 111, 114, 101], [102, 101, 110, 99, 101], [115, 119, 97, 112], [102, 101, 116, 99, 104], [99, 97, 115], [111, 117, 116], [119, 97, 105, 116], [119, 97, 107, 101], [114, 101, 109, 111, 116, 101], [121, 105, 101, 108, 100], [109, 97, 114, 107]]
def rowL : List (List UInt8) := [[104, 97, 108, 116], [115, 101, 116, 32, 65, 75], [109, 111, 118, 101, 32, 65, 66], [97, 100, 100, 32, 65, 66, 67], [115, 117, 98, 32, 65, 66, 67], [109, 117, 108, 32, 65, 66, 67], [97, 110, 100, 32, 65, 66, 67], [111, 114, 32, 65, 66, 67], [120, 111, 114, 32, 65, 66, 67], [115, 104, 108, 32, 65, 66, 67], [115, 104, 114, 32, 65, 66, 67], [108, 101, 115, 115, 32, 65, 66, 67], [115, 97, 109, 101, 32, 65, 66, 67], [106, 117, 109, 112, 32, 84], [122, 101, 114, 111, 32, 65, 84], [115, 111, 109, 101, 32, 65, 84], [108, 111, 97, 100, 32, 65, 77, 75], [115, 116, 111, 114, 101, 32, 65, 77, 75], [102, 101, 110, 99, 101], [115, 119, 97, 112, 32, 65, 77, 75], [102, 101, 116, 99, 104, 32, 65, 77, 75], [99, 97, 115, 32, 65, 67, 77, 75], [111, 117, 116, 32, 65], [119, 97, 105, 116, 32, 65, 77, 75], [119, 97, 107, 101, 32, 65, 77, 75], [114, 101, 109, 111, 116, 101], [121, 105, 101, 108, 100], [109, 97, 114, 107, 32, 65, 75]]
def fieldL : List (List UInt8) := [[], [65, 75], [65, 66], [65, 66, 67], [65, 66, 67], [65, 66, 67], [65, 66, 67], [65, 66, 67], [65, 66, 67], [65, 66, 67], [65, 66, 67], [65, 66, 67], [65, 66, 67], [84], [65, 84], [65, 84], [65, 77, 75], [65, 77, 75], [], [65, 77, 75], [65, 77, 75], [65, 67, 77, 75], [65], [65, 77, 75], [65, 77, 75], [], [], [65, 75]]
def nameAt (n : Nat) : ByteArray := ⟨(nameL.getD n []).toArray⟩
def rowAt (n : Nat) : ByteArray := ⟨(rowL.getD n []).toArray⟩
def fieldAt (n : Nat) : ByteArray := ⟨(fieldL.getD n []).toArray⟩
def nameB (op : Int) : ByteArray := if isB op then nameAt op.toNat else ⟨#[]⟩
def fB (op : Int) : ByteArray := if isB op then fieldAt op.toNat else ⟨#[]⟩
def hasF (s : ByteArray) (f : Int) : Bool := s.data.toList.any fun b => (b.toNat : Int) == f
def hasB (op f : Int) : Bool := hasF (fB op) f


def rowsV : Array Value := #[.string ⟨#[104, 97, 108, 116]⟩, .string ⟨#[115, 101, 116, 32, 65, 75]⟩, .string ⟨#[109, 111, 118, 101, 32, 65, 66]⟩, .string ⟨#[97, 100, 100, 32, 65, 66, 67]⟩, .string ⟨#[115, 117, 98, 32, 65, 66, 67]⟩, .string ⟨#[109, 117, 108, 32, 65, 66, 67]⟩, .string ⟨#[97, 110, 100, 32, 65, 66, 67]⟩, .string ⟨#[111, 114, 32, 65, 66, 67]⟩, .string ⟨#[120, 111, 114, 32, 65, 66, 67]⟩, .string ⟨#[115, 104, 108, 32, 65, 66, 67]⟩, .string ⟨#[115, 104, 114, 32, 65, 66, 67]⟩, .string ⟨#[108, 101, 115, 115, 32, 65, 66, 67]⟩, .string ⟨#[115, 97, 109, 101, 32, 65, 66, 67]⟩, .string ⟨#[106, 117, 109, 112, 32, 84]⟩, .string ⟨#[122, 101, 114, 111, 32, 65, 84]⟩, .string ⟨#[115, 111, 109, 101, 32, 65, 84]⟩, .string ⟨#[108, 111, 97, 100, 32, 65, 77, 75]⟩, .string ⟨#[115, 116, 111, 114, 101, 32, 65, 77, 75]⟩, .string ⟨#[102, 101, 110, 99, 101]⟩, .string ⟨#[115, 119, 97, 112, 32, 65, 77, 75]⟩, .string ⟨#[102, 101, 116, 99, 104, 32, 65, 77, 75]⟩, .string ⟨#[99, 97, 115, 32, 65, 67, 77, 75]⟩, .string ⟨#[111, 117, 116, 32, 65]⟩, .string ⟨#[119, 97, 105, 116, 32, 65, 77, 75]⟩, .string ⟨#[119, 97, 107, 101, 32, 65, 77, 75]⟩, .string ⟨#[114, 101, 109, 111, 116, 101]⟩, .string ⟨#[121, 105, 101, 108, 100]⟩, .string ⟨#[109, 97, 114, 107, 32, 65, 75]⟩]
theorem rowsV_at (n : Nat) (h : n < 28) : rowsV[n]? = some (.string (rowAt n)) := by
  have e : rowsV = ((List.range 28).map fun n => Value.string (rowAt n)).toArray := rfl
  rw [e]
  simp [h]
theorem rows_cell (w : World) (n : Nat) (h : n < 28) : (w.alloc (.cells #[.string ⟨#[104, 97, 108, 116]⟩, .string ⟨#[115, 101, 116, 32, 65, 75]⟩, .string ⟨#[109, 111, 118, 101, 32, 65, 66]⟩, .string ⟨#[97, 100, 100, 32, 65, 66, 67]⟩, .string ⟨#[115, 117, 98, 32, 65, 66, 67]⟩, .string ⟨#[109, 117, 108, 32, 65, 66, 67]⟩, .string ⟨#[97, 110, 100, 32, 65, 66, 67]⟩, .string ⟨#[111, 114, 32, 65, 66, 67]⟩, .string ⟨#[120, 111, 114, 32, 65, 66, 67]⟩, .string ⟨#[115, 104, 108, 32, 65, 66, 67]⟩, .string ⟨#[115, 104, 114, 32, 65, 66, 67]⟩, .string ⟨#[108, 101, 115, 115, 32, 65, 66, 67]⟩, .string ⟨#[115, 97, 109, 101, 32, 65, 66, 67]⟩, .string ⟨#[106, 117, 109, 112, 32, 84]⟩, .string ⟨#[122, 101, 114, 111, 32, 65, 84]⟩, .string ⟨#[115, 111, 109, 101, 32, 65, 84]⟩, .string ⟨#[108, 111, 97, 100, 32, 65, 77, 75]⟩, .string ⟨#[115, 116, 111, 114, 101, 32, 65, 77, 75]⟩, .string ⟨#[102, 101, 110, 99, 101]⟩, .string ⟨#[115, 119, 97, 112, 32, 65, 77, 75]⟩, .string ⟨#[102, 101, 116, 99, 104, 32, 65, 77, 75]⟩, .string ⟨#[99, 97, 115, 32, 65, 67, 77, 75]⟩, .string ⟨#[111, 117, 116, 32, 65]⟩, .string ⟨#[119, 97, 105, 116, 32, 65, 77, 75]⟩, .string ⟨#[119, 97, 107, 101, 32, 65, 77, 75]⟩, .string ⟨#[114, 101, 109, 111, 116, 101]⟩, .string ⟨#[121, 105, 101, 108, 100]⟩, .string ⟨#[109, 97, 114, 107, 32, 65, 75]⟩] 9)).cell? ⟨w.heap.size, n, none⟩ = some (.string (rowAt n)) := by
  refine (World.cell?_alloc_mark w rowsV 9 (0, 0) n).trans (rowsV_at n h)

theorem hd_step (s : ByteArray) (k : Nat) (hlt : k < s.size) (hd : Hid (∀ j, j < k → s.data[j]? ≠ some 32)) (hb : ((s[k].toNat : Int) == 32) = false) : Hid (∀ j, j < k + 1 → s.data[j]? ≠ some 32) := by
  intro j hj
  by_cases e : j = k
  · subst e
    intro h
    have h1 : s.data[j]? = some s[j] := by
      show s.data[j]? = some (s.data[j])
      rw [Array.getElem?_eq_getElem]
    rw [h1] at h
    simp only [Option.some.injEq] at h
    rw [h] at hb
    simp at hb
  · exact hd.out j (by omega)
theorem rowAt_all : ∀ n : Fin 28, (rowAt n).size ≤ 9 := by decide +kernel
theorem rowAt_small (n : Nat) (hn : n < 28) : (rowAt n).size ≤ 9 := rowAt_all ⟨n, hn⟩
theorem all_end : ∀ n : Fin 28, (∀ j : Fin (rowAt n).size, (rowAt n).data[j.val]? ≠ some 32) → rowAt n = nameAt n ∧ fieldAt n = ⟨#[]⟩ := by decide +kernel
theorem ret_end (n : Nat) (hn : n < 28) (s : ByteArray) (hs : Hid (rowAt n = s)) (hd : Hid (∀ j, j < s.size → s.data[j]? ≠ some 32)) : Ending.returned (.tuple #[.string s, .string ⟨#[]⟩]) = .returned (.tuple #[.string (nameAt n), .string (fieldAt n)]) := by
  have hs := hs.out
  subst hs
  have := all_end ⟨n, hn⟩ (fun j => hd.out j.val j.isLt)
  simp only at this
  rw [this.2, this.1]

theorem all_mid : ∀ n : Fin 28, ∀ k : Fin (rowAt n).size, (∀ j : Fin k, (rowAt n).data[j.val]? ≠ some 32) → (rowAt n).data[k.val]? = some 32 → (rowAt n).extract 0 k = nameAt n ∧ (rowAt n).extract (k + 1) (rowAt n).size = fieldAt n := by decide +kernel
theorem ret_mid (n : Nat) (hn : n < 28) (s : ByteArray) (hs : Hid (rowAt n = s)) (k : Nat) (hlt : k < s.size) (hd : Hid (∀ j, j < k → s.data[j]? ≠ some 32)) (hb : ((s[k].toNat : Int) == 32) = true) :
    Ending.returned (.tuple #[.string (s.extract 0 k), .string (s.extract (k + 1) s.size)]) = .returned (.tuple #[.string (nameAt n), .string (fieldAt n)]) := by
  have hs := hs.out
  subst hs
  have h32 : (rowAt n).data[k]? = some 32 := by
    have h1 : (rowAt n).data[k]? = some ((rowAt n)[k]) := by
      show (rowAt n).data[k]? = some ((rowAt n).data[k])
      rw [Array.getElem?_eq_getElem]
    rw [h1]
    congr 1
    have h2 : (((rowAt n)[k]).toNat : Int) = 32 := by simpa using hb
    have : ((rowAt n)[k]).toNat = 32 := by omega
    exact UInt8.toNat_inj.1 this
  have := all_mid ⟨n, hn⟩ ⟨k, hlt⟩ (fun j => hd.out j.val j.isLt) h32
  simp only at this
  rw [this.1, this.2]

set_option maxHeartbeats 1000000 in
theorem refname_no (op : Int) (h : isB op = false) (w : World) :
    Calls Tryd.prog 35 #[.int .i64 op] w fun e w' => e = .returned (.tuple #[.string ⟨#[]⟩, .string ⟨#[]⟩]) ∧ Gr w w' := by
  by_cases h0 : op < 0
  · go_enter Tryd.func35, Tryd.ntmps35
    go_wp2
    go_ret2
    exact ⟨rfl, Gr.alloc (Gr.refl _) _ _⟩
  · have h1 : ¬ op < 28 := by simp [isB] at h; omega
    go_enter Tryd.func35, Tryd.ntmps35
    go_wp2
    go_ret2
    exact ⟨rfl, Gr.alloc (Gr.refl _) _ _⟩

set_option maxHeartbeats 1000000 in
theorem refname_yes (n : Nat) (hn : n < 28) (w : World) :
    Calls Tryd.prog 35 #[.int .i64 n] w fun e w' => e = .returned (.tuple #[.string (nameAt n), .string (fieldAt n)]) ∧ Gr w w' := by
  have hc := rows_cell w n hn
  have hi : (n : Int) < 28 := by omega
  have hg : Gr w (w.alloc (.cells #[.string ⟨#[104, 97, 108, 116]⟩, .string ⟨#[115, 101, 116, 32, 65, 75]⟩, .string ⟨#[109, 111, 118, 101, 32, 65, 66]⟩, .string ⟨#[97, 100, 100, 32, 65, 66, 67]⟩, .string ⟨#[115, 117, 98, 32, 65, 66, 67]⟩, .string ⟨#[109, 117, 108, 32, 65, 66, 67]⟩, .string ⟨#[97, 110, 100, 32, 65, 66, 67]⟩, .string ⟨#[111, 114, 32, 65, 66, 67]⟩, .string ⟨#[120, 111, 114, 32, 65, 66, 67]⟩, .string ⟨#[115, 104, 108, 32, 65, 66, 67]⟩, .string ⟨#[115, 104, 114, 32, 65, 66, 67]⟩, .string ⟨#[108, 101, 115, 115, 32, 65, 66, 67]⟩, .string ⟨#[115, 97, 109, 101, 32, 65, 66, 67]⟩, .string ⟨#[106, 117, 109, 112, 32, 84]⟩, .string ⟨#[122, 101, 114, 111, 32, 65, 84]⟩, .string ⟨#[115, 111, 109, 101, 32, 65, 84]⟩, .string ⟨#[108, 111, 97, 100, 32, 65, 77, 75]⟩, .string ⟨#[115, 116, 111, 114, 101, 32, 65, 77, 75]⟩, .string ⟨#[102, 101, 110, 99, 101]⟩, .string ⟨#[115, 119, 97, 112, 32, 65, 77, 75]⟩, .string ⟨#[102, 101, 116, 99, 104, 32, 65, 77, 75]⟩, .string ⟨#[99, 97, 115, 32, 65, 67, 77, 75]⟩, .string ⟨#[111, 117, 116, 32, 65]⟩, .string ⟨#[119, 97, 105, 116, 32, 65, 77, 75]⟩, .string ⟨#[119, 97, 107, 101, 32, 65, 77, 75]⟩, .string ⟨#[114, 101, 109, 111, 116, 101]⟩, .string ⟨#[121, 105, 101, 108, 100]⟩, .string ⟨#[109, 97, 114, 107, 32, 65, 75]⟩] 9)) := Gr.alloc (Gr.refl _) _ _
  go_enter Tryd.func35, Tryd.ntmps35
  go_wp2
  have hsz := rowAt_small n hn
  generalize hs : rowAt n = s at hsz ⊢
  have HS := hide hs
  clear hs hc
  generalize w.alloc (.cells #[.string ⟨#[104, 97, 108, 116]⟩, .string ⟨#[115, 101, 116, 32, 65, 75]⟩, .string ⟨#[109, 111, 118, 101, 32, 65, 66]⟩, .string ⟨#[97, 100, 100, 32, 65, 66, 67]⟩, .string ⟨#[115, 117, 98, 32, 65, 66, 67]⟩, .string ⟨#[109, 117, 108, 32, 65, 66, 67]⟩, .string ⟨#[97, 110, 100, 32, 65, 66, 67]⟩, .string ⟨#[111, 114, 32, 65, 66, 67]⟩, .string ⟨#[120, 111, 114, 32, 65, 66, 67]⟩, .string ⟨#[115, 104, 108, 32, 65, 66, 67]⟩, .string ⟨#[115, 104, 114, 32, 65, 66, 67]⟩, .string ⟨#[108, 101, 115, 115, 32, 65, 66, 67]⟩, .string ⟨#[115, 97, 109, 101, 32, 65, 66, 67]⟩, .string ⟨#[106, 117, 109, 112, 32, 84]⟩, .string ⟨#[122, 101, 114, 111, 32, 65, 84]⟩, .string ⟨#[115, 111, 109, 101, 32, 65, 84]⟩, .string ⟨#[108, 111, 97, 100, 32, 65, 77, 75]⟩, .string ⟨#[115, 116, 111, 114, 101, 32, 65, 77, 75]⟩, .string ⟨#[102, 101, 110, 99, 101]⟩, .string ⟨#[115, 119, 97, 112, 32, 65, 77, 75]⟩, .string ⟨#[102, 101, 116, 99, 104, 32, 65, 77, 75]⟩, .string ⟨#[99, 97, 115, 32, 65, 67, 77, 75]⟩, .string ⟨#[111, 117, 116, 32, 65]⟩, .string ⟨#[119, 97, 105, 116, 32, 65, 77, 75]⟩, .string ⟨#[119, 97, 107, 101, 32, 65, 77, 75]⟩, .string ⟨#[114, 101, 109, 111, 116, 101]⟩, .string ⟨#[121, 105, 101, 108, 100]⟩, .string ⟨#[109, 97, 114, 107, 32, 65, 75]⟩] 9) = w1 at hg ⊢
  go_loop [6] (fun i => ∃ k : Nat, k ≤ s.size ∧ i = .int .i64 k ∧ Hid (∀ j, j < k → s.data[j]? ≠ some 32)) (fun i => s.size - (intOf i).toNat)
  case atStart => exact ⟨0, by omega, rfl, fun j hj => by omega⟩
  case round =>
    obtain ⟨k, hk, rfl, hd⟩ := hrel
    by_cases hlt : k < s.size
    · cases hb : ((s[k].toNat : Int) == 32)
      · go_wp2
        exact ⟨⟨k + 1, by omega, by go_num, hd_step s k hlt hd hb⟩, by simp [intOf]; omega⟩
      · go_wp2
        go_quiet (fail)
        go_wp2
        go_ret2
        exact ⟨ret_mid n hn s HS k hlt hd hb, hg.drewN _⟩
    · obtain rfl : k = s.size := by omega
      go_wp2
      go_ret2
      exact ⟨ret_end n hn s HS hd, hg⟩

theorem fieldAt_all : ∀ n : Fin 28, (fieldAt n).size ≤ 9 := by decide +kernel
theorem fB_small (op : Int) : (fB op).size ≤ 9 := by
  unfold fB
  cases h : isB op
  · exact Nat.zero_le _
  · obtain ⟨n, rfl, hn⟩ := isB_nat h
    simpa using fieldAt_all ⟨n, hn⟩
theorem refname_calls (op : Int) (w : World) :
    Calls Tryd.prog 35 #[.int .i64 op] w fun e w' => e = .returned (.tuple #[.string (nameB op), .string (fB op)]) ∧ Gr w w' := by
  cases h : isB op
  · have e1 : nameB op = ⟨#[]⟩ := by simp [nameB, h]
    have e2 : fB op = ⟨#[]⟩ := by simp [fB, h]
    rw [e1, e2]
    exact refname_no op h w
  · obtain ⟨n, rfl, hn⟩ := isB_nat h
    have e1 : nameB (n : Int) = nameAt n := by simp [nameB, h]
    have e2 : fB (n : Int) = fieldAt n := by simp [fB, h]
    rw [e1, e2]
    exact refname_yes n hn w

theorem at_data (s : ByteArray) (k : Nat) (h : k < s.size) : s.data[k]? = some s[k] := by
  show s.data[k]? = some (s.data[k])
  rw [Array.getElem?_eq_getElem]
theorem hasF_yes (s : ByteArray) (f : Int) (k : Nat) (h : k < s.size) (hb : ((s[k].toNat : Int) == f) = true) : hasF s f = true := by
  have h1 := at_data s k h
  unfold hasF
  rw [List.any_eq_true]
  refine ⟨s[k], ?_, hb⟩
  have h2 : s.data.toList[k]? = some s[k] := by simpa using h1
  exact List.mem_of_getElem? h2
theorem hasF_no (s : ByteArray) (f : Int) (hd : ∀ j, (h : j < s.size) → ((s[j].toNat : Int) == f) = false) : hasF s f = false := by
  unfold hasF
  rw [List.any_eq_false]
  intro b hb
  obtain ⟨j, hj, rfl⟩ := List.mem_iff_getElem.1 hb
  have h1 : j < s.size := by simpa using hj
  have h2 := hd j h1
  have h3 : s.data.toList[j] = s[j] := rfl
  rw [h3, h2]
  simp
theorem has_step (s : ByteArray) (f : Int) (k : Nat) (hlt : k < s.size) (hd : Hid (∀ j, j < k → (h : j < s.size) → ((s[j].toNat : Int) == f) = false)) (hb : ((s[k].toNat : Int) == f) = false) : Hid (∀ j, j < k + 1 → (h : j < s.size) → ((s[j].toNat : Int) == f) = false) := by
  intro j hj h
  by_cases e : j = k
  · subst e; exact hb
  · exact hd.out j (by omega) h

set_option maxHeartbeats 1000000 in
theorem has_calls (op f : Int) (w : World) :
    Calls Tryd.prog 15 #[.int .i64 op, .int .u8 f] w fun e w' => e = .returned (.bool (hasB op f)) ∧ Gr w w' := by
  have hsz := fB_small op
  unfold hasB
  generalize hs : fB op = s at hsz ⊢
  have HS := hide hs
  clear hs
  go_enter Tryd.func15, Tryd.ntmps15
  go_wp2_with (go_at_call 35; refine (refname_calls _ _).mono ?_; rw [HS.out]; rintro e w1 ⟨rfl, hg⟩)
  go_loop [7] (fun i => ∃ k : Nat, k ≤ s.size ∧ i = .int .i64 k ∧ Hid (∀ j, j < k → (h : j < s.size) → ((s[j].toNat : Int) == f) = false)) (fun i => s.size - (intOf i).toNat)
  case atStart => exact ⟨0, by omega, rfl, fun j hj => by omega⟩
  case round =>
    obtain ⟨k, hk, rfl, hd⟩ := hrel
    by_cases hlt : k < s.size
    · cases hb : ((s[k].toNat : Int) == f)
      · go_wp2
        exact ⟨⟨k + 1, by omega, by go_num, has_step s f k hlt hd hb⟩, by simp [intOf]; omega⟩
      · have e1 := hasF_yes s f k hlt hb
        go_wp2
        go_ret
        exact ⟨rfl, hg⟩
    · obtain rfl : k = s.size := by omega
      have e1 := hasF_no s f (fun j h => hd.out j h h)
      go_wp2
      go_ret
      exact ⟨rfl, hg⟩

theorem has_ask : ∀ n : Fin 28, hasB (n.val : Int) 77 = askB (n.val : Int) := by decide +kernel
theorem has_is (op : Int) : hasB op 77 = askB op := by
  cases h : isB op with
  | true =>
    obtain ⟨n, rfl, hn⟩ := isB_nat h
    exact has_ask ⟨n, hn⟩
  | false =>
    unfold hasB fB askB
    rw [h]
    rfl
end Go.Proofs.YthbenfnanhpcoaaDoor.Nm
