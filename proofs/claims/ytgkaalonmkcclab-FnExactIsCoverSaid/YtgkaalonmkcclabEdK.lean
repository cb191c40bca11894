/-
  The walks of chapter 5: is an edit a part of another; the program's and the model's.
-/
import Derived.Test.YtgkaalonmkcclabEdH
namespace Go.Proofs.Ytgkaalonmkcclab
open Go.RowKit
set_option maxRecDepth 100000

/-- Two edits for a schema. -/
def seeB (S : List (ByteArray × Int)) (E F : List Int) : Bool := seB S E && edB S F
def ctR (S : List (ByteArray × Int)) (E F : List Int) : Bool := seeB S E F && ctB E F
theorem see_no1 {S : List (ByteArray × Int)} {E F : List Int} (h : seB S E = false) : seeB S E F = false ∧ ctR S E F = false := by unfold ctR seeB; rw [h]; exact ⟨rfl, rfl⟩
theorem see_no2 {S : List (ByteArray × Int)} {E F : List Int} (h : edB S F = false) : seeB S E F = false ∧ ctR S E F = false := by unfold ctR seeB; rw [h, Bool.and_false]; exact ⟨rfl, rfl⟩
theorem see_yes {S : List (ByteArray × Int)} {E F : List Int} (h : seB S E = true) (k : edB S F = true) : seeB S E F = true ∧ ctR S E F = ctB E F := by unfold ctR seeB; rw [h, k]; exact ⟨rfl, rfl⟩
theorem see_get {S : List (ByteArray × Int)} {E F : List Int} (h : seeB S E F = true) : schB S = true ∧ edB S E = true ∧ edB S F = true := by
  unfold seeB at h
  rw [Bool.and_eq_true] at h
  exact ⟨(se_get h.1).1, (se_get h.1).2, h.2⟩
/-- Two edits side by side: small numbers. -/
theorem see_at {S : List (ByteArray × Int)} {E F : List Int} (hs : schB S = true) (hE : edB S E = true) (hF : edB S F = true) {i : Nat} (hi : i < S.length) : ∃ x y, E[i]? = some x ∧ F[i]? = some y ∧ 1 ≤ x ∧ x ≤ 255 ∧ 1 ≤ y ∧ y ≤ 255 := by
  obtain ⟨_, _, x, _, b, c, _, _, _, d⟩ := ed_at hs hE hi
  obtain ⟨_, _, y, _, b2, c2, _, _, _, d2⟩ := ed_at hs hF hi
  exact ⟨x, y, b, b2, c, d, c2, d2⟩

end Go.Proofs.Ytgkaalonmkcclab
