/-
  The walks of chapter 2: the index of values and their distance; the program's and the model's.
-/
import Derived.Test.YtgkaalonmkcclabSchV
namespace Go.Proofs.Ytgkaalonmkcclab
open Go.RowKit
set_option maxRecDepth 100000

/-- A schema and values that come in. -/
theorem ci_no1 {S : List (ByteArray × Int)} {V : List Int} (h : schB S = false) : ciB S V = false ∧ ciN S V = 0 := by
  have e : ciB S V = false := by unfold ciB; rw [h]; rfl
  exact ⟨e, if_f e⟩
theorem ci_no2 {S : List (ByteArray × Int)} {V : List Int} (h : fitB S V = false) : ciB S V = false ∧ ciN S V = 0 := by
  have e : ciB S V = false := by unfold ciB; rw [h, Bool.and_false]
  exact ⟨e, if_f e⟩
theorem ci_yes {S : List (ByteArray × Int)} {V : List Int} (h : schB S = true) (k : fitB S V = true) : ciB S V = true ∧ ciN S V = ixZ S V := by
  have e : ciB S V = true := by unfold ciB; rw [h, k]; rfl
  exact ⟨e, if_t e⟩

end Go.Proofs.Ytgkaalonmkcclab
