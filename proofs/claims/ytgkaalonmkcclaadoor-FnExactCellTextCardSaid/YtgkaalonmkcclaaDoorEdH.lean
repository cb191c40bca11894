/-
  The walks of chapter 5: do values fail an edit; FailsEdit; the program's and the model's.
-/
import Derived.Test.YtgkaalonmkcclaaDoorEdG
namespace Go.Proofs.YtgkaalonmkcclaaDoor
open Go.RowKit
set_option maxRecDepth 100000

/-- Small numbers, one for each value. -/
def Fine (E V : List Int) : Prop := V.length = E.length ∧ ∀ j, j < V.length → ∃ x v : Int, E[j]? = some x ∧ V[j]? = some v ∧ 0 ≤ x ∧ x ≤ 255 ∧ 0 ≤ v ∧ v ≤ 8
theorem fine_of {S : List (ByteArray × Int)} {E V : List Int} (hs : schB S = true) (hE : edB S E = true) (hV : fitB S V = true) : Fine E V := by
  have l1 := ed_len hE
  have l2 := fit_len hV
  refine ⟨by omega, fun j hj => ?_⟩
  obtain ⟨nm, lv, x, a, b, c, d, e, f, g⟩ := ed_at hs hE (i := j) (by omega)
  have hv : V[j]? = some (V[j]'hj) := List.getElem?_eq_getElem hj
  have := fit_get hV a hv
  exact ⟨x, _, b, hv, by omega, g, by omega, by omega⟩
/-- A schema, an edit and values for it. -/
def sfB (S : List (ByteArray × Int)) (E V : List Int) : Bool := seB S E && fitB S V
def sfR (S : List (ByteArray × Int)) (E V : List Int) : Bool := sfB S E V && fsB E V
theorem sf_no1 {S : List (ByteArray × Int)} {E V : List Int} (h : seB S E = false) : sfB S E V = false ∧ sfR S E V = false := by unfold sfR sfB; rw [h]; exact ⟨rfl, rfl⟩
theorem sf_no2 {S : List (ByteArray × Int)} {E V : List Int} (h : fitB S V = false) : sfB S E V = false ∧ sfR S E V = false := by unfold sfR sfB; rw [h, Bool.and_false]; exact ⟨rfl, rfl⟩
theorem sf_yes {S : List (ByteArray × Int)} {E V : List Int} (h : seB S E = true) (k : fitB S V = true) : sfB S E V = true ∧ sfR S E V = fsB E V := by unfold sfR sfB; rw [h, k]; exact ⟨rfl, rfl⟩
theorem se_get {S : List (ByteArray × Int)} {E : List Int} (h : seB S E = true) : schB S = true ∧ edB S E = true := by unfold seB at h; rwa [Bool.and_eq_true] at h
end Go.Proofs.YtgkaalonmkcclaaDoor
