/-
  The walks of chapter 5: FailedEdits; the program's and the model's.
-/
import Derived.Test.YtgkaalonmkcclaaDoorEdW
namespace Go.Proofs.YtgkaalonmkcclaaDoor
open Go.RowKit
set_option maxRecDepth 100000

/-- Does the edit with this index fail? The failed edits. -/
def feB (M : List (List Int)) (V : List Int) (i : Nat) : Bool := match M[i]? with | some E => fsB E V | none => false
theorem fe_at {M : List (List Int)} {V E : List Int} {i : Nat} (h : M[i]? = some E) : feB M V i = fsB E V := by unfold feB; rw [h]
def feUp (M : List (List Int)) (V : List Int) (n : Nat) : List Int := pkUp (feB M V) n
theorem feUp_len (M : List (List Int)) (V : List Int) (n : Nat) : (feUp M V n).length ≤ n := pkUp_len _ _
def feL (M : List (List Int)) (V : List Int) : List Int := feUp M V M.length
theorem feL_len (M : List (List Int)) (V : List Int) : (feL M V).length ≤ M.length := pkUp_len _ _
/-- A schema, a list of edits and values for it. -/
def slfB (S : List (ByteArray × Int)) (M : List (List Int)) (V : List Int) : Bool := elB S M && fitB S V
theorem slf_no1 {S : List (ByteArray × Int)} {M : List (List Int)} {V : List Int} (h : elB S M = false) : slfB S M V = false := by unfold slfB; rw [h]; rfl
theorem slf_no2 {S : List (ByteArray × Int)} {M : List (List Int)} {V : List Int} (h : fitB S V = false) : slfB S M V = false := by unfold slfB; rw [h, Bool.and_false]
theorem slf_yes {S : List (ByteArray × Int)} {M : List (List Int)} {V : List Int} (h : elB S M = true) (k : fitB S V = true) : slfB S M V = true := by unfold slfB; rw [h, k]; rfl

theorem tot_eM {T Q : List PR} (h : eM T = eM Q) : tot T = tot Q := by
  have h1 : ∀ P : List PR, tot P = ((eM P).map List.length).sum := by intro P; unfold tot eM; rw [List.map_map]; rfl
  rw [h1, h1, h]
theorem slf_len {S : List (ByteArray × Int)} {M : List (List Int)} {V : List Int} (h : slfB S M V = true) : M.length ≤ 40 := by
  unfold slfB at h
  rw [Bool.and_eq_true] at h
  exact (el_get h.1).2.1
end Go.Proofs.YtgkaalonmkcclaaDoor
