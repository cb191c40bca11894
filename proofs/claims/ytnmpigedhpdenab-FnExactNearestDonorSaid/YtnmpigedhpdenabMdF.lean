/-
  Chapter 7: the records that fail; the nearest donor: the mathematics and the walks, the model's and the program's.
-/
import Derived.Test.YtnmpigedhpdenabImS
import Derived.Test.YtnmpigedhpdenabEdP
import Derived.Test.YtnmpigedhpdenabEdZ
namespace Go.Proofs.Ytnmpigedhpdenab
open Go.RowKit
set_option maxRecDepth 100000

/-- A small schema, edits and data for it. -/
def sdB (S : List (ByteArray × Int)) (M : List (List Int)) (R : List RV) : Bool := smB S M && dokB S R
theorem sd_no1 {S : List (ByteArray × Int)} {M : List (List Int)} {R : List RV} (h : smB S M = false) : sdB S M R = false := by unfold sdB; rw [h]; rfl
theorem sd_no2 {S : List (ByteArray × Int)} {M : List (List Int)} {R : List RV} (h : dokB S R = false) : sdB S M R = false := by unfold sdB; rw [h, Bool.and_false]
theorem sd_yes {S : List (ByteArray × Int)} {M : List (List Int)} {R : List RV} (h : smB S M = true) (k : dokB S R = true) : sdB S M R = true := by unfold sdB; rw [h, k]; rfl
theorem sd_get {S : List (ByteArray × Int)} {M : List (List Int)} {R : List RV} (h : sdB S M R = true) : smB S M = true ∧ dokB S R = true := by
  unfold sdB at h
  rwa [Bool.and_eq_true] at h
/-- Does the record with this index fail an edit? The records that do. -/
def frB (M D : List (List Int)) (i : Nat) : Bool := match D[i]? with | some V => faB M V | none => false
theorem fr_at {M D : List (List Int)} {V : List Int} {i : Nat} (h : D[i]? = some V) : frB M D i = faB M V := by unfold frB; rw [h]
def frUp (M D : List (List Int)) (n : Nat) : List Int := pkUp (frB M D) n
def frL (M D : List (List Int)) : List Int := frUp M D D.length
theorem frUp_len (M D : List (List Int)) (n : Nat) : (frUp M D n).length ≤ n := pkUp_len _ _

theorem frL_len (M D : List (List Int)) : (frL M D).length ≤ D.length := pkUp_len _ _
theorem sd_len {S : List (ByteArray × Int)} {M : List (List Int)} {R : List RV} (h : sdB S M R = true) : R.length ≤ 40 := dokB_len (sd_get h).2
end Go.Proofs.Ytnmpigedhpdenab
