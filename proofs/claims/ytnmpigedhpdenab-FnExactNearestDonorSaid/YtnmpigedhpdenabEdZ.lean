/-
  The walks of chapter 5: FailureCounts; the program's and the model's.
-/
import Derived.Test.YtnmpigedhpdenabEdY
namespace Go.Proofs.Ytnmpigedhpdenab
open Go.RowKit
set_option maxRecDepth 100000

/-- The values of records; a schema, edits and data for it. -/
def dV (R : List RV) : List (List Int) := R.map fun q => q.2.2
theorem dV_len (R : List RV) : (dV R).length = R.length := by unfold dV; simp
theorem dV_at {P : List PR} {i : Nat} {q : PR} (h : P[i]? = some q) : (dV (pM P))[i]? = some q.L := by unfold dV; rw [List.getElem?_map, pM_at h]; rfl
def sldB (S : List (ByteArray × Int)) (M : List (List Int)) (R : List RV) : Bool := elB S M && dokB S R
theorem sld_no1 {S : List (ByteArray × Int)} {M : List (List Int)} {R : List RV} (h : elB S M = false) : sldB S M R = false := by unfold sldB; rw [h]; rfl
theorem sld_no2 {S : List (ByteArray × Int)} {M : List (List Int)} {R : List RV} (h : dokB S R = false) : sldB S M R = false := by unfold sldB; rw [h, Bool.and_false]
theorem sld_yes {S : List (ByteArray × Int)} {M : List (List Int)} {R : List RV} (h : elB S M = true) (k : dokB S R = true) : sldB S M R = true := by unfold sldB; rw [h, k]; rfl
theorem iC_setE (L : List Int) (j : Nat) (v : Int) : iC (L.set j v) = (iC L).set j (.int .i64 v) := by unfold iC; rw [List.map_set]
theorem take_le_len {L : List (List Int)} {i : Nat} : (L.take i).length ≤ i := by rw [List.length_take]; omega

theorem sld_len {S : List (ByteArray × Int)} {M : List (List Int)} {R : List RV} (h : sldB S M R = true) : M.length ≤ 40 := by
  unfold sldB at h
  rw [Bool.and_eq_true] at h
  exact (el_get h.1).2.1
end Go.Proofs.Ytnmpigedhpdenab
