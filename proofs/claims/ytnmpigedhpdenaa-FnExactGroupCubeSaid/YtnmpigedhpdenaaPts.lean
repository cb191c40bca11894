/-
  Parts of schemas: nothing, or a schema: counts, values, indices and values with an index; the walks where there is no variable, the program's and the model's.
-/
import Derived.Test.YtnmpigedhpdenaaAtS
import Derived.Test.YtnmpigedhpdenaaSchX
namespace Go.Proofs.Ytnmpigedhpdenaa
open Go.RowKit
set_option maxRecDepth 100000

/-- Nothing, or a schema. -/
def PtS (S : List (ByteArray × Int)) : Prop := S = [] ∨ schB S = true
theorem ptS_len {S : List (ByteArray × Int)} (h : PtS S) : S.length ≤ 6 := by
  rcases h with rfl | h
  · simp
  · exact (schB_len h).2
theorem pt_lv {S : List (ByteArray × Int)} (h : PtS S) {j : Nat} (hj : j < S.length) : 2 ≤ lvA S j ∧ lvA S j ≤ 8 := by
  rcases h with rfl | h
  · simp at hj
  · exact lvA_bd h hj
theorem pt_cn {S : List (ByteArray × Int)} (h : PtS S) : 1 ≤ cnZ S ∧ cnZ S ≤ 262144 := by
  rcases h with rfl | h
  · exact ⟨by decide, by decide⟩
  · exact cn_all h
theorem pt_ix {S : List (ByteArray × Int)} {V : List Int} (h : PtS S) (hf : fitB S V = true) : 0 ≤ ixZ S V ∧ ixZ S V < cnZ S := by
  rcases h with rfl | h
  · have : ixZ [] V = 0 := rfl
    rw [this]
    exact ⟨by decide, by decide⟩
  · have := ix_bd h hf S.length (Nat.le_refl _)
    rw [List.take_length] at this
    unfold ixZ
    rwa [List.take_of_length_le (by rw [List.length_zip]; omega)] at this
theorem pt_atFr {S : List (ByteArray × Int)} (h : PtS S) {i : Int} (h0 : 0 ≤ i) (L : List Nat) (hL : ∀ j ∈ L, j < S.length) : 0 ≤ (atFr S i L).1 ∧ (atFr S i L).1 ≤ i := by
  rcases h with rfl | h
  · cases L with
    | nil => exact ⟨h0, Int.le_refl _⟩
    | cons j r => have := hL j (by simp); simp at this
  · exact atFr_bd h h0 L hL

theorem fit_nil (V : List Int) : fitB [] V = decide (V.length = 0) := by unfold fitB; simp
theorem at_nil (i : Int) : atL [] i = [] := rfl
end Go.Proofs.Ytnmpigedhpdenaa
