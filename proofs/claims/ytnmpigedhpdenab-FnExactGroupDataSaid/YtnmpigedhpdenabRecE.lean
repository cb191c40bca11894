/-
  The walks of chapter 3: data without a record; the program's and the model's.
-/
import Derived.Test.YtnmpigedhpdenabDel
import Derived.Test.YtnmpigedhpdenabIns
namespace Go.Proofs.Ytnmpigedhpdenab
open Go.RowKit
set_option maxRecDepth 100000

/-- A list without one element. -/
def woL {α : Type} (R : List α) (i : Nat) : List α := R.take i ++ R.drop (i + 1)
theorem wo_ne {α : Type} {R : List α} {i k : Nat} {r : α} (h : R[k]? = some r) (hk : k ≠ i) : woL (R.take (k + 1)) i = woL (R.take k) i ++ [r] := by
  have hkl := (List.getElem?_eq_some_iff.1 h).1
  have hl : (R.take k).length = k := by rw [List.length_take]; omega
  unfold woL
  rw [take_snoc h, List.take_append, List.drop_append, hl]
  rcases Nat.lt_or_ge k i with h1 | h1
  · rw [List.drop_eq_nil_of_le (show (R.take k).length ≤ i + 1 by omega), List.drop_eq_nil_of_le (show [r].length ≤ i + 1 - k by simp; omega), List.take_of_length_le (show [r].length ≤ i - k by simp; omega)]
    simp
  · rw [show i - k = 0 by omega, show i + 1 - k = 0 by omega, List.take_zero, List.append_nil, List.drop_zero, List.append_assoc]
theorem wo_eq {α : Type} {R : List α} {k : Nat} {r : α} (h : R[k]? = some r) : woL (R.take (k + 1)) k = woL (R.take k) k := by
  have hkl := (List.getElem?_eq_some_iff.1 h).1
  have hl : (R.take k).length = k := by rw [List.length_take]; omega
  unfold woL
  rw [take_snoc h, List.take_append, List.drop_append, hl, Nat.sub_self, List.take_zero, List.append_nil, List.drop_eq_nil_of_le (show [r].length ≤ k + 1 - k by simp)]
  simp
theorem wo_pM (Q : List PR) (i : Nat) : pM (woL Q i) = woL (pM Q) i := by unfold woL pM; rw [List.map_append, List.map_take, List.map_drop]
theorem wo_mem {α : Type} {R : List α} {i : Nat} : ∀ q ∈ woL R i, q ∈ R := fun q hq => by
  unfold woL at hq
  rcases List.mem_append.1 hq with h | h
  · exact List.mem_of_mem_take h
  · exact List.mem_of_mem_drop h
theorem wo_le {α : Type} (R : List α) (i : Nat) : (woL R i).length ≤ R.length := by unfold woL; rw [List.length_append, List.length_take, List.length_drop]; omega

/-- Does RemoveRecord succeed? What it gives. -/
def rrB (S : List (ByteArray × Int)) (R : List RV) (i : Int) : Bool := idB S R && inB i 0 ((R.length : Int) - 1)
def rrL (S : List (ByteArray × Int)) (R : List RV) (i : Int) : List RV := rsL (rrB S R i) (woL R i.toNat)
theorem rr_id {S : List (ByteArray × Int)} {R : List RV} {i : Int} (h : rrB S R i = true) : idB S R = true := by unfold rrB at h; rw [Bool.and_eq_true] at h; exact h.1
theorem rr_small (S : List (ByteArray × Int)) (R : List RV) (i : Int) : (rrL S R i).length ≤ 40 ∧ totR (rrL S R i) ≤ 240 :=
  rsL_small fun h => ⟨Nat.le_trans (wo_le _ _) (dok_small (rr_id h)).1, fun q hq => (dok_small (rr_id h)).2 q (wo_mem q hq)⟩
theorem rr_no1 {S : List (ByteArray × Int)} {R : List RV} {i : Int} (h : idB S R = false) : rrB S R i = false := by unfold rrB; rw [h]; rfl
theorem rr_no2 {S : List (ByteArray × Int)} {R : List RV} {i : Int} (h : ¬ (0 ≤ i ∧ i < (R.length : Int))) : rrB S R i = false := by
  unfold rrB; rw [(inB_no _ _ _).2 (by omega), Bool.and_false]
theorem rr_yes {S : List (ByteArray × Int)} {R : List RV} {i : Nat} (h : idB S R = true) (k : i < R.length) : rrB S R i = true := by
  unfold rrB; rw [h, (inB_iff _ _ _).2 (by omega)]; rfl

theorem idB_lenE {S : List (ByteArray × Int)} {Q : List PR} (h : idB S (pM Q) = true) : Q.length ≤ 40 := by rw [← pM_len]; exact (dok_small h).1
end Go.Proofs.Ytnmpigedhpdenab
