/-
  Chapter 8: AddCells: the sums of lists, place by place: mathematics.
-/
import Derived.Test.YtnmpigedhpdenabAcP
namespace Go.Proofs.Ytnmpigedhpdenab
open Go.RowKit Go.Shelf
set_option maxRecDepth 100000
attribute [local go_sem] Oper.semAt_some

/-- A list's numbers, at the places of another list, added to sums. -/
def acF (Z L : List Int) (ks : List Nat) : List Int := ks.foldl (fun X k => X.set k (X.getD k 0 + alV L k)) Z
theorem acF_snoc (Z L : List Int) (ks : List Nat) (k : Nat) : acF Z L (ks ++ [k]) = (acF Z L ks).set k ((acF Z L ks).getD k 0 + alV L k) := by unfold acF; rw [List.foldl_append]; rfl
theorem acF_len (Z L : List Int) (ks : List Nat) : (acF Z L ks).length = Z.length := by
  refine rev_ind (P := fun ks => (acF Z L ks).length = Z.length) rfl (fun r k ih => ?_) ks
  rw [acF_snoc, List.length_set]
  exact ih
theorem acF_bd {Z L : List Int} (hZ : ∀ j, -1000000 ≤ Z.getD j 0 ∧ Z.getD j 0 ≤ 1000000) (hL : ∀ j, -1000000 ≤ alV L j ∧ alV L j ≤ 1000000) (ks : List Nat) : ∀ j, -1000000 * ((ks.length : Int) + 1) ≤ (acF Z L ks).getD j 0 ∧ (acF Z L ks).getD j 0 ≤ 1000000 * ((ks.length : Int) + 1) := by
  refine rev_ind (P := fun ks => ∀ j, -1000000 * ((ks.length : Int) + 1) ≤ (acF Z L ks).getD j 0 ∧ (acF Z L ks).getD j 0 ≤ 1000000 * ((ks.length : Int) + 1)) (fun j => ?_) (fun r k ih j => ?_) ks
  · have := hZ j
    show _ ≤ Z.getD j 0 ∧ Z.getD j 0 ≤ _
    simp only [List.length_nil]
    omega
  · rw [acF_snoc, List.getD_eq_getElem?_getD, List.getElem?_set]
    have h1 := ih j
    have h2 := ih k
    have h3 := hL k
    simp only [List.length_append, List.length_cons, List.length_nil]
    split
    · split
      · simp only [Option.getD_some]
        omega
      · simp only [Option.getD_none]
        omega
    · rw [← List.getD_eq_getElem?_getD]
      omega
theorem acF_range (Z L : List Int) : ∀ m, m ≤ Z.length → acF Z L (List.range m) = acK Z L m
  | 0, _ => rfl
  | m + 1, h => by
    rw [List.range_succ, acF_snoc, acF_range Z L m (by omega)]
    show _ = (acK Z L m).set m _
    rw [List.getD_eq_getElem?_getD, acK_late Z L m m (Nat.le_refl _), ← List.getD_eq_getElem?_getD]
    rfl
/-- The sums after j lists. -/
def acS (A B : List Int) : Nat → List Int
  | 0 => List.replicate A.length 0
  | 1 => A
  | _ => acK A B A.length
theorem acS_len (A B : List Int) : ∀ j, (acS A B j).length = A.length
  | 0 => by unfold acS; simp
  | 1 => rfl
  | n + 2 => by show (acK A B A.length).length = _; rw [acK_len]
end Go.Proofs.Ytnmpigedhpdenab
