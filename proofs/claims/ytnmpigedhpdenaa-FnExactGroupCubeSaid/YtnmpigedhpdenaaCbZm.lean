/-
  Plain mathematics of chapter 10: the difference of cubes. No program's text.
-/
import Derived.Test.YtnmpigedhpdenaaCbM
import Derived.Test.YtnmpigedhpdenaaSmI
namespace Go.Proofs.Ytnmpigedhpdenaa
open Go.RowKit

def dfC (A B : List Int) : List Int := List.zipWith (· - ·) A B
theorem dfC_len {A B : List Int} (h : A.length = B.length) : (dfC A B).length = A.length := by unfold dfC; rw [List.length_zipWith]; omega
theorem dfC_at {A B : List Int} {j : Nat} {a b : Int} (h : A[j]? = some a) (k : B[j]? = some b) : (dfC A B)[j]? = some (a - b) := by
  unfold dfC
  rw [List.getElem?_zipWith, h, k]
theorem dfC_getD {A B : List Int} (h : A.length = B.length) (j : Nat) : (dfC A B).getD j 0 = A.getD j 0 - B.getD j 0 := by
  rcases Nat.lt_or_ge j A.length with hj | hj
  · rw [getD_at (dfC_at (List.getElem?_eq_getElem hj) (List.getElem?_eq_getElem (by omega)))]
    rw [List.getD_eq_getElem?_getD, List.getElem?_eq_getElem hj, List.getD_eq_getElem?_getD, List.getElem?_eq_getElem (by omega : j < B.length)]
    rfl
  · rw [List.getD_eq_getElem?_getD, List.getElem?_eq_none (by rw [dfC_len h]; exact hj), List.getD_eq_getElem?_getD, List.getElem?_eq_none hj, List.getD_eq_getElem?_getD, List.getElem?_eq_none (by omega)]
    rfl
theorem dfC_sum {A B : List Int} (h : A.length = B.length) (L : List Int) : suC (dfC A B) L = suC A L - suC B L := by
  induction L using snoc_rec with
  | h0 => rfl
  | h1 L j ih => rw [suC_snoc, suC_snoc, suC_snoc, ih, dfC_getD h]; omega
theorem br_false {Z C : List Int} {i : Nat} (h : brB Z C i = false) {L : List Int} (hL : L ∈ ptZ Z i) : suC C L = C.getD i 0 := by
  unfold brB at h
  rw [List.any_eq_false] at h
  have := h L hL
  simpa using this
theorem fb_all {Z C : List Int} (h : fbN Z C = C.length) {j : Nat} (hj : j < C.length) : brB Z C j = false := by
  unfold fbN at h
  have h2 : (List.range C.length).findIdx (fun i => brB Z C i) = (List.range C.length).length := by rw [h, List.length_range]
  rw [List.findIdx_eq_length] at h2
  exact h2 j (List.mem_range.2 hj)
theorem cg_br {Z C : List Int} (h : cgB Z C = true) {j : Nat} (hj : j < C.length) : brB Z C j = false := fb_all (cg_get h).2 hj
theorem cg_of {Z C : List Int} (h : cfB Z C = true) (k : ∀ j, j < C.length → brB Z C j = false) : cgB Z C = true := by rw [cg_eq h, fbN_miss k]; simp
/-- What DifferenceOf gives. -/
def dqB (Y A Z B : List Int) : Bool := cgB Y A && (cgB Z B && (sqB Y Z && inR (dfC A B) (-1000000) 1000000))
def dqR (Y A Z B : List Int) : List Int × List Int := if dqB Y A Z B then (Y, dfC A B) else ([], [])
theorem dq_no {Y A Z B : List Int} (h : dqB Y A Z B = false) : dqB Y A Z B = false ∧ dqR Y A Z B = ([], []) := ⟨h, by unfold dqR; rw [h]; rfl⟩
theorem dq_yes {Y A Z B : List Int} (h : dqB Y A Z B = true) : dqB Y A Z B = true ∧ dqR Y A Z B = (Y, dfC A B) := ⟨h, by unfold dqR; rw [h]; rfl⟩
theorem dqR_l1 {Y A Z B : List Int} (h : Y.length ≤ 1048576) : (dqR Y A Z B).1.length ≤ 1048576 := by
  unfold dqR; split
  · exact h
  · simp
theorem dqR_l2 {Y A Z B : List Int} (h : A.length ≤ 1048576) : (dqR Y A Z B).2.length ≤ 1048576 := by
  unfold dqR; split
  · show (dfC A B).length ≤ 1048576
    unfold dfC
    rw [List.length_zipWith]
    omega
  · simp
theorem dq_no1 {Y A : List Int} (Z B : List Int) (h : cgB Y A = false) : dqB Y A Z B = false := by unfold dqB; rw [h]; rfl
theorem dq_no2 {Z B : List Int} (Y A : List Int) (h : cgB Z B = false) : dqB Y A Z B = false := by unfold dqB; rw [h]; simp
theorem dq_no3 {Y Z : List Int} (A B : List Int) (h : sqB Y Z = false) : dqB Y A Z B = false := by unfold dqB; rw [h]; simp
theorem dq_no4 {A B : List Int} (Y Z : List Int) (h : inR (dfC A B) (-1000000) 1000000 = false) : dqB Y A Z B = false := by unfold dqB; rw [h]; simp
theorem dq_ok {Y A Z B : List Int} (h1 : cgB Y A = true) (h2 : cgB Z B = true) (h3 : sqB Y Z = true) (h4 : inR (dfC A B) (-1000000) 1000000 = true) : dqB Y A Z B = true := by unfold dqB; rw [h1, h2, h3, h4]; rfl
theorem dq_len {Y A Z B : List Int} (h1 : cgB Y A = true) (h2 : cgB Z B = true) (h3 : sqB Y Z = true) : A.length = B.length := by
  have e : Y = Z := of_decide_eq_true h3
  subst e
  have a := (cf_get (cg_get h1).1).2.1
  have b := (cf_get (cg_get h2).1).2.1
  omega
/-- The difference of valid cubes is valid, if its cells are small. -/
theorem dq_good {Z A B : List Int} (h1 : cgB Z A = true) (h2 : cgB Z B = true) : cgB Z (dfC A B) = inR (dfC A B) (-1000000) 1000000 := by
  have a := cf_get (cg_get h1).1
  have b := cf_get (cg_get h2).1
  have hl : A.length = B.length := by have := a.2.1; have := b.2.1; omega
  cases h4 : inR (dfC A B) (-1000000) 1000000
  · exact cg_no1 (cf_no3 h4)
  · have hf := cf_yes a.1 (by rw [dfC_len hl]; exact a.2.1) h4
    refine cg_of hf fun j hj => ?_
    rw [dfC_len hl] at hj
    have ha : A[j]? = some A[j] := List.getElem?_eq_getElem hj
    have hb : B[j]? = some (B[j]'(by omega)) := List.getElem?_eq_getElem (by omega)
    refine br_no (dfC_at ha hb) fun L hL => ?_
    rw [dfC_sum hl, br_false (cg_br h1 hj) hL, br_false (cg_br h2 (by omega)) hL, getD_at ha, getD_at hb]
/-- The first differences, then the first list's own. -/
def dfK (A B : List Int) : Nat → List Int
  | 0 => A
  | i + 1 => (dfK A B i).set i (A.getD i 0 - B.getD i 0)
theorem dfK_len (A B : List Int) : ∀ i, (dfK A B i).length = A.length
  | 0 => rfl
  | i + 1 => by unfold dfK; rw [List.length_set, dfK_len]
theorem dfK_late (A B : List Int) : ∀ i j, i ≤ j → (dfK A B i)[j]? = A[j]?
  | 0, _, _ => rfl
  | i + 1, j, h => by
    unfold dfK
    rw [List.getElem?_set, if_neg (by omega)]
    exact dfK_late A B i j (by omega)
theorem dfK_early (A B : List Int) : ∀ i j, j < i → j < A.length → (dfK A B i)[j]? = some (A.getD j 0 - B.getD j 0)
  | 0, _, h, _ => by omega
  | i + 1, j, h, hl => by
    unfold dfK
    rw [List.getElem?_set]
    by_cases e : i = j
    · subst e
      rw [if_pos rfl, if_pos (by rw [dfK_len]; exact hl)]
    · rw [if_neg e]
      exact dfK_early A B i j (by omega) hl
theorem dfK_step {A B : List Int} {i : Nat} {a b : Int} (h : A[i]? = some a) (k : B[i]? = some b) : dfK A B (i + 1) = (dfK A B i).set i (a - b) := by
  show (dfK A B i).set i _ = _
  rw [getD_at h, getD_at k]
theorem dfK_all {A B : List Int} (h : A.length = B.length) : dfK A B B.length = dfC A B := by
  apply List.ext_getElem?
  intro j
  rcases Nat.lt_or_ge j A.length with hj | hj
  · rw [dfK_early _ _ _ _ (by omega) hj, dfC_at (List.getElem?_eq_getElem hj) (List.getElem?_eq_getElem (by omega))]
    rw [List.getD_eq_getElem?_getD, List.getElem?_eq_getElem hj, List.getD_eq_getElem?_getD, List.getElem?_eq_getElem (by omega : j < B.length)]
    rfl
  · rw [List.getElem?_eq_none (by rw [dfK_len]; exact hj), List.getElem?_eq_none (by rw [dfC_len h]; exact hj)]
theorem dfC_snoc {A B : List Int} {i : Nat} {a b : Int} (h : A[i]? = some a) (k : B[i]? = some b) : dfC (A.take (i + 1)) (B.take (i + 1)) = dfC (A.take i) (B.take i) ++ [a - b] := by
  have hA := (List.getElem?_eq_some_iff.1 h).1
  have hB := (List.getElem?_eq_some_iff.1 k).1
  rw [take_snoc h, take_snoc k]
  unfold dfC
  rw [List.zipWith_append (by rw [List.length_take, List.length_take]; omega)]
  rfl
end Go.Proofs.Ytnmpigedhpdenaa
