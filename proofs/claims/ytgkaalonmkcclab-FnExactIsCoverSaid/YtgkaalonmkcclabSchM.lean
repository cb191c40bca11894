/-
  Plain mathematics of chapter 2: counts, values, indices, distances. No program's text.
-/
import Derived.Test.YtgkaalonmkcclabSch
namespace Go.Proofs.Ytgkaalonmkcclab
open Go.RowKit

/-- The product of the numbers of levels. -/
def cnZ (S : List (ByteArray × Int)) : Int := S.foldl (fun n p => n * p.2) 1
theorem cnZ_snoc (S : List (ByteArray × Int)) (p : ByteArray × Int) : cnZ (S ++ [p]) = cnZ S * p.2 := by unfold cnZ; rw [List.foldl_append]; rfl
theorem cn_bd {S : List (ByteArray × Int)} (hs : schB S = true) : ∀ i, i ≤ S.length → 1 ≤ cnZ (S.take i) ∧ cnZ (S.take i) ≤ 8 ^ i
  | 0, _ => by rw [List.take_zero]; exact ⟨by decide, by decide⟩
  | i + 1, h => by
    obtain ⟨h1, h2⟩ := cn_bd hs i (by omega)
    have hi : S[i]? = some (S[i]'(by omega)) := List.getElem?_eq_getElem (by omega)
    obtain ⟨h3, h4⟩ := schB_lv (nm := (S[i]'(by omega)).1) (lv := (S[i]'(by omega)).2) hs hi
    rw [take_snoc hi, cnZ_snoc]
    generalize (S[i]'(by omega)).2 = lv at h3 h4 ⊢
    generalize cnZ (S.take i) = c at h1 h2 ⊢
    have p1 : 1 * 1 ≤ c * lv := Int.mul_le_mul h1 (by omega) (by omega) (by omega)
    have p2 : c * lv ≤ 8 ^ i * 8 := Int.mul_le_mul h2 h4 (by omega) (by omega)
    rw [Int.pow_succ]
    exact ⟨by omega, p2⟩
theorem cn_le {S : List (ByteArray × Int)} (hs : schB S = true) {i : Nat} (h : i ≤ S.length) : 1 ≤ cnZ (S.take i) ∧ cnZ (S.take i) ≤ 262144 := by
  obtain ⟨h1, h2⟩ := cn_bd hs i h
  have h6 := (schB_len hs).2
  refine ⟨h1, ?_⟩
  have hi : i = 0 ∨ i = 1 ∨ i = 2 ∨ i = 3 ∨ i = 4 ∨ i = 5 ∨ i = 6 := by omega
  have h3 : (8 : Int) ^ i ≤ 262144 := by rcases hi with rfl | rfl | rfl | rfl | rfl | rfl | rfl <;> decide
  exact Int.le_trans h2 h3
theorem cn_step {S : List (ByteArray × Int)} (hs : schB S = true) {i : Nat} {nm : ByteArray} {lv : Int} (hi : S[i]? = some (nm, lv)) :
    cnZ (S.take (i + 1)) = cnZ (S.take i) * lv ∧ 1 ≤ cnZ (S.take i) * lv ∧ cnZ (S.take i) * lv ≤ 262144 := by
  have e : cnZ (S.take (i + 1)) = cnZ (S.take i) * lv := by rw [take_snoc hi, cnZ_snoc]
  have hl := (List.getElem?_eq_some_iff.1 hi).1
  have := cn_le hs (i := i + 1) hl
  rw [e] at this
  exact ⟨e, this.1, this.2⟩

/-- Are they values for the schema? -/
def fitB (S : List (ByteArray × Int)) (V : List Int) : Bool := decide (V.length = S.length) && (S.zip V).all fun q => decide (0 ≤ q.2) && decide (q.2 < q.1.2)
theorem fit_len {S : List (ByteArray × Int)} {V : List Int} (h : fitB S V = true) : V.length = S.length := by unfold fitB at h; simp only [Bool.and_eq_true, decide_eq_true_eq] at h; exact h.1
theorem fit_no {S : List (ByteArray × Int)} {V : List Int} (h : V.length ≠ S.length) : fitB S V = false := by unfold fitB; rw [decide_eq_false h]; rfl
theorem zip_at {S : List (ByteArray × Int)} {V : List Int} {i : Nat} {p : ByteArray × Int} {v : Int} (h1 : S[i]? = some p) (h2 : V[i]? = some v) : (S.zip V)[i]? = some (p, v) := List.getElem?_zip_eq_some.2 ⟨h1, h2⟩
theorem fit_bad {S : List (ByteArray × Int)} {V : List Int} {i : Nat} {nm : ByteArray} {lv v : Int} (h1 : S[i]? = some (nm, lv)) (h2 : V[i]? = some v) (h : ¬ (0 ≤ v ∧ v < lv)) : fitB S V = false := by
  unfold fitB
  have : ((S.zip V).all fun q => decide (0 ≤ q.2) && decide (q.2 < q.1.2)) = false := by
    rw [List.all_eq_false]
    refine ⟨((nm, lv), v), List.mem_of_getElem? (zip_at h1 h2), ?_⟩
    simp only [Bool.and_eq_true, decide_eq_true_eq]
    exact h
  rw [this, Bool.and_false]
theorem fit_get {S : List (ByteArray × Int)} {V : List Int} (h : fitB S V = true) {i : Nat} {nm : ByteArray} {lv v : Int} (h1 : S[i]? = some (nm, lv)) (h2 : V[i]? = some v) : 0 ≤ v ∧ v < lv := by
  by_cases hh : 0 ≤ v ∧ v < lv
  · exact hh
  · rw [fit_bad h1 h2 hh] at h; cases h
theorem fit_all {S : List (ByteArray × Int)} {V : List Int} (hl : V.length = S.length) (h : ∀ j, j < S.length → ∃ nm lv v, S[j]? = some (nm, lv) ∧ V[j]? = some v ∧ 0 ≤ v ∧ v < lv) : fitB S V = true := by
  unfold fitB
  rw [decide_eq_true hl, Bool.true_and, List.all_eq_true]
  intro q hq
  obtain ⟨j, hj, e⟩ := List.getElem_of_mem hq
  have hjs : j < S.length := by rw [List.length_zip] at hj; omega
  obtain ⟨nm, lv, v, a, b, c, d⟩ := h j hjs
  have e2 := List.getElem?_eq_getElem hj
  rw [zip_at a b, e] at e2
  cases e2
  simp only [Bool.and_eq_true, decide_eq_true_eq]
  exact ⟨c, d⟩

/-- The index of values. -/
def ixF (Z : List ((ByteArray × Int) × Int)) : Int := Z.foldl (fun n q => n * q.1.2 + q.2) 0
def ixZ (S : List (ByteArray × Int)) (V : List Int) : Int := ixF (S.zip V)
theorem ixF_snoc (Z : List ((ByteArray × Int) × Int)) (q : (ByteArray × Int) × Int) : ixF (Z ++ [q]) = ixF Z * q.1.2 + q.2 := by unfold ixF; rw [List.foldl_append]; rfl
theorem ix_bd {S : List (ByteArray × Int)} {V : List Int} (hs : schB S = true) (hf : fitB S V = true) : ∀ i, i ≤ S.length → 0 ≤ ixF ((S.zip V).take i) ∧ ixF ((S.zip V).take i) < cnZ (S.take i)
  | 0, _ => by rw [List.take_zero, List.take_zero]; exact ⟨by decide, by decide⟩
  | i + 1, h => by
    obtain ⟨h1, h2⟩ := ix_bd hs hf i (by omega)
    have hl := fit_len hf
    have hi : S[i]? = some ((S[i]'(by omega)).1, (S[i]'(by omega)).2) := List.getElem?_eq_getElem (by omega)
    have hv : V[i]? = some (V[i]'(by omega)) := List.getElem?_eq_getElem (by omega)
    obtain ⟨h3, h4⟩ := schB_lv hs hi
    obtain ⟨h5, h6⟩ := fit_get hf hi hv
    rw [take_snoc hi, cnZ_snoc, take_snoc (zip_at hi hv), ixF_snoc]
    simp only
    generalize (S[i]'(by omega)).2 = lv at h3 h4 h5 h6 ⊢
    generalize cnZ (S.take i) = c at h1 h2 ⊢
    generalize ixF ((S.zip V).take i) = x at h1 h2 ⊢
    generalize (V[i]'(by omega)) = v at h5 h6 ⊢
    have p1 : 0 ≤ x * lv := Int.mul_nonneg h1 (by omega)
    have p2 : (x + 1) * lv ≤ c * lv := Int.mul_le_mul_of_nonneg_right (by omega) (by omega)
    rw [Int.add_mul] at p2
    omega
theorem ix_step {S : List (ByteArray × Int)} {V : List Int} (hs : schB S = true) (hf : fitB S V = true) {i : Nat} {nm : ByteArray} {lv v : Int} (hi : S[i]? = some (nm, lv)) (hv : V[i]? = some v) :
    ixF ((S.zip V).take (i + 1)) = ixF ((S.zip V).take i) * lv + v ∧ 0 ≤ ixF ((S.zip V).take i) * lv ∧ ixF ((S.zip V).take i) * lv ≤ 262144 ∧ 0 ≤ v ∧ v ≤ 8 := by
  have e : ixF ((S.zip V).take (i + 1)) = ixF ((S.zip V).take i) * lv + v := by rw [take_snoc (zip_at hi hv), ixF_snoc]
  have hl := (List.getElem?_eq_some_iff.1 hi).1
  obtain ⟨b1, b2⟩ := ix_bd hs hf (i + 1) hl
  obtain ⟨c1, c2⟩ := ix_bd hs hf i (by omega)
  have := cn_le hs (i := i + 1) hl
  obtain ⟨h3, h4⟩ := schB_lv hs hi
  obtain ⟨h5, h6⟩ := fit_get hf hi hv
  have p1 : 0 ≤ ixF ((S.zip V).take i) * lv := Int.mul_nonneg c1 (by omega)
  refine ⟨e, p1, by omega, h5, by omega⟩

/-- At how many places two lists differ. -/
def diF (Z : List (Int × Int)) : Int := Z.foldl (fun n q => if q.1 = q.2 then n else n + 1) 0
def diZ (A B : List Int) : Int := diF (A.zip B)
theorem diF_snoc (Z : List (Int × Int)) (q : Int × Int) : diF (Z ++ [q]) = if q.1 = q.2 then diF Z else diF Z + 1 := by unfold diF; rw [List.foldl_append]; rfl
theorem di_bd {Z : List (Int × Int)} : ∀ i, 0 ≤ diF (Z.take i) ∧ diF (Z.take i) ≤ i
  | 0 => by rw [List.take_zero]; exact ⟨by decide, by decide⟩
  | i + 1 => by
    obtain ⟨h1, h2⟩ := di_bd (Z := Z) i
    rcases Nat.lt_or_ge i Z.length with h | h
    · rw [take_snoc (List.getElem?_eq_getElem h), diF_snoc]
      split <;> omega
    · rw [List.take_of_length_le (by omega)]
      rw [List.take_of_length_le (by omega)] at h1 h2
      omega
theorem di_step {A B : List Int} {i : Nat} {a b : Int} (ha : A[i]? = some a) (hb : B[i]? = some b) : diF ((A.zip B).take (i + 1)) = if a = b then diF ((A.zip B).take i) else diF ((A.zip B).take i) + 1 := by
  rw [take_snoc (List.getElem?_zip_eq_some (z := (a, b)).2 ⟨ha, hb⟩), diF_snoc]

/-- What the functions give: closed to the walk. -/
def viB (S : List (ByteArray × Int)) (l : List UInt8) : Bool := schB S && hasB S l
def viN (S : List (ByteArray × Int)) (l : List UInt8) : Int := if viB S l then fdZ S l else 0
def ccN (S : List (ByteArray × Int)) : Int := if schB S then cnZ S else 0
def ciB (S : List (ByteArray × Int)) (V : List Int) : Bool := schB S && fitB S V
def ciN (S : List (ByteArray × Int)) (V : List Int) : Int := if ciB S V then ixZ S V else 0
def vdB (S : List (ByteArray × Int)) (A B : List Int) : Bool := schB S && fitB S A && fitB S B
def vdN (S : List (ByteArray × Int)) (A B : List Int) : Int := if vdB S A B then diZ A B else 0
theorem if_f {b : Bool} {x : Int} (h : b = false) : (if b then x else 0) = 0 := by rw [h]; rfl
theorem if_t {b : Bool} {x : Int} (h : b = true) : (if b then x else 0) = x := by rw [h]; rfl
end Go.Proofs.Ytgkaalonmkcclab
