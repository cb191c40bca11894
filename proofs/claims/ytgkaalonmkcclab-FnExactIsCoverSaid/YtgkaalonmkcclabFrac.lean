/-
  Plain facts on fractions: the greatest common divisor, valid fractions, lowest terms. No program's text.
-/
import Derived.Test.YtgkaalonmkcclabKit
namespace Go.Proofs.Ytgkaalonmkcclab

/-- The greatest common divisor as an integer. -/
def gcdZ (a b : Int) : Int := (Int.gcd a b : Nat)
theorem gcdZ_nonneg (a b : Int) : 0 ≤ gcdZ a b := by unfold gcdZ; omega
theorem gcdZ_zero_left (b : Int) (h : 0 ≤ b) : gcdZ 0 b = b := by unfold gcdZ; simp; omega
theorem gcdZ_zero_right (a : Int) : gcdZ a 0 = absZ a := by unfold gcdZ absZ; simp; split <;> omega
theorem gcdZ_comm (a b : Int) : gcdZ a b = gcdZ b a := by unfold gcdZ; rw [Int.gcd_comm]
theorem gcdZ_neg_left (a b : Int) : gcdZ (-a) b = gcdZ a b := by unfold gcdZ; simp
theorem gcdZ_neg_right (a b : Int) : gcdZ a (-b) = gcdZ a b := by unfold gcdZ; simp
theorem gcdZ_emod (x y : Int) : gcdZ (y % x) x = gcdZ x y := by
  unfold gcdZ
  rw [Int.gcd_comm x y, Int.emod_def, Int.gcd_sub_mul_left_left]
theorem gcdZ_tmod (x y : Int) : gcdZ y (x.tmod y) = gcdZ x y := by
  unfold gcdZ
  rw [Int.gcd_comm y, Int.tmod_def, Int.gcd_sub_mul_left_left]

/-- Is n/d a valid fraction? -/
def fOK (n d : Int) : Bool := decide (1 ≤ d ∧ d ≤ 1000000000 ∧ -1000000000 ≤ n ∧ n ≤ 1000000000) && (gcdZ n d == 1)
def fIn (n d : Int) : Bool := decide (1 ≤ d ∧ d ≤ 1000000000 ∧ -1000000000 ≤ n ∧ n ≤ 1000000000)
theorem fOK_def (n d : Int) : fOK n d = (fIn n d && (gcdZ n d == 1)) := rfl
theorem fIn_iff (n d : Int) : fIn n d = true ↔ 1 ≤ d ∧ d ≤ 1000000000 ∧ -1000000000 ≤ n ∧ n ≤ 1000000000 := by unfold fIn; simp
theorem fOK_iff (n d : Int) : fOK n d = true ↔ (1 ≤ d ∧ d ≤ 1000000000 ∧ -1000000000 ≤ n ∧ n ≤ 1000000000) ∧ gcdZ n d = 1 := by unfold fOK; simp

/-! Quotients rounded down, out of Go's own. -/
theorem floor_rem_neg (n d : Int) (hd : 0 < d) (h : n.tmod d < 0) : n / d = n.tdiv d - 1 := by
  have h1 := Int.tmod_add_mul_tdiv n d
  have h2 := Int.lt_tmod_of_pos n hd
  exact ((Int.ediv_emod_unique (a := n) (q := n.tdiv d - 1) (r := n.tmod d + d) hd).2 ⟨by rw [Int.mul_sub]; omega, by omega, by omega⟩).1
theorem floor_rem_zero (n d : Int) (hn : n < 0) (hd : 0 < d) (h : ¬ n.tmod d < 0) : n / d = n.tdiv d := by
  have h1 := Int.tmod_add_mul_tdiv n d
  have h3 : n.tmod d ≤ 0 := by
    have e := Int.neg_tmod (-n) d
    have := Int.tmod_nonneg (a := -n) d (by omega)
    rw [Int.neg_neg] at e
    omega
  exact ((Int.ediv_emod_unique (a := n) (q := n.tdiv d) (r := n.tmod d) hd).2 ⟨by omega, by omega, by omega⟩).1
theorem fdiv_mul (n d : Int) (hd : 0 < d) : n / d * d ≤ n ∧ n < n / d * d + d := by
  have h1 := Int.emod_add_mul_ediv n d
  have h2 := Int.emod_nonneg n (show d ≠ 0 by omega)
  have h3 := Int.emod_lt_of_pos n hd
  rw [Int.mul_comm] at h1
  omega
theorem fdiv_bd (n d : Int) (hd : 1 ≤ d) (B : Int) (hB : 0 ≤ B) (h1 : -B ≤ n) (h2 : n ≤ B) : -B ≤ n / d ∧ n / d ≤ B := by
  constructor
  · exact Int.le_ediv_of_mul_le (by omega) (by have := Int.mul_le_mul_of_nonneg_left hd hB; simp at this; rw [Int.neg_mul]; omega)
  · have : n / d < B + 1 := Int.ediv_lt_of_lt_mul (by omega) (by have := Int.mul_le_mul_of_nonneg_left hd hB; simp at this; rw [Int.add_mul]; omega)
    omega
theorem mul_bd {a b A B : Int} (h1 : -A ≤ a) (h2 : a ≤ A) (h3 : -B ≤ b) (h4 : b ≤ B) : -(A * B) ≤ a * b ∧ a * b ≤ A * B := by
  have hA : 0 ≤ A := by omega
  have ha : a.natAbs ≤ A.natAbs := by omega
  have hb : b.natAbs ≤ B.natAbs := by omega
  have h : (a * b).natAbs ≤ (A * B).natAbs := by rw [Int.natAbs_mul, Int.natAbs_mul]; exact Nat.mul_le_mul ha hb
  have h0 : 0 ≤ A * B := Int.mul_nonneg hA (by omega)
  omega
theorem mul_bd9 {a b : Int} (h1 : -1000000000 ≤ a) (h2 : a ≤ 1000000000) (h3 : -1000000000 ≤ b) (h4 : b ≤ 1000000000) : -1000000000000000000 ≤ a * b ∧ a * b ≤ 1000000000000000000 := by
  have := mul_bd h1 h2 h3 h4
  omega

/-- The nearest integer to n/d, the even one of two. -/
def roundZ (n d : Int) : Int := if d < 2 * (n - n / d * d) ∨ (2 * (n - n / d * d) = d ∧ (n / d).tmod 2 ≠ 0) then n / d + 1 else n / d
end Go.Proofs.Ytgkaalonmkcclab
