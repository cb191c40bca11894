/-
  Plain mathematics of FnFractions: (a + b) - b = a, (c / d) * d = c, and a + b lies to a as b to 0. No program's text.
-/
import Derived.Test.YtbglogaljjfnnabDoorLow
namespace Go.Proofs.YtbglogaljjfnnabDoor

theorem low_cross (n d : Int) (h : 0 < d) : lowN n d * d = n * lowD n d := by
  have h1 := gcdZ_pos n d (by omega)
  have e1 : gcdZ n d * lowN n d = n := Int.mul_tdiv_cancel' (show gcdZ n d ∣ n from Int.gcd_dvd_left n d)
  have e2 : gcdZ n d * lowD n d = d := Int.mul_ediv_cancel' (show gcdZ n d ∣ d from Int.gcd_dvd_right n d)
  have key : ∀ g a b : Int, g * a = n → g * b = d → a * d = n * b := by
    intro g a b h1 h2
    rw [← h1, ← h2]
    grind
  exact key _ _ _ e1 e2
/-- One fraction in lowest terms only. -/
theorem low_same {a b n y : Int} (h : fOK a b = true) (hy : 0 < y) (e : n * b = a * y) : lowN n y = a ∧ lowD n y = b := by
  obtain ⟨⟨b1, _, _, _⟩, hg⟩ := (fOK_iff a b).1 h
  have hg' : Int.gcd a b = 1 := by unfold gcdZ at hg; omega
  have hd : b ∣ a * y := ⟨n, by rw [← e, Int.mul_comm]⟩
  have hd2 : b ∣ y := by
    have k1 : b.natAbs ∣ a.natAbs * y.natAbs := by rw [← Int.natAbs_mul]; exact Int.natAbs_dvd_natAbs.2 hd
    exact Int.natAbs_dvd_natAbs.1 (Nat.Coprime.dvd_of_dvd_mul_left (show Nat.Coprime b.natAbs a.natAbs from by unfold Nat.Coprime; rw [Nat.gcd_comm]; exact hg') k1)
  obtain ⟨t, rfl⟩ := hd2
  have ht : 0 < t := by
    rcases (by omega : 0 < t ∨ t ≤ 0) with k | k
    · exact k
    · have := Int.mul_nonpos_of_nonneg_of_nonpos (show 0 ≤ b by omega) k
      omega
  have en : n = t * a := by
    have : n * b = (t * a) * b := by rw [e, Int.mul_comm b t, ← Int.mul_assoc, Int.mul_comm a t]
    exact Int.eq_of_mul_eq_mul_right (by omega) this
  rw [en, Int.mul_comm b t]
  obtain ⟨e1, e2⟩ := low_mul t a b ht
  rw [e1, e2]
  unfold lowN lowD
  rw [hg]
  simp
theorem mk_cross {n d : Int} (h : mkB n d = true) : mkN n d * d = n * mkD n d := by
  obtain ⟨e1, e2⟩ := mk_t h
  have hd : d ≠ 0 := by intro e; rw [e, mkB_zero] at h; cases h
  rw [e1, e2]
  rcases Int.lt_or_gt_of_ne hd with h1 | h1
  · obtain ⟨k1, k2⟩ := mkA_neg n d h1
    have := low_cross (-n) (-d) (by omega)
    rw [k1, k2]
    rw [Int.mul_neg, Int.neg_mul] at this
    omega
  · obtain ⟨k1, k2⟩ := mkA_pos n d h1
    rw [k1, k2]
    exact low_cross n d h1
theorem mk_same {a b n y : Int} (h : fOK a b = true) (hy : y ≠ 0) (e : n * b = a * y) : mkB n y = true ∧ mkN n y = a ∧ mkD n y = b := by
  have hi : fIn a b = true := by rw [fOK_def] at h; simp only [Bool.and_eq_true] at h; exact h.1
  have hk : mkA n y = a ∧ mkC n y = b := by
    rcases Int.lt_or_gt_of_ne hy with h1 | h1
    · obtain ⟨k1, k2⟩ := mkA_neg n y h1
      rw [k1, k2]
      exact low_same h (by omega) (by rw [Int.neg_mul, Int.mul_neg, e])
    · obtain ⟨k1, k2⟩ := mkA_pos n y h1
      rw [k1, k2]
      exact low_same h h1 e
  have hB : mkB n y = true := by rw [mkB_of n y hy, hk.1, hk.2]; exact hi
  obtain ⟨e1, e2⟩ := mk_t hB
  exact ⟨hB, e1.trans hk.1, e2.trans hk.2⟩
theorem fOK_pos {a b : Int} (h : fOK a b = true) : 1 ≤ b := ((fOK_iff a b).1 h).1.1

/-- (a + b) - b = a. -/
theorem undo_add {n d m c : Int} (h : fOK n d = true) (k : fOK m c = true) (hB : mkB (n * c + m * d) (d * c) = true) :
    mkB (mkN (n * c + m * d) (d * c) * c - m * mkD (n * c + m * d) (d * c)) (mkD (n * c + m * d) (d * c) * c) = true ∧
      mkN (mkN (n * c + m * d) (d * c) * c - m * mkD (n * c + m * d) (d * c)) (mkD (n * c + m * d) (d * c) * c) = n ∧
      mkD (mkN (n * c + m * d) (d * c) * c - m * mkD (n * c + m * d) (d * c)) (mkD (n * c + m * d) (d * c) * c) = d := by
  have hx := mk_cross hB
  have hp := fOK_pos (mk_valid hB)
  have hc := fOK_pos k
  generalize mkN (n * c + m * d) (d * c) = x at *
  generalize mkD (n * c + m * d) (d * c) = y at *
  have hyc : 0 < y * c := Int.mul_pos (by omega) (by omega)
  refine mk_same h (by omega) ?_
  grind
/-- (c / d) * d = c. -/
theorem undo_div {n d m c : Int} (h : fOK n d = true) (k : fOK m c = true) (hB : mkB (n * c) (d * m) = true) :
    mkB (mkN (n * c) (d * m) * m) (mkD (n * c) (d * m) * c) = true ∧ mkN (mkN (n * c) (d * m) * m) (mkD (n * c) (d * m) * c) = n ∧ mkD (mkN (n * c) (d * m) * m) (mkD (n * c) (d * m) * c) = d := by
  have hx := mk_cross hB
  have hp := fOK_pos (mk_valid hB)
  have hc := fOK_pos k
  generalize mkN (n * c) (d * m) = x at *
  generalize mkD (n * c) (d * m) = y at *
  have hyc : 0 < y * c := Int.mul_pos (by omega) (by omega)
  refine mk_same h (by omega) ?_
  grind
/-- The sign of (a + b) - a, over one denominator, is that of b. -/
theorem sum_side {n d m c : Int} (h : fOK n d = true) (hB : mkB (n * c + m * d) (d * c) = true) :
    (mkN (n * c + m * d) (d * c) * d - n * mkD (n * c + m * d) (d * c)) * c = m * (d * mkD (n * c + m * d) (d * c)) ∧ 0 < d * mkD (n * c + m * d) (d * c) := by
  have hx := mk_cross hB
  have hp := fOK_pos (mk_valid hB)
  have hd := fOK_pos h
  generalize mkN (n * c + m * d) (d * c) = x at *
  generalize mkD (n * c + m * d) (d * c) = y at *
  refine ⟨by grind, Int.mul_pos (by omega) (by omega)⟩
end Go.Proofs.YtbglogaljjfnnabDoor
