/-
  Plain facts: lowest terms. No program's text.
-/
import Derived.Test.YtbglogaljjfnnabDoorFrac
namespace Go.Proofs.YtbglogaljjfnnabDoor

/-- Numerator and denominator of n/d in lowest terms, for a positive d. -/
def lowN (n d : Int) : Int := n.tdiv (gcdZ n d)
def lowD (n d : Int) : Int := d / gcdZ n d
theorem gcdZ_pos (n d : Int) (h : d ≠ 0) : 1 ≤ gcdZ n d := by
  unfold gcdZ
  have : 0 < Int.gcd n d := by
    rcases Nat.eq_zero_or_pos (Int.gcd n d) with e | e
    · exact absurd (Int.gcd_eq_zero_iff.1 e).2 h
    · exact e
  omega
theorem gcdZ_le (n d : Int) (h : 0 < d) : gcdZ n d ≤ d := by
  have := Int.le_of_dvd h (Int.gcd_dvd_right n d)
  exact this
theorem lowD_pos (n d : Int) (h : 0 < d) : 1 ≤ lowD n d ∧ lowD n d ≤ d := by
  unfold lowD
  have h1 := gcdZ_pos n d (by omega)
  have h2 := gcdZ_le n d h
  constructor
  · exact Int.le_ediv_of_mul_le (by omega) (by omega)
  · exact Int.ediv_le_self _ (by omega)
theorem lowN_bd (n d B : Int) (h1 : -B ≤ n) (h2 : n ≤ B) : -B ≤ lowN n d ∧ lowN n d ≤ B := by
  have := Int.natAbs_tdiv_le_natAbs n (gcdZ n d)
  unfold lowN
  omega
theorem low_mul (p a b : Int) (hp : 0 < p) : lowN (p * a) (p * b) = lowN a b ∧ lowD (p * a) (p * b) = lowD a b := by
  have eg : gcdZ (p * a) (p * b) = p * gcdZ a b := by
    unfold gcdZ
    rw [Int.gcd_mul_left]
    have : ((p.natAbs : Nat) : Int) = p := by omega
    rw [Int.natCast_mul, this]
  constructor
  · unfold lowN
    rw [eg, Int.mul_tdiv_mul_of_pos _ _ hp]
  · unfold lowD
    rw [eg, Int.mul_ediv_mul_of_pos _ _ hp]
theorem low_cancel (n d p : Int) (hp : 0 < p) (hn : n.tmod p = 0) (hd : d % p = 0) : lowN (n.tdiv p) (d / p) = lowN n d ∧ lowD (n.tdiv p) (d / p) = lowD n d := by
  have en := Int.mul_tdiv_cancel' (Int.dvd_of_tmod_eq_zero hn)
  have ed := Int.mul_ediv_cancel' (Int.dvd_of_emod_eq_zero hd)
  have h := low_mul p (n.tdiv p) (d / p) hp
  rw [en, ed] at h
  exact ⟨h.1.symm, h.2.symm⟩
theorem low_gcd (n d : Int) (h : 0 < d) : gcdZ (lowN n d) (lowD n d) = 1 := by
  have h1 := gcdZ_pos n d (by omega)
  unfold lowN lowD
  rw [Int.tdiv_eq_ediv_of_dvd (show gcdZ n d ∣ n from Int.gcd_dvd_left n d)]
  unfold gcdZ at h1 ⊢
  rw [Int.gcd_ediv_gcd_ediv_gcd (by omega)]
  rfl
theorem low_ok (n d : Int) (h : 0 < d) : fOK (lowN n d) (lowD n d) = fIn (lowN n d) (lowD n d) := by
  rw [fOK_def, low_gcd n d h]
  simp

/-- n/d, d not 0, made into a fraction: its parts, and whether they are within the limits. -/
def mkA (n d : Int) : Int := lowN (if d < 0 then -n else n) (if d < 0 then -d else d)
def mkC (n d : Int) : Int := lowD (if d < 0 then -n else n) (if d < 0 then -d else d)
def mkB (n d : Int) : Bool := decide (d ≠ 0) && fIn (mkA n d) (mkC n d)
def mkN (n d : Int) : Int := if mkB n d then mkA n d else 0
def mkD (n d : Int) : Int := if mkB n d then mkC n d else 0
theorem mkA_pos (n d : Int) (h : 0 < d) : mkA n d = lowN n d ∧ mkC n d = lowD n d := by
  unfold mkA mkC
  simp [show ¬ d < 0 by omega]
theorem mkA_neg (n d : Int) (h : d < 0) : mkA n d = lowN (-n) (-d) ∧ mkC n d = lowD (-n) (-d) := by
  unfold mkA mkC
  simp [h]
theorem mkA_go (n d : Int) (h : d < 0) : n.tdiv (-gcdZ n d) = mkA n d ∧ d.tdiv (-gcdZ n d) = mkC n d := by
  obtain ⟨h1, h2⟩ := mkA_neg n d h
  rw [h1, h2]
  unfold lowN lowD
  have eg : gcdZ (-n) (-d) = gcdZ n d := by rw [gcdZ_neg_left, gcdZ_neg_right]
  have hg := gcdZ_pos n d (by omega)
  rw [eg]
  constructor
  · rw [Int.neg_tdiv, Int.tdiv_neg]
  · rw [← Int.tdiv_eq_ediv_of_nonneg (show 0 ≤ -d by omega), Int.neg_tdiv, Int.tdiv_neg]
theorem mk_ok (n d : Int) (h : d ≠ 0) : fOK (mkA n d) (mkC n d) = fIn (mkA n d) (mkC n d) := by
  rcases Int.lt_or_gt_of_ne h with h1 | h1
  · obtain ⟨e1, e2⟩ := mkA_neg n d h1
    rw [e1, e2]
    exact low_ok _ _ (by omega)
  · obtain ⟨e1, e2⟩ := mkA_pos n d h1
    rw [e1, e2]
    exact low_ok _ _ (by omega)
theorem mkB_of (n d : Int) (h : d ≠ 0) : mkB n d = fIn (mkA n d) (mkC n d) := by unfold mkB; simp [h]
theorem mkB_zero (n : Int) : mkB n 0 = false := by unfold mkB; simp
theorem mk_t {n d : Int} (h : mkB n d = true) : mkN n d = mkA n d ∧ mkD n d = mkC n d := by unfold mkN mkD; rw [if_pos h, if_pos h]; exact ⟨rfl, rfl⟩
theorem mk_f {n d : Int} (h : mkB n d = false) : mkN n d = 0 ∧ mkD n d = 0 := by unfold mkN mkD; rw [h]; exact ⟨rfl, rfl⟩
/-- A fraction that has been made is a valid one. -/
theorem mk_valid {n d : Int} (h : mkB n d = true) : fOK (mkN n d) (mkD n d) = true := by
  obtain ⟨e1, e2⟩ := mk_t h
  have hd : d ≠ 0 := by intro e; rw [e, mkB_zero] at h; cases h
  rw [e1, e2, mk_ok n d hd, ← mkB_of n d hd]
  exact h

/-- What functions on fractions give. -/
def fracV (n d : Int) (b : Bool) : Value := .tuple #[.agg #[.int .i64 n, .int .i64 d], .bool b]

/-- The same, where the arguments may be refused. -/
def okN (ok : Bool) (n d : Int) : Int := if ok then mkN n d else 0
def okD (ok : Bool) (n d : Int) : Int := if ok then mkD n d else 0
def okB (ok : Bool) (n d : Int) : Bool := ok && mkB n d
theorem ok_t (n d : Int) : fracV (okN true n d) (okD true n d) (okB true n d) = fracV (mkN n d) (mkD n d) (mkB n d) := by unfold okN okD okB; simp
theorem ok_f (n d : Int) : fracV (okN false n d) (okD false n d) (okB false n d) = fracV 0 0 false := by unfold okN okD okB; simp
theorem ok_valid {ok : Bool} {n d : Int} (h : okB ok n d = true) : fOK (okN ok n d) (okD ok n d) = true := by
  unfold okB at h
  simp only [Bool.and_eq_true] at h
  unfold okN okD
  rw [if_pos h.1, if_pos h.1]
  exact mk_valid h.2
theorem ret_v {a b : Value} (h : a = b) : Ending.returned a = .returned b := by rw [h]
end Go.Proofs.YtbglogaljjfnnabDoor
