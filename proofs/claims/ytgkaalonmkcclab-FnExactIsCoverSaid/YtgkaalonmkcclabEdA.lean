/-
  The walks of chapter 5: FirstPassing; the model's.
-/
import Derived.Test.YtgkaalonmkcclabEdP
namespace Go.Proofs.Ytgkaalonmkcclab
open Go.RowKit
set_option maxRecDepth 100000

/-- The first list of values, among the first n, that passes. -/
def fpN (S : List (ByteArray × Int)) (M : List (List Int)) : Nat → List Int
  | 0 => []
  | k + 1 => if cpN S M k = 0 ∧ faB M (atL S k) = false then atL S k else fpN S M k
section
variable {S : List (ByteArray × Int)} {M : List (List Int)} {k : Nat}
theorem fp_hit (h : faB M (atL S k) = false) (h0 : cpN S M k = 0) : fpN S M (k + 1) = atL S k := if_pos ⟨h0, h⟩
theorem fp_no (h : faB M (atL S k) = true) : fpN S M (k + 1) = fpN S M k := if_neg (by rw [h]; simp)
theorem fp_old (h0 : ¬ cpN S M k = 0) : fpN S M (k + 1) = fpN S M k := if_neg (fun h => h0 h.1)
theorem cp_up : cpN S M k ≤ cpN S M (k + 1) := by
  cases h : faB M (atL S k)
  · rw [cpN_yes h]; omega
  · rw [cpN_no h]; exact Nat.le_refl _
theorem fp_nil : ∀ {k : Nat}, cpN S M k = 0 → fpN S M k = []
  | 0, _ => rfl
  | k + 1, h => by
    have h1 := cp_up (S := S) (M := M) (k := k)
    have h2 : cpN S M k = 0 := by omega
    cases hf : faB M (atL S k)
    · rw [cpN_yes hf] at h; omega
    · rw [fp_no hf]; exact fp_nil h2
theorem fp_stay (h0 : 0 < cpN S M k) : ∀ d, fpN S M (k + d) = fpN S M k ∧ 0 < cpN S M (k + d)
  | 0 => ⟨rfl, h0⟩
  | d + 1 => by
    obtain ⟨a, b⟩ := fp_stay h0 d
    have h1 := cp_up (S := S) (M := M) (k := k + d)
    exact ⟨(fp_old (k := k + d) (by omega)).trans a, by show 0 < cpN S M (k + d + 1); omega⟩
theorem fp_found {N : Nat} (hk : k < N) (h : faB M (atL S k) = false) (h0 : cpN S M k = 0) : fpN S M N = atL S k ∧ 0 < cpN S M N := by
  obtain ⟨d, rfl⟩ : ∃ d, N = k + 1 + d := ⟨N - (k + 1), by omega⟩
  obtain ⟨a, b⟩ := fp_stay (S := S) (M := M) (k := k + 1) (by rw [cpN_yes h]; omega) d
  exact ⟨a.trans (fp_hit h h0), b⟩
theorem fp_len : ∀ k : Nat, (fpN S M k).length ≤ S.length
  | 0 => Nat.zero_le _
  | k + 1 => by
    unfold fpN
    by_cases h : cpN S M k = 0 ∧ faB M (atL S k) = false
    · rw [if_pos h, atL_len]; exact Nat.le_refl _
    · rw [if_neg h]; exact fp_len k
end
def fpB (S : List (ByteArray × Int)) (M : List (List Int)) : Bool := cpB S M && decide (0 < cpN S M (cnZ S).toNat)
def fpL (S : List (ByteArray × Int)) (M : List (List Int)) : List Int := fpN S M (cnZ S).toNat
theorem fpB_no {S : List (ByteArray × Int)} {M : List (List Int)} (h : cpB S M = false) : fpB S M = false := by unfold fpB; rw [h]; rfl
theorem fpB_zero {S : List (ByteArray × Int)} {M : List (List Int)} (h : cpN S M (cnZ S).toNat = 0) : fpB S M = false := by unfold fpB; rw [decide_eq_false (by omega), Bool.and_false]
theorem fpB_yes {S : List (ByteArray × Int)} {M : List (List Int)} (h : cpB S M = true) (k : 0 < cpN S M (cnZ S).toNat) : fpB S M = true := by unfold fpB; rw [h, decide_eq_true k]; rfl
theorem retLB_dec {L : List Int} {b d : Bool} {w w' : World} {v : Value} (hd : d = b) (ho : w'.ownsRow w.heap.size 3 1 v (eIf b L).length (iC (eIf b L))) (h : Below w.heap.size w w') : RetLB (eIf b L) b w (.returned (.tuple #[v, .bool d])) w' := by
  subst hd
  exact ⟨_, rfl, ho, h⟩
def EpRow (S : List (ByteArray × Int)) (M : List (List Int)) (w : World) (e : Ending) (w' : World) : Prop :=
  ∃ u, e = .returned (.tuple #[.int .i64 (cpN S M (cnZ S).toNat), u]) ∧ w'.ownsRow w.heap.size 3 1 u (fpN S M (cnZ S).toNat).length (iC (fpN S M (cnZ S).toNat)) ∧ Below w.heap.size w w'
end Go.Proofs.Ytgkaalonmkcclab
