/-
  Reading back: the model's number; a schema out of its text.
-/
import Derived.Test.YtbglogaljjfnnaaGreatDoorSpl
import Derived.Test.YtbglogaljjfnnaaGreatDoorFracW
namespace Go.Proofs.YtbglogaljjfnnaaGreatDoor
open Go.RowKit
set_option maxRecDepth 100000

theorem dgV_lt : ∀ (n : Nat) (l : List UInt8), l.length = n → (∀ c ∈ l, dgB c = true) → dgV l < 10 ^ n
  | 0, l, h, _ => by
    have : l = [] := List.eq_nil_of_length_eq_zero h
    subst this
    decide
  | n + 1, l, h, hd => by
    have hne : l ≠ [] := by
      rintro rfl
      simp at h
    obtain ⟨r, c, rfl⟩ : ∃ r c, l = r ++ [c] := ⟨l.dropLast, l.getLast hne, (List.dropLast_concat_getLast hne).symm⟩
    have ih := dgV_lt n r (by simpa using h) (fun c hc => hd c (List.mem_append_left _ hc))
    have hc := (dgB_iff c).1 (hd c (by simp))
    rw [dgV_snoc, Nat.pow_succ]
    omega
/-- The model's number: what is read, or -1. -/
def rdB (l : List UInt8) : Bool := decide (1 ≤ l.length) && decide (l.length ≤ 6) && !(decide (l[0]? = some 48) && decide (1 < l.length)) && l.all dgB
def rdZ (s : ByteArray) : Int := if rdB (nmL s) then (dgV (nmL s) : Nat) else -1
theorem rd_size {s : ByteArray} (h : inB s.size 1 6 = false) : rdZ s = -1 := by
  unfold rdZ
  have : rdB (nmL s) = false := by
    cases hb : rdB (nmL s) with
    | false => rfl
    | true =>
      unfold rdB at hb
      simp only [Bool.and_eq_true, decide_eq_true_eq, nmL_len] at hb
      rw [(inB_iff _ _ _).2 (by omega)] at h
      cases h
  rw [this]
  rfl
theorem rd_zero {s : ByteArray} (h : (nmL s)[0]? = some 48) (h1 : 1 < s.size) : rdZ s = -1 := by
  unfold rdZ
  have : rdB (nmL s) = false := by
    unfold rdB
    rw [decide_eq_true h, nmL_len, decide_eq_true h1]
    simp
  rw [this]
  rfl
theorem rd_bad {s : ByteArray} {k : Nat} (h : k < s.size) (hc : dgB s[k] = false) : rdZ s = -1 := by
  unfold rdZ
  have : rdB (nmL s) = false := by
    unfold rdB
    have : (nmL s).all dgB = false := by
      rw [List.all_eq_false]
      exact ⟨s[k], List.mem_of_getElem? (nmL_at s h), by rw [hc]; exact Bool.false_ne_true⟩
    rw [this, Bool.and_false]
  rw [this]
  rfl
theorem rd_good {s : ByteArray} (h : inB s.size 1 6 = true) (h1 : ¬ ((nmL s)[0]? = some 48 ∧ 1 < s.size)) (h2 : ∀ c ∈ nmL s, dgB c = true) : rdZ s = (dgV (nmL s) : Nat) := by
  unfold rdZ
  have : rdB (nmL s) = true := by
    unfold rdB
    have h3 := (inB_iff _ _ _).1 h
    simp only [Bool.and_eq_true, decide_eq_true_eq, nmL_len, Bool.not_eq_true', List.all_eq_true]
    refine ⟨⟨by omega, ?_⟩, h2⟩
    rw [Bool.and_eq_false_iff, decide_eq_false_iff_not, decide_eq_false_iff_not]
    exact Decidable.not_and_iff_or_not.1 h1
  rw [this]
  rfl

end Go.Proofs.YtbglogaljjfnnaaGreatDoor
