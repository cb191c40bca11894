/-
  Plain mathematics: the values with an index, digit by digit from the last. No program's text.
-/
import Derived.Test.YtgkaalonmkcclabSchM
namespace Go.Proofs.Ytgkaalonmkcclab
open Go.RowKit

/-- The number of levels of variable j. -/
def lvA (S : List (ByteArray × Int)) (j : Nat) : Int := match S[j]? with | some p => p.2 | none => 1
def nmA (S : List (ByteArray × Int)) (j : Nat) : ByteArray := match S[j]? with | some p => p.1 | none => ⟨#[]⟩
theorem lvA_at {S : List (ByteArray × Int)} {j : Nat} {nm : ByteArray} {lv : Int} (h : S[j]? = some (nm, lv)) : lvA S j = lv := by unfold lvA; rw [h]
theorem at_nm {S : List (ByteArray × Int)} {j : Nat} (h : j < S.length) : S[j]? = some (nmA S j, lvA S j) := by
  unfold nmA lvA
  rw [List.getElem?_eq_getElem h]
theorem lvA_bd {S : List (ByteArray × Int)} (hs : schB S = true) {j : Nat} (h : j < S.length) : 2 ≤ lvA S j ∧ lvA S j ≤ 8 := schB_lv hs (at_nm h)
/-- One step: what is left of the index, and the values so far. -/
def atStp (S : List (ByteArray × Int)) (q : Int × List Int) (j : Nat) : Int × List Int := (q.1 / lvA S j, q.2.set j (q.1 % lvA S j))
/-- The index and no values; with all steps from the last variable on, those at m and more. -/
def atFr (S : List (ByteArray × Int)) (i : Int) (L : List Nat) : Int × List Int := L.foldl (atStp S) (i, List.replicate S.length 0)
/-- The places that have come when m are left. -/
def cmL (n m : Nat) : List Nat := ((List.range n).drop m).reverse
def atF (S : List (ByteArray × Int)) (i : Int) (m : Nat) : Int × List Int := atFr S i (cmL S.length m)
def atL (S : List (ByteArray × Int)) (i : Int) : List Int := (atF S i 0).2
theorem cmL_end (n : Nat) : cmL n n = [] := by unfold cmL; rw [List.drop_eq_nil_of_le (by simp)]; rfl
theorem cmL_step {n m : Nat} (h : m < n) : cmL n m = cmL n (m + 1) ++ [m] := by
  unfold cmL
  rw [List.drop_eq_getElem_cons (by simpa using h), List.reverse_cons]
  simp
theorem cmL_len (n m : Nat) : (cmL n m).length = n - m := by unfold cmL; simp
theorem cmL_lt {n m j : Nat} (h : j ∈ cmL n m) : j < n := by
  unfold cmL at h
  rw [List.mem_reverse] at h
  simpa using List.mem_of_mem_drop h
theorem atFr_snoc (S : List (ByteArray × Int)) (i : Int) (L : List Nat) (j : Nat) : atFr S i (L ++ [j]) = atStp S (atFr S i L) j := by unfold atFr; rw [List.foldl_append]; rfl
theorem atF_end (S : List (ByteArray × Int)) (i : Int) : atF S i S.length = (i, List.replicate S.length 0) := by unfold atF; rw [cmL_end]; rfl
theorem atF_step {S : List (ByteArray × Int)} {m : Nat} (i : Int) (h : m < S.length) : atF S i m = atStp S (atF S i (m + 1)) m := by unfold atF; rw [cmL_step h, atFr_snoc]
theorem rev_ind {α : Type} {P : List α → Prop} (h0 : P []) (h1 : ∀ l a, P l → P (l ++ [a])) (l : List α) : P l := by
  rw [← List.reverse_reverse l]
  induction l.reverse with
  | nil => exact h0
  | cons a r ih => rw [List.reverse_cons]; exact h1 _ _ ih
theorem atFr_len (S : List (ByteArray × Int)) (i : Int) (L : List Nat) : (atFr S i L).2.length = S.length := by
  refine rev_ind (P := fun L => (atFr S i L).2.length = S.length) (by simp [atFr]) (fun l j ih => ?_) L
  rw [atFr_snoc]
  unfold atStp
  simp [ih]
theorem atFr_bd {S : List (ByteArray × Int)} (hs : schB S = true) {i : Int} (h0 : 0 ≤ i) (L : List Nat) : (∀ j ∈ L, j < S.length) → 0 ≤ (atFr S i L).1 ∧ (atFr S i L).1 ≤ i := by
  refine rev_ind (P := fun L => (∀ j ∈ L, j < S.length) → 0 ≤ (atFr S i L).1 ∧ (atFr S i L).1 ≤ i) (fun _ => ⟨h0, Int.le_refl _⟩) (fun l j ih h => ?_) L
  obtain ⟨a, b⟩ := ih (fun k hk => h k (List.mem_append_left _ hk))
  obtain ⟨c, d⟩ := lvA_bd hs (h j (by simp))
  rw [atFr_snoc]
  unfold atStp
  simp only
  refine ⟨Int.ediv_nonneg a (by omega), Int.le_trans (Int.ediv_le_self _ a) b⟩
theorem atL_len (S : List (ByteArray × Int)) (i : Int) : (atL S i).length = S.length := atFr_len S i _
/-- What CombinationAt gives. -/
def caB (S : List (ByteArray × Int)) (i : Int) : Bool := schB S && inB i 0 (cnZ S - 1)
def caL (S : List (ByteArray × Int)) (i : Int) : List Int := if caB S i then atL S i else []
theorem caL_len (S : List (ByteArray × Int)) (i : Int) : (caL S i).length ≤ 6 := by
  unfold caL
  cases h : caB S i with
  | false => simp
  | true =>
    unfold caB at h
    rw [Bool.and_eq_true] at h
    have := (schB_len h.1).2
    simp only [if_true]
    rw [atL_len]
    exact this
theorem ca_no {S : List (ByteArray × Int)} {i : Int} (h : caB S i = false) : caL S i = [] := by unfold caL; rw [h]; rfl
theorem ca_yes {S : List (ByteArray × Int)} {i : Int} (h : caB S i = true) : caL S i = atL S i := by unfold caL; rw [h]; rfl
theorem ca_no1 {S : List (ByteArray × Int)} {i : Int} (h : schB S = false) : caB S i = false := by unfold caB; rw [h]; rfl
theorem ca_no2 {S : List (ByteArray × Int)} {i : Int} (h : inB i 0 (cnZ S - 1) = false) : caB S i = false := by unfold caB; rw [h, Bool.and_false]
theorem ca_get {S : List (ByteArray × Int)} {i : Int} (h : schB S = true) (k : inB i 0 (cnZ S - 1) = true) : caB S i = true := by unfold caB; rw [h, k]; rfl
theorem cn_all {S : List (ByteArray × Int)} (hs : schB S = true) : 1 ≤ cnZ S ∧ cnZ S ≤ 262144 := by
  have := cn_le hs (Nat.le_refl S.length)
  rw [List.take_length] at this
  exact this
end Go.Proofs.Ytgkaalonmkcclab
