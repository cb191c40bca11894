/-
  Plain mathematics for the law of schemas: the values with an index have that index; grouped values suit the grouped schema. No program's text.
-/
import Derived.Test.YtcmfoclalcmamabGreatDoorAt
import Derived.Test.YtcmfoclalcmamabGreatDoorGsM
import Derived.Test.YtcmfoclalcmamabGreatDoorGrpS
namespace Go.Proofs.YtcmfoclalcmamabGreatDoor
open Go.RowKit

theorem at_dig {S : List (ByteArray × Int)} (i : Int) {m : Nat} (hm : m < S.length) : ∀ d j, j + d = m → (atF S i j).2[m]? = some ((atF S i (m + 1)).1 % lvA S m)
  | 0, j, h => by
    obtain rfl : j = m := by omega
    rw [atF_step i hm]
    unfold atStp
    simp only
    rw [List.getElem?_set_self]
    have := atFr_len S i (cmL S.length (j + 1))
    unfold atF
    omega
  | d + 1, j, h => by
    rw [atF_step i (show j < S.length by omega)]
    unfold atStp
    simp only
    rw [List.getElem?_set_ne (by omega)]
    exact at_dig i hm d (j + 1) (by omega)
theorem at_q {S : List (ByteArray × Int)} (hs : schB S = true) {i : Int} (h0 : 0 ≤ i) (h1 : i < cnZ S) : ∀ d, d ≤ S.length → (atF S i (S.length - d)).1 < cnZ (S.take (S.length - d))
  | 0, _ => by
    rw [Nat.sub_zero, List.take_length, atF_end]
    exact h1
  | d + 1, h => by
    have ih := at_q hs h0 h1 d (by omega)
    obtain ⟨m, hm⟩ : ∃ m, S.length - (d + 1) = m := ⟨_, rfl⟩
    have e : S.length - d = m + 1 := by omega
    have hml : m < S.length := by omega
    rw [e, (cn_step hs (at_nm hml)).1] at ih
    rw [hm, atF_step i hml]
    unfold atStp
    simp only
    obtain ⟨l1, l2⟩ := lvA_bd hs hml
    exact Int.ediv_lt_of_lt_mul (by omega) ih
theorem at_back {S : List (ByteArray × Int)} (hs : schB S = true) {i : Int} (h0 : 0 ≤ i) (h1 : i < cnZ S) : ∀ m, m ≤ S.length → ixF ((S.zip (atL S i)).take m) = (atF S i m).1
  | 0, _ => by
    have h2 := at_q hs h0 h1 S.length (Nat.le_refl _)
    rw [Nat.sub_self] at h2
    have h3 := (atFr_bd hs h0 (cmL S.length 0) (fun j hj => cmL_lt hj)).1
    have e : cnZ (S.take 0) = 1 := rfl
    rw [e] at h2
    have h4 : (0 : Int) ≤ (atF S i 0).1 := h3
    have e2 : ixF ((S.zip (atL S i)).take 0) = 0 := rfl
    rw [e2]
    omega
  | m + 1, h => by
    have hml : m < S.length := h
    have ih := at_back hs h0 h1 m (by omega)
    have hd : (atL S i)[m]? = some ((atF S i (m + 1)).1 % lvA S m) := at_dig (S := S) i hml m 0 (by omega)
    rw [take_snoc (zip_at (at_nm hml) hd), ixF_snoc, ih]
    simp only
    rw [atF_step i hml]
    unfold atStp
    simp only
    have := Int.mul_ediv_add_emod (atF S i (m + 1)).1 (lvA S m)
    rw [Int.mul_comm] at this
    omega
theorem at_ix {S : List (ByteArray × Int)} (hs : schB S = true) {i : Int} (h0 : 0 ≤ i) (h1 : i < cnZ S) : ixZ S (atL S i) = i := by
  have h := at_back hs h0 h1 S.length (Nat.le_refl _)
  rw [atF_end, List.take_of_length_le (by rw [List.length_zip]; omega)] at h
  exact h
theorem at_fit {S : List (ByteArray × Int)} (hs : schB S = true) {i : Int} (h0 : 0 ≤ i) : fitB S (atL S i) = true := by
  refine fit_all (atL_len S i) (fun j hj => ?_)
  obtain ⟨l1, l2⟩ := lvA_bd hs hj
  have p := (atFr_bd hs h0 (cmL S.length (j + 1)) (fun k hk => cmL_lt hk)).1
  exact ⟨_, _, _, at_nm hj, at_dig (S := S) i hj j 0 (by omega), Int.emod_nonneg _ (by omega), Int.emod_lt_of_pos _ (by omega)⟩
theorem di_same (L : List Int) : diZ L L = 0 := by
  unfold diZ diF
  have : ∀ (L : List Int) (n : Int), (L.zip L).foldl (fun (n : Int) (q : Int × Int) => if q.1 = q.2 then n else n + 1) n = n := by
    intro L
    induction L with
    | nil => intro n; rfl
    | cons a r ih => intro n; simp [ih]
  exact this L 0
end Go.Proofs.YtcmfoclalcmamabGreatDoor
