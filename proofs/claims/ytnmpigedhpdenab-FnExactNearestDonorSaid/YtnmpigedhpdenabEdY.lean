/-
  The walks of chapter 5: FailureCounts; the program's and the model's.
-/
import Derived.Test.YtnmpigedhpdenabEdX
import Derived.Test.YtnmpigedhpdenabRecI
namespace Go.Proofs.Ytnmpigedhpdenab
open Go.RowKit
set_option maxRecDepth 100000

def zE (n : Nat) : List Int := List.replicate n 0
theorem zE_len (n : Nat) : (zE n).length = n := by unfold zE; simp
theorem made_zE (n : Nat) : (madeCells (Value.int .i64 0).cells (n * 1)).toList = iC (zE n) := by
  apply List.ext_getElem?
  intro j
  unfold iC zE
  rw [List.map_replicate, List.getElem?_replicate]
  by_cases h : j < n
  · simp [madeCells, Value.cells, h, Nat.mod_one]
  · simp [madeCells, Value.cells, h]
/-- How many of some values fail an edit. -/
def fcZ (E : List Int) (D : List (List Int)) : Int := ((D.filter fun V => fsB E V).length : Int)
theorem fcZ_nil (E : List Int) : fcZ E [] = 0 := rfl
theorem fcZ_yes {E V : List Int} {D : List (List Int)} (h : fsB E V = true) : fcZ E (D ++ [V]) = fcZ E D + 1 := by
  unfold fcZ
  rw [List.filter_append]
  simp [h]
theorem fcZ_no {E V : List Int} {D : List (List Int)} (h : fsB E V = false) : fcZ E (D ++ [V]) = fcZ E D := by
  unfold fcZ
  rw [List.filter_append]
  simp [h]
theorem fcZ_bd (E : List Int) (D : List (List Int)) : 0 ≤ fcZ E D ∧ fcZ E D ≤ D.length := by
  unfold fcZ
  have := List.length_filter_le (fun V => fsB E V) D
  omega
def fcL (M D : List (List Int)) : List Int := M.map fun E => fcZ E D
theorem fcL_len (M D : List (List Int)) : (fcL M D).length = M.length := by unfold fcL; simp
theorem fcL_at {M D : List (List Int)} {i : Nat} {E : List Int} (h : M[i]? = some E) : (fcL M D)[i]? = some (fcZ E D) := by unfold fcL; rw [List.getElem?_map, h]; rfl
/-- The program's counts: of the edits before i all, of edit i the first k. -/
def fcA (M D : List (List Int)) (i k : Nat) : List Int := fcL (M.take i) D ++ (fcL ((M.drop i).take 1) (D.take k) ++ fcL (M.drop (i + 1)) [])
theorem fcA_len (M D : List (List Int)) (i k : Nat) : (fcA M D i k).length = M.length := by
  unfold fcA
  simp only [List.length_append, fcL_len, List.length_take, List.length_drop]
  omega
theorem fcA_start (M D : List (List Int)) : fcA M D 0 0 = zE M.length := by
  unfold fcA
  apply List.ext_getElem?
  intro j
  have e : fcL (M.take 0) D ++ (fcL ((M.drop 0).take 1) (D.take 0) ++ fcL (M.drop (0 + 1)) []) = fcL M [] := by
    simp only [List.take_zero, List.drop_zero, Nat.zero_add]
    cases M with
    | nil => rfl
    | cons a r => simp [fcL]
  rw [e]
  unfold fcL zE
  rw [List.getElem?_map, List.getElem?_replicate]
  by_cases hj : j < M.length
  · rw [List.getElem?_eq_getElem hj, if_pos hj]; rfl
  · rw [List.getElem?_eq_none (by omega), if_neg hj]; rfl
theorem fcA_at {M D : List (List Int)} {i k : Nat} {E : List Int} (h : M[i]? = some E) : (fcA M D i k)[i]? = some (fcZ E (D.take k)) := by
  have hi := (List.getElem?_eq_some_iff.1 h).1
  unfold fcA
  rw [List.getElem?_append_right (by rw [fcL_len, List.length_take]; omega), fcL_len, List.length_take, Nat.min_eq_left (by omega), Nat.sub_self]
  have : (M.drop i).take 1 = [E] := by
    rw [List.drop_eq_getElem_cons hi, List.take_succ_cons, List.take_zero]
    rw [List.getElem?_eq_getElem hi] at h
    injection h with h
    rw [h]
  rw [this]
  rfl
theorem fcA_set {M D : List (List Int)} {i k : Nat} {E : List Int} {n : Int} (h : M[i]? = some E) (hn : n = fcZ E (D.take (k + 1))) : (fcA M D i k).set i n = fcA M D i (k + 1) := by
  have hi := (List.getElem?_eq_some_iff.1 h).1
  have e : (M.drop i).take 1 = [E] := by
    rw [List.drop_eq_getElem_cons hi, List.take_succ_cons, List.take_zero]
    rw [List.getElem?_eq_getElem hi] at h
    injection h with h
    rw [h]
  subst hn
  unfold fcA
  rw [List.set_append_right _ _ (by rw [fcL_len, List.length_take]; omega), fcL_len, List.length_take, Nat.min_eq_left (by omega), Nat.sub_self, e]
  rfl
theorem fcA_keep {M D : List (List Int)} {i k : Nat} {E : List Int} (h : M[i]? = some E) (hn : fcZ E (D.take (k + 1)) = fcZ E (D.take k)) : fcA M D i k = fcA M D i (k + 1) := by
  have hi := (List.getElem?_eq_some_iff.1 h).1
  have e : (M.drop i).take 1 = [E] := by
    rw [List.drop_eq_getElem_cons hi, List.take_succ_cons, List.take_zero]
    rw [List.getElem?_eq_getElem hi] at h
    injection h with h
    rw [h]
  unfold fcA
  rw [e]
  unfold fcL
  simp only [List.map_cons, List.map_nil, hn]
theorem fcA_next {M D : List (List Int)} {i : Nat} {E : List Int} (h : M[i]? = some E) : fcA M D i D.length = fcA M D (i + 1) 0 := by
  have hi := (List.getElem?_eq_some_iff.1 h).1
  have e : (M.drop i).take 1 = [E] := by
    rw [List.drop_eq_getElem_cons hi, List.take_succ_cons, List.take_zero]
    rw [List.getElem?_eq_getElem hi] at h
    injection h with h
    rw [h]
  unfold fcA
  rw [e, take_snoc h, List.take_length, List.take_zero]
  unfold fcL
  rw [List.map_append, List.append_assoc]
  congr 1
  simp only [List.map_cons, List.map_nil]
  congr 1
  cases hd : M.drop (i + 1) with
  | nil => rw [show M.drop (i + 1 + 1) = [] by rw [← List.drop_drop, hd]; rfl]; rfl
  | cons a r => rw [show M.drop (i + 1 + 1) = r by rw [← List.drop_drop, hd]; rfl]; simp
theorem fcA_end (M D : List (List Int)) : fcA M D M.length 0 = fcL M D := by
  unfold fcA
  rw [List.take_length, List.drop_length, List.drop_eq_nil_of_le (by omega)]
  simp [fcL]
/-- The model's counts: the first r records, and of the next one the first t edits that fail. -/
def fcB (M D : List (List Int)) (r : Nat) (V : List Int) (t : Nat) : List Int := (List.range M.length).map fun j : Nat => (match M[j]? with | some E => fcZ E (D.take r) | none => 0) + (if (j : Int) ∈ (feL M V).take t then 1 else 0)
theorem fcB_len (M D : List (List Int)) (r : Nat) (V : List Int) (t : Nat) : (fcB M D r V t).length = M.length := by unfold fcB; simp
theorem fcB_at {M D : List (List Int)} {r t j : Nat} {V E : List Int} (h : M[j]? = some E) : (fcB M D r V t)[j]? = some (fcZ E (D.take r) + (if (j : Int) ∈ (feL M V).take t then 1 else 0)) := by
  have hj := (List.getElem?_eq_some_iff.1 h).1
  unfold fcB
  rw [List.getElem?_map, List.getElem?_range hj]
  simp only [Option.map_some, h]
theorem pkUp_nodup (p : Nat → Bool) (n : Nat) : (pkUp p n).Nodup := by
  unfold pkUp
  have h1 : ((List.range n).filter p).Pairwise (· ≠ ·) := List.Pairwise.filter _ List.nodup_range
  exact List.Pairwise.map _ (fun a b h e => h (by exact Int.ofNat.inj e)) h1
theorem fcB_step {M D : List (List Int)} {r t j : Nat} {V E : List Int} (hj : M[j]? = some E) (ht : (feL M V)[t]? = some (j : Int)) :
    (fcB M D r V t)[j]? = some (fcZ E (D.take r)) ∧ (fcB M D r V t).set j (fcZ E (D.take r) + 1) = fcB M D r V (t + 1) := by
  have hnd : (feL M V).Nodup := pkUp_nodup _ _
  have htl := (List.getElem?_eq_some_iff.1 ht).1
  have hno : (j : Int) ∉ (feL M V).take t := by
    intro hm
    obtain ⟨k, hk, e⟩ := List.getElem_of_mem hm
    rw [List.length_take] at hk
    rw [List.getElem_take] at e
    have e2 := (List.getElem?_eq_some_iff.1 ht).2
    exact List.pairwise_iff_getElem.1 hnd k t (by omega) htl (by omega) (by rw [e, e2])
  refine ⟨by rw [fcB_at hj, if_neg hno]; simp, ?_⟩
  apply List.ext_getElem?
  intro k
  rw [List.getElem?_set, fcB_len]
  have hjl := (List.getElem?_eq_some_iff.1 hj).1
  by_cases e : j = k
  · subst e
    rw [if_pos rfl, if_pos hjl, fcB_at hj, if_pos (by rw [take_snoc ht]; simp)]
  · rw [if_neg e]
    by_cases hk : k < M.length
    · obtain ⟨F, hF⟩ : ∃ F, M[k]? = some F := ⟨_, List.getElem?_eq_getElem hk⟩
      rw [fcB_at hF, fcB_at hF, take_snoc ht]
      have : ((k : Int) ∈ (feL M V).take t ++ [(j : Int)]) ↔ ((k : Int) ∈ (feL M V).take t) := by
        rw [List.mem_append, List.mem_singleton]
        constructor
        · rintro (h | h)
          · exact h
          · omega
        · exact Or.inl
      simp only [this]
    · rw [List.getElem?_eq_none (by rw [fcB_len]; omega), List.getElem?_eq_none (by rw [fcB_len]; omega)]
theorem fcB_zero (M D : List (List Int)) (r : Nat) (V : List Int) : fcB M D r V 0 = fcL M (D.take r) := by
  apply List.ext_getElem?
  intro k
  by_cases hk : k < M.length
  · obtain ⟨F, hF⟩ : ∃ F, M[k]? = some F := ⟨_, List.getElem?_eq_getElem hk⟩
    rw [fcB_at hF, fcL_at hF]
    simp
  · rw [List.getElem?_eq_none (by rw [fcB_len]; omega), List.getElem?_eq_none (by rw [fcL_len]; omega)]
theorem fcB_full {M D : List (List Int)} {r : Nat} {V : List Int} (h : D[r]? = some V) : fcB M D r V (feL M V).length = fcL M (D.take (r + 1)) := by
  apply List.ext_getElem?
  intro k
  by_cases hk : k < M.length
  · obtain ⟨F, hF⟩ : ∃ F, M[k]? = some F := ⟨_, List.getElem?_eq_getElem hk⟩
    rw [fcB_at hF, fcL_at hF, List.take_length, take_snoc h]
    have hm : (k : Int) ∈ feL M V ↔ fsB F V = true := by
      unfold feL feUp
      constructor
      · intro hm
        obtain ⟨i, e, hi, hp⟩ := pkUp_mem hm
        obtain rfl : i = k := by omega
        rwa [fe_at hF] at hp
      · intro hp
        unfold pkUp
        exact List.mem_map.2 ⟨k, List.mem_filter.2 ⟨List.mem_range.2 hk, by rw [fe_at hF]; exact hp⟩, rfl⟩
    cases hh : fsB F V
    · rw [if_neg (by rw [hm, hh]; exact Bool.false_ne_true), fcZ_no hh]
      simp
    · rw [if_pos (by rw [hm]; exact hh), fcZ_yes hh]
  · rw [List.getElem?_eq_none (by rw [fcB_len]; omega), List.getElem?_eq_none (by rw [fcL_len]; omega)]
theorem fcL_nil (M : List (List Int)) : fcL M [] = zE M.length := by
  apply List.ext_getElem?
  intro j
  unfold fcL zE
  rw [List.getElem?_map, List.getElem?_replicate]
  by_cases hj : j < M.length
  · rw [List.getElem?_eq_getElem hj, if_pos hj]; rfl
  · rw [List.getElem?_eq_none (by omega), if_neg hj]; rfl
end Go.Proofs.Ytnmpigedhpdenab
