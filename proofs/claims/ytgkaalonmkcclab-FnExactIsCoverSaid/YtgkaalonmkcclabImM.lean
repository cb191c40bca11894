/-
  Plain mathematics of chapter 6: small schemas, resolvents, the lists of values that pass, implied edits, completions. No program's text.
-/
import Derived.Test.YtgkaalonmkcclabEdA
import Derived.Test.YtgkaalonmkcclabEdK
namespace Go.Proofs.Ytgkaalonmkcclab
open Go.RowKit

/-- A schema with few lists of values, and a list of edits for it. -/
def smS (S : List (ByteArray × Int)) : Bool := schB S && decide (cnZ S ≤ 100)
def smB (S : List (ByteArray × Int)) (M : List (List Int)) : Bool := elB S M && decide (cnZ S ≤ 100)
theorem sm_no1 {S : List (ByteArray × Int)} {M : List (List Int)} (h : elB S M = false) : smB S M = false := by unfold smB; rw [h]; rfl
theorem sm_no2 {S : List (ByteArray × Int)} {M : List (List Int)} (h : ¬ cnZ S ≤ 100) : smB S M = false := by unfold smB; rw [decide_eq_false h, Bool.and_false]
theorem sm_yes {S : List (ByteArray × Int)} {M : List (List Int)} (h : elB S M = true) (k : cnZ S ≤ 100) : smB S M = true := by unfold smB; rw [h, decide_eq_true k]; rfl
theorem sm_get {S : List (ByteArray × Int)} {M : List (List Int)} (h : smB S M = true) : elB S M = true ∧ cnZ S ≤ 100 := by
  unfold smB at h
  simpa only [Bool.and_eq_true, decide_eq_true_eq] using h
theorem smS_no1 {S : List (ByteArray × Int)} (h : schB S = false) : smS S = false := by unfold smS; rw [h]; rfl
theorem smS_no2 {S : List (ByteArray × Int)} (h : ¬ cnZ S ≤ 100) : smS S = false := by unfold smS; rw [decide_eq_false h, Bool.and_false]
theorem smS_yes {S : List (ByteArray × Int)} (h : schB S = true) (k : cnZ S ≤ 100) : smS S = true := by unfold smS; rw [h, decide_eq_true k]; rfl
theorem smS_get {S : List (ByteArray × Int)} (h : smS S = true) : schB S = true ∧ cnZ S ≤ 100 := by
  unfold smS at h
  simpa only [Bool.and_eq_true, decide_eq_true_eq] using h
theorem sm_no3 {S : List (ByteArray × Int)} {M : List (List Int)} (h : smS S = false) : smB S M = false := by
  cases e : smB S M with
  | false => rfl
  | true =>
    obtain ⟨a, b⟩ := sm_get e
    rw [smS_yes (el_get a).1 b] at h
    cases h
theorem sm_both {S : List (ByteArray × Int)} {M : List (List Int)} (h : smS S = true) (k : elB S M = true) : smB S M = true := sm_yes k (smS_get h).2

/-- The union of two sets; the resolvent. -/
def joI (x y : Int) : Int := ((x.toNat ||| y.toNat : Nat) : Int)
theorem or_jo {x y : Int} (h0 : 0 ≤ x) (h1 : x ≤ 255) (h2 : 0 ≤ y) (h3 : y ≤ 255) : bits .or .i64 x y = joI x y := by
  obtain ⟨a, rfl⟩ := Int.eq_ofNat_of_zero_le h0
  obtain ⟨b, rfl⟩ := Int.eq_ofNat_of_zero_le h2
  rw [or64 (by omega) (by omega)]
  rfl
theorem jo_bd {x y lv : Int} (h0 : 1 ≤ x) (h1 : x ≤ flZ lv) (h2 : 1 ≤ y) (h3 : y ≤ flZ lv) : 1 ≤ joI x y ∧ joI x y ≤ flZ lv := by
  have a := flZ_lt (x := x) (by omega) h1
  have b := flZ_lt (x := y) (by omega) h3
  have c := Nat.or_lt_two_pow a b
  have d := Nat.left_le_or (n := x.toNat) (m := y.toNat)
  unfold joI
  refine ⟨by omega, ?_⟩
  have e : ((x.toNat ||| y.toNat : Nat) : Int) < ((2 ^ lv.toNat : Nat) : Int) := by exact_mod_cast c
  push_cast at e
  unfold flZ
  omega
def rvI (v : Int) (i : Nat) (x y : Int) : Int := if (i : Int) = v then joI x y else meI x y
def rvL (E F : List Int) (v : Int) : List Int := (List.range E.length).map fun i => rvI v i (E.getD i 0) (F.getD i 0)
theorem rvL_len (E F : List Int) (v : Int) : (rvL E F v).length = E.length := by unfold rvL; rw [List.length_map, List.length_range]
theorem rvL_at {E F : List Int} {v : Int} {i : Nat} {x y : Int} (h1 : E[i]? = some x) (h2 : F[i]? = some y) : (rvL E F v)[i]? = some (rvI v i x y) := by
  have hi := (List.getElem?_eq_some_iff.1 h1).1
  unfold rvL
  rw [List.getElem?_map, List.getElem?_range hi]
  simp [List.getD_eq_getElem?_getD, h1, h2]
theorem rvI_eq {v : Int} {i : Nat} {x y : Int} (h : (i : Int) = v) : rvI v i x y = joI x y := if_pos h
theorem rvI_ne {v : Int} {i : Nat} {x y : Int} (h : ¬ (i : Int) = v) : rvI v i x y = meI x y := if_neg h
def rvB (E F : List Int) (v : Int) : Bool := (rvL E F v).all fun z => decide (z ≠ 0)
theorem rvB_bad {E F : List Int} {v : Int} {i : Nat} {x y : Int} (h1 : E[i]? = some x) (h2 : F[i]? = some y) (h : rvI v i x y = 0) : rvB E F v = false := by
  unfold rvB
  rw [List.all_eq_false]
  exact ⟨_, List.mem_of_getElem? (rvL_at h1 h2), by simp [h]⟩
theorem rvB_all {E F : List Int} {v : Int} {n : Nat} (hl : E.length ≤ n) (h : ∀ j, j < n → ∃ x y, E[j]? = some x ∧ F[j]? = some y ∧ rvI v j x y ≠ 0) : rvB E F v = true := by
  unfold rvB
  rw [List.all_eq_true]
  intro z hz
  obtain ⟨j, hj, e⟩ := List.getElem_of_mem hz
  rw [rvL_len] at hj
  obtain ⟨x, y, h1, h2, h3⟩ := h j (by omega)
  have := rvL_at (v := v) h1 h2
  rw [List.getElem?_eq_getElem (by rw [rvL_len]; exact hj), e] at this
  injection this with this
  rw [this]
  exact decide_eq_true h3
theorem rv_bd {v : Int} {i : Nat} {x y lv : Int} (h0 : 1 ≤ x) (h1 : x ≤ flZ lv) (h2 : 1 ≤ y) (h3 : y ≤ flZ lv) : 0 ≤ rvI v i x y ∧ rvI v i x y ≤ flZ lv := by
  unfold rvI
  split
  · have := jo_bd h0 h1 h2 h3
    omega
  · have := me_bd (x := x) (y := y) (by omega)
    omega
theorem rv_ed {S : List (ByteArray × Int)} {E F : List Int} (v : Int) (hs : schB S = true) (hE : edB S E = true) (hF : edB S F = true) : edB S (rvL E F v) = rvB E F v := by
  have l1 := ed_len hE
  have l2 := ed_len hF
  have hl : (rvL E F v).length = S.length := by rw [rvL_len, l1]
  rw [Bool.eq_iff_iff]
  constructor
  · intro h
    unfold rvB
    rw [List.all_eq_true]
    intro z hz
    obtain ⟨j, hj, e⟩ := List.getElem_of_mem hz
    obtain ⟨nm, lv, x, a, b, c, _⟩ := ed_at hs h (i := j) (by omega)
    have : z = x := by have := List.getElem?_eq_getElem hj; rw [b, e] at this; cases this; rfl
    simp only [decide_eq_true_eq]
    omega
  · intro h
    unfold rvB at h
    rw [List.all_eq_true] at h
    refine ed_all hl fun j hj => ?_
    obtain ⟨nm, lv, x, a, b, c, d, _⟩ := ed_at hs hE (i := j) hj
    obtain ⟨nm2, lv2, y, a2, b2, c2, d2, _⟩ := ed_at hs hF (i := j) hj
    rw [a] at a2
    cases a2
    have hm := rvL_at (v := v) b b2
    have h1 := h _ (List.mem_of_getElem? hm)
    simp only [decide_eq_true_eq] at h1
    have h2 := rv_bd (v := v) (i := j) c d c2 d2
    exact ⟨nm, lv, _, a, hm, by omega, h2.2⟩
theorem rv_i64 {S : List (ByteArray × Int)} {E F : List Int} (v : Int) (hs : schB S = true) (hE : edB S E = true) (hF : edB S F = true) : ∀ n ∈ rvL E F v, IsI64 n := by
  intro n hn
  obtain ⟨j, hj, e⟩ := List.getElem_of_mem hn
  rw [rvL_len] at hj
  have l1 := ed_len hE
  obtain ⟨nm, lv, x, a, b, c, d, g1, g2, _⟩ := ed_at hs hE (i := j) (by omega)
  obtain ⟨nm2, lv2, y, a2, b2, c2, d2, _⟩ := ed_at hs hF (i := j) (by omega)
  rw [a] at a2
  cases a2
  have hm := rvL_at (v := v) b b2
  rw [List.getElem?_eq_getElem (by rw [rvL_len]; exact hj), e] at hm
  injection hm with hm
  have h2 := rv_bd (v := v) (i := j) c d c2 d2
  have h3 := flZ_bd ⟨g1, g2⟩
  rw [hm]
  unfold IsI64
  omega
/-- Is there a resolvent? -/
def rvR (S : List (ByteArray × Int)) (E F : List Int) (v : Int) : Bool := smB S [E, F] && decide (0 ≤ v ∧ v < S.length) && rvB E F v
theorem rvR_no1 {S : List (ByteArray × Int)} {E F : List Int} {v : Int} (h : smB S [E, F] = false) : rvR S E F v = false := by unfold rvR; rw [h]; rfl
theorem rvR_no2 {S : List (ByteArray × Int)} {E F : List Int} {v : Int} (h : ¬ (0 ≤ v ∧ v < S.length)) : rvR S E F v = false := by unfold rvR; rw [decide_eq_false h, Bool.and_false]; rfl
theorem rvR_no3 {S : List (ByteArray × Int)} {E F : List Int} {v : Int} (h : rvB E F v = false) : rvR S E F v = false := by unfold rvR; rw [h, Bool.and_false]
theorem rvR_yes {S : List (ByteArray × Int)} {E F : List Int} {v : Int} (h : smB S [E, F] = true) (k : 0 ≤ v ∧ v < S.length) (m : rvB E F v = true) : rvR S E F v = true := by unfold rvR; rw [h, decide_eq_true k, m]; rfl
theorem sm_two1 {S : List (ByteArray × Int)} {E F : List Int} (h : smS S = false) : smB S [E, F] = false := sm_no3 h
theorem sm_two2 {S : List (ByteArray × Int)} {E F : List Int} (h : seeB S E F = false) : smB S [E, F] = false := sm_no1 ((el_two S E F).trans h)
theorem sm_two3 {S : List (ByteArray × Int)} {E F : List Int} (h : smS S = true) (k : seeB S E F = true) : smB S [E, F] = true := sm_both h ((el_two S E F).trans k)

/-- The places, below n, of the lists of values that pass. -/
def psN (S : List (ByteArray × Int)) (M : List (List Int)) (n : Nat) : List Nat := (List.range n).filter fun i : Nat => !faB M (atL S i)
theorem psN_yes {S : List (ByteArray × Int)} {M : List (List Int)} {n : Nat} (h : faB M (atL S n) = false) : psN S M (n + 1) = psN S M n ++ [n] := by
  unfold psN
  rw [List.range_succ, List.filter_append]
  simp [h]
theorem psN_no {S : List (ByteArray × Int)} {M : List (List Int)} {n : Nat} (h : faB M (atL S n) = true) : psN S M (n + 1) = psN S M n := by
  unfold psN
  rw [List.range_succ, List.filter_append]
  simp [h]
theorem psN_mem {S : List (ByteArray × Int)} {M : List (List Int)} {n k : Nat} : k ∈ psN S M n ↔ k < n ∧ faB M (atL S k) = false := by
  unfold psN
  rw [List.mem_filter, List.mem_range]
  simp
theorem psN_len (S : List (ByteArray × Int)) (M : List (List Int)) (n : Nat) : (psN S M n).length = cpN S M n := rfl
/-- Is an edit implied? -/
def imV (S : List (ByteArray × Int)) (P : List Nat) (E : List Int) : Bool := P.all fun k => !fsB E (atL S k)
theorem imV_bad {S : List (ByteArray × Int)} {P : List Nat} {E : List Int} {k : Nat} (h : k ∈ P) (hf : fsB E (atL S k) = true) : imV S P E = false := by
  unfold imV
  rw [List.all_eq_false]
  exact ⟨k, h, by simp [hf]⟩
theorem imV_all {S : List (ByteArray × Int)} {P : List Nat} {E : List Int} (h : ∀ k ∈ P, fsB E (atL S k) = false) : imV S P E = true := by
  unfold imV
  rw [List.all_eq_true]
  intro k hk
  rw [h k hk]
  rfl
def imG (S : List (ByteArray × Int)) (M : List (List Int)) (E : List Int) : Bool := smB S M && edB S E
def imB (S : List (ByteArray × Int)) (M : List (List Int)) (E : List Int) : Bool := imG S M E && imV S (psN S M (cnZ S).toNat) E
theorem imG_no1 {S : List (ByteArray × Int)} {M : List (List Int)} {E : List Int} (h : smB S M = false) : imG S M E = false ∧ imB S M E = false := by unfold imB imG; rw [h]; exact ⟨rfl, rfl⟩
theorem imG_no2 {S : List (ByteArray × Int)} {M : List (List Int)} {E : List Int} (h : edB S E = false) : imG S M E = false ∧ imB S M E = false := by unfold imB imG; rw [h, Bool.and_false]; exact ⟨rfl, rfl⟩
theorem imG_yes {S : List (ByteArray × Int)} {M : List (List Int)} {E : List Int} (h : smB S M = true) (k : edB S E = true) : imG S M E = true ∧ imB S M E = imV S (psN S M (cnZ S).toNat) E := by unfold imB imG; rw [h, k]; exact ⟨rfl, rfl⟩
/-- Do all values fail? -/
def icB (S : List (ByteArray × Int)) (M : List (List Int)) : Bool := smB S M && decide (cpN S M (cnZ S).toNat = 0)
theorem icB_no {S : List (ByteArray × Int)} {M : List (List Int)} (h : smB S M = false) : icB S M = false := by unfold icB; rw [h]; rfl
theorem icB_yes {S : List (ByteArray × Int)} {M : List (List Int)} (h : smB S M = true) (k : cpN S M (cnZ S).toNat = 0) : icB S M = true := by unfold icB; rw [h, decide_eq_true k]; rfl
theorem icB_not {S : List (ByteArray × Int)} {M : List (List Int)} (k : 0 < cpN S M (cnZ S).toNat) : icB S M = false := by unfold icB; rw [decide_eq_false (by omega), Bool.and_false]

/-- Does the list of values at a place pass, and agree with others in some variables? -/
def agB (F V x : List Int) : Bool := F.all fun v => decide (x[v.toNat]? = V[v.toNat]?)
def coP (S : List (ByteArray × Int)) (M : List (List Int)) (F V : List Int) (k : Nat) : Bool := !faB M (atL S k) && agB F V (atL S k)
/-- The first place, below n, at which p holds. -/
def ftN (p : Nat → Bool) (n : Nat) : Option Nat := (List.range n).find? p
theorem ft_hit {p : Nat → Bool} {k : Nat} (h0 : ftN p k = none) (h : p k = true) : ∀ d, ftN p (k + 1 + d) = some k
  | 0 => by
    unfold ftN at *
    rw [Nat.add_zero, List.range_succ, List.find?_append, h0]
    simp [h]
  | d + 1 => by
    have e := ft_hit h0 h d
    unfold ftN at *
    rw [← Nat.add_assoc, List.range_succ, List.find?_append, e]
    rfl
theorem ft_found {p : Nat → Bool} {k n : Nat} (hk : k < n) (h0 : ftN p k = none) (h : p k = true) : ftN p n = some k := by
  obtain ⟨d, rfl⟩ : ∃ d, n = k + 1 + d := ⟨n - (k + 1), by omega⟩
  exact ft_hit h0 h d
theorem ft_next {p : Nat → Bool} {k : Nat} (h0 : ftN p k = none) (h : p k = false) : ftN p (k + 1) = none := by
  unfold ftN at *
  rw [List.range_succ, List.find?_append, h0]
  simp [h]
theorem ft_zero (p : Nat → Bool) : ftN p 0 = none := rfl
def coG (S : List (ByteArray × Int)) (M : List (List Int)) (F V : List Int) : Bool := smB S M && (F.all fun v => decide (0 ≤ v ∧ v < S.length)) && decide (F.Pairwise (· < ·)) && fitB S V
def coN (S : List (ByteArray × Int)) (M : List (List Int)) (F V : List Int) : Option Nat := ftN (coP S M F V) (cnZ S).toNat
def coB (S : List (ByteArray × Int)) (M : List (List Int)) (F V : List Int) : Bool := coG S M F V && (coN S M F V).isSome
def coL (S : List (ByteArray × Int)) (M : List (List Int)) (F V : List Int) : List Int := match coN S M F V with | some k => atL S k | none => []
end Go.Proofs.Ytgkaalonmkcclab
