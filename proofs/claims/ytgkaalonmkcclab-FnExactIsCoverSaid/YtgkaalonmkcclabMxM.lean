/-
  Chapter 6: maximal edits: the mathematics: all lists of sets in lexicographic order, one after the other, and how many there are. No program's text.
-/
import Derived.Test.YtgkaalonmkcclabImM
namespace Go.Proofs.Ytgkaalonmkcclab
open Go.RowKit
set_option maxRecDepth 100000

/-- The integers of a range; all lists between bounds, in order; the least one; the next one. -/
def rgL (a b : Int) : List Int := (List.range (b + 1 - a).toNat).map fun k : Nat => a + (k : Int)
theorem rg_nil {a b : Int} (h : b < a) : rgL a b = [] := by unfold rgL; rw [show (b + 1 - a).toNat = 0 by omega]; rfl
theorem rg_cons {a b : Int} (h : a ≤ b) : rgL a b = a :: rgL (a + 1) b := by
  unfold rgL
  rw [show (b + 1 - a).toNat = (b + 1 - (a + 1)).toNat + 1 by omega, List.range_succ_eq_map, List.map_cons, List.map_map]
  congr 1
  · simp
  · apply List.map_congr_left
    intro k _
    show a + ((k + 1 : Nat) : Int) = a + 1 + (k : Int)
    push_cast
    omega
theorem rg_mem {a b x : Int} (h : x ∈ rgL a b) : a ≤ x ∧ x ≤ b := by
  unfold rgL at h
  obtain ⟨k, hk, rfl⟩ := List.mem_map.1 h
  have := List.mem_range.1 hk
  omega
theorem rg_len (a b : Int) : (rgL a b).length = (b + 1 - a).toNat := by unfold rgL; rw [List.length_map, List.length_range]
def enL : List (Int × Int) → List (List Int)
  | [] => [[]]
  | p :: B => (rgL p.1 p.2).flatMap fun x => (enL B).map (x :: ·)
def lwL (B : List (Int × Int)) : List Int := B.map (·.1)
def nxL : List (Int × Int) → List Int → Option (List Int)
  | p :: B, x :: r => match nxL B r with
    | some y => some (x :: y)
    | none => if x < p.2 then some ((x + 1) :: lwL B) else none
  | _, _ => none
theorem nx_some {p : Int × Int} {B : List (Int × Int)} {x : Int} {r y : List Int} (h : nxL B r = some y) : nxL (p :: B) (x :: r) = some (x :: y) := by
  show (match nxL B r with | some y => some (x :: y) | none => if x < p.2 then some ((x + 1) :: lwL B) else none) = _
  rw [h]
theorem nx_up {p : Int × Int} {B : List (Int × Int)} {x : Int} {r : List Int} (h : nxL B r = none) (k : x < p.2) : nxL (p :: B) (x :: r) = some ((x + 1) :: lwL B) := by
  show (match nxL B r with | some y => some (x :: y) | none => if x < p.2 then some ((x + 1) :: lwL B) else none) = _
  rw [h]
  exact if_pos k
theorem nx_end {p : Int × Int} {B : List (Int × Int)} {x : Int} {r : List Int} (h : nxL B r = none) (k : ¬ x < p.2) : nxL (p :: B) (x :: r) = none := by
  show (match nxL B r with | some y => some (x :: y) | none => if x < p.2 then some ((x + 1) :: lwL B) else none) = _
  rw [h]
  exact if_neg k
/-- A list that goes on by a function, from one element to the end. -/
def SegP {α : Type} (f : α → Option α) : α → List α → Prop
  | _, [] => False
  | x, z :: L => z = x ∧ match f x with
    | none => L = []
    | some y => SegP f y L
theorem seg_none {α : Type} {f : α → Option α} {x : α} {L : List α} (h : SegP f x L) (k : f x = none) : L = [x] := by
  cases L with
  | nil => exact h.elim
  | cons z L =>
    obtain ⟨rfl, h⟩ := h
    rw [k] at h
    rw [show L = [] from h]
theorem seg_some {α : Type} {f : α → Option α} {x y : α} {L : List α} (h : SegP f x L) (k : f x = some y) : ∃ L', L = x :: L' ∧ SegP f y L' := by
  cases L with
  | nil => exact h.elim
  | cons z L =>
    obtain ⟨rfl, h⟩ := h
    rw [k] at h
    exact ⟨L, rfl, h⟩
theorem seg_mk0 {α : Type} {f : α → Option α} {x : α} (k : f x = none) : SegP f x [x] := by
  refine ⟨rfl, ?_⟩
  rw [k]
theorem seg_mk {α : Type} {f : α → Option α} {x y : α} {L : List α} (k : f x = some y) (h : SegP f y L) : SegP f x (x :: L) := by
  refine ⟨rfl, ?_⟩
  rw [k]
  exact h
theorem seg_head {α : Type} {f : α → Option α} {x : α} {L : List α} (h : SegP f x L) : ∃ L', L = x :: L' := by
  cases L with
  | nil => exact h.elim
  | cons z L => obtain ⟨rfl, _⟩ := h; exact ⟨L, rfl⟩
theorem seg_map {p : Int × Int} {B : List (Int × Int)} {h : Int} {T : List (List Int)} (h1 : h < p.2 → SegP (nxL (p :: B)) ((h + 1) :: lwL B) T) (h2 : ¬ h < p.2 → T = []) : ∀ (L : List (List Int)) (r : List Int), SegP (nxL B) r L → SegP (nxL (p :: B)) (h :: r) (L.map (h :: ·) ++ T)
  | [], r, k => k.elim
  | z :: L, r, k => by
    cases hn : nxL B r with
    | none =>
      have e := seg_none k hn
      injection e with e1 e2
      subst e1 e2
      by_cases hh : h < p.2
      · exact seg_mk (nx_up hn hh) (h1 hh)
      · rw [h2 hh]
        exact seg_mk0 (nx_end hn hh)
    | some y =>
      obtain ⟨L', e, k2⟩ := seg_some k hn
      injection e with e1 e2
      subst e1 e2
      exact seg_mk (nx_some hn) (seg_map h1 h2 L y k2)
theorem seg_all : ∀ B : List (Int × Int), (∀ p ∈ B, p.1 ≤ p.2) → SegP (nxL B) (lwL B) (enL B)
  | [], _ => seg_mk0 rfl
  | p :: B, h => by
    have ih := seg_all B fun q hq => h q (List.mem_cons_of_mem _ hq)
    have go : ∀ (d : Nat) (x : Int), x + (d : Int) = p.2 → SegP (nxL (p :: B)) (x :: lwL B) ((rgL x p.2).flatMap fun x => (enL B).map (x :: ·)) := by
      intro d
      induction d with
      | zero =>
        intro x hx
        rw [rg_cons (by omega), List.flatMap_cons]
        exact seg_map (fun hh => by omega) (fun _ => by rw [rg_nil (by omega)]; rfl) _ _ ih
      | succ d ihd =>
        intro x hx
        rw [rg_cons (by omega), List.flatMap_cons]
        exact seg_map (fun _ => ihd (x + 1) (by omega)) (fun hh => absurd (show x < p.2 by omega) hh) _ _ ih
    have hp := h p (List.mem_cons_self ..)
    exact go (p.2 - p.1).toNat p.1 (by omega)
/-- What is in such a list. -/
theorem en_mem : ∀ (B : List (Int × Int)) (e : List Int), e ∈ enL B → e.length = B.length ∧ ∀ (i : Nat) (p : Int × Int) (x : Int), B[i]? = some p → e[i]? = some x → p.1 ≤ x ∧ x ≤ p.2
  | [], e, h => by
    obtain rfl : e = [] := List.mem_singleton.1 h
    exact ⟨rfl, fun i p x h => by simp at h⟩
  | q :: B, e, h => by
    obtain ⟨x, hx, h2⟩ := List.mem_flatMap.1 h
    obtain ⟨r, hr, rfl⟩ := List.mem_map.1 h2
    obtain ⟨k1, k2⟩ := en_mem B r hr
    refine ⟨by rw [List.length_cons, List.length_cons, k1], fun i p y hp hy => ?_⟩
    cases i with
    | zero =>
      rw [List.getElem?_cons_zero] at hp hy
      cases hp
      cases hy
      exact rg_mem hx
    | succ i =>
      rw [List.getElem?_cons_succ] at hp hy
      exact k2 i p y hp hy
/-- How many there are. -/
def pdB : List (Int × Int) → Nat
  | [] => 1
  | p :: B => (p.2 + 1 - p.1).toNat * pdB B
theorem pd_app : ∀ (A B : List (Int × Int)), pdB (A ++ B) = pdB A * pdB B
  | [], B => by simp [pdB]
  | p :: A, B => by simp only [List.cons_append, pdB, pd_app A B, Nat.mul_assoc]
theorem en_len : ∀ B : List (Int × Int), (enL B).length = pdB B
  | [] => rfl
  | p :: B => by
    have ih := en_len B
    have go : ∀ R : List Int, (R.flatMap fun x => (enL B).map (x :: ·)).length = R.length * pdB B := by
      intro R
      induction R with
      | nil => simp
      | cons x R ihR => rw [List.flatMap_cons, List.length_append, List.length_map, ih, ihR, List.length_cons, Nat.succ_mul, Nat.add_comm]
    show ((rgL p.1 p.2).flatMap fun x => (enL B).map (x :: ·)).length = _
    rw [go, rg_len]
    rfl

/-- The bounds of the sets: from the least set to the full one; of variable v the full set alone. -/
def bnA (S : List (ByteArray × Int)) (v : Int) (i : Nat) : Int := if (i : Int) = v then flZ (lvA S i) else 1
def bnS (S : List (ByteArray × Int)) (v : Int) : List (Int × Int) := (List.range S.length).map fun i : Nat => (bnA S v i, flZ (lvA S i))
theorem bn_len (S : List (ByteArray × Int)) (v : Int) : (bnS S v).length = S.length := by unfold bnS; rw [List.length_map, List.length_range]
theorem bn_at {S : List (ByteArray × Int)} {v : Int} {i : Nat} (h : i < S.length) : (bnS S v)[i]? = some (bnA S v i, flZ (lvA S i)) := by unfold bnS; rw [List.getElem?_map, List.getElem?_range h]; rfl
theorem bn_full {S : List (ByteArray × Int)} {v : Int} {i : Nat} (h : (i : Int) = v) : bnA S v i = flZ (lvA S i) := if_pos h
theorem bn_one {S : List (ByteArray × Int)} {v : Int} {i : Nat} (h : ¬ (i : Int) = v) : bnA S v i = 1 := if_neg h
theorem bn_bd {S : List (ByteArray × Int)} (v : Int) (hs : schB S = true) {i : Nat} (h : i < S.length) : 1 ≤ bnA S v i ∧ bnA S v i ≤ flZ (lvA S i) ∧ flZ (lvA S i) ≤ 255 := by
  have h2 := flZ_bd (lvA_bd hs h)
  unfold bnA
  split <;> omega
theorem bn_le {S : List (ByteArray × Int)} (v : Int) (hs : schB S = true) : ∀ p ∈ bnS S v, p.1 ≤ p.2 := by
  intro p hp
  obtain ⟨i, hi, rfl⟩ := List.mem_map.1 hp
  exact (bn_bd v hs (List.mem_range.1 hi)).2.1
theorem en_ed {S : List (ByteArray × Int)} {v : Int} (hs : schB S = true) {e : List Int} (h : e ∈ enL (bnS S v)) : edB S e = true := by
  obtain ⟨h1, h2⟩ := en_mem _ _ h
  rw [bn_len] at h1
  refine ed_all h1 fun j hj => ?_
  have h3 : e[j]? = some (e[j]'(by omega)) := List.getElem?_eq_getElem (by omega)
  have h4 := h2 j _ _ (bn_at hj) h3
  have h5 := bn_bd v hs hj
  exact ⟨_, _, _, at_nm hj, h3, by omega, h4.2⟩
theorem two_flZ {lv : Int} (h : 2 ≤ lv ∧ lv ≤ 8) : 2 * (flZ lv).toNat ≤ lv.toNat ^ 3 := by rcases lv_cases h with rfl | rfl | rfl | rfl | rfl | rfl | rfl <;> decide
/-- A product of levels. -/
def lpN (S : List (ByteArray × Int)) : Nat → Nat
  | 0 => 1
  | n + 1 => lpN S n * (lvA S n).toNat
theorem bn_take (S : List (ByteArray × Int)) (v : Int) {n : Nat} (h : n < S.length) : (bnS S v).take (n + 1) = (bnS S v).take n ++ [(bnA S v n, flZ (lvA S n))] := take_snoc (bn_at h)
theorem bn_pd {S : List (ByteArray × Int)} (v : Int) (hs : schB S = true) : ∀ n : Nat, n ≤ S.length → 2 ^ n * pdB ((bnS S v).take n) ≤ lpN S n ^ 3
  | 0, _ => by simp [pdB, lpN]
  | n + 1, h => by
    have ih := bn_pd v hs n (by omega)
    rw [bn_take S v (by omega), pd_app]
    have h1 := bn_bd v hs (show n < S.length by omega)
    have h2 := two_flZ (lvA_bd hs (show n < S.length by omega))
    have e1 : pdB [(bnA S v n, flZ (lvA S n))] = (flZ (lvA S n) + 1 - bnA S v n).toNat := by simp [pdB]
    rw [e1]
    have h3 : 2 * (flZ (lvA S n) + 1 - bnA S v n).toNat ≤ (lvA S n).toNat ^ 3 := by
      have : (flZ (lvA S n) + 1 - bnA S v n).toNat ≤ (flZ (lvA S n)).toNat := by omega
      omega
    have h4 := Nat.mul_le_mul ih h3
    show _ ≤ (lpN S n * (lvA S n).toNat) ^ 3
    rw [Nat.mul_pow]
    refine Nat.le_trans (Nat.le_of_eq ?_) h4
    rw [Nat.pow_succ]
    simp only [Nat.mul_assoc, Nat.mul_comm, Nat.mul_left_comm]
theorem lp_cn (S : List (ByteArray × Int)) (hs : schB S = true) : ∀ n : Nat, n ≤ S.length → cnZ (S.take n) = (lpN S n : Int)
  | 0, _ => rfl
  | n + 1, h => by
    have ih := lp_cn S hs n (by omega)
    have h1 := lvA_bd hs (show n < S.length by omega)
    rw [take_snoc (at_nm (show n < S.length by omega)), cnZ_snoc, ih]
    show (lpN S n : Int) * lvA S n = ((lpN S n * (lvA S n).toNat : Nat) : Int)
    push_cast
    rw [Int.toNat_of_nonneg (by omega)]
theorem en_small {S : List (ByteArray × Int)} (v : Int) (hs : schB S = true) (hc : cnZ S ≤ 100) : (enL (bnS S v)).length * S.length ≤ 1000000 ∧ (enL (bnS S v)).length ≤ 1000000 := by
  have h1 := bn_pd v hs S.length (Nat.le_refl _)
  have h2 := lp_cn S hs S.length (Nat.le_refl _)
  rw [List.take_length] at h2
  have e : (bnS S v).take S.length = bnS S v := by rw [← bn_len S v, List.take_length]
  rw [e] at h1
  rw [en_len]
  have h3 : lpN S S.length ≤ 100 := by omega
  have h4 : lpN S S.length ^ 3 ≤ 100 ^ 3 := Nat.pow_le_pow_left h3 3
  have h5 : S.length ≤ 2 ^ S.length := Nat.le_of_lt Nat.lt_two_pow_self
  have h6 : pdB (bnS S v) * S.length ≤ 2 ^ S.length * pdB (bnS S v) := by rw [Nat.mul_comm]; exact Nat.mul_le_mul_right _ h5
  have h7 : 1 * pdB (bnS S v) ≤ 2 ^ S.length * pdB (bnS S v) := Nat.mul_le_mul_right _ (Nat.pow_pos (by decide))
  omega

/-- An edit with one level more; can it grow? -/
def wlL (E : List Int) (i l : Nat) : List Int := E.set i (joI (E.getD i 0) (2 ^ l))
theorem wl_len (E : List Int) (i l : Nat) : (wlL E i l).length = E.length := by unfold wlL; rw [List.length_set]
theorem wl_at {E : List Int} {i : Nat} {x : Int} (l : Nat) (h : E[i]? = some x) : wlL E i l = E.set i (joI x (2 ^ l)) := by unfold wlL; rw [List.getD_eq_getElem?_getD, h]; rfl
theorem pw_bd {l : Nat} {lv : Int} (h : (l : Int) < lv) : (1 : Int) ≤ 2 ^ l ∧ (2 : Int) ^ l ≤ flZ lv := by
  have h1 : (2 : Nat) ^ l < 2 ^ lv.toNat := Nat.pow_lt_pow_right (by decide) (by omega)
  have h2 : 0 < (2 : Nat) ^ l := Nat.pow_pos (by decide)
  have e1 : ((2 ^ l : Nat) : Int) = (2 : Int) ^ l := by push_cast; rfl
  have e2 : ((2 ^ lv.toNat : Nat) : Int) = (2 : Int) ^ lv.toNat := by push_cast; rfl
  unfold flZ
  rw [← e1, ← e2]
  omega
theorem wl_ed {S : List (ByteArray × Int)} {E : List Int} (hs : schB S = true) (h : edB S E = true) {i l : Nat} (hi : i < S.length) (hl : (l : Int) < lvA S i) : edB S (wlL E i l) = true := by
  have h0 := ed_len h
  refine ed_all (by rw [wl_len, h0]) fun j hj => ?_
  obtain ⟨nm, lv, x, a, b, c, d, _⟩ := ed_at hs h hj
  by_cases e : i = j
  · subst e
    have hlv : lv = lvA S i := by have h1 := at_nm hj; rw [a] at h1; injection h1 with h1; exact (Prod.mk.inj h1).2
    obtain ⟨p1, p2⟩ := pw_bd hl
    have k := jo_bd c d p1 (by rw [hlv]; exact p2)
    refine ⟨nm, lv, joI x (2 ^ l), a, ?_, k.1, k.2⟩
    rw [wl_at l b, List.getElem?_set_self (by omega)]
  · refine ⟨nm, lv, x, a, ?_, c, d⟩
    unfold wlL
    rw [List.getElem?_set_ne e]
    exact b
def grA (S : List (ByteArray × Int)) (P : List Nat) (E : List Int) (i l : Nat) : Bool := !hsB (E.getD i 0) (l : Int) && imV S P (wlL E i l)
def grI (S : List (ByteArray × Int)) (P : List Nat) (E : List Int) (i : Nat) : Bool := (List.range (lvA S i).toNat).any (grA S P E i)
def grB (S : List (ByteArray × Int)) (P : List Nat) (E : List Int) : Bool := (List.range E.length).any (grI S P E)
theorem grA_has {S : List (ByteArray × Int)} {P : List Nat} {E : List Int} {i l : Nat} {x : Int} (h : E[i]? = some x) (k : hsB x (l : Int) = true) : grA S P E i l = false := by unfold grA; rw [List.getD_eq_getElem?_getD, h]; show (!hsB x (l : Int) && _) = false; rw [k]; rfl
theorem grA_not {S : List (ByteArray × Int)} {P : List Nat} {E : List Int} {i l : Nat} {x : Int} (h : E[i]? = some x) (k : hsB x (l : Int) = false) : grA S P E i l = imV S P (wlL E i l) := by unfold grA; rw [List.getD_eq_getElem?_getD, h]; show (!hsB x (l : Int) && _) = _; rw [k]; rfl
theorem gr_hit {S : List (ByteArray × Int)} {P : List Nat} {E : List Int} {i l : Nat} (h1 : i < E.length) (h2 : (l : Int) < lvA S i) (h : grA S P E i l = true) : grB S P E = true := by
  unfold grB
  rw [List.any_eq_true]
  refine ⟨i, List.mem_range.2 h1, ?_⟩
  unfold grI
  rw [List.any_eq_true]
  exact ⟨l, List.mem_range.2 (by omega), h⟩
theorem grI_no {S : List (ByteArray × Int)} {P : List Nat} {E : List Int} {i : Nat} (h : ∀ l : Nat, (l : Int) < lvA S i → grA S P E i l = false) : grI S P E i = false := by
  unfold grI
  rw [List.any_eq_false]
  intro l hl
  rw [h l (by have := List.mem_range.1 hl; omega)]
  exact Bool.false_ne_true
theorem gr_no {S : List (ByteArray × Int)} {P : List Nat} {E : List Int} (h : ∀ i, i < E.length → grI S P E i = false) : grB S P E = false := by
  unfold grB
  rw [List.any_eq_false]
  intro i hi
  rw [h i (List.mem_range.1 hi)]
  exact Bool.false_ne_true
/-- The maximal edits. -/
def mxB (S : List (ByteArray × Int)) (P : List Nat) (E : List Int) : Bool := imV S P E && !grB S P E
theorem mx_no1 {S : List (ByteArray × Int)} {P : List Nat} {E : List Int} (h : imV S P E = false) : mxB S P E = false := by unfold mxB; rw [h]; rfl
theorem mx_no2 {S : List (ByteArray × Int)} {P : List Nat} {E : List Int} (h : grB S P E = true) : mxB S P E = false := by unfold mxB; rw [h]; exact Bool.and_false _
theorem mx_yes {S : List (ByteArray × Int)} {P : List Nat} {E : List Int} (h : imV S P E = true) (k : grB S P E = false) : mxB S P E = true := by unfold mxB; rw [h, k]; rfl
def mxL (S : List (ByteArray × Int)) (M : List (List Int)) (v : Int) : List (List Int) := (enL (bnS S v)).filter (mxB S (psN S M (cnZ S).toNat))
theorem mx_ed {S : List (ByteArray × Int)} {M : List (List Int)} {v : Int} (hs : schB S = true) {e : List Int} (h : e ∈ mxL S M v) : edB S e = true := en_ed hs (List.mem_filter.1 h).1
theorem mx_small {S : List (ByteArray × Int)} {M : List (List Int)} (v : Int) (hs : schB S = true) (hc : cnZ S ≤ 100) : (mxL S M v).length * S.length ≤ 1000000 ∧ (mxL S M v).length ≤ 1000000 := by
  obtain ⟨h1, h2⟩ := en_small v hs hc
  have h3 : (mxL S M v).length ≤ (enL (bnS S v)).length := List.length_filter_le _ _
  exact ⟨Nat.le_trans (Nat.mul_le_mul_right _ h3) h1, Nat.le_trans h3 h2⟩
/-- What the model's search adds below one choice of the first sets. -/
def rnL (S : List (ByteArray × Int)) (P : List Nat) (v : Int) (k : Nat) (D : List Int) : List (List Int) := ((enL ((bnS S v).drop k)).map (D ++ ·)).filter (mxB S P)
theorem rn_end {S : List (ByteArray × Int)} {P : List Nat} {v : Int} {D : List Int} : rnL S P v S.length D = if mxB S P D = true then [D] else [] := by
  unfold rnL
  rw [List.drop_eq_nil_of_le (by rw [bn_len]; omega)]
  show [D ++ []].filter (mxB S P) = _
  rw [List.append_nil]
  cases h : mxB S P D <;> simp [h]
def rnU (S : List (ByteArray × Int)) (P : List Nat) (v : Int) (k : Nat) (D : List Int) (a : Int) (n : Nat) : List (List Int) := (List.range n).flatMap fun j : Nat => rnL S P v (k + 1) (D ++ [a + (j : Int)])
theorem rnU_step (S : List (ByteArray × Int)) (P : List Nat) (v : Int) (k : Nat) (D : List Int) (a : Int) (n : Nat) : rnU S P v k D a (n + 1) = rnU S P v k D a n ++ rnL S P v (k + 1) (D ++ [a + (n : Int)]) := by
  unfold rnU
  rw [List.range_succ, List.flatMap_append]
  simp
theorem rn_all {S : List (ByteArray × Int)} {P : List Nat} {v : Int} {k : Nat} {D : List Int} (h : k < S.length) : rnL S P v k D = rnU S P v k D (bnA S v k) (flZ (lvA S k) + 1 - bnA S v k).toNat := by
  unfold rnL rnU
  have e : (bnS S v).drop k = (bnA S v k, flZ (lvA S k)) :: (bnS S v).drop (k + 1) := by
    have h1 := bn_at (v := v) h
    have h2 := (List.getElem?_eq_some_iff.1 h1).1
    rw [List.drop_eq_getElem_cons h2]
    rw [List.getElem?_eq_getElem h2] at h1
    rw [Option.some.inj h1]
  rw [e]
  show List.filter (mxB S P) (List.map (D ++ ·) ((rgL (bnA S v k) (flZ (lvA S k))).flatMap fun x => (enL ((bnS S v).drop (k + 1))).map (x :: ·))) = _
  unfold rgL
  rw [List.flatMap_map, List.map_flatMap, List.filter_flatMap]
  congr 1
  funext j
  rw [List.map_map]
  congr 1
  apply List.map_congr_left
  intro r _
  simp
theorem rn_whole (S : List (ByteArray × Int)) (M : List (List Int)) (v : Int) : rnL S (psN S M (cnZ S).toNat) v 0 [] = mxL S M v := by
  unfold rnL mxL
  rw [List.drop_zero]
  congr 1
  simp
end Go.Proofs.Ytgkaalonmkcclab
