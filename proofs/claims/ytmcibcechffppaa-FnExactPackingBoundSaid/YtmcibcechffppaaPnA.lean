import Derived.Test.YtmcibcechffppaaPnC
import Derived.Test.YtmcibcechffppaaPnB
namespace Go.Proofs.Ytmcibcechffppaa
open Go.RowKit
set_option maxRecDepth 100000

/-- The integers of a range; all lists between bounds, in order; the least one; the next one. -/
def rgL (a b : Int) : List Int := (List.range (b + 1 - a).toNat).map fun k : Nat => a + (k : Int)
theorem rg_nil {a b : Int} (h : b < a) : rgL a b = [] := by unfold rgL; rw [show (b + 1 - a).toNat = 0 by omega]; rfl
theorem rg_cons {a b : Int} (h : a ≤ b) : rgL a b = a :: rgL (a + 1) b := by
  unfold rgL
  rw [show (b + 1 - a).toNat = (b + 1 - (a + 1)).toNat + 1 by omega, List.range_succ_eq_map, List.map_cons, List.map_map]
  congr 1
  · simp
  · apply List.map_congr_left
    intro k _
    show a + ((k + 1 : Nat) : Int) = a + 1 + (k : Int)
    push_cast
    omega
theorem rg_mem {a b x : Int} (h : x ∈ rgL a b) : a ≤ x ∧ x ≤ b := by
  unfold rgL at h
  obtain ⟨k, hk, rfl⟩ := List.mem_map.1 h
  have := List.mem_range.1 hk
  omega
theorem rg_len (a b : Int) : (rgL a b).length = (b + 1 - a).toNat := by unfold rgL; rw [List.length_map, List.length_range]
def enL : List (Int × Int) → List (List Int)
  | [] => [[]]
  | p :: B => (rgL p.1 p.2).flatMap fun x => (enL B).map (x :: ·)
def lwL (B : List (Int × Int)) : List Int := B.map (·.1)
def nxL : List (Int × Int) → List Int → Option (List Int)
  | p :: B, x :: r => match nxL B r with
    | some y => some (x :: y)
    | none => if x < p.2 then some ((x + 1) :: lwL B) else none
  | _, _ => none
theorem nx_some {p : Int × Int} {B : List (Int × Int)} {x : Int} {r y : List Int} (h : nxL B r = some y) : nxL (p :: B) (x :: r) = some (x :: y) := by
  show (match nxL B r with | some y => some (x :: y) | none => if x < p.2 then some ((x + 1) :: lwL B) else none) = _
  rw [h]
theorem nx_up {p : Int × Int} {B : List (Int × Int)} {x : Int} {r : List Int} (h : nxL B r = none) (k : x < p.2) : nxL (p :: B) (x :: r) = some ((x + 1) :: lwL B) := by
  show (match nxL B r with | some y => some (x :: y) | none => if x < p.2 then some ((x + 1) :: lwL B) else none) = _
  rw [h]
  exact if_pos k
theorem nx_end {p : Int × Int} {B : List (Int × Int)} {x : Int} {r : List Int} (h : nxL B r = none) (k : ¬ x < p.2) : nxL (p :: B) (x :: r) = none := by
  show (match nxL B r with | some y => some (x :: y) | none => if x < p.2 then some ((x + 1) :: lwL B) else none) = _
  rw [h]
  exact if_neg k
/-- A list that goes on by a function, from one element to the end. -/
def SegP {α : Type} (f : α → Option α) : α → List α → Prop
  | _, [] => False
  | x, z :: L => z = x ∧ match f x with
    | none => L = []
    | some y => SegP f y L
theorem seg_none {α : Type} {f : α → Option α} {x : α} {L : List α} (h : SegP f x L) (k : f x = none) : L = [x] := by
  cases L with
  | nil => exact h.elim
  | cons z L =>
    obtain ⟨rfl, h⟩ := h
    rw [k] at h
    rw [show L = [] from h]
theorem seg_some {α : Type} {f : α → Option α} {x y : α} {L : List α} (h : SegP f x L) (k : f x = some y) : ∃ L', L = x :: L' ∧ SegP f y L' := by
  cases L with
  | nil => exact h.elim
  | cons z L =>
    obtain ⟨rfl, h⟩ := h
    rw [k] at h
    exact ⟨L, rfl, h⟩
theorem seg_mk0 {α : Type} {f : α → Option α} {x : α} (k : f x = none) : SegP f x [x] := by
  refine ⟨rfl, ?_⟩
  rw [k]
theorem seg_mk {α : Type} {f : α → Option α} {x y : α} {L : List α} (k : f x = some y) (h : SegP f y L) : SegP f x (x :: L) := by
  refine ⟨rfl, ?_⟩
  rw [k]
  exact h
theorem seg_head {α : Type} {f : α → Option α} {x : α} {L : List α} (h : SegP f x L) : ∃ L', L = x :: L' := by
  cases L with
  | nil => exact h.elim
  | cons z L => obtain ⟨rfl, _⟩ := h; exact ⟨L, rfl⟩
theorem seg_map {p : Int × Int} {B : List (Int × Int)} {h : Int} {T : List (List Int)} (h1 : h < p.2 → SegP (nxL (p :: B)) ((h + 1) :: lwL B) T) (h2 : ¬ h < p.2 → T = []) : ∀ (L : List (List Int)) (r : List Int), SegP (nxL B) r L → SegP (nxL (p :: B)) (h :: r) (L.map (h :: ·) ++ T)
  | [], r, k => k.elim
  | z :: L, r, k => by
    cases hn : nxL B r with
    | none =>
      have e := seg_none k hn
      injection e with e1 e2
      subst e1 e2
      by_cases hh : h < p.2
      · exact seg_mk (nx_up hn hh) (h1 hh)
      · rw [h2 hh]
        exact seg_mk0 (nx_end hn hh)
    | some y =>
      obtain ⟨L', e, k2⟩ := seg_some k hn
      injection e with e1 e2
      subst e1 e2
      exact seg_mk (nx_some hn) (seg_map h1 h2 L y k2)
theorem seg_all : ∀ B : List (Int × Int), (∀ p ∈ B, p.1 ≤ p.2) → SegP (nxL B) (lwL B) (enL B)
  | [], _ => seg_mk0 rfl
  | p :: B, h => by
    have ih := seg_all B fun q hq => h q (List.mem_cons_of_mem _ hq)
    have go : ∀ (d : Nat) (x : Int), x + (d : Int) = p.2 → SegP (nxL (p :: B)) (x :: lwL B) ((rgL x p.2).flatMap fun x => (enL B).map (x :: ·)) := by
      intro d
      induction d with
      | zero =>
        intro x hx
        rw [rg_cons (by omega), List.flatMap_cons]
        exact seg_map (fun hh => by omega) (fun _ => by rw [rg_nil (by omega)]; rfl) _ _ ih
      | succ d ihd =>
        intro x hx
        rw [rg_cons (by omega), List.flatMap_cons]
        exact seg_map (fun _ => ihd (x + 1) (by omega)) (fun hh => absurd (show x < p.2 by omega) hh) _ _ ih
    have hp := h p (List.mem_cons_self ..)
    exact go (p.2 - p.1).toNat p.1 (by omega)
/-- What is in such a list. -/
theorem en_mem : ∀ (B : List (Int × Int)) (e : List Int), e ∈ enL B → e.length = B.length ∧ ∀ (i : Nat) (p : Int × Int) (x : Int), B[i]? = some p → e[i]? = some x → p.1 ≤ x ∧ x ≤ p.2
  | [], e, h => by
    obtain rfl : e = [] := List.mem_singleton.1 h
    exact ⟨rfl, fun i p x h => by simp at h⟩
  | q :: B, e, h => by
    obtain ⟨x, hx, h2⟩ := List.mem_flatMap.1 h
    obtain ⟨r, hr, rfl⟩ := List.mem_map.1 h2
    obtain ⟨k1, k2⟩ := en_mem B r hr
    refine ⟨by rw [List.length_cons, List.length_cons, k1], fun i p y hp hy => ?_⟩
    cases i with
    | zero =>
      rw [List.getElem?_cons_zero] at hp hy
      cases hp
      cases hy
      exact rg_mem hx
    | succ i =>
      rw [List.getElem?_cons_succ] at hp hy
      exact k2 i p y hp hy
/-- How many there are. -/
def pdB : List (Int × Int) → Nat
  | [] => 1
  | p :: B => (p.2 + 1 - p.1).toNat * pdB B
theorem pd_app : ∀ (A B : List (Int × Int)), pdB (A ++ B) = pdB A * pdB B
  | [], B => by simp [pdB]
  | p :: A, B => by simp only [List.cons_append, pdB, pd_app A B, Nat.mul_assoc]
theorem en_len : ∀ B : List (Int × Int), (enL B).length = pdB B
  | [] => rfl
  | p :: B => by
    have ih := en_len B
    have go : ∀ R : List Int, (R.flatMap fun x => (enL B).map (x :: ·)).length = R.length * pdB B := by
      intro R
      induction R with
      | nil => simp
      | cons x R ihR => rw [List.flatMap_cons, List.length_append, List.length_map, ih, ihR, List.length_cons, Nat.succ_mul, Nat.add_comm]
    show ((rgL p.1 p.2).flatMap fun x => (enL B).map (x :: ·)).length = _
    rw [go, rg_len]
    rfl

/-- The bounds of the sets: from the least set to the full one; of variable v the full set alone. -/
def bnA (S : List (ByteArray × Int)) (v : Int) (i : Nat) : Int := if (i : Int) = v then flZ (lvA S i) else 1
def bnS (S : List (ByteArray × Int)) (v : Int) : List (Int × Int) := (List.range S.length).map fun i : Nat => (bnA S v i, flZ (lvA S i))
theorem bn_len (S : List (ByteArray × Int)) (v : Int) : (bnS S v).length = S.length := by unfold bnS; rw [List.length_map, List.length_range]
theorem bn_at {S : List (ByteArray × Int)} {v : Int} {i : Nat} (h : i < S.length) : (bnS S v)[i]? = some (bnA S v i, flZ (lvA S i)) := by unfold bnS; rw [List.getElem?_map, List.getElem?_range h]; rfl
theorem bn_full {S : List (ByteArray × Int)} {v : Int} {i : Nat} (h : (i : Int) = v) : bnA S v i = flZ (lvA S i) := if_pos h
theorem bn_one {S : List (ByteArray × Int)} {v : Int} {i : Nat} (h : ¬ (i : Int) = v) : bnA S v i = 1 := if_neg h
theorem bn_bd {S : List (ByteArray × Int)} (v : Int) (hs : schB S = true) {i : Nat} (h : i < S.length) : 1 ≤ bnA S v i ∧ bnA S v i ≤ flZ (lvA S i) ∧ flZ (lvA S i) ≤ 255 := by
  have h2 := flZ_bd (lvA_bd hs h)
  unfold bnA
  split <;> omega
theorem bn_le {S : List (ByteArray × Int)} (v : Int) (hs : schB S = true) : ∀ p ∈ bnS S v, p.1 ≤ p.2 := by
  intro p hp
  obtain ⟨i, hi, rfl⟩ := List.mem_map.1 hp
  exact (bn_bd v hs (List.mem_range.1 hi)).2.1
theorem en_ed {S : List (ByteArray × Int)} {v : Int} (hs : schB S = true) {e : List Int} (h : e ∈ enL (bnS S v)) : edB S e = true := by
  obtain ⟨h1, h2⟩ := en_mem _ _ h
  rw [bn_len] at h1
  refine ed_all h1 fun j hj => ?_
  have h3 : e[j]? = some (e[j]'(by omega)) := List.getElem?_eq_getElem (by omega)
  have h4 := h2 j _ _ (bn_at hj) h3
  have h5 := bn_bd v hs hj
  exact ⟨_, _, _, at_nm hj, h3, by omega, h4.2⟩
theorem two_flZ {lv : Int} (h : 2 ≤ lv ∧ lv ≤ 8) : 2 * (flZ lv).toNat ≤ lv.toNat ^ 3 := by rcases lv_cases h with rfl | rfl | rfl | rfl | rfl | rfl | rfl <;> decide
/-- A product of levels. -/
def lpN (S : List (ByteArray × Int)) : Nat → Nat
  | 0 => 1
  | n + 1 => lpN S n * (lvA S n).toNat
theorem bn_take (S : List (ByteArray × Int)) (v : Int) {n : Nat} (h : n < S.length) : (bnS S v).take (n + 1) = (bnS S v).take n ++ [(bnA S v n, flZ (lvA S n))] := take_snoc (bn_at h)
theorem bn_pd {S : List (ByteArray × Int)} (v : Int) (hs : schB S = true) : ∀ n : Nat, n ≤ S.length → 2 ^ n * pdB ((bnS S v).take n) ≤ lpN S n ^ 3
  | 0, _ => by simp [pdB, lpN]
  | n + 1, h => by
    have ih := bn_pd v hs n (by omega)
    rw [bn_take S v (by omega), pd_app]
    have h1 := bn_bd v hs (show n < S.length by omega)
    have h2 := two_flZ (lvA_bd hs (show n < S.length by omega))
    have e1 : pdB [(bnA S v n, flZ (lvA S n))] = (flZ (lvA S n) + 1 - bnA S v n).toNat := by simp [pdB]
    rw [e1]
    have h3 : 2 * (flZ (lvA S n) + 1 - bnA S v n).toNat ≤ (lvA S n).toNat ^ 3 := by
      have : (flZ (lvA S n) + 1 - bnA S v n).toNat ≤ (flZ (lvA S n)).toNat := by omega
      omega
    have h4 := Nat.mul_le_mul ih h3
    show _ ≤ (lpN S n * (lvA S n).toNat) ^ 3
    rw [Nat.mul_pow]
    refine Nat.le_trans (Nat.le_of_eq ?_) h4
    rw [Nat.pow_succ]
    simp only [Nat.mul_assoc, Nat.mul_comm, Nat.mul_left_comm]
theorem lp_cn (S : List (ByteArray × Int)) (hs : schB S = true) : ∀ n : Nat, n ≤ S.length → cnZ (S.take n) = (lpN S n : Int)
  | 0, _ => rfl
  | n + 1, h => by
    have ih := lp_cn S hs n (by omega)
    have h1 := lvA_bd hs (show n < S.length by omega)
    rw [take_snoc (at_nm (show n < S.length by omega)), cnZ_snoc, ih]
    show (lpN S n : Int) * lvA S n = ((lpN S n * (lvA S n).toNat : Nat) : Int)
    push_cast
    rw [Int.toNat_of_nonneg (by omega)]
theorem en_small {S : List (ByteArray × Int)} (v : Int) (hs : schB S = true) (hc : cnZ S ≤ 100) : (enL (bnS S v)).length * S.length ≤ 1000000 ∧ (enL (bnS S v)).length ≤ 1000000 := by
  have h1 := bn_pd v hs S.length (Nat.le_refl _)
  have h2 := lp_cn S hs S.length (Nat.le_refl _)
  rw [List.take_length] at h2
  have e : (bnS S v).take S.length = bnS S v := by rw [← bn_len S v, List.take_length]
  rw [e] at h1
  rw [en_len]
  have h3 : lpN S S.length ≤ 100 := by omega
  have h4 : lpN S S.length ^ 3 ≤ 100 ^ 3 := Nat.pow_le_pow_left h3 3
  have h5 : S.length ≤ 2 ^ S.length := Nat.le_of_lt Nat.lt_two_pow_self
  have h6 : pdB (bnS S v) * S.length ≤ 2 ^ S.length * pdB (bnS S v) := by rw [Nat.mul_comm]; exact Nat.mul_le_mul_right _ h5
  have h7 : 1 * pdB (bnS S v) ≤ 2 ^ S.length * pdB (bnS S v) := Nat.mul_le_mul_right _ (Nat.pow_pos (by decide))
  omega

/-- An edit with one level more; can it grow? -/
def wlL (E : List Int) (i l : Nat) : List Int := E.set i (joI (E.getD i 0) (2 ^ l))
theorem wl_len (E : List Int) (i l : Nat) : (wlL E i l).length = E.length := by unfold wlL; rw [List.length_set]
theorem wl_at {E : List Int} {i : Nat} {x : Int} (l : Nat) (h : E[i]? = some x) : wlL E i l = E.set i (joI x (2 ^ l)) := by unfold wlL; rw [List.getD_eq_getElem?_getD, h]; rfl
theorem pw_bd {l : Nat} {lv : Int} (h : (l : Int) < lv) : (1 : Int) ≤ 2 ^ l ∧ (2 : Int) ^ l ≤ flZ lv := by
  have h1 : (2 : Nat) ^ l < 2 ^ lv.toNat := Nat.pow_lt_pow_right (by decide) (by omega)
  have h2 : 0 < (2 : Nat) ^ l := Nat.pow_pos (by decide)
  have e1 : ((2 ^ l : Nat) : Int) = (2 : Int) ^ l := by push_cast; rfl
  have e2 : ((2 ^ lv.toNat : Nat) : Int) = (2 : Int) ^ lv.toNat := by push_cast; rfl
  unfold flZ
  rw [← e1, ← e2]
  omega
theorem wl_ed {S : List (ByteArray × Int)} {E : List Int} (hs : schB S = true) (h : edB S E = true) {i l : Nat} (hi : i < S.length) (hl : (l : Int) < lvA S i) : edB S (wlL E i l) = true := by
  have h0 := ed_len h
  refine ed_all (by rw [wl_len, h0]) fun j hj => ?_
  obtain ⟨nm, lv, x, a, b, c, d, _⟩ := ed_at hs h hj
  by_cases e : i = j
  · subst e
    have hlv : lv = lvA S i := by have h1 := at_nm hj; rw [a] at h1; injection h1 with h1; exact (Prod.mk.inj h1).2
    obtain ⟨p1, p2⟩ := pw_bd hl
    have k := jo_bd c d p1 (by rw [hlv]; exact p2)
    refine ⟨nm, lv, joI x (2 ^ l), a, ?_, k.1, k.2⟩
    rw [wl_at l b, List.getElem?_set_self (by omega)]
  · refine ⟨nm, lv, x, a, ?_, c, d⟩
    unfold wlL
    rw [List.getElem?_set_ne e]
    exact b
def grA (S : List (ByteArray × Int)) (P : List Nat) (E : List Int) (i l : Nat) : Bool := !hsB (E.getD i 0) (l : Int) && imV S P (wlL E i l)
def grI (S : List (ByteArray × Int)) (P : List Nat) (E : List Int) (i : Nat) : Bool := (List.range (lvA S i).toNat).any (grA S P E i)
def grB (S : List (ByteArray × Int)) (P : List Nat) (E : List Int) : Bool := (List.range E.length).any (grI S P E)
theorem grA_has {S : List (ByteArray × Int)} {P : List Nat} {E : List Int} {i l : Nat} {x : Int} (h : E[i]? = some x) (k : hsB x (l : Int) = true) : grA S P E i l = false := by unfold grA; rw [List.getD_eq_getElem?_getD, h]; show (!hsB x (l : Int) && _) = false; rw [k]; rfl
theorem grA_not {S : List (ByteArray × Int)} {P : List Nat} {E : List Int} {i l : Nat} {x : Int} (h : E[i]? = some x) (k : hsB x (l : Int) = false) : grA S P E i l = imV S P (wlL E i l) := by unfold grA; rw [List.getD_eq_getElem?_getD, h]; show (!hsB x (l : Int) && _) = _; rw [k]; rfl
theorem gr_hit {S : List (ByteArray × Int)} {P : List Nat} {E : List Int} {i l : Nat} (h1 : i < E.length) (h2 : (l : Int) < lvA S i) (h : grA S P E i l = true) : grB S P E = true := by
  unfold grB
  rw [List.any_eq_true]
  refine ⟨i, List.mem_range.2 h1, ?_⟩
  unfold grI
  rw [List.any_eq_true]
  exact ⟨l, List.mem_range.2 (by omega), h⟩
theorem grI_no {S : List (ByteArray × Int)} {P : List Nat} {E : List Int} {i : Nat} (h : ∀ l : Nat, (l : Int) < lvA S i → grA S P E i l = false) : grI S P E i = false := by
  unfold grI
  rw [List.any_eq_false]
  intro l hl
  rw [h l (by have := List.mem_range.1 hl; omega)]
  exact Bool.false_ne_true
theorem gr_no {S : List (ByteArray × Int)} {P : List Nat} {E : List Int} (h : ∀ i, i < E.length → grI S P E i = false) : grB S P E = false := by
  unfold grB
  rw [List.any_eq_false]
  intro i hi
  rw [h i (List.mem_range.1 hi)]
  exact Bool.false_ne_true
/-- The maximal edits. -/
def mxB (S : List (ByteArray × Int)) (P : List Nat) (E : List Int) : Bool := imV S P E && !grB S P E
theorem mx_no1 {S : List (ByteArray × Int)} {P : List Nat} {E : List Int} (h : imV S P E = false) : mxB S P E = false := by unfold mxB; rw [h]; rfl
theorem mx_no2 {S : List (ByteArray × Int)} {P : List Nat} {E : List Int} (h : grB S P E = true) : mxB S P E = false := by unfold mxB; rw [h]; exact Bool.and_false _
theorem mx_yes {S : List (ByteArray × Int)} {P : List Nat} {E : List Int} (h : imV S P E = true) (k : grB S P E = false) : mxB S P E = true := by unfold mxB; rw [h, k]; rfl
def mxL (S : List (ByteArray × Int)) (M : List (List Int)) (v : Int) : List (List Int) := (enL (bnS S v)).filter (mxB S (psN S M (cnZ S).toNat))
theorem mx_ed {S : List (ByteArray × Int)} {M : List (List Int)} {v : Int} (hs : schB S = true) {e : List Int} (h : e ∈ mxL S M v) : edB S e = true := en_ed hs (List.mem_filter.1 h).1
theorem mx_small {S : List (ByteArray × Int)} {M : List (List Int)} (v : Int) (hs : schB S = true) (hc : cnZ S ≤ 100) : (mxL S M v).length * S.length ≤ 1000000 ∧ (mxL S M v).length ≤ 1000000 := by
  obtain ⟨h1, h2⟩ := en_small v hs hc
  have h3 : (mxL S M v).length ≤ (enL (bnS S v)).length := List.length_filter_le _ _
  exact ⟨Nat.le_trans (Nat.mul_le_mul_right _ h3) h1, Nat.le_trans h3 h2⟩
/-- What the model's search adds below one choice of the first sets. -/
def rnL (S : List (ByteArray × Int)) (P : List Nat) (v : Int) (k : Nat) (D : List Int) : List (List Int) := ((enL ((bnS S v).drop k)).map (D ++ ·)).filter (mxB S P)
theorem rn_end {S : List (ByteArray × Int)} {P : List Nat} {v : Int} {D : List Int} : rnL S P v S.length D = if mxB S P D = true then [D] else [] := by
  unfold rnL
  rw [List.drop_eq_nil_of_le (by rw [bn_len]; omega)]
  show [D ++ []].filter (mxB S P) = _
  rw [List.append_nil]
  cases h : mxB S P D <;> simp [h]
def rnU (S : List (ByteArray × Int)) (P : List Nat) (v : Int) (k : Nat) (D : List Int) (a : Int) (n : Nat) : List (List Int) := (List.range n).flatMap fun j : Nat => rnL S P v (k + 1) (D ++ [a + (j : Int)])
theorem rnU_step (S : List (ByteArray × Int)) (P : List Nat) (v : Int) (k : Nat) (D : List Int) (a : Int) (n : Nat) : rnU S P v k D a (n + 1) = rnU S P v k D a n ++ rnL S P v (k + 1) (D ++ [a + (n : Int)]) := by
  unfold rnU
  rw [List.range_succ, List.flatMap_append]
  simp
theorem rn_all {S : List (ByteArray × Int)} {P : List Nat} {v : Int} {k : Nat} {D : List Int} (h : k < S.length) : rnL S P v k D = rnU S P v k D (bnA S v k) (flZ (lvA S k) + 1 - bnA S v k).toNat := by
  unfold rnL rnU
  have e : (bnS S v).drop k = (bnA S v k, flZ (lvA S k)) :: (bnS S v).drop (k + 1) := by
    have h1 := bn_at (v := v) h
    have h2 := (List.getElem?_eq_some_iff.1 h1).1
    rw [List.drop_eq_getElem_cons h2]
    rw [List.getElem?_eq_getElem h2] at h1
    rw [Option.some.inj h1]
  rw [e]
  show List.filter (mxB S P) (List.map (D ++ ·) ((rgL (bnA S v k) (flZ (lvA S k))).flatMap fun x => (enL ((bnS S v).drop (k + 1))).map (x :: ·))) = _
  unfold rgL
  rw [List.flatMap_map, List.map_flatMap, List.filter_flatMap]
  congr 1
  funext j
  rw [List.map_map]
  congr 1
  apply List.map_congr_left
  intro r _
  simp
theorem rn_whole (S : List (ByteArray × Int)) (M : List (List Int)) (v : Int) : rnL S (psN S M (cnZ S).toNat) v 0 [] = mxL S M v := by
  unfold rnL mxL
  rw [List.drop_zero]
  congr 1
  simp
end Go.Proofs.Ytmcibcechffppaa

namespace Go.Proofs.Ytmcibcechffppaa
open Go.RowKit Go.Shelf
set_option maxRecDepth 100000

theorem own_same {w w' : World} {base e s n : Nat} {v : Value} {xs : List Value} (h : w.ownsRow base e s v n xs) (hk : ∀ (g : Nat) (cur : Array Value) (fz : Nat × Nat), w.heap[g]? = some (Obj.cells cur e fz) → w'.heap[g]? = w.heap[g]?) : w'.ownsRow base e s v n xs := by
  refine ⟨h.1, ?_⟩
  rcases h.2 with hn | ⟨g, cap, cur, rfl, hb, hgg, rest⟩
  · exact .inl hn
  · exact .inr ⟨g, cap, cur, rfl, hb, (hk g cur _ hgg).trans hgg, rest⟩
theorem own_typ {w : World} {base e s n : Nat} {v : Value} {xs : List Value} (h : w.ownsRow base e s v n xs) : ∀ k, v.ownBlock = some k → ∃ (cs : Array Value) (fz : Nat × Nat), w.heap[k]? = some (Obj.cells cs e fz) := by
  intro k hk
  rcases h.2 with ⟨rfl, _⟩ | ⟨g, cap, cur, rfl, _, hgg, _⟩
  · cases hk
  · injection hk with hk
    subst hk
    exact ⟨cur, _, hgg⟩
/-- Blocks of cells of other types than two stay. -/
def KxT (a b : Nat) (w w' : World) : Prop := w.heap.size ≤ w'.heap.size ∧ ∀ (g : Nat) (cur : Array Value) (e : Nat) (fz : Nat × Nat), w.heap[g]? = some (Obj.cells cur e fz) → e ≠ a → e ≠ b → w'.heap[g]? = w.heap[g]?
theorem KxT.refl (a b : Nat) (w : World) : KxT a b w w := ⟨Nat.le_refl _, fun _ _ _ _ _ _ _ => rfl⟩
theorem KxT.trans {a b : Nat} {w1 w2 w3 : World} (h : KxT a b w1 w2) (k : KxT a b w2 w3) : KxT a b w1 w3 := ⟨Nat.le_trans h.1 k.1, fun g cur e fz hg ha hb => by
  have e1 := h.2 g cur e fz hg ha hb
  exact (k.2 g cur e fz (e1.trans hg) ha hb).trans e1⟩
theorem KxT.of_below {a b : Nat} {w w' : World} (h : Below w.heap.size w w') : KxT a b w w' := ⟨h.size, fun g _ _ _ hg _ _ => h.block g (Array.getElem?_eq_some_iff.1 hg).1⟩
theorem KxT.of_set {a b : Nat} {w : World} {p : Addr} {cs : Array Value} {fz : Nat × Nat} (h : w.heap[p.block]? = some (Obj.cells cs a fz)) (u : Value) : KxT a b w (w.setCell p u) := ⟨by simp, fun g cur e fz2 hg ha _ => Below.heap_setCell _ _ _ _ (by rintro rfl; rw [h] at hg; cases hg; exact ha rfl)⟩
theorem KxT.of_grown {a b : Nat} {w w' : World} {r : Option Nat} (h : w.grownBy w' r) (hr : ∀ k, r = some k → ∃ (cs : Array Value) (fz : Nat × Nat), w.heap[k]? = some (Obj.cells cs b fz)) : KxT a b w w' := ⟨h.size, fun g cur e fz hg _ hb => h.block g (Array.getElem?_eq_some_iff.1 hg).1 (fun he => by
  obtain ⟨cs, fz2, hk⟩ := hr g he.symm
  rw [hk] at hg
  cases hg
  exact hb rfl)⟩
theorem KxT.own {a b : Nat} {w w' : World} {base e s n : Nat} {v : Value} {xs : List Value} (k : KxT a b w w') (h : w.ownsRow base e s v n xs) (ha : e ≠ a) (hb : e ≠ b) : w'.ownsRow base e s v n xs := own_same h fun g cur fz hg => k.2 g cur e fz hg ha hb

/-- A list of edits that a call owns: its row, the rows of its edits, no block twice. -/
def OwL (w : World) (lo : Nat) (v : Value) (T : List PR) : Prop :=
  w.ownsRow lo 62 1 v T.length (eC T) ∧ (∀ q ∈ T, w.ownsRow lo 3 1 q.v q.L.length (iC q.L)) ∧ (T.filterMap fun q => q.v.ownBlock).Nodup
theorem OwL.nil (w : World) (lo : Nat) : OwL w lo (.slice none 0 0) [] := ⟨World.ownsRow_nil _ _ _ _, (fun q h => by cases h), List.nodup_nil⟩
theorem OwL.below {w w' : World} {lo : Nat} {v : Value} {T : List PR} (h : OwL w lo v T) (hb : Below w.heap.size w w') : OwL w' lo v T := ⟨own_below h.1 hb, fun q hq => own_below (h.2.1 q hq) hb, h.2.2⟩
theorem OwL.more {w : World} {lo lo' : Nat} {v : Value} {T : List PR} (h : OwL w lo v T) (hl : lo' ≤ lo) : OwL w lo' v T := ⟨own_more h.1 hl, fun q hq => own_more (h.2.1 q hq) hl, h.2.2⟩
theorem OwL.lt {w : World} {lo : Nat} {v : Value} {T : List PR} (h : OwL w lo v T) : ∀ p ∈ T, ∀ k, p.v.ownBlock = some k → k < w.heap.size := fun p hp k hk => ((h.2.1 p hp).lt k hk).2
theorem OwL.set {w : World} {lo a : Nat} {v : Value} {T : List PR} {p : Addr} {cs : Array Value} {fz : Nat × Nat} (h : OwL w lo v T) (hp : w.heap[p.block]? = some (Obj.cells cs a fz)) (ha : 62 ≠ a) (ha2 : 3 ≠ a) (u : Value) : OwL (w.setCell p u) lo v T := by
  have k : ∀ e : Nat, e ≠ a → ∀ (g : Nat) (cur : Array Value) (fz2 : Nat × Nat), w.heap[g]? = some (Obj.cells cur e fz2) → (w.setCell p u).heap[g]? = w.heap[g]? := fun e he g cur fz2 hg => Below.heap_setCell _ _ _ _ (by rintro rfl; rw [hp] at hg; cases hg; exact he rfl)
  exact ⟨own_same h.1 (k _ ha), fun q hq => own_same (h.2.1 q hq) (k _ ha2), h.2.2⟩
theorem OwL.snoc {w1 w2 : World} {lo nq : Nat} {v v' : Value} {T : List PR} {q : PR} {o : Obj} (h : OwL w1 lo v T) (hg : (w1.alloc o).grownBy w2 v.ownBlock) (hrow : w2.ownsRow lo 62 1 v' (T.length + 1) (eC T ++ eC [q])) (hq : w1.ownsRow nq 3 1 q.v q.L.length (iC q.L)) (hlo : lo ≤ nq) (hfr : ∀ p ∈ T, ∀ k, p.v.ownBlock = some k → k < nq) : OwL w2 lo v' (T ++ [q]) := by
  refine ⟨own_eq hrow (by simp) (by unfold eC; rw [List.map_append]), fun p hp => ?_, ?_⟩
  · rcases List.mem_append.1 hp with h1 | h1
    · exact ((h.2.1 p h1).alloc o).kept hg (rows_apart (h.2.1 p h1) h.1 (by decide))
    · obtain rfl := List.mem_singleton.1 h1
      exact own_more ((hq.alloc o).kept hg (rows_apart hq h.1 (by decide))) hlo
  · rw [List.filterMap_append, List.nodup_append]
    refine ⟨h.2.2, ?_, ?_⟩
    · cases e : q.v.ownBlock with
      | none => simp [List.filterMap, e]
      | some k => simp [List.filterMap, e]
    · intro a ha b hb
      obtain ⟨p, hp, ep⟩ := List.mem_filterMap.1 ha
      obtain ⟨r, hr, er⟩ := List.mem_filterMap.1 hb
      obtain rfl := List.mem_singleton.1 hr
      have h1 := hfr p hp a ep
      have h2 := (hq.lt b er).1
      omega
theorem OwL.owE {w : World} {lo : Nat} {v : Value} {T : List PR} (h : OwL w lo v T) : OwE w lo w.heap.size 62 3 v T := ⟨OwR.of h.1, ⟨fun q hq => OwR.of (h.2.1 q hq), h.2.2⟩, fun q hq k hk e => by
  rcases rows_apart (h.2.1 q hq) h.1 (by decide) with h0 | h0
  · rw [h0] at e; cases e
  · exact h0 (e.trans hk.symm)⟩
/-- A list of edits and a Bool, handed back. -/
def eE (b : Bool) (L : List (List Int)) : List (List Int) := if b then L else []
theorem eE_yes {b : Bool} (L : List (List Int)) (h : b = true) : eE b L = L := by rw [h]; rfl
theorem eE_no {b : Bool} (L : List (List Int)) (h : b = false) : eE b L = [] := by rw [h]; rfl
def RetEL (L : List (List Int)) (b : Bool) (w : World) (e : Ending) (w' : World) : Prop := ∃ v T, e = .returned (.tuple #[v, .bool b]) ∧ eM T = L ∧ OwL w' w.heap.size v T ∧ Below w.heap.size w w'
theorem retEL_no {L : List (List Int)} {b : Bool} {w w' : World} (hb : b = false) (h : Below w.heap.size w w') : RetEL (eE b L) b w (.returned (.tuple #[.slice none 0 0, .bool false])) w' := ⟨_, [], by rw [hb], (eE_no L hb).symm, OwL.nil _ _, h⟩
theorem retEL_yes {L : List (List Int)} {b : Bool} {w w' : World} {v : Value} {T : List PR} (hb : b = true) (hT : eM T = L) (ho : OwL w' w.heap.size v T) (h : Below w.heap.size w w') : RetEL (eE b L) b w (.returned (.tuple #[v, .bool true])) w' := ⟨v, T, by rw [hb], by rw [eE_yes L hb]; exact hT, ho, h⟩
/-- A schema's cells, read at a known place. -/
theorem sin_box {w : World} {x : Option Addr} {c : Nat} {S : List (ByteArray × Int)} (h : SIn w x c S) (hs : schB S = true) : ∃ b off, x = some ⟨b, off, none⟩ ∧ b < w.heap.size ∧ ∀ j, j < S.length → w.cell? ⟨b, off + j * 2, none⟩ = some (.string (nmA S j)) ∧ w.cell? ⟨b, off + j * 2 + 1, none⟩ = some (.int .i64 (lvA S j)) := by
  have hsl := schB_len hs
  obtain ⟨b, off, _, _, hx, hb, _, _, _⟩ := h.rd.var (i := 0) (by omega)
  refine ⟨b, off, hx, hb, fun j hj => ?_⟩
  obtain ⟨b', off', nm, lv, hx', _, hSj, c0, c1⟩ := h.rd.var (i := j) hj
  rw [hx] at hx'
  injection hx' with hx'
  injection hx' with e1 e2
  subst e1 e2
  have := at_nm hj
  rw [hSj] at this
  injection this with this
  injection this with e3 e4
  rw [← e3, ← e4]
  exact ⟨c0, c1⟩
end Go.Proofs.Ytmcibcechffppaa

namespace Go.Proofs.Ytmcibcechffppaa
open Go.RowKit Go.Shelf
set_option maxRecDepth 100000

/-- What such an iterator promises: its own blocks end at hi; at each yield J holds of what has come and R of what is handed over; between yields it writes its own blocks alone. -/
def GapSeq {β : Type} (n : Nat) (P : Program) (gf : Nat) (lb : Array Value) (val : β → Value) (Kp : Nat → World → World → Prop) (R : Nat → List β → β → World → Prop) (S : List β → Prop) (w : World) : Prop :=
  ∀ (l : Nat) (J Jx : Nat → List β → World → Prop) (W : World), Below w.heap.size w W → (∀ hi, OwnFrom W.heap.size (J hi)) → (∀ hi, OwnFrom W.heap.size (Jx hi)) →
    (∀ hi pre A B g, J hi pre A → A.grownBy B (some g) → W.heap.size ≤ g → g < hi → J hi pre B) →
    (∀ hi pre x W1, W.heap.size ≤ hi → J hi pre W1 → R hi pre x W1 → YieldAt Fence.wide (n - 1) P l #[val x] W1 fun e W' => KeepsFrom W.heap.size W1 W' ∧ ((e = .returned (.bool true) ∧ J hi (pre ++ [x]) W' ∧ Kp hi W1 W') ∨ (e = .returned (.bool false) ∧ Jx hi (pre ++ [x]) W'))) →
    (∀ hi W1, W.grownBy W1 none → W.heap.size ≤ hi → hi ≤ W1.heap.size → J hi [] W1) →
    CallsIn Fence.wide n P gf (#[.func (.yield l) #[] #[]] ++ lb) W fun e W' => (∃ v, e = .returned v) ∧ ((∃ hi ys, S ys ∧ J hi ys W') ∨ ∃ hi pre, Jx hi pre W')

theorem range_gap {β : Type} {n : Nat} {P : Program} {g : Operand} {ps : Array Tmp} {assign body : Code} {Q : Exit → Act → World → Prop} {a : Act} {w w0 : World} {gf : Nat} {lb : Array Value} (h1 : 1 ≤ n)
    (hg : a.eval g = .func (.func gf) #[] lb) (eg : ∀ args w, (callFunc gf args).run P w = .ok (.enter gf args) w) (hps : ps.size = 1)
    (val : β → Value) (Kp : Nat → World → World → Prop) (R : Nat → List β → β → World → Prop) (S : List β → Prop) (hit : GapSeq (n - 1) P gf lb val Kp R S w0) (hb0 : Below w0.heap.size w0 w)
    (hKt : ∀ (hi : Nat) (A B C : World), Kp hi A B → Kp hi B C → Kp hi A C) (hKb : ∀ (hi : Nat) (W : World) (l : Nat) (o o' : Obj), w.heap.size ≤ l → W.heap[l]? = some o → o.isCells = false → o.isWalk = false → Kp hi W (W.putObj l o'))
    (I Ix : Nat → List β → World → Prop) (hI : ∀ hi, OwnFrom w.heap.size (I hi)) (hIx : ∀ hi, OwnFrom w.heap.size (Ix hi)) (hIg : ∀ hi pre A B g, I hi pre A → A.grownBy B (some g) → w.heap.size ≤ g → g < hi → I hi pre B) (h0 : ∀ hi, w.heap.size ≤ hi → I hi [] w) (Ax : Nat → List β → β → Act → World → Prop) (hAx : ∀ hi pre x a', OwnFrom w.heap.size (fun (_ : Unit) W => Ax hi pre x a' W))
    (hassign : ∀ (hi l : Nat) (pre : List β) (x : β) (W : World) (K : Act → World → Prop), w.heap.size + 2 ≤ hi → I hi pre W → R hi pre x W → (∀ a' W', KeepsFrom w.heap.size W W' → Kp hi W W' → I hi pre W' → Ax hi pre x a' W' → K a' W') →
      assign.wpIn (Fence.wide.inRound l) (n - 1 - 1) P (Exit.then K (fun _ _ _ => False)) { tmps := (ps.zip #[val x]).foldl (fun t (p, v) => t.setIfInBounds p v) a.tmps, defers := [] } W)
    (hbody : ∀ (hi l : Nat) (pre : List β) (x : β) (a' : Act) (W : World), w.heap.size + 2 ≤ hi → w.heap.size ≤ l → (∃ r, W.heap[l]? = some (.loop r)) → I hi pre W → Ax hi pre x a' W → body.wpIn (Fence.wide.inRound l) (n - 1 - 1) P (RowPost w.heap.size (Kp hi) (I hi) (Ix hi) (pre ++ [x]) W) a' W)
    (hdone : ∀ (hi : Nat) (ys : List β) (W : World), S ys → I hi ys W → W.heap[w.heap.size]? = some (.deferred (some [])) → Q .normal { a with defers := { target := .collected w.heap.size, args := #[] } :: a.defers } W)
    (hstop : ∀ (hi : Nat) (pre : List β) (W : World), Ix hi pre W → W.heap[w.heap.size]? = some (.deferred (some [])) → Code.ret.wpIn Fence.wide n P Q { a with defers := { target := .collected w.heap.size, args := #[] } :: a.defers } W) :
    (Code.rangeFunc g ps assign body).wpIn Fence.wide n P Q a w := by
  refine wpIn_rangeFunc ?_
  intro fn hfn
  rw [show Fence.wide.round = none from rfl]
  let r : LoopState → Option Code → Loop := fun st pe => { state := st, pending := pe, fn := fn, tmps := a.tmps, params := ps, assign := assign, body := body, defers := w.heap.size }
  let W1 := (w.alloc (.deferred (some []))).alloc (.loop (r .ready none))
  have hsz : (w.alloc (.deferred (some []))).heap.size = w.heap.size + 1 := World.size_alloc _ _
  have hL : W1.heap[w.heap.size + 1]? = some (.loop (r .ready none)) := by rw [← hsz]; exact World.alloc_heap_new _ _
  have hD : W1.heap[w.heap.size]? = some (.deferred (some [])) := (Below.heap_alloc _ _ _ (by omega)).trans (World.alloc_heap_new w _)
  have hs1 : W1.heap.size = w.heap.size + 2 := by show ((w.alloc _).alloc _).heap.size = _; rw [World.size_alloc, World.size_alloc]
  have hIW : ∀ hi, W1.heap.size ≤ hi → I hi [] W1 := fun hi hh => (hI hi).alloc _ ((hI hi).alloc _ (h0 hi (by omega)))
  have hbW : Below w0.heap.size w0 W1 := hb0.trans (((Below.refl _ w).alloc (Nat.le_refl _) _ |>.alloc (by omega) _).mono hb0.size)
  refine ⟨w.heap.size + 1, [{ target := .collected w.heap.size, args := #[] }], W1, { target := .fn (.func gf) lb, args := #[.func (.yield (w.heap.size + 1)) #[] #[]] }, W1, gf, #[.func (.yield (w.heap.size + 1)) #[] #[]] ++ lb, W1, run_enterLoop_outer _ _ _ _ _, ?_, fun _ _ => trivial, ?_, fun _ => h1, ?_⟩
  · simp only [resolve, hg]
    simp [go_sem]
  · simp [invoke, go_sem, eg]
  refine (hit (w.heap.size + 1) (fun hi pre W => I hi pre W ∧ W.heap[w.heap.size + 1]? = some (.loop (r .ready none)) ∧ W.heap[w.heap.size]? = some (.deferred (some [])))
    (fun hi pre W => Ix hi pre W ∧ W.heap[w.heap.size + 1]? = some (.loop (r .done (some .ret))) ∧ W.heap[w.heap.size]? = some (.deferred (some []))) W1 hbW ?_ ?_ ?_ ?_ ?_).mono ?_
  · rintro hi pre A B row ⟨i, l, d⟩ hgr hrow
    exact ⟨hI hi pre A B row i hgr (fun k hk => ⟨by have := (hrow k hk).1; omega, (hrow k hk).2⟩), (hgr.block _ (Array.getElem?_eq_some_iff.1 l).1 (fun h => by have := (hrow _ h.symm).1; omega)).trans l, (hgr.block _ (Array.getElem?_eq_some_iff.1 d).1 (fun h => by have := (hrow _ h.symm).1; omega)).trans d⟩
  · rintro hi pre A B row ⟨i, l, d⟩ hgr hrow
    exact ⟨hIx hi pre A B row i hgr (fun k hk => ⟨by have := (hrow k hk).1; omega, (hrow k hk).2⟩), (hgr.block _ (Array.getElem?_eq_some_iff.1 l).1 (fun h => by have := (hrow _ h.symm).1; omega)).trans l, (hgr.block _ (Array.getElem?_eq_some_iff.1 d).1 (fun h => by have := (hrow _ h.symm).1; omega)).trans d⟩
  · rintro hi pre A B g ⟨i, l, d⟩ hgr h1 h2
    exact ⟨hIg hi pre A B g i hgr (by omega) h2, (hgr.block _ (Array.getElem?_eq_some_iff.1 l).1 (fun h => by injection h with h; omega)).trans l, (hgr.block _ (Array.getElem?_eq_some_iff.1 d).1 (fun h => by injection h with h; omega)).trans d⟩
  · rintro hi pre x W hhi ⟨i, l, d⟩ hr
    refine ⟨fn, _, assign, body, run_yield (args := #[val x]) l (by show 1 = ps.size; omega), roundIn_of_wpIn hfn (hassign hi _ pre x W _ (by omega) i hr ?_)⟩
    rintro a' Wa ka kpa ia ax
    replace l := ka.same _ _ (by omega) l rfl
    replace d := ka.same _ _ (Nat.le_refl _) d rfl
    have hlt := (Array.getElem?_eq_some_iff.1 l).1
    refine ⟨_, run_beginRound l rfl, ?_⟩
    have l2 : (Wa.putObj (w.heap.size + 1) (.loop (r .busy none))).heap[w.heap.size + 1]? = some (.loop (r .busy none)) := World.putObj_heap_same hlt
    have d2 : (Wa.putObj (w.heap.size + 1) (.loop (r .busy none))).heap[w.heap.size]? = some (.deferred (some [])) := (World.putObj_heap_other (by omega)).trans d
    refine wpIn_mono (hbody hi _ pre x a' _ (by omega) (by omega) ⟨_, l2⟩ ((hI hi).putObj _ ia (by omega) l rfl) ((hAx hi pre x a').putObj (s := ()) _ ax (by omega) l rfl)) ?_
    rintro e a3 W3 hp
    cases e with
    | normal =>
      obtain ⟨hk, hkp, hi3⟩ := hp
      have l3 := hk.same _ _ (by omega) l2 rfl
      have d3 := hk.same _ _ (Nat.le_refl _) d2 rfl
      have kp2 : Kp hi Wa (Wa.putObj (w.heap.size + 1) (.loop (r .busy none))) := hKb hi _ _ _ _ (by omega) l rfl rfl
      exact ⟨_, _, run_endRound none l3, (keeps_mono ka (by omega)).trans ((keeps_put _ _ (by omega)).trans ((keeps_mono hk (by omega)).trans (keeps_put _ _ (by omega)))), .inl ⟨rfl, ⟨(hI hi).putObj _ hi3 (by omega) l3 rfl, World.putObj_heap_same (Array.getElem?_eq_some_iff.1 l3).1, (World.putObj_heap_other (by omega)).trans d3⟩, hKt hi _ _ _ kpa (hKt hi _ _ _ (hKt hi _ _ _ kp2 hkp) (hKb hi _ _ _ _ (by omega) l3 rfl rfl))⟩⟩
    | ret =>
      obtain ⟨hk, hx⟩ := hp
      have l3 := hk.same _ _ (by omega) l2 rfl
      have d3 := hk.same _ _ (Nat.le_refl _) d2 rfl
      exact ⟨_, _, run_endRound (some .ret) l3, (keeps_mono ka (by omega)).trans ((keeps_put _ _ (by omega)).trans ((keeps_mono hk (by omega)).trans (keeps_put _ _ (by omega)))), .inr ⟨rfl, (hIx hi).putObj _ hx (by omega) l3 rfl, World.putObj_heap_same (Array.getElem?_eq_some_iff.1 l3).1, (World.putObj_heap_other (by omega)).trans d3⟩⟩
    | exit id => exact hp.elim
    | goto t => exact hp.elim
    | panic ch => exact hp.elim
    | outgrown => exact hp.elim
  · rintro hi Wx hgr h1 h2
    have hl := hL
    have hd := hD
    exact ⟨hI hi [] W1 Wx none (hIW hi h1) hgr (fun k hk => by cases hk), (hgr.block _ (Array.getElem?_eq_some_iff.1 hL).1 (fun h => by cases h)).trans hL, (hgr.block _ (Array.getElem?_eq_some_iff.1 hD).1 (fun h => by cases h)).trans hD⟩
  · rintro e W2 ⟨⟨v, rfl⟩, ⟨hi, ys, hs, i, l, d⟩ | ⟨hi, pre, hx, l, d⟩⟩
    · exact ⟨none, _, run_endLoop l (by intro h; cases h), hdone hi ys _ hs ((hI hi).putObj _ i (by omega) l rfl) ((World.putObj_heap_other (by omega)).trans d)⟩
    · exact ⟨some .ret, _, run_endLoop l (by intro h; cases h), hstop hi pre _ ((hIx hi).putObj _ hx (by omega) l rfl) ((World.putObj_heap_other (by omega)).trans d)⟩
end Go.Proofs.Ytmcibcechffppaa
