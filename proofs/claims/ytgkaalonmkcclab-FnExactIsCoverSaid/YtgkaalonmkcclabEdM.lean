/-
  Plain mathematics of chapter 5: sets of levels as numbers, edits as lists of them. No program's text.
-/
import Derived.Test.YtgkaalonmkcclabSchM
import Derived.Laws.BitsLemmas
import Derived.Laws.BitsAllLaws
namespace Go.Proofs.Ytgkaalonmkcclab
open Go.RowKit

/-- The set of all levels; is a level in a set? -/
def flZ (lv : Int) : Int := 2 ^ lv.toNat - 1
def hsB (x l : Int) : Bool := decide (x.toNat / 2 ^ l.toNat % 2 = 1)
theorem lv_cases {lv : Int} (h : 2 ≤ lv ∧ lv ≤ 8) : lv = 2 ∨ lv = 3 ∨ lv = 4 ∨ lv = 5 ∨ lv = 6 ∨ lv = 7 ∨ lv = 8 := by omega
theorem flZ_bd {lv : Int} (h : 2 ≤ lv ∧ lv ≤ 8) : 3 ≤ flZ lv ∧ flZ lv ≤ 255 := by rcases lv_cases h with rfl | rfl | rfl | rfl | rfl | rfl | rfl <;> decide
theorem flZ_lt {lv : Int} {x : Int} (h0 : 0 ≤ x) (h1 : x ≤ flZ lv) : x.toNat < 2 ^ lv.toNat := by
  unfold flZ at h1
  have : ((x.toNat : Nat) : Int) < ((2 ^ lv.toNat : Nat) : Int) := by push_cast; omega
  exact_mod_cast this
theorem hs_far {x : Int} {l : Nat} (h : x.toNat < 2 ^ l) {k : Nat} (hk : l ≤ k) : hsB x k = false := by
  unfold hsB
  have h2 : 2 ^ l ≤ 2 ^ k := Nat.pow_le_pow_right (by decide) hk
  rw [Int.toNat_natCast, Nat.div_eq_of_lt (by omega)]
  rfl

theorem wrap62 (n : Int) (h0 : 0 ≤ n) (h1 : n < 2 ^ 62) : IntKind.i64.wrap n = n := IntWalk.i64_in _ (by omega)
theorem and64 {a b : Nat} (ha : a < 2 ^ 62) (hb : b < 2 ^ 62) : bits .and .i64 (a : Int) (b : Int) = ((a &&& b : Nat) : Int) := (bits_nat .i64 62 (by decide) wrap62 a b ha hb).1
theorem or64 {a b : Nat} (ha : a < 2 ^ 62) (hb : b < 2 ^ 62) : bits .or .i64 (a : Int) (b : Int) = ((a ||| b : Nat) : Int) := (bits_nat .i64 62 (by decide) wrap62 a b ha hb).2
/-- The bit of a level, as the program and the model find it. -/
theorem and_bit {x : Int} (h0 : 0 ≤ x) (h1 : x < 2 ^ 62) (l : Nat) (hl : l < 62) : bits .and .i64 x (2 ^ l : Int) = if hsB x l then 2 ^ l else 0 := by
  obtain ⟨a, rfl⟩ := Int.eq_ofNat_of_zero_le h0
  have ha : a < 2 ^ 62 := by exact_mod_cast h1
  have hb : (2 : Nat) ^ l < 2 ^ 62 := Nat.pow_lt_pow_right (by decide) hl
  have e := and64 ha hb
  push_cast at e
  rw [e, nat_bit]
  unfold hsB
  rw [Int.toNat_natCast, Int.toNat_natCast]
  cases hh : decide (a / 2 ^ l % 2 = 1)
  · rw [decide_eq_false_iff_not] at hh
    have : a / 2 ^ l % 2 = 0 := by omega
    simp [this]
  · rw [decide_eq_true_eq] at hh
    simp [hh]
theorem shr_one {x : Int} (h0 : 0 ≤ x) (h1 : x < 2 ^ 62) (l : Nat) : bits .and .i64 (x / 2 ^ l) 1 = if hsB x l then 1 else 0 := by
  obtain ⟨a, rfl⟩ := Int.eq_ofNat_of_zero_le h0
  have ha : a < 2 ^ 62 := by exact_mod_cast h1
  have hb : a / 2 ^ l < 2 ^ 62 := Nat.lt_of_le_of_lt (Nat.div_le_self _ _) ha
  have e := and64 (b := 1) hb (by decide)
  push_cast at e
  rw [e, Nat.and_one_is_mod]
  unfold hsB
  rw [Int.toNat_natCast, Int.toNat_natCast]
  cases hh : decide (a / 2 ^ l % 2 = 1)
  · rw [decide_eq_false_iff_not] at hh
    have : a / 2 ^ l % 2 = 0 := by omega
    simp [this]
  · rw [decide_eq_true_eq] at hh
    simp [hh]

/-- Is it an edit for the schema? -/
def edB (S : List (ByteArray × Int)) (E : List Int) : Bool := decide (E.length = S.length) && (S.zip E).all fun q => decide (1 ≤ q.2) && decide (q.2 ≤ flZ q.1.2)
theorem ed_len {S : List (ByteArray × Int)} {E : List Int} (h : edB S E = true) : E.length = S.length := by unfold edB at h; simp only [Bool.and_eq_true, decide_eq_true_eq] at h; exact h.1
theorem ed_no {S : List (ByteArray × Int)} {E : List Int} (h : E.length ≠ S.length) : edB S E = false := by unfold edB; rw [decide_eq_false h]; rfl
theorem ed_bad {S : List (ByteArray × Int)} {E : List Int} {i : Nat} {nm : ByteArray} {lv x : Int} (h1 : S[i]? = some (nm, lv)) (h2 : E[i]? = some x) (h : ¬ (1 ≤ x ∧ x ≤ flZ lv)) : edB S E = false := by
  unfold edB
  have : ((S.zip E).all fun q => decide (1 ≤ q.2) && decide (q.2 ≤ flZ q.1.2)) = false := by
    rw [List.all_eq_false]
    refine ⟨((nm, lv), x), List.mem_of_getElem? (zip_at h1 h2), ?_⟩
    simp only [Bool.and_eq_true, decide_eq_true_eq]
    exact h
  rw [this, Bool.and_false]
theorem ed_get {S : List (ByteArray × Int)} {E : List Int} (h : edB S E = true) {i : Nat} {nm : ByteArray} {lv x : Int} (h1 : S[i]? = some (nm, lv)) (h2 : E[i]? = some x) : 1 ≤ x ∧ x ≤ flZ lv := by
  by_cases hh : 1 ≤ x ∧ x ≤ flZ lv
  · exact hh
  · rw [ed_bad h1 h2 hh] at h; cases h
theorem ed_all {S : List (ByteArray × Int)} {E : List Int} (hl : E.length = S.length) (h : ∀ j, j < S.length → ∃ nm lv x, S[j]? = some (nm, lv) ∧ E[j]? = some x ∧ 1 ≤ x ∧ x ≤ flZ lv) : edB S E = true := by
  unfold edB
  rw [decide_eq_true hl, Bool.true_and, List.all_eq_true]
  intro q hq
  obtain ⟨j, hj, e⟩ := List.getElem_of_mem hq
  have hjs : j < S.length := by rw [List.length_zip] at hj; omega
  obtain ⟨nm, lv, v, a, b, c, d⟩ := h j hjs
  have e2 := List.getElem?_eq_getElem hj
  rw [zip_at a b, e] at e2
  cases e2
  simp only [Bool.and_eq_true, decide_eq_true_eq]
  exact ⟨c, d⟩
/-- The cells of an edit for a schema: small numbers. -/
theorem ed_at {S : List (ByteArray × Int)} {E : List Int} (hs : schB S = true) (h : edB S E = true) {i : Nat} (hi : i < S.length) : ∃ nm lv x, S[i]? = some (nm, lv) ∧ E[i]? = some x ∧ 1 ≤ x ∧ x ≤ flZ lv ∧ 2 ≤ lv ∧ lv ≤ 8 ∧ x ≤ 255 := by
  have hl := ed_len h
  have h1 : S[i]? = some ((S[i]'hi).1, (S[i]'hi).2) := List.getElem?_eq_getElem hi
  have h2 : E[i]? = some (E[i]'(by omega)) := List.getElem?_eq_getElem (by omega)
  have h3 := schB_lv hs h1
  have h4 := ed_get h h1 h2
  have := flZ_bd h3
  exact ⟨_, _, _, h1, h2, h4.1, h4.2, h3.1, h3.2, by omega⟩

/-- Do values fail an edit? -/
def fsB (E V : List Int) : Bool := (E.zip V).all fun q => hsB q.1 q.2
theorem zipI_at {E V : List Int} {i : Nat} {x v : Int} (h1 : E[i]? = some x) (h2 : V[i]? = some v) : (E.zip V)[i]? = some (x, v) := List.getElem?_zip_eq_some.2 ⟨h1, h2⟩
theorem fs_bad {E V : List Int} {i : Nat} {x v : Int} (h1 : E[i]? = some x) (h2 : V[i]? = some v) (h : hsB x v = false) : fsB E V = false := by
  unfold fsB
  rw [List.all_eq_false]
  exact ⟨(x, v), List.mem_of_getElem? (zipI_at h1 h2), by simp [h]⟩
theorem fs_all {E V : List Int} (h : ∀ j, j < V.length → ∃ x v, E[j]? = some x ∧ V[j]? = some v ∧ hsB x v = true) : fsB E V = true := by
  unfold fsB
  rw [List.all_eq_true]
  intro q hq
  obtain ⟨j, hj, e⟩ := List.getElem_of_mem hq
  have hjs : j < V.length := by rw [List.length_zip] at hj; omega
  obtain ⟨x, v, a, b, c⟩ := h j hjs
  have e2 := List.getElem?_eq_getElem hj
  rw [zipI_at a b, e] at e2
  cases e2
  exact c

/-- Is one set a part of the other? The common levels. -/
def sbB (x y : Int) : Bool := decide (y.toNat &&& x.toNat = y.toNat)
def ctB (E F : List Int) : Bool := (E.zip F).all fun q => sbB q.1 q.2
theorem ct_bad {E F : List Int} {i : Nat} {x y : Int} (h1 : E[i]? = some x) (h2 : F[i]? = some y) (h : sbB x y = false) : ctB E F = false := by
  unfold ctB
  rw [List.all_eq_false]
  exact ⟨(x, y), List.mem_of_getElem? (zipI_at h1 h2), by simp [h]⟩
theorem ct_all {E F : List Int} {n : Nat} (hn : E.length ≤ n) (h : ∀ j, j < n → ∃ x y, E[j]? = some x ∧ F[j]? = some y ∧ sbB x y = true) : ctB E F = true := by
  unfold ctB
  rw [List.all_eq_true]
  intro q hq
  obtain ⟨j, hj, e⟩ := List.getElem_of_mem hq
  have hjs : j < n := by rw [List.length_zip] at hj; omega
  obtain ⟨x, v, a, b, c⟩ := h j hjs
  have e2 := List.getElem?_eq_getElem hj
  rw [zipI_at a b, e] at e2
  cases e2
  exact c
theorem and_sub {x y : Int} (h0 : 0 ≤ x) (h1 : x ≤ 255) (h2 : 0 ≤ y) (h3 : y ≤ 255) : (bits .and .i64 y x = y) ↔ sbB x y = true := by
  obtain ⟨a, rfl⟩ := Int.eq_ofNat_of_zero_le h0
  obtain ⟨b, rfl⟩ := Int.eq_ofNat_of_zero_le h2
  rw [and64 (by omega) (by omega)]
  unfold sbB
  rw [Int.toNat_natCast, Int.toNat_natCast, decide_eq_true_eq]
  exact ⟨fun h => by exact_mod_cast h, fun h => by exact_mod_cast h⟩
theorem nat_sub0 (a b : BitVec 64) : (b &&& ~~~a = 0#64) ↔ b &&& a = b := by
  constructor
  · intro h
    ext i hi
    have := congrArg (fun z => z[i]) h
    simp at this ⊢
    cases hb : b[i] <;> simp_all
  · intro h
    ext i hi
    have := congrArg (fun z => z[i]) h
    simp at this ⊢
    cases hb : b[i] <;> simp_all
theorem andNot_sub {x y : Int} (h0 : 0 ≤ x) (h1 : x ≤ 255) (h2 : 0 ≤ y) (h3 : y ≤ 255) : (bits .andNot .i64 y x = 0) ↔ sbB x y = true := by
  obtain ⟨a, rfl⟩ := Int.eq_ofNat_of_zero_le h0
  obtain ⟨b, rfl⟩ := Int.eq_ofNat_of_zero_le h2
  unfold sbB bits
  simp only [BitVec.ofInt_natCast, Int.toNat_natCast, decide_eq_true_eq]
  have hb : (BitVec.ofNat 64 b).toNat = b := by rw [BitVec.toNat_ofNat, Nat.mod_eq_of_lt (by omega)]
  have ha : (BitVec.ofNat 64 a).toNat = a := by rw [BitVec.toNat_ofNat, Nat.mod_eq_of_lt (by omega)]
  have hz : (BitVec.ofNat 64 b &&& ~~~ BitVec.ofNat 64 a).toNat ≤ b := by
    rw [BitVec.toNat_and, hb]
    exact Nat.and_le_left
  have hw : IntKind.i64.wrap (((BitVec.ofNat 64 b &&& ~~~ BitVec.ofNat 64 a).toNat : Nat) : Int) = (BitVec.ofNat 64 b &&& ~~~ BitVec.ofNat 64 a).toNat := wrap62 _ (by omega) (by omega)
  show IntKind.i64.wrap (((BitVec.ofNat 64 b &&& ~~~ BitVec.ofNat 64 a).toNat : Nat) : Int) = 0 ↔ _
  rw [hw]
  have e1 : (((BitVec.ofNat 64 b &&& ~~~ BitVec.ofNat 64 a).toNat : Nat) : Int) = 0 ↔ BitVec.ofNat 64 b &&& ~~~ BitVec.ofNat 64 a = 0#64 := by
    rw [← BitVec.toNat_inj]
    simp only [BitVec.toNat_ofNat, Nat.zero_mod]
    omega
  rw [e1, nat_sub0, ← BitVec.toNat_inj, BitVec.toNat_and, ha, hb]

/-- The meeting edit. -/
def meI (x y : Int) : Int := ((x.toNat &&& y.toNat : Nat) : Int)
def meL (E F : List Int) : List Int := List.zipWith meI E F
theorem meL_len {E F : List Int} (h : E.length = F.length) : (meL E F).length = E.length := by unfold meL; rw [List.length_zipWith]; omega
theorem meL_at {E F : List Int} {i : Nat} {x y : Int} (h1 : E[i]? = some x) (h2 : F[i]? = some y) : (meL E F)[i]? = some (meI x y) := by
  unfold meL
  rw [List.getElem?_zipWith, h1, h2]
theorem and_me {x y : Int} (h0 : 0 ≤ x) (h1 : x ≤ 255) (h2 : 0 ≤ y) (h3 : y ≤ 255) : bits .and .i64 x y = meI x y := by
  obtain ⟨a, rfl⟩ := Int.eq_ofNat_of_zero_le h0
  obtain ⟨b, rfl⟩ := Int.eq_ofNat_of_zero_le h2
  rw [and64 (by omega) (by omega)]
  rfl
theorem me_bd {x y : Int} (h0 : 0 ≤ x) : 0 ≤ meI x y ∧ meI x y ≤ x := by
  unfold meI
  have := Nat.and_le_left (n := x.toNat) (m := y.toNat)
  omega
/-- Is there a meeting edit? -/
def meB (E F : List Int) : Bool := (meL E F).all fun z => decide (z ≠ 0)
theorem me_ed {S : List (ByteArray × Int)} {E F : List Int} (hs : schB S = true) (hE : edB S E = true) (hF : edB S F = true) : edB S (meL E F) = meB E F := by
  have l1 := ed_len hE
  have l2 := ed_len hF
  have hl : (meL E F).length = S.length := by rw [meL_len (by omega), l1]
  rw [Bool.eq_iff_iff]
  constructor
  · intro h
    unfold meB
    rw [List.all_eq_true]
    intro z hz
    obtain ⟨j, hj, e⟩ := List.getElem_of_mem hz
    obtain ⟨nm, lv, x, a, b, c, _⟩ := ed_at hs h (i := j) (by omega)
    have : z = x := by have := List.getElem?_eq_getElem hj; rw [b, e] at this; cases this; rfl
    simp only [decide_eq_true_eq]
    omega
  · intro h
    unfold meB at h
    rw [List.all_eq_true] at h
    refine ed_all hl fun j hj => ?_
    obtain ⟨nm, lv, x, a, b, c, d, _⟩ := ed_at hs hE (i := j) hj
    obtain ⟨nm2, lv2, y, a2, b2, c2, _⟩ := ed_at hs hF (i := j) hj
    have hm := meL_at b b2
    have h1 := h _ (List.mem_of_getElem? hm)
    simp only [decide_eq_true_eq] at h1
    have h2 := me_bd (x := x) (y := y) (by omega)
    exact ⟨nm, lv, _, a, hm, by omega, by omega⟩
theorem meB_bad {E F : List Int} {i : Nat} {x y : Int} (h1 : E[i]? = some x) (h2 : F[i]? = some y) (h : meI x y = 0) : meB E F = false := by
  unfold meB
  rw [List.all_eq_false]
  exact ⟨_, List.mem_of_getElem? (meL_at h1 h2), by simp [h]⟩

/-- The levels in a set. -/
def lvsUp (x : Int) (n : Nat) : List Int := ((List.range n).filter fun l : Nat => hsB x l).map fun l : Nat => (l : Int)
def lvsL (x : Int) : List Int := lvsUp x 8
theorem lvsUp_zero (x : Int) : lvsUp x 0 = [] := rfl
theorem lvsUp_yes {x : Int} {n : Nat} (h : hsB x n = true) : lvsUp x (n + 1) = lvsUp x n ++ [(n : Int)] := by
  unfold lvsUp
  rw [List.range_succ, List.filter_append, List.map_append]
  simp [h]
theorem lvsUp_no {x : Int} {n : Nat} (h : hsB x n = false) : lvsUp x (n + 1) = lvsUp x n := by
  unfold lvsUp
  rw [List.range_succ, List.filter_append, List.map_append]
  simp [h]
theorem lvsUp_stop {x : Int} {i : Nat} (h : x.toNat < 2 ^ i) : ∀ k, lvsUp x (i + k) = lvsUp x i
  | 0 => rfl
  | k + 1 => by
    rw [← Nat.add_assoc, lvsUp_no (hs_far h (by omega)), lvsUp_stop h k]
theorem lvsUp_all {x : Int} {i : Nat} (h : x.toNat < 2 ^ i) (hi : i ≤ 8) : lvsUp x i = lvsL x := by
  have := lvsUp_stop h (8 - i)
  rw [show i + (8 - i) = 8 by omega] at this
  exact this.symm
theorem lvsUp_len (x : Int) (n : Nat) : (lvsUp x n).length ≤ n := by
  unfold lvsUp
  rw [List.length_map]
  exact Nat.le_trans (List.length_filter_le _ _) (by simp)
theorem lvsL_len (x : Int) : (lvsL x).length ≤ 8 := lvsUp_len x 8
theorem lvs_i64 (x : Int) : ∀ n ∈ lvsL x, 0 ≤ n ∧ n < 8 := by
  intro n hn
  unfold lvsL lvsUp at hn
  obtain ⟨l, hl, rfl⟩ := List.mem_map.1 hn
  have := List.mem_range.1 (List.mem_filter.1 hl).1
  omega

/-- How many lists of values fail an edit. -/
def cfZ (E : List Int) : Int := E.foldl (fun n x => n * ((lvsL x).length : Int)) 1
theorem cf_snoc (E : List Int) (x : Int) : cfZ (E ++ [x]) = cfZ E * ((lvsL x).length : Int) := by unfold cfZ; rw [List.foldl_append]; rfl
theorem cf_bd (E : List Int) : ∀ i, i ≤ E.length → 0 ≤ cfZ (E.take i) ∧ cfZ (E.take i) ≤ 8 ^ i
  | 0, _ => by rw [List.take_zero]; exact ⟨by decide, by decide⟩
  | i + 1, h => by
    obtain ⟨h1, h2⟩ := cf_bd E i (by omega)
    have hi : E[i]? = some (E[i]'(by omega)) := List.getElem?_eq_getElem (by omega)
    rw [take_snoc hi, cf_snoc]
    have h3 : ((lvsL (E[i]'(by omega))).length : Int) ≤ 8 := by have := lvsL_len (E[i]'(by omega)); omega
    have h4 : (0 : Int) ≤ ((lvsL (E[i]'(by omega))).length : Int) := Int.natCast_nonneg _
    have p1 : 0 ≤ cfZ (E.take i) * ((lvsL (E[i]'(by omega))).length : Int) := Int.mul_nonneg h1 h4
    have p2 : cfZ (E.take i) * ((lvsL (E[i]'(by omega))).length : Int) ≤ 8 ^ i * 8 := Int.mul_le_mul h2 h3 h4 (Int.pow_nonneg (by decide))
    rw [Int.pow_succ]
    exact ⟨p1, p2⟩
theorem cf_le {E : List Int} (h6 : E.length ≤ 6) {i : Nat} (h : i ≤ E.length) : 0 ≤ cfZ (E.take i) ∧ cfZ (E.take i) ≤ 262144 := by
  obtain ⟨h1, h2⟩ := cf_bd E i h
  refine ⟨h1, ?_⟩
  have hi : i = 0 ∨ i = 1 ∨ i = 2 ∨ i = 3 ∨ i = 4 ∨ i = 5 ∨ i = 6 := by omega
  have h3 : (8 : Int) ^ i ≤ 262144 := by rcases hi with rfl | rfl | rfl | rfl | rfl | rfl | rfl <;> decide
  exact Int.le_trans h2 h3
theorem cf_step {E : List Int} (h6 : E.length ≤ 6) {i : Nat} {x : Int} (h : E[i]? = some x) :
    cfZ (E.take (i + 1)) = cfZ (E.take i) * ((lvsL x).length : Int) ∧ 0 ≤ cfZ (E.take i) * ((lvsL x).length : Int) ∧ cfZ (E.take i) * ((lvsL x).length : Int) ≤ 262144 := by
  have e : cfZ (E.take (i + 1)) = cfZ (E.take i) * ((lvsL x).length : Int) := by rw [take_snoc h, cf_snoc]
  have hl := (List.getElem?_eq_some_iff.1 h).1
  have := cf_le h6 (i := i + 1) hl
  rw [e] at this
  exact ⟨e, this.1, this.2⟩

/-- The numbers below n that are picked. -/
def pkUp (p : Nat → Bool) (n : Nat) : List Int := ((List.range n).filter p).map fun i : Nat => (i : Int)
theorem pkUp_zero (p : Nat → Bool) : pkUp p 0 = [] := rfl
theorem pkUp_yes {p : Nat → Bool} {n : Nat} (h : p n = true) : pkUp p (n + 1) = pkUp p n ++ [(n : Int)] := by
  unfold pkUp
  rw [List.range_succ, List.filter_append, List.map_append]
  simp [h]
theorem pkUp_no {p : Nat → Bool} {n : Nat} (h : p n = false) : pkUp p (n + 1) = pkUp p n := by
  unfold pkUp
  rw [List.range_succ, List.filter_append, List.map_append]
  simp [h]
theorem pkUp_len (p : Nat → Bool) (n : Nat) : (pkUp p n).length ≤ n := by
  unfold pkUp
  rw [List.length_map]
  exact Nat.le_trans (List.length_filter_le _ _) (by simp)
theorem pkUp_mem {p : Nat → Bool} {n : Nat} {z : Int} (h : z ∈ pkUp p n) : ∃ i : Nat, z = (i : Int) ∧ i < n ∧ p i = true := by
  unfold pkUp at h
  obtain ⟨i, hi, rfl⟩ := List.mem_map.1 h
  obtain ⟨h1, h2⟩ := List.mem_filter.1 hi
  exact ⟨i, rfl, List.mem_range.1 h1, h2⟩
/-- Is a variable involved? -/
def ivB (S : List (ByteArray × Int)) (E : List Int) (i : Nat) : Bool := match S[i]?, E[i]? with | some p, some x => decide (x ≠ flZ p.2) | _, _ => false
def ivL (S : List (ByteArray × Int)) (E : List Int) : List Int := pkUp (ivB S E) S.length
theorem iv_at {S : List (ByteArray × Int)} {E : List Int} {i : Nat} {nm : ByteArray} {lv x : Int} (h1 : S[i]? = some (nm, lv)) (h2 : E[i]? = some x) : ivB S E i = decide (x ≠ flZ lv) := by unfold ivB; rw [h1, h2]
/-- What is answered where the arguments are good. -/
def eIf (b : Bool) (L : List Int) : List Int := if b then L else []
theorem eIf_t {b : Bool} {L : List Int} (h : b = true) : eIf b L = L := by unfold eIf; rw [if_pos h]
theorem eIf_f {b : Bool} {L : List Int} (h : b = false) : eIf b L = [] := by unfold eIf; rw [h]; rfl
theorem eIf_len {b : Bool} {L : List Int} {n : Nat} (h : b = true → L.length ≤ n) : (eIf b L).length ≤ n := by
  cases b with
  | false => rw [eIf_f rfl]; simp
  | true => rw [eIf_t rfl]; exact h rfl
def nIf (b : Bool) (n : Int) : Int := if b then n else 0
theorem nIf_t {b : Bool} {n : Int} (h : b = true) : nIf b n = n := by unfold nIf; rw [if_pos h]
theorem nIf_f {b : Bool} {n : Int} (h : b = false) : nIf b n = 0 := by unfold nIf; rw [h]; rfl
/-- A schema and an edit for it. -/
def seB (S : List (ByteArray × Int)) (E : List Int) : Bool := schB S && edB S E
theorem se_no1 {S : List (ByteArray × Int)} {E : List Int} (h : schB S = false) : seB S E = false := by unfold seB; rw [h]; rfl
theorem se_no2 {S : List (ByteArray × Int)} {E : List Int} (h : edB S E = false) : seB S E = false := by unfold seB; rw [h, Bool.and_false]
theorem se_yes {S : List (ByteArray × Int)} {E : List Int} (h : schB S = true) (k : edB S E = true) : seB S E = true := by unfold seB; rw [h, k]; rfl
end Go.Proofs.Ytgkaalonmkcclab
