/-
  Plain mathematics of chapter 5: texts of edits. No program's text.
-/
import Derived.Test.YtgkaalonmkcclaaDoorEdM
import Derived.Test.YtgkaalonmkcclaaDoorText
import Derived.Lib.Join
namespace Go.Proofs.YtgkaalonmkcclaaDoor
open Go.RowKit

/-- Texts with a byte between them. -/
def jnS (b : UInt8) (L : List ByteArray) : ByteArray := ⟨(Lib.join (L.map (·.data.toList)) [b]).toArray⟩
theorem jtS_snoc (s y : List UInt8) (r : List (List UInt8)) : Lib.joinTail s (r ++ [y]) = Lib.joinTail s r ++ s ++ y := by
  unfold Lib.joinTail
  rw [List.map_append, List.flatten_append]
  simp
theorem jtS_cons (b : UInt8) (y : List UInt8) (r : List (List UInt8)) : Lib.joinTail [b] (y :: r) = b :: (y ++ Lib.joinTail [b] r) := by simp [Lib.joinTail]
theorem baS_len (a : ByteArray) : a.data.toList.length = a.size := Array.length_toList
theorem jnS_nil (b : UInt8) : jnS b [] = ⟨#[]⟩ := rfl
theorem jnS_one (b : UInt8) (t : ByteArray) : jnS b [t] = t := by
  unfold jnS
  rw [List.map_cons, List.map_nil, Lib.join_one]
theorem jnS_snoc {b : UInt8} {L : List ByteArray} (h : L ≠ []) (t : ByteArray) : jnS b (L ++ [t]) = jnS b L ++ ⟨#[b]⟩ ++ t := by
  obtain ⟨a, r, rfl⟩ := List.exists_cons_of_ne_nil h
  unfold jnS
  rw [List.cons_append, List.map_cons, List.map_cons, List.map_append, Lib.join_cons, Lib.join_cons, List.map_cons, List.map_nil, jtS_snoc]
  apply ByteArray.ext
  simp
theorem jnS_len (b : UInt8) : ∀ L : List ByteArray, L ≠ [] → (jnS b L).size + 1 = (L.map fun t => t.size + 1).sum := by
  intro L
  have key : ∀ r : List ByteArray, (Lib.joinTail [b] (r.map (·.data.toList))).length = (r.map fun t => t.size + 1).sum := by
    intro r
    induction r with
    | nil => simp [Lib.joinTail]
    | cons a r ih =>
      rw [List.map_cons, jtS_cons, List.length_cons, List.length_append, ih, List.map_cons, List.sum_cons, baS_len]
      omega
  intro h
  obtain ⟨a, r, rfl⟩ := List.exists_cons_of_ne_nil h
  have e : (jnS b (a :: r)).size = (Lib.join ((a :: r).map (·.data.toList)) [b]).length := List.size_toArray ..
  rw [e, List.map_cons, Lib.join_cons, List.length_append, key, List.map_cons, List.sum_cons, baS_len]
  omega
theorem sumS_le {L : List ByteArray} {c : Nat} (h : ∀ t ∈ L, t.size + 1 ≤ c) : (L.map fun t => t.size + 1).sum ≤ L.length * c := by
  induction L with
  | nil => simp
  | cons a r ih =>
    have h1 := h a (by simp)
    have h2 := ih (fun t ht => h t (by simp [ht]))
    rw [List.map_cons, List.sum_cons, List.length_cons, Nat.add_mul]
    omega
theorem jnS_size {b : UInt8} {L : List ByteArray} {c : Nat} (h : ∀ t ∈ L, t.size + 1 ≤ c) : (jnS b L).size ≤ L.length * c := by
  cases L with
  | nil => exact Nat.zero_le _
  | cons a r =>
    have h1 := jnS_len b (a :: r) (by simp)
    have h2 := sumS_le h
    omega

/-- The text of a set of levels; of its first m levels. -/
def stM (x : Int) (m : Nat) : ByteArray := jnS 44 (((lvsL x).take m).map numZ)
def setT (x : Int) : ByteArray := jnS 44 ((lvsL x).map numZ)
theorem stM_zero (x : Int) : stM x 0 = ⟨#[]⟩ := rfl
theorem stM_first {x v : Int} (h : (lvsL x)[0]? = some v) : stM x 1 = numZ v := by
  unfold stM
  rw [take_snoc h, List.take_zero, List.nil_append, List.map_cons, List.map_nil, jnS_one]
theorem stM_next {x v : Int} {m : Nat} (hm : 0 < m) (h : (lvsL x)[m]? = some v) : stM x (m + 1) = stM x m ++ ⟨#[44]⟩ ++ numZ v := by
  have hl := (List.getElem?_eq_some_iff.1 h).1
  unfold stM
  rw [take_snoc h, List.map_append, List.map_cons, List.map_nil, jnS_snoc]
  intro e
  have := congrArg List.length e
  rw [List.length_map, List.length_take, List.length_nil] at this
  omega
theorem stM_all (x : Int) : stM x (lvsL x).length = setT x := by unfold stM setT; rw [List.take_length]
theorem lvs_one {x v : Int} (h : v ∈ lvsL x) : (numZ v).size = 1 := by
  have := lvs_i64 x v h
  rw [numZ_small (by omega) (by omega), byteT_len]
theorem stM_size (x : Int) (m : Nat) : (stM x m).size ≤ 16 := by
  have h1 : (stM x m).size ≤ (((lvsL x).take m).map numZ).length * 2 := jnS_size (by
    intro t ht
    obtain ⟨v, hv, rfl⟩ := List.mem_map.1 ht
    have := lvs_one (List.mem_of_mem_take hv)
    omega)
  have h2 := lvsL_len x
  rw [List.length_map, List.length_take] at h1
  omega
theorem setT_size (x : Int) : (setT x).size ≤ 16 := by rw [← stM_all]; exact stM_size _ _
theorem bits_some : ∀ x : Fin 256, x.val ≠ 0 → ∃ l : Fin 8, x.val / 2 ^ l.val % 2 = 1 := by decide +kernel
theorem lvs_ne {x : Int} (h1 : 1 ≤ x) (h2 : x ≤ 255) : 1 ≤ (lvsL x).length := by
  obtain ⟨a, rfl⟩ := Int.eq_ofNat_of_zero_le (show 0 ≤ x by omega)
  obtain ⟨l, hl⟩ := bits_some ⟨a, by omega⟩ (by simp; omega)
  have hm : (l.val : Int) ∈ lvsL (a : Int) := by
    unfold lvsL lvsUp
    refine List.mem_map.2 ⟨l.val, List.mem_filter.2 ⟨List.mem_range.2 l.isLt, ?_⟩, rfl⟩
    unfold hsB
    rw [Int.toNat_natCast, Int.toNat_natCast]
    exact decide_eq_true hl
  exact List.length_pos_iff.2 (fun e => by rw [e] at hm; cases hm)

/-- The text of a part; the parts of the first n variables; the text. -/
def paT (nm : ByteArray) (x : Int) : ByteArray := nm ++ ⟨#[61]⟩ ++ setT x
def paS (S : List (ByteArray × Int)) (E : List Int) (i : Nat) : ByteArray := match S[i]?, E[i]? with | some p, some x => paT p.1 x | _, _ => ⟨#[]⟩
theorem paS_at {S : List (ByteArray × Int)} {E : List Int} {i : Nat} {nm : ByteArray} {lv x : Int} (h1 : S[i]? = some (nm, lv)) (h2 : E[i]? = some x) : paS S E i = paT nm x := by unfold paS; rw [h1, h2]
def epU (S : List (ByteArray × Int)) (E : List Int) (n : Nat) : List ByteArray := ((List.range n).filter (ivB S E)).map (paS S E)
theorem epU_yes {S : List (ByteArray × Int)} {E : List Int} {n : Nat} (h : ivB S E n = true) : epU S E (n + 1) = epU S E n ++ [paS S E n] := by
  unfold epU
  rw [List.range_succ, List.filter_append, List.map_append]
  simp [h]
theorem epU_no {S : List (ByteArray × Int)} {E : List Int} {n : Nat} (h : ivB S E n = false) : epU S E (n + 1) = epU S E n := by
  unfold epU
  rw [List.range_succ, List.filter_append, List.map_append]
  simp [h]
theorem epU_len (S : List (ByteArray × Int)) (E : List Int) (n : Nat) : (epU S E n).length ≤ n := by
  unfold epU
  rw [List.length_map]
  exact Nat.le_trans (List.length_filter_le _ _) (by simp)
def edT (S : List (ByteArray × Int)) (E : List Int) : ByteArray := if (epU S E S.length).length = 0 then ⟨#[97, 108, 108]⟩ else jnS 32 (epU S E S.length)
theorem edT_all {S : List (ByteArray × Int)} {E : List Int} (h : (epU S E S.length).length = 0) : edT S E = ⟨#[97, 108, 108]⟩ := if_pos h
theorem edT_some {S : List (ByteArray × Int)} {E : List Int} (h : (epU S E S.length).length ≠ 0) : edT S E = jnS 32 (epU S E S.length) := if_neg h
theorem paS_size {S : List (ByteArray × Int)} {E : List Int} (hs : schB S = true) (i : Nat) : (paS S E i).size ≤ 25 := by
  unfold paS
  split
  · rename_i p x h1 h2
    have hv := schB_va hs (List.mem_of_getElem? h1)
    unfold vaB nmB at hv
    simp only [Bool.and_eq_true, decide_eq_true_eq] at hv
    have := setT_size x
    have := hv.1.1.2
    unfold paT
    rw [ByteArray.size_append, ByteArray.size_append, show (⟨#[61]⟩ : ByteArray).size = 1 from rfl]
    omega
  · exact Nat.zero_le _
theorem epU_size {S : List (ByteArray × Int)} {E : List Int} (hs : schB S = true) : ∀ t ∈ epU S E S.length, t.size + 1 ≤ 26 := by
  intro t ht
  unfold epU at ht
  obtain ⟨i, _, rfl⟩ := List.mem_map.1 ht
  have := paS_size (E := E) hs i
  omega
/-- The model's text: of the first k involved variables. -/
def epK (S : List (ByteArray × Int)) (E : List Int) (k : Nat) : List ByteArray := ((ivL S E).take k).map fun z => paS S E z.toNat
def tK (S : List (ByteArray × Int)) (E : List Int) (k : Nat) : ByteArray := jnS 32 (epK S E k)
theorem epK_all (S : List (ByteArray × Int)) (E : List Int) : epK S E (ivL S E).length = epU S E S.length := by
  unfold epK epU ivL pkUp
  rw [List.take_length, List.map_map]
  rfl
theorem tK_zero (S : List (ByteArray × Int)) (E : List Int) : tK S E 0 = ⟨#[]⟩ := rfl
theorem tK_first {S : List (ByteArray × Int)} {E : List Int} {i : Nat} (h : (ivL S E)[0]? = some (i : Int)) : tK S E 1 = paS S E i := by
  unfold tK epK
  rw [take_snoc h, List.take_zero, List.nil_append, List.map_cons, List.map_nil, jnS_one, Int.toNat_natCast]
theorem tK_next {S : List (ByteArray × Int)} {E : List Int} {i k : Nat} (hk : 0 < k) (h : (ivL S E)[k]? = some (i : Int)) : tK S E (k + 1) = tK S E k ++ ⟨#[32]⟩ ++ paS S E i := by
  have hl := (List.getElem?_eq_some_iff.1 h).1
  unfold tK epK
  rw [take_snoc h, List.map_append, List.map_cons, List.map_nil, jnS_snoc, Int.toNat_natCast]
  intro e
  have := congrArg List.length e
  rw [List.length_map, List.length_take, List.length_nil] at this
  omega
theorem tK_size {S : List (ByteArray × Int)} {E : List Int} (hs : schB S = true) (k : Nat) : (tK S E k).size ≤ 6 * 26 := by
  have h1 : (tK S E k).size ≤ (epK S E k).length * 26 := jnS_size (by
    intro t ht
    unfold epK at ht
    obtain ⟨z, _, rfl⟩ := List.mem_map.1 ht
    have := paS_size (E := E) hs z.toNat
    omega)
  have h2 : (epK S E k).length ≤ 6 := by
    unfold epK
    rw [List.length_map, List.length_take]
    have := pkUp_len (ivB S E) S.length
    have := (schB_len hs).2
    unfold ivL
    omega
  have : (epK S E k).length * 26 ≤ 6 * 26 := Nat.mul_le_mul_right _ h2
  omega
/-- What is answered. -/
def edR (S : List (ByteArray × Int)) (E : List Int) : ByteArray := if seB S E then edT S E else ⟨#[]⟩
theorem edR_yes {S : List (ByteArray × Int)} {E : List Int} (h : seB S E = true) : edR S E = edT S E := by unfold edR; rw [if_pos h]
theorem edR_no {S : List (ByteArray × Int)} {E : List Int} (h : seB S E = false) : edR S E = ⟨#[]⟩ := by unfold edR; rw [h]; rfl
end Go.Proofs.YtgkaalonmkcclaaDoor
