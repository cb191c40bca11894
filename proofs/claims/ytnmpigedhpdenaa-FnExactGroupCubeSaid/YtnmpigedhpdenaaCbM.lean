/-
  Plain mathematics of chapter 10: sizes, the indices of a cell, a cell's number, the lists of parts, sums, breaks, base cells. No program's text.
-/
import Derived.Test.YtnmpigedhpdenaaGrp
namespace Go.Proofs.Ytnmpigedhpdenaa
open Go.RowKit

/-- The number of cells of sizes. -/
def cnC : List Int → Int
  | [] => 1
  | z :: r => (z + 1) * cnC r
def cnK (Z : List Int) : Int := Z.foldl (fun n z => n * (z + 1)) 1
theorem cnK_snoc (Z : List Int) (z : Int) : cnK (Z ++ [z]) = cnK Z * (z + 1) := by unfold cnK; rw [List.foldl_append]; rfl
theorem cnC_app : ∀ A B : List Int, cnC (A ++ B) = cnC A * cnC B
  | [], B => by simp [cnC]
  | z :: r, B => by simp only [List.cons_append, cnC]; rw [cnC_app r B, Int.mul_assoc]
theorem cnK_eq (Z : List Int) : cnK Z = cnC Z := by
  induction Z using snoc_rec with
  | h0 => rfl
  | h1 Z z ih => rw [cnK_snoc, cnC_app, ih]; simp [cnC]
theorem cnC_pos : ∀ {Z : List Int}, (∀ z ∈ Z, 0 ≤ z) → 1 ≤ cnC Z
  | [], _ => by simp [cnC]
  | z :: r, h => by
    have h1 := cnC_pos (Z := r) (fun a ha => h a (by simp [ha]))
    have h2 := h z (by simp)
    unfold cnC
    have := Int.mul_le_mul (show (1 : Int) ≤ z + 1 by omega) h1 (by omega) (by omega)
    omega
/-- Are sizes few and small? -/
def okZ (Z : List Int) : Bool := decide (Z.length ≤ 4) && inR Z 1 30
def csB (Z : List Int) : Bool := okZ Z && decide (cnC Z ≤ 2000)
theorem okZ_len {Z : List Int} (h : okZ Z = true) : Z.length ≤ 4 := by unfold okZ at h; rw [Bool.and_eq_true, decide_eq_true_eq] at h; exact h.1
theorem okZ_mem {Z : List Int} (h : okZ Z = true) {z : Int} (hz : z ∈ Z) : 1 ≤ z ∧ z ≤ 30 := by
  unfold okZ inR at h
  rw [Bool.and_eq_true, List.all_eq_true] at h
  exact (inB_iff _ _ _).1 (h.2 z hz)
theorem okZ_at {Z : List Int} (h : okZ Z = true) {d : Nat} {z : Int} (hz : Z[d]? = some z) : 1 ≤ z ∧ z ≤ 30 := okZ_mem h (List.mem_of_getElem? hz)
theorem cn_31 : ∀ {Z : List Int}, (∀ z ∈ Z, 1 ≤ z ∧ z ≤ 30) → 1 ≤ cnC Z ∧ cnC Z ≤ 31 ^ Z.length
  | [], _ => by simp [cnC]
  | z :: r, h => by
    have h1 := cn_31 (Z := r) (fun a ha => h a (by simp [ha]))
    have h2 := h z (by simp)
    unfold cnC
    have a := Int.mul_le_mul (show (1 : Int) ≤ z + 1 by omega) h1.1 (by omega) (by omega)
    have b := Int.mul_le_mul (show z + 1 ≤ 31 by omega) h1.2 (by omega) (by omega)
    rw [List.length_cons, Int.pow_succ]
    omega
theorem pow31 {n : Nat} (h : n ≤ 4) : (31 : Int) ^ n ≤ 923521 := by
  have : n = 0 ∨ n = 1 ∨ n = 2 ∨ n = 3 ∨ n = 4 := by omega
  rcases this with rfl | rfl | rfl | rfl | rfl <;> decide
theorem cn_sub {Z Y : List Int} (h : okZ Z = true) (hm : ∀ z ∈ Y, z ∈ Z) (hl : Y.length ≤ 4) : 1 ≤ cnC Y ∧ cnC Y ≤ 923521 := by
  have h1 := cn_31 (Z := Y) (fun z hz => okZ_mem h (hm z hz))
  have h2 := pow31 hl
  omega
theorem cn_take {Z : List Int} (h : okZ Z = true) (k : Nat) : 1 ≤ cnC (Z.take k) ∧ cnC (Z.take k) ≤ 923521 :=
  cn_sub h (fun _ hz => List.mem_of_mem_take hz) (by have := okZ_len h; rw [List.length_take]; omega)
theorem cn_drop {Z : List Int} (h : okZ Z = true) (k : Nat) : 1 ≤ cnC (Z.drop k) ∧ cnC (Z.drop k) ≤ 923521 :=
  cn_sub h (fun _ hz => List.mem_of_mem_drop hz) (by have := okZ_len h; rw [List.length_drop]; omega)
theorem cn_ok {Z : List Int} (h : okZ Z = true) : 1 ≤ cnC Z ∧ cnC Z ≤ 923521 := by have := cn_drop h 0; rwa [List.drop_zero] at this
theorem cn_next {Z : List Int} {k : Nat} {z : Int} (hz : Z[k]? = some z) : cnC (Z.take (k + 1)) = cnC (Z.take k) * (z + 1) := by
  rw [take_snoc hz, cnC_app]
  simp [cnC]
theorem cn_back {Z : List Int} {k : Nat} {z : Int} (hz : Z[k]? = some z) : cnC (Z.drop k) = (z + 1) * cnC (Z.drop (k + 1)) := by
  obtain ⟨h, e⟩ := List.getElem?_eq_some_iff.1 hz
  rw [List.drop_eq_getElem_cons h, e]
  rfl
theorem cs_get {Z : List Int} (h : csB Z = true) : okZ Z = true ∧ cnC Z ≤ 2000 := by unfold csB at h; rw [Bool.and_eq_true, decide_eq_true_eq] at h; exact h
theorem cs_no1 {Z : List Int} (h : okZ Z = false) : csB Z = false := by unfold csB; rw [h]; rfl
theorem cs_long {Z : List Int} (h : ¬ Z.length ≤ 4) : csB Z = false := cs_no1 (by unfold okZ; rw [decide_eq_false h]; rfl)
theorem cs_bad {Z : List Int} {i : Nat} {v : Int} (h : Z[i]? = some v) (hb : inB v 1 30 = false) : csB Z = false := cs_no1 (by unfold okZ; rw [inR_bad h hb, Bool.and_false])
theorem cs_eq {Z : List Int} (h : okZ Z = true) : csB Z = decide (cnC Z ≤ 2000) := by unfold csB; rw [h]; rfl
/-- The number of cells, or 0. -/
def cbV (Z : List Int) : Int := if csB Z then cnC Z else 0
theorem cbV_yes {Z : List Int} (h : csB Z = true) : cbV Z = cnC Z := by unfold cbV; rw [h]; rfl
theorem cbV_no {Z : List Int} (h : csB Z = false) : cbV Z = 0 := by unfold cbV; rw [h]; rfl

/-- The indices of a cell. -/
def dgL : List Int → Int → List Int
  | [], _ => []
  | z :: r, i => i / cnC r % (z + 1) :: dgL r i
theorem dgL_len : ∀ (Z : List Int) (i : Int), (dgL Z i).length = Z.length
  | [], _ => rfl
  | z :: r, i => by simp only [dgL, List.length_cons]; rw [dgL_len r i]
theorem dgL_at : ∀ {Z : List Int} (i : Int) {d : Nat} {z : Int}, Z[d]? = some z → (dgL Z i)[d]? = some (i / cnC (Z.drop (d + 1)) % (z + 1))
  | [], _, d, z, h => by simp at h
  | y :: r, i, 0, z, h => by simp at h; subst h; simp [dgL]
  | y :: r, i, d + 1, z, h => by
    simp only [List.getElem?_cons_succ] at h
    simp only [dgL, List.getElem?_cons_succ, List.drop_succ_cons]
    exact dgL_at i h
/-- The indices from m on, before them zeros. -/
def dgP (Z : List Int) (i : Int) (m : Nat) : List Int := List.replicate m 0 ++ (dgL Z i).drop m
theorem dgP_end (Z : List Int) (i : Int) : dgP Z i Z.length = List.replicate Z.length 0 := by
  unfold dgP
  rw [List.drop_eq_nil_of_le (by rw [dgL_len]; exact Nat.le_refl _), List.append_nil]
theorem dgP_zero (Z : List Int) (i : Int) : dgP Z i 0 = dgL Z i := by unfold dgP; simp
theorem dgP_len {Z : List Int} (i : Int) {m : Nat} (h : m ≤ Z.length) : (dgP Z i m).length = Z.length := by
  unfold dgP
  rw [List.length_append, List.length_replicate, List.length_drop, dgL_len]
  omega
theorem dgP_step {Z : List Int} (i : Int) {d : Nat} {z : Int} (h : Z[d]? = some z) : dgP Z i d = (dgP Z i (d + 1)).set d (i / cnC (Z.drop (d + 1)) % (z + 1)) := by
  have hl := (List.getElem?_eq_some_iff.1 h).1
  have hg := dgL_at i h
  obtain ⟨hd, e⟩ := List.getElem?_eq_some_iff.1 hg
  unfold dgP
  rw [List.drop_eq_getElem_cons hd, e, List.replicate_succ']
  rw [List.append_assoc, List.set_append_right _ _ (by simp)]
  simp
/-- What is left of the index. -/
theorem qt_step {Z : List Int} {i : Int} {d : Nat} {z : Int} (h : Z[d]? = some z) (hz : okZ Z = true) : i / cnC (Z.drop d) = i / cnC (Z.drop (d + 1)) / (z + 1) := by
  have := (cn_drop hz (d + 1)).1
  rw [cn_back h, Int.mul_comm, ← Int.ediv_ediv_of_nonneg (by omega)]

/-- The number of the cell with these indices. -/
def ixC : List Int → List Int → Int
  | _ :: r, x :: y => x * cnC r + ixC r y
  | _, _ => 0
def ixG (Q : List (Int × Int)) : Int := Q.foldl (fun n q => n * (q.1 + 1) + q.2) 0
theorem ixG_snoc (Q : List (Int × Int)) (q : Int × Int) : ixG (Q ++ [q]) = ixG Q * (q.1 + 1) + q.2 := by unfold ixG; rw [List.foldl_append]; rfl
theorem ixG_from : ∀ (Z I : List Int) (n : Int), Z.length ≤ I.length → (Z.zip I).foldl (fun n q => n * (q.1 + 1) + q.2) n = n * cnC Z + ixC Z I
  | [], _, n, _ => by simp [cnC, ixC]
  | _ :: _, [], n, h => by simp at h
  | z :: r, x :: y, n, h => by
    simp only [List.zip_cons_cons, List.foldl_cons, cnC, ixC]
    rw [ixG_from r y _ (by simpa using h), Int.add_mul, Int.mul_assoc]
    omega
theorem ixG_eq {Z I : List Int} (h : Z.length ≤ I.length) : ixG (Z.zip I) = ixC Z I := by
  unfold ixG
  rw [ixG_from Z I 0 h]
  omega
/-- Indices that lie in their dimensions. -/
def FtC (Z I : List Int) : Prop := Z.length ≤ I.length ∧ ∀ (d : Nat) (z x : Int), Z[d]? = some z → I[d]? = some x → 0 ≤ x ∧ x ≤ z
theorem FtC.tail {z x : Int} {r y : List Int} (h : FtC (z :: r) (x :: y)) : FtC r y := ⟨by simpa using h.1, fun d a b ha hb => h.2 (d + 1) a b (by simpa using ha) (by simpa using hb)⟩
theorem FtC.head {z x : Int} {r y : List Int} (h : FtC (z :: r) (x :: y)) : 0 ≤ x ∧ x ≤ z := h.2 0 z x rfl rfl
theorem ix_in : ∀ {Z I : List Int}, FtC Z I → 0 ≤ ixC Z I ∧ ixC Z I < cnC Z
  | [], _, _ => by simp [ixC, cnC]
  | _ :: _, [], h => by have := h.1; simp at this
  | z :: r, x :: y, h => by
    have h1 := ix_in h.tail
    have h2 := h.head
    show 0 ≤ x * cnC r + ixC r y ∧ x * cnC r + ixC r y < (z + 1) * cnC r
    have a := Int.mul_nonneg h2.1 (show 0 ≤ cnC r by omega)
    have b := Int.mul_le_mul_of_nonneg_right h2.2 (show 0 ≤ cnC r by omega)
    rw [Int.add_mul, Int.one_mul]
    omega
theorem FtC.take {Z I : List Int} (h : FtC Z I) (k : Nat) : FtC (Z.take k) (I.take k) := by
  refine ⟨by have := h.1; simp only [List.length_take]; omega, fun d z x hz hx => ?_⟩
  rw [List.getElem?_take] at hz hx
  split at hz
  · rw [if_pos (by assumption)] at hx
    exact h.2 d z x hz hx
  · cases hz
theorem ixG_bd {Z I : List Int} (hz : okZ Z = true) (h : FtC Z I) (k : Nat) : 0 ≤ ixG ((Z.zip I).take k) ∧ ixG ((Z.zip I).take k) ≤ 923520 := by
  have h1 := ix_in (h.take k)
  have h2 := cn_take hz k
  have e : (Z.zip I).take k = (Z.take k).zip (I.take k) := by rw [List.zip_eq_zipWith, List.take_zipWith, List.zip_eq_zipWith]
  rw [e, ixG_eq (h.take k).1]
  omega
theorem ixG_step {Z I : List Int} {k : Nat} {z x : Int} (hz : Z[k]? = some z) (hx : I[k]? = some x) : ixG ((Z.zip I).take (k + 1)) = ixG ((Z.zip I).take k) * (z + 1) + x := by
  rw [take_snoc (show (Z.zip I)[k]? = some (z, x) from List.getElem?_zip_eq_some.2 ⟨hz, hx⟩), ixG_snoc]
theorem ixG_all {Z I : List Int} (h : Z.length ≤ I.length) : ixG ((Z.zip I).take Z.length) = ixC Z I := by
  rw [List.take_of_length_le (by rw [List.length_zip]; omega), ixG_eq h]
theorem ixC_more : ∀ (Z I J : List Int), Z.length ≤ I.length → ixC Z (I ++ J) = ixC Z I
  | [], I, J, _ => by simp [ixC]
  | _ :: _, [], J, h => by simp at h
  | z :: r, x :: y, J, h => by
    simp only [List.cons_append, ixC]
    rw [ixC_more r y J (by simpa using h)]
theorem FtC.more {Z I : List Int} (h : FtC Z I) (J : List Int) : FtC Z (I ++ J) := by
  refine ⟨by have := h.1; rw [List.length_append]; omega, fun d z x hz hx => ?_⟩
  have hd := (List.getElem?_eq_some_iff.1 hz).1
  have := h.1
  rw [List.getElem?_append_left (by omega)] at hx
  exact h.2 d z x hz hx
theorem dg_fit {Z : List Int} (hz : ∀ z ∈ Z, 0 ≤ z) (i : Int) : FtC Z (dgL Z i) := by
  refine ⟨by rw [dgL_len]; exact Nat.le_refl _, fun d z x h1 h2 => ?_⟩
  rw [dgL_at i h1] at h2
  have := hz z (List.mem_of_getElem? h1)
  cases h2
  have a := Int.emod_nonneg (i / cnC (Z.drop (d + 1))) (show z + 1 ≠ 0 by omega)
  have b := Int.emod_lt_of_pos (i / cnC (Z.drop (d + 1))) (show 0 < z + 1 by omega)
  omega
theorem okZ_nn {Z : List Int} (h : okZ Z = true) : ∀ z ∈ Z, 0 ≤ z := fun z hz => by have := okZ_mem h hz; omega
theorem FtC.set {Z I : List Int} (h : FtC Z I) {d : Nat} {z k : Int} (hd : Z[d]? = some z) (h0 : 0 ≤ k) (h1 : k ≤ z) : FtC Z (I.set d k) := by
  refine ⟨by rw [List.length_set]; exact h.1, fun e y x he hx => ?_⟩
  rw [List.getElem?_set] at hx
  split at hx
  · subst_vars
    split at hx
    · cases hx
      rw [hd] at he
      cases he
      exact ⟨h0, h1⟩
    · cases hx
  · exact h.2 e y x he hx
theorem ixG_walk {Z I : List Int} (hz : okZ Z = true) (h : FtC Z I) {k : Nat} {z x : Int} (h1 : Z[k]? = some z) (h2 : I[k]? = some x) :
    ixG ((Z.zip I).take (k + 1)) = ixG ((Z.zip I).take k) * (z + 1) + x ∧ 0 ≤ ixG ((Z.zip I).take k) * (z + 1) ∧ ixG ((Z.zip I).take k) * (z + 1) ≤ 923520 ∧ 0 ≤ x ∧ x ≤ z ∧ 1 ≤ z ∧ z ≤ 30 := by
  have e := ixG_step h1 h2
  have a := ixG_bd hz h (k + 1)
  have b := ixG_bd hz h k
  have c := h.2 k z x h1 h2
  have d := okZ_at hz h1
  have f := Int.mul_nonneg b.1 (show 0 ≤ z + 1 by omega)
  rw [e] at a
  exact ⟨e, f, by omega, c.1, c.2, d.1, d.2⟩
theorem dg_walk {Z : List Int} (hz : okZ Z = true) {i : Int} (h0 : 0 ≤ i) (h1 : i ≤ 1000000) {k : Nat} {z : Int} (h : Z[k]? = some z) :
    0 ≤ i / cnC (Z.drop (k + 1)) ∧ i / cnC (Z.drop (k + 1)) ≤ 1000000 ∧ 1 ≤ z ∧ z ≤ 30 ∧ i / cnC (Z.drop k) = i / cnC (Z.drop (k + 1)) / (z + 1) ∧ dgP Z i k = (dgP Z i (k + 1)).set k (i / cnC (Z.drop (k + 1)) % (z + 1)) := by
  have a := (cn_drop hz (k + 1)).1
  have d := okZ_at hz h
  have b := Int.ediv_nonneg h0 (show 0 ≤ cnC (Z.drop (k + 1)) by omega)
  have c := Int.ediv_le_self (cnC (Z.drop (k + 1))) h0
  exact ⟨b, by omega, d.1, d.2, qt_step h hz, dgP_step i h⟩
theorem qt_end (Z : List Int) (i : Int) : i / cnC (Z.drop Z.length) = i := by rw [List.drop_length]; simp [cnC]

/-- The place of a cell: its indices and zeros behind. -/
def dgX (Z : List Int) (i : Int) : List Int := dgL Z i ++ List.replicate (4 - Z.length) 0
theorem dgX_len {Z : List Int} (h : Z.length ≤ 4) (i : Int) : (dgX Z i).length = 4 := by unfold dgX; rw [List.length_append, dgL_len, List.length_replicate]; omega
theorem dgX_four {Z : List Int} (h : Z.length ≤ 4) (i : Int) : ∃ a b c d, dgX Z i = [a, b, c, d] := by
  have hl := dgX_len h i
  match hL : dgX Z i, hl with
  | [a, b, c, d], _ => exact ⟨a, b, c, d, rfl⟩
theorem dgX_at {Z : List Int} {i : Int} {d : Nat} {z x : Int} (h : Z[d]? = some z) (k : (dgX Z i)[d]? = some x) : (dgL Z i)[d]? = some x := by
  have hd := (List.getElem?_eq_some_iff.1 h).1
  unfold dgX at k
  rwa [List.getElem?_append_left (by rw [dgL_len]; exact hd)] at k
theorem dgX_set {Z : List Int} {i : Int} {d : Nat} {z k : Int} (h : Z[d]? = some z) : (dgX Z i).set d k = (dgL Z i).set d k ++ List.replicate (4 - Z.length) 0 := by
  have hd := (List.getElem?_eq_some_iff.1 h).1
  unfold dgX
  rw [List.set_append_left _ _ (by rw [dgL_len]; exact hd)]
/-- One step of the walk from the back: what is left, and the place. -/
def plStp (Z : List Int) (q : Int × List Int) (j : Nat) : Int × List Int := (q.1 / (Z.getD j 0 + 1), q.2.set j (q.1 % (Z.getD j 0 + 1)))
def plFr (Z : List Int) (i : Int) (L : List Nat) : Int × List Int := L.foldl (plStp Z) (i, [0, 0, 0, 0])
theorem plFr_snoc (Z : List Int) (i : Int) (L : List Nat) (j : Nat) : plFr Z i (L ++ [j]) = plStp Z (plFr Z i L) j := by unfold plFr; rw [List.foldl_append]; rfl
theorem plFr_len (Z : List Int) (i : Int) (L : List Nat) : (plFr Z i L).2.length = 4 := by
  induction L using snoc_rec with
  | h0 => rfl
  | h1 L j ih => rw [plFr_snoc]; unfold plStp; simp [ih]
theorem plFr_bd {Z : List Int} (hz : okZ Z = true) {i : Int} (h0 : 0 ≤ i) (L : List Nat) : 0 ≤ (plFr Z i L).1 ∧ (plFr Z i L).1 ≤ i := by
  induction L using snoc_rec with
  | h0 => exact ⟨h0, Int.le_refl _⟩
  | h1 L j ih =>
    rw [plFr_snoc]
    unfold plStp
    have h1 : 0 ≤ Z.getD j 0 := by
      rw [List.getD_eq_getElem?_getD]
      rcases hj : Z[j]? with _ | z
      · simp
      · have := okZ_at hz hj
        simp only [Option.getD_some]
        omega
    have a := Int.ediv_nonneg ih.1 (show 0 ≤ Z.getD j 0 + 1 by omega)
    have b := Int.ediv_le_self (Z.getD j 0 + 1) ih.1
    simp only
    omega
/-- The places that come from the back, when m are left. -/
def bkL (n m : Nat) : List Nat := ((List.range n).drop m).reverse
theorem bkL_end (n : Nat) : bkL n n = [] := by unfold bkL; rw [List.drop_eq_nil_of_le (by simp)]; rfl
theorem bkL_step {n m : Nat} (h : m < n) : bkL n m = bkL n (m + 1) ++ [m] := by
  unfold bkL
  rw [List.drop_eq_getElem_cons (by simpa using h), List.reverse_cons]
  simp
theorem bkL_len (n m : Nat) : (bkL n m).length = n - m := by unfold bkL; simp
theorem pl_all {Z : List Int} (hz : okZ Z = true) (i : Int) : ∀ d, d ≤ Z.length → plFr Z i (bkL Z.length (Z.length - d)) = (i / cnC (Z.drop (Z.length - d)), dgP Z i (Z.length - d) ++ List.replicate (4 - Z.length) 0)
  | 0, _ => by
    have h4 := okZ_len hz
    rw [Nat.sub_zero, bkL_end, List.drop_length, dgP_end]
    simp only [cnC, Int.ediv_one]
    show (i, [0, 0, 0, 0]) = _
    have : Z.length = 0 ∨ Z.length = 1 ∨ Z.length = 2 ∨ Z.length = 3 ∨ Z.length = 4 := by omega
    rcases this with h | h | h | h | h <;> rw [h] <;> rfl
  | d + 1, h => by
    have ih := pl_all hz i d (by omega)
    obtain ⟨m, hm⟩ : ∃ m, m = Z.length - (d + 1) := ⟨_, rfl⟩
    have hm1 : Z.length - d = m + 1 := by omega
    have hml : m < Z.length := by omega
    rw [hm1] at ih
    rw [← hm, bkL_step hml, plFr_snoc, ih]
    have hz1 : Z[m]? = some Z[m] := List.getElem?_eq_getElem hml
    unfold plStp
    have e1 : Z.getD m 0 = Z[m] := by rw [List.getD_eq_getElem?_getD, hz1]; rfl
    rw [e1, qt_step hz1 hz, dgP_step i hz1]
    simp only
    rw [List.set_append_left _ _ (by rw [dgP_len i (by omega)]; exact hml)]
theorem pl_end {Z : List Int} (hz : okZ Z = true) (i : Int) : (plFr Z i (bkL Z.length 0)).2 = dgX Z i := by
  have := pl_all hz i Z.length (Nat.le_refl _)
  rw [Nat.sub_self] at this
  rw [this, dgP_zero]
  rfl

/-- The parts of a cell in a dimension. -/
def ptD (Z : List Int) (i : Int) (d : Nat) : List Int := (List.range (Z.getD d 0).toNat).map fun k : Nat => ixC Z ((dgL Z i).set d (k : Int))
theorem getD_at {L : List Int} {d : Nat} {z : Int} (h : L[d]? = some z) : L.getD d 0 = z := by rw [List.getD_eq_getElem?_getD, h]; rfl
theorem ptD_len {Z : List Int} (i : Int) {d : Nat} {z : Int} (h : Z[d]? = some z) : (ptD Z i d).length = z.toNat := by unfold ptD; rw [getD_at h]; simp
theorem ptD_at {Z : List Int} (i : Int) {d k : Nat} {z : Int} (h : Z[d]? = some z) (hk : (k : Int) < z) : (ptD Z i d)[k]? = some (ixC Z ((dgL Z i).set d (k : Int))) := by
  unfold ptD
  rw [getD_at h, List.getElem?_map, List.getElem?_range (by omega)]
  rfl
theorem ptD_mem {Z : List Int} (hz : okZ Z = true) {i : Int} {d : Nat} {x : Int} (h : x ∈ ptD Z i d) : 0 ≤ x ∧ x < cnC Z := by
  unfold ptD at h
  obtain ⟨k, hk, rfl⟩ := List.mem_map.1 h
  rw [List.mem_range] at hk
  rcases hd : Z[d]? with _ | z
  · rw [List.getD_eq_getElem?_getD, hd] at hk
    simp at hk
  · rw [getD_at hd] at hk
    exact ix_in ((dg_fit (okZ_nn hz) i).set hd (by omega) (by omega))
theorem ptD_30 {Z : List Int} (hz : okZ Z = true) (i : Int) (d : Nat) : (ptD Z i d).length ≤ 30 := by
  rcases hd : Z[d]? with _ | z
  · unfold ptD
    rw [List.getD_eq_getElem?_getD, hd]
    simp
  · rw [ptD_len i hd]
    have := okZ_at hz hd
    omega
/-- The lists of parts, of the first dimensions. -/
def ptU (Z : List Int) (i : Int) : Nat → List (List Int)
  | 0 => []
  | d + 1 => if (dgL Z i).getD d 0 = Z.getD d 0 then ptU Z i d ++ [ptD Z i d] else ptU Z i d
def ptZ (Z : List Int) (i : Int) : List (List Int) := ptU Z i Z.length
theorem ptU_yes {Z : List Int} {i : Int} {d : Nat} {z : Int} (h : Z[d]? = some z) (k : (dgL Z i)[d]? = some z) : ptU Z i (d + 1) = ptU Z i d ++ [ptD Z i d] := by
  show (if _ then _ else _) = _
  rw [getD_at h, getD_at k, if_pos rfl]
theorem ptU_no {Z : List Int} {i : Int} {d : Nat} {z x : Int} (h : Z[d]? = some z) (k : (dgL Z i)[d]? = some x) (hne : x ≠ z) : ptU Z i (d + 1) = ptU Z i d := by
  show (if _ then _ else _) = _
  rw [getD_at h, getD_at k, if_neg hne]
theorem ptU_len (Z : List Int) (i : Int) : ∀ d, (ptU Z i d).length ≤ d
  | 0 => Nat.le_refl _
  | d + 1 => by
    have := ptU_len Z i d
    unfold ptU
    split
    · rw [List.length_append]; simp; omega
    · omega
theorem ptU_get (Z : List Int) (i : Int) : ∀ {d : Nat} {L : List Int}, L ∈ ptU Z i d → ∃ e, e < d ∧ L = ptD Z i e
  | 0, _, h => by cases h
  | d + 1, L, h => by
    unfold ptU at h
    split at h
    · rcases List.mem_append.1 h with h | h
      · obtain ⟨e, h1, h2⟩ := ptU_get Z i h
        exact ⟨e, by omega, h2⟩
      · simp at h
        exact ⟨d, by omega, h⟩
    · obtain ⟨e, h1, h2⟩ := ptU_get Z i h
      exact ⟨e, by omega, h2⟩
theorem ptU_mem {Z : List Int} (hz : okZ Z = true) {i : Int} {d : Nat} {L : List Int} (h : L ∈ ptU Z i d) : L.length ≤ 30 ∧ ∀ x ∈ L, 0 ≤ x ∧ x < cnC Z := by
  obtain ⟨e, _, rfl⟩ := ptU_get Z i h
  exact ⟨ptD_30 hz i e, fun x hx => ptD_mem hz hx⟩
theorem ptU_all {Z : List Int} {i : Int} : ∀ {d : Nat} {L : List Int}, d ≤ Z.length → L ∈ ptU Z i d → L ∈ ptZ Z i := by
  intro d L hd hL
  have key : ∀ e, d ≤ e → L ∈ ptU Z i e := by
    intro e
    induction e with
    | zero => intro h; obtain rfl : d = 0 := by omega
              exact hL
    | succ e ih =>
      intro h
      rcases Nat.lt_or_ge e d with h1 | h1
      · obtain rfl : d = e + 1 := by omega
        exact hL
      · have := ih h1
        show L ∈ (if _ then _ else _)
        split
        · exact List.mem_append_left _ this
        · exact this
  exact key Z.length hd

/-- What PartsOf gives. -/
def ppB (Z : List Int) (i : Int) : Bool := csB Z && inB i 0 (cnC Z - 1)
def ppL (Z : List Int) (i : Int) : List (List Int) := if ppB Z i then ptZ Z i else []
theorem pp_no1 {Z : List Int} {i : Int} (h : csB Z = false) : ppB Z i = false := by unfold ppB; rw [h]; rfl
theorem pp_no2 {Z : List Int} {i : Int} (h : inB i 0 (cnC Z - 1) = false) : ppB Z i = false := by unfold ppB; rw [h, Bool.and_false]
theorem pp_yes {Z : List Int} {i : Int} (h : csB Z = true) (k : inB i 0 (cnC Z - 1) = true) : ppB Z i = true := by unfold ppB; rw [h, k]; rfl
theorem ppL_no {Z : List Int} {i : Int} (h : ppB Z i = false) : ppL Z i = [] := by unfold ppL; rw [h]; rfl
theorem ppL_yes {Z : List Int} {i : Int} (h : ppB Z i = true) : ppL Z i = ptZ Z i := by unfold ppL; rw [h]; rfl
theorem ptD_snoc {Z : List Int} (i : Int) {d k : Nat} {z : Int} (h : Z[d]? = some z) (hk : (k : Int) < z) : (ptD Z i d).take (k + 1) = (ptD Z i d).take k ++ [ixC Z ((dgL Z i).set d (k : Int))] := take_snoc (ptD_at i h hk)
theorem ptD_full {Z : List Int} (i : Int) {d k : Nat} {z : Int} (h : Z[d]? = some z) (hk : z ≤ (k : Int)) : (ptD Z i d).take k = ptD Z i d := List.take_of_length_le (by rw [ptD_len i h]; omega)

/-- A sum of cells. -/
def suC (C L : List Int) : Int := L.foldl (fun n j => n + C.getD j.toNat 0) 0
theorem suC_snoc (C L : List Int) (j : Int) : suC C (L ++ [j]) = suC C L + C.getD j.toNat 0 := by unfold suC; rw [List.foldl_append]; rfl
theorem suC_take {C L : List Int} {k : Nat} {j v : Int} (h : L[k]? = some j) (hv : C[j.toNat]? = some v) : suC C (L.take (k + 1)) = suC C (L.take k) + v := by rw [take_snoc h, suC_snoc, getD_at hv]
theorem inR_at {C : List Int} {lo hi : Int} (h : inR C lo hi = true) {k : Nat} {v : Int} (hv : C[k]? = some v) : lo ≤ v ∧ v ≤ hi := by
  unfold inR at h
  rw [List.all_eq_true] at h
  exact (inB_iff _ _ _).1 (h v (List.mem_of_getElem? hv))
theorem inR_getD {C : List Int} {m : Int} (h : inR C (-m) m = true) (hm : 0 ≤ m) (k : Nat) : -m ≤ C.getD k 0 ∧ C.getD k 0 ≤ m := by
  rw [List.getD_eq_getElem?_getD]
  rcases hc : C[k]? with _ | v
  · simp only [Option.getD_none]; omega
  · exact inR_at h hc
theorem suC_bd {C : List Int} (h : inR C (-1000000) 1000000 = true) (L : List Int) : -1000000 * (L.length : Int) ≤ suC C L ∧ suC C L ≤ 1000000 * (L.length : Int) := by
  induction L using snoc_rec with
  | h0 => simp [suC]
  | h1 L j ih =>
    rw [suC_snoc, List.length_append]
    have := inR_getD h (by omega) j.toNat
    simp only [List.length_cons, List.length_nil]
    omega
/-- Is a cell not the sum of others? -/
def brB (Z C : List Int) (i : Nat) : Bool := (ptZ Z i).any fun L => decide (suC C L ≠ C.getD i 0)
theorem br_yes {Z C L : List Int} {i : Nat} {n : Int} (hL : L ∈ ptZ Z i) (hn : C[i]? = some n) (h : suC C L ≠ n) : brB Z C i = true := by
  unfold brB
  rw [List.any_eq_true]
  exact ⟨L, hL, by rw [getD_at hn]; simpa using h⟩
theorem br_no {Z C : List Int} {i : Nat} {n : Int} (hn : C[i]? = some n) (h : ∀ L ∈ ptZ Z i, suC C L = n) : brB Z C i = false := by
  unfold brB
  rw [List.any_eq_false]
  intro L hL
  rw [getD_at hn]
  simpa using h L hL
/-- The first break. -/
def fbN (Z C : List Int) : Nat := (List.range C.length).findIdx fun i => brB Z C i
theorem fbN_hit {Z C : List Int} {i : Nat} (hi : i < C.length) (h : brB Z C i = true) (hb : ∀ j, j < i → brB Z C j = false) : fbN Z C = i := by
  unfold fbN
  rw [List.findIdx_eq (by simpa using hi)]
  simp only [List.getElem_range]
  exact ⟨h, hb⟩
theorem fbN_miss {Z C : List Int} (hb : ∀ j, j < C.length → brB Z C j = false) : fbN Z C = C.length := by
  unfold fbN
  have : (List.range C.length).findIdx (fun i => brB Z C i) = (List.range C.length).length := by
    rw [List.findIdx_eq_length]
    intro x hx
    rw [List.mem_range] at hx
    exact hb x hx
  rw [this, List.length_range]
theorem fbN_le (Z C : List Int) : fbN Z C ≤ C.length := by
  unfold fbN
  have := List.findIdx_le_length (xs := List.range C.length) (p := fun i => brB Z C i)
  rwa [List.length_range] at this
/-- Right form; valid cubes. -/
def cfB (Z C : List Int) : Bool := csB Z && (decide ((C.length : Int) = cnC Z) && inR C (-1000000) 1000000)
def cgB (Z C : List Int) : Bool := cfB Z C && decide (fbN Z C = C.length)
theorem cf_get {Z C : List Int} (h : cfB Z C = true) : csB Z = true ∧ (C.length : Int) = cnC Z ∧ inR C (-1000000) 1000000 = true := by
  unfold cfB at h
  rw [Bool.and_eq_true, Bool.and_eq_true, decide_eq_true_eq] at h
  exact ⟨h.1, h.2.1, h.2.2⟩
theorem cf_yes {Z C : List Int} (h1 : csB Z = true) (h2 : (C.length : Int) = cnC Z) (h3 : inR C (-1000000) 1000000 = true) : cfB Z C = true := by unfold cfB; rw [h1, decide_eq_true h2, h3]; rfl
theorem cf_no1 {Z C : List Int} (h : csB Z = false) : cfB Z C = false := by unfold cfB; rw [h]; rfl
theorem cf_no2 {Z C : List Int} (h : (C.length : Int) ≠ cnC Z) : cfB Z C = false := by unfold cfB; rw [decide_eq_false h]; simp
theorem cf_no3 {Z C : List Int} (h : inR C (-1000000) 1000000 = false) : cfB Z C = false := by unfold cfB; rw [h]; simp
theorem cf_len {Z C : List Int} (h : cfB Z C = true) : C.length ≤ 2000 := by
  obtain ⟨h1, h2, h3⟩ := cf_get h
  have := (cs_get h1).2
  omega
theorem cg_get {Z C : List Int} (h : cgB Z C = true) : cfB Z C = true ∧ fbN Z C = C.length := by unfold cgB at h; rw [Bool.and_eq_true, decide_eq_true_eq] at h; exact h
theorem cg_no1 {Z C : List Int} (h : cfB Z C = false) : cgB Z C = false := by unfold cgB; rw [h]; rfl
theorem cg_eq {Z C : List Int} (h : cfB Z C = true) : cgB Z C = decide (fbN Z C = C.length) := by unfold cgB; rw [h]; rfl
def fbZ (Z C : List Int) : Int := if cfB Z C then (fbN Z C : Int) else 0
theorem fbZ_yes {Z C : List Int} (h : cfB Z C = true) : fbZ Z C = fbN Z C := by unfold fbZ; rw [h]; rfl
theorem fbZ_no {Z C : List Int} (h : cfB Z C = false) : fbZ Z C = 0 := by unfold fbZ; rw [h]; rfl
/-- Is a cell a base cell? -/
def beB (Z : List Int) (i : Int) : Bool := (ptZ Z i).isEmpty
/-- The values of the base cells, and their numbers, among the first. -/
def bsU (Z C : List Int) : Nat → List Int
  | 0 => []
  | n + 1 => if beB Z n then bsU Z C n ++ [C.getD n 0] else bsU Z C n
def biU (Z : List Int) : Nat → List Int
  | 0 => []
  | n + 1 => if beB Z n then biU Z n ++ [(n : Int)] else biU Z n
theorem bsU_len (Z C : List Int) : ∀ n, (bsU Z C n).length ≤ n
  | 0 => Nat.le_refl _
  | n + 1 => by
    have := bsU_len Z C n
    unfold bsU
    split
    · rw [List.length_append]; simp; omega
    · omega
theorem biU_len (Z : List Int) : ∀ n, (biU Z n).length ≤ n
  | 0 => Nat.le_refl _
  | n + 1 => by
    have := biU_len Z n
    unfold biU
    split
    · rw [List.length_append]; simp; omega
    · omega
theorem bs_map (Z C : List Int) : ∀ n, bsU Z C n = (biU Z n).map fun i => C.getD i.toNat 0
  | 0 => rfl
  | n + 1 => by
    unfold bsU biU
    split
    · rw [List.map_append, bs_map Z C n]; simp
    · exact bs_map Z C n
theorem biU_mem (Z : List Int) : ∀ {n : Nat} {i : Int}, i ∈ biU Z n → 0 ≤ i ∧ i < n
  | 0, _, h => by cases h
  | n + 1, i, h => by
    unfold biU at h
    split at h
    · rcases List.mem_append.1 h with h | h
      · have := biU_mem Z h; omega
      · simp at h; omega
    · have := biU_mem Z h; omega
end Go.Proofs.Ytnmpigedhpdenaa
