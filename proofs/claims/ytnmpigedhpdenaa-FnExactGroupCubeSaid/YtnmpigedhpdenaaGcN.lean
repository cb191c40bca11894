/-
  Plain mathematics of cubes whose indices are joined: a joined cube is a cube. No program's text.
-/
import Derived.Test.YtnmpigedhpdenaaGcM
namespace Go.Proofs.Ytnmpigedhpdenaa
open Go.RowKit

theorem suC_sum (C L : List Int) : suC C L = (L.map fun j => C.getD j.toNat 0).sum := by
  induction L using snoc_rec with
  | h0 => rfl
  | h1 L j ih => rw [suC_snoc, List.map_append, List.sum_append, ih]; simp
theorem ptU_tot (Z : List Int) (i : Int) : ∀ {d : Nat} {L : List Int}, L ∈ ptU Z i d → ∃ e, e < d ∧ L = ptD Z i e ∧ (dgL Z i).getD e 0 = Z.getD e 0
  | 0, _, h => by cases h
  | d + 1, L, h => by
    unfold ptU at h
    split at h
    · rename_i hq
      rcases List.mem_append.1 h with h | h
      · obtain ⟨e, h1, h2, h3⟩ := ptU_tot Z i h
        exact ⟨e, by omega, h2, h3⟩
      · simp at h
        exact ⟨d, by omega, h, hq⟩
    · obtain ⟨e, h1, h2, h3⟩ := ptU_tot Z i h
      exact ⟨e, by omega, h2, h3⟩
theorem sum_swap {α β : Type} (f : α → β → Int) : ∀ (A : List α) (B : List β), (A.map fun a => (B.map fun b => f a b).sum).sum = (B.map fun b => (A.map fun a => f a b).sum).sum
  | [], B => by
    induction B with
    | nil => rfl
    | cons b B ih =>
      simp at ih ⊢
      exact ih
  | a :: A, B => by
    rw [List.map_cons, List.sum_cons, sum_swap f A B]
    have : ∀ B : List β, (B.map fun b => f a b).sum + (B.map fun b => (A.map fun a => f a b).sum).sum = (B.map fun b => ((a :: A).map fun a => f a b).sum).sum := by
      intro B
      induction B with
      | nil => rfl
      | cons b B ih =>
        rw [List.map_cons, List.map_cons, List.map_cons, List.sum_cons, List.sum_cons, List.sum_cons, ← ih, List.map_cons, List.sum_cons]
        omega
    exact this B
theorem sum_class (h f : Nat → Int) (m : Nat) : ∀ L : List Nat, ((List.range m).map fun q : Nat => ((L.filter fun k => h k = (q : Int)).map f).sum).sum = ((L.filter fun k => decide (0 ≤ h k) && decide (h k < (m : Int))).map f).sum
  | [] => by
    have : ∀ A : List Nat, (A.map fun _ : Nat => (0 : Int)).sum = 0 := by
      intro A
      induction A with
      | nil => rfl
      | cons a A ih => simp [ih]
    simpa using this (List.range m)
  | k :: L => by
    have ih := sum_class h f m L
    have e : ∀ q : Nat, (((k :: L).filter fun k => h k = (q : Int)).map f).sum = (if h k = (q : Int) then f k else 0) + ((L.filter fun k => h k = (q : Int)).map f).sum := fun q => by
      by_cases hq : h k = (q : Int)
      · simp [hq]
      · simp [hq]
    have e2 : ∀ A : List Nat, (A.map fun q : Nat => (if h k = (q : Int) then f k else 0) + ((L.filter fun k => h k = (q : Int)).map f).sum).sum = (A.map fun q : Nat => if h k = (q : Int) then f k else 0).sum + (A.map fun q : Nat => ((L.filter fun k => h k = (q : Int)).map f).sum).sum := by
      intro A
      induction A with
      | nil => rfl
      | cons a A iha => simp only [List.map_cons, List.sum_cons]; rw [iha]; omega
    have e3 : ∀ m : Nat, ((List.range m).map fun q : Nat => if h k = (q : Int) then f k else 0).sum = if 0 ≤ h k ∧ h k < (m : Int) then f k else 0 := by
      intro m
      induction m with
      | zero => simp; omega
      | succ m ihm =>
        rw [List.range_succ, List.map_append, List.sum_append, ihm]
        simp only [List.map_cons, List.map_nil, List.sum_cons, List.sum_nil]
        by_cases h1 : h k = (m : Int)
        · rw [if_neg (by omega), if_pos h1, if_pos (by omega)]; omega
        · rw [if_neg h1]
          by_cases h2 : 0 ≤ h k ∧ h k < (m : Int)
          · rw [if_pos h2, if_pos (by omega)]; omega
          · rw [if_neg h2, if_neg (by omega)]; rfl
    rw [List.map_congr_left fun q _ => e q, e2, e3, ih]
    by_cases hq : 0 ≤ h k ∧ h k < (m : Int)
    · rw [if_pos hq, List.filter_cons_of_pos (by simp [hq]), List.map_cons, List.sum_cons]
    · rw [if_neg hq, List.filter_cons_of_neg (by simpa using hq), Int.zero_add]
/-- A cube's cells add up. -/
theorem ce_add {Z C I : List Int} (h : cgB Z C = true) (hl : I.length = Z.length) (hf : FtC Z I) {e : Nat} {y : Int} (hy : Z[e]? = some y) (hI : I[e]? = some y) :
    ((List.range y.toNat).map fun x : Nat => ceF Z C (I.set e (x : Int))).sum = ceF Z C I := by
  obtain ⟨f1, f2, -⟩ := cf_get (cg_get h).1
  have hz := okZ_nn (cs_get f1).1
  obtain ⟨a, b⟩ := ix_in hf
  obtain ⟨i, hi⟩ : ∃ i : Nat, ixC Z I = (i : Int) := ⟨(ixC Z I).toNat, by omega⟩
  have hdg := dg_ix hl hf hz
  rw [hi] at hdg
  have hlt : i < C.length := by omega
  have hbr := br_false (cg_br h hlt) (L := ptD Z (i : Int) e) (ptU_all (show e + 1 ≤ Z.length by have := (List.getElem?_eq_some_iff.1 hy).1; omega) (by
    rw [ptU_yes hy (by rw [hdg]; exact hI)]
    simp))
  rw [suC_sum] at hbr
  unfold ceF
  rw [hi, Int.toNat_natCast, ← hbr]
  unfold ptD
  rw [getD_at hy, List.map_map, hdg]
  rfl
/-- The joined cube is a cube. -/
theorem jd_good {Z C : List Int} {d : Nat} {z : Int} {m n : Nat} {g : List Int} (h : cgB Z C = true) (hd : Z[d]? = some z) (hg : ∀ x, 0 ≤ x → x < z → 0 ≤ g.getD x.toNat 0 ∧ g.getD x.toNat 0 < (m : Int)) (hn : (n : Int) = cnC (Z.set d m)) {j : Nat} (hj : j < n) :
    brB (Z.set d m) (acU Z C d z m g n C.length) j = false := by
  obtain ⟨f1, f2, -⟩ := cf_get (cg_get h).1
  have hz := okZ_nn (cs_get f1).1
  have hm0 : (0 : Int) ≤ (m : Int) := by omega
  have hzd : 0 ≤ z := hz z (List.mem_of_getElem? hd)
  have hdl := (List.getElem?_eq_some_iff.1 hd).1
  have hg2 : ∀ x, 0 ≤ x → x ≤ z → 0 ≤ gzI z m g x ∧ gzI z m g x ≤ (m : Int) := fun x h0 h1 => by
    unfold gzI
    by_cases hx : x = z
    · rw [if_pos hx]; omega
    · rw [if_neg hx]
      have := hg x h0 (by omega)
      omega
  have hy : ∀ a ∈ Z.set d (m : Int), 0 ≤ a := fun a ha => by
    rcases List.mem_or_eq_of_mem_set ha with h | rfl
    · exact hz a h
    · exact hm0
  have cell : ∀ (k : Nat) (J : List Int), k < n → J = dgL (Z.set d (m : Int)) (k : Int) → (acU Z C d z m g n C.length).getD k 0 = ouF Z C d z m g J := fun k J hk hJ => jd_cell hz hd hm0 hg2 f2 hJ hk hn
  obtain ⟨J, hJ⟩ : ∃ J, J = dgL (Z.set d (m : Int)) (j : Int) := ⟨_, rfl⟩
  have hJf : FtC (Z.set d (m : Int)) J := by rw [hJ]; exact dg_fit hy _
  have hJl : J.length = Z.length := by rw [hJ, dgL_len, List.length_set]
  have hback : ∀ k : Int, 0 ≤ k → k ≤ z → FtC Z (J.set d k) := fun k h0 h1 => by
    have := ft_both hJf d h0 h1
    rwa [set_back hd] at this
  unfold brB
  rw [List.any_eq_false]
  intro L hL
  rw [decide_eq_true_eq, Classical.not_not, cell j J hj hJ]
  obtain ⟨e, he, rfl, het⟩ := ptU_tot (Z.set d (m : Int)) (j : Int) hL
  have hel : e < Z.length := by rwa [List.length_set] at he
  obtain ⟨y, hye⟩ : ∃ y, (Z.set d (m : Int))[e]? = some y := ⟨_, List.getElem?_eq_getElem he⟩
  have hJe : J[e]? = some y := by
    rw [← hJ, getD_at hye, List.getD_eq_getElem?_getD, List.getElem?_eq_getElem (by omega)] at het
    rw [List.getElem?_eq_getElem (by omega)]
    exact congrArg some het
  have hyn : 0 ≤ y := hy y (List.mem_of_getElem? hye)
  rw [suC_sum]
  unfold ptD
  rw [getD_at hye, List.map_map, ← hJ]
  have parts : ∀ x ∈ List.range y.toNat, ((fun k : Int => (acU Z C d z m g n C.length).getD k.toNat 0) ∘ fun k : Nat => ixC (Z.set d (m : Int)) (J.set e (k : Int))) x = ouF Z C d z m g (J.set e (x : Int)) := fun x hx => by
    rw [List.mem_range] at hx
    have hf2 := hJf.set hye (show 0 ≤ (x : Int) by omega) (by omega)
    obtain ⟨a, b⟩ := ix_in hf2
    simp only [Function.comp]
    refine cell _ _ (by omega) ?_
    rw [Int.toNat_of_nonneg a, dg_ix (by rw [List.length_set, List.length_set]; exact hJl) hf2 hy]
  rw [List.map_congr_left parts]
  by_cases hed : e = d
  · subst hed
    rw [List.getElem?_set, if_pos rfl, if_pos hdl] at hye
    obtain rfl := Option.some.inj hye
    have e1 : ∀ x ∈ List.range (m : Int).toNat, ouF Z C e z m g (J.set e (x : Int)) = (((List.range (z + 1).toNat).filter fun k : Nat => gzI z m g (k : Int) = (x : Int)).map fun k : Nat => ceF Z C (J.set e (k : Int))).sum := fun x _ => by
      unfold ouF
      rw [show (J.set e (x : Int)).getD e 0 = (x : Int) from getD_at (by rw [List.getElem?_set, if_pos rfl, if_pos (by omega)])]
      simp only [List.set_set]
    rw [List.map_congr_left e1, Int.toNat_natCast, sum_class (fun k : Nat => gzI z m g (k : Int)) (fun k : Nat => ceF Z C (J.set e (k : Int))) m]
    have hr : List.range (z + 1).toNat = List.range z.toNat ++ [z.toNat] := by rw [show (z + 1).toNat = z.toNat + 1 by omega, List.range_succ]
    have hzz : ((z.toNat : Nat) : Int) = z := by omega
    unfold ouF
    rw [getD_at hJe, hr, List.filter_append, List.filter_append]
    have l1 : ∀ k ∈ List.range z.toNat, (decide (0 ≤ gzI z m g (k : Int)) && decide (gzI z m g (k : Int) < (m : Int))) = true := fun k hk => by
      rw [List.mem_range] at hk
      have := hg (k : Int) (by omega) (by omega)
      unfold gzI
      rw [if_neg (by omega)]
      simp only [Bool.and_eq_true, decide_eq_true_eq]
      exact this
    have l2 : ∀ k ∈ List.range z.toNat, ¬ (decide (gzI z m g (k : Int) = (m : Int))) = true := fun k hk => by
      rw [List.mem_range] at hk
      have := hg (k : Int) (by omega) (by omega)
      unfold gzI
      rw [if_neg (by omega), decide_eq_true_eq]
      omega
    rw [List.filter_eq_self.2 l1, List.filter_eq_nil_iff.2 l2]
    have l3 : gzI z m g ((z.toNat : Nat) : Int) = (m : Int) := by unfold gzI; rw [if_pos hzz]
    have hfz := hback z hzd (Int.le_refl _)
    have := ce_add h (I := J.set e z) (by rw [List.length_set]; exact hJl) hfz hd (by rw [List.getElem?_set, if_pos rfl, if_pos (by omega)])
    simp only [List.set_set] at this
    have s1 : ([z.toNat].filter fun k : Nat => decide (0 ≤ gzI z m g (k : Int)) && decide (gzI z m g (k : Int) < (m : Int))) = [] := by
      rw [List.filter_cons_of_neg (by rw [l3]; simp), List.filter_nil]
    have s2 : ([z.toNat].filter fun k : Nat => decide (gzI z m g (k : Int) = (m : Int))) = [z.toNat] := by
      rw [List.filter_cons_of_pos (by rw [l3]; simp), List.filter_nil]
    rw [s1, s2]
    simp [hzz, this]
  · have hze : Z[e]? = some y := by rwa [List.getElem?_set, if_neg (fun q => hed q.symm)] at hye
    have e1 : ∀ x ∈ List.range y.toNat, ouF Z C d z m g (J.set e (x : Int)) = (((List.range (z + 1).toNat).filter fun k : Nat => gzI z m g (k : Int) = J.getD d 0).map fun k : Nat => ceF Z C ((J.set d (k : Int)).set e (x : Int))).sum := fun x _ => by
      unfold ouF
      rw [show (J.set e (x : Int)).getD d 0 = J.getD d 0 by rw [List.getD_eq_getElem?_getD, List.getD_eq_getElem?_getD, List.getElem?_set, if_neg hed]]
      congr 1
      refine List.map_congr_left fun k _ => ?_
      rw [List.set_comm _ _ hed]
    rw [List.map_congr_left e1, sum_swap]
    unfold ouF
    congr 1
    refine List.map_congr_left fun k hk => ?_
    have hkm := (List.mem_filter.1 hk).1
    rw [List.mem_range] at hkm
    exact ce_add h (by rw [List.length_set]; exact hJl) (hback _ (by omega) (by omega)) hze (by rw [List.getElem?_set, if_neg (fun q => hed q.symm)]; exact hJe)
end Go.Proofs.Ytnmpigedhpdenaa
