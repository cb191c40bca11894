/-
  Plain mathematics of cubes whose indices are joined: a joined cell as a sum over the indices that are joined to its own. No program's text.
-/
import Derived.Test.YtnmpigedhpdenaaCmM
namespace Go.Proofs.Ytnmpigedhpdenaa
open Go.RowKit

theorem dg_ix : ∀ {Z I : List Int}, I.length = Z.length → FtC Z I → (∀ z ∈ Z, 0 ≤ z) → dgL Z (ixC Z I) = I
  | [], [], _, _, _ => rfl
  | [], _ :: _, h, _, _ => by simp at h
  | _ :: _, [], h, _, _ => by simp at h
  | z :: r, x :: y, h, hf, hz => by
    have hr : ∀ a ∈ r, 0 ≤ a := fun a ha => hz a (by simp [ha])
    have ih := dg_ix (Z := r) (I := y) (by simpa using h) hf.tail hr
    have h1 := ix_in hf.tail
    have h2 := hf.head
    simp only [dgL, ixC]
    rw [dm_head h2.1 h2.2 h1.1 h1.2, dg_mul _ _ hr, ih]
theorem ix_dg : ∀ {Z : List Int} {i : Int}, (∀ z ∈ Z, 0 ≤ z) → 0 ≤ i → i < cnC Z → ixC Z (dgL Z i) = i
  | [], i, _, h0, h1 => by simp [cnC] at h1; simp [ixC]; omega
  | z :: r, i, hz, h0, h1 => by
    have hr : ∀ a ∈ r, 0 ≤ a := fun a ha => hz a (by simp [ha])
    have hc := cnC_pos hr
    have hz0 := hz z (by simp)
    have e1 : i = i / cnC r * cnC r + i % cnC r := by have := Int.mul_ediv_add_emod i (cnC r); rw [Int.mul_comm] at this; omega
    have e2 := dg_mul (r := r) (i / cnC r) (i % cnC r) hr
    rw [← e1] at e2
    have b1 := Int.emod_nonneg i (show cnC r ≠ 0 by omega)
    have b2 := Int.emod_lt_of_pos i (show 0 < cnC r by omega)
    have ih := ix_dg (Z := r) (i := i % cnC r) hr b1 b2
    have b3 : i / cnC r < z + 1 := by
      unfold cnC at h1
      exact Int.ediv_lt_of_lt_mul (by omega) h1
    have b4 := Int.ediv_nonneg h0 (show 0 ≤ cnC r by omega)
    simp only [dgL, ixC]
    rw [e2, ih, Int.emod_eq_of_lt b4 b3]
    omega
/-- One open dimension. -/
theorem en_none : ∀ {Z I : List Int}, I.length = Z.length → FtC Z I → enI Z I = [ixC Z I]
  | [], [], _, _ => rfl
  | [], _ :: _, h, _ => by simp at h
  | _ :: _, [], h, _ => by simp at h
  | z :: r, x :: y, h, hf => by
    have ih := en_none (Z := r) (I := y) (by simpa using h) hf.tail
    have h2 := hf.head
    simp only [enI, ixC]
    rw [if_neg (by omega), ih]
    rfl
theorem en_one : ∀ {Z I : List Int} {d : Nat} {z : Int}, I.length = Z.length → FtC Z I → Z[d]? = some z → enI Z (I.set d (-1)) = (List.range (z + 1).toNat).map fun k : Nat => ixC Z (I.set d (k : Int))
  | [], _, d, z, _, _, hd => by simp at hd
  | _ :: _, [], _, _, h, _, _ => by simp at h
  | y :: r, x :: J, 0, z, h, hf, hd => by
    simp only [List.getElem?_cons_zero, Option.some.injEq] at hd
    subst hd
    have e := en_none (Z := r) (I := J) (by simpa using h) hf.tail
    simp only [List.set_cons_zero, enI, if_true, ixC]
    rw [e]
    simp
    rw [← List.map_eq_flatMap]
  | y :: r, x :: J, d + 1, z, h, hf, hd => by
    have ih := en_one (Z := r) (I := J) (d := d) (z := z) (by simpa using h) hf.tail (by simpa using hd)
    have h2 := hf.head
    simp only [List.set_cons_succ, enI, ixC]
    rw [if_neg (by omega), ih, List.map_map]
    rfl
/-- The joined index; the joined place. -/
def gzI (z m : Int) (g : List Int) (x : Int) : Int := if x = z then m else g.getD x.toNat 0
def jnL (d : Nat) (z m : Int) (g I : List Int) : List Int := I.set d (gzI z m g (I.getD d 0))
/-- Which cells are joined into the cell with indices J. -/
theorem jn_iff : ∀ {Z J : List Int} {d : Nat} {z m : Int} {g : List Int} (i : Int), J.length = Z.length → Z[d]? = some z → (∀ x ∈ J, 0 ≤ x) →
    (jnL d z m g (dgL Z i) = J ↔ (mtB Z (J.set d (-1)) i = true ∧ gzI z m g ((dgL Z i).getD d 0) = J.getD d 0))
  | [], _, d, z, m, g, i, _, hd, _ => by simp at hd
  | _ :: _, [], _, _, _, _, _, h, _, _ => by simp at h
  | y :: r, x :: J, 0, z, m, g, i, h, hd, hj => by
    simp only [List.getElem?_cons_zero, Option.some.injEq] at hd
    subst hd
    have e : mtB r J i = true ↔ dgL r i = J := by
      rw [← mv_own i (by simpa using h)]
      have : ∀ (A B : List Int), A.length = B.length → (∀ b ∈ B, 0 ≤ b) → mvL A B = B := by
        intro A
        induction A with
        | nil => intro B hl _; cases B with | nil => rfl | cons a b => simp at hl
        | cons a A ih =>
          intro B hl hb
          cases B with
          | nil => simp at hl
          | cons b B =>
            unfold mvL
            rw [List.zipWith_cons_cons, if_neg (by have := hb b (by simp); omega)]
            have := ih B (by simpa using hl) fun c hc => hb c (by simp [hc])
            unfold mvL at this
            rw [this]
      rw [this _ _ (by rw [dgL_len]; simpa using h.symm) fun b hb => hj b (by simp [hb])]
    simp only [jnL, dgL, List.set_cons_zero, List.getD_cons_zero, mtB, List.cons_eq_cons]
    simp only [beq_self_eq_true, Bool.true_or, Bool.true_and]
    rw [e]
    exact and_comm
  | y :: r, x :: J, d + 1, z, m, g, i, h, hd, hj => by
    have ih := jn_iff (Z := r) (J := J) (d := d) (z := z) (m := m) (g := g) i (by simpa using h) (by simpa using hd) fun b hb => hj b (by simp [hb])
    have hx := hj x (by simp)
    simp only [jnL, dgL, List.set_cons_succ, List.getD_cons_succ, mtB, List.cons_eq_cons, Bool.and_eq_true, Bool.or_eq_true, beq_iff_eq] at ih ⊢
    rw [ih]
    constructor
    · rintro ⟨h1, h2, h3⟩
      exact ⟨⟨.inr h1.symm, h2⟩, h3⟩
    · rintro ⟨⟨h1, h2⟩, h3⟩
      exact ⟨(h1.resolve_left (by omega)).symm, h2, h3⟩
/-- The cells joined, as they come. -/
def jdT (Z : List Int) (d : Nat) (z m : Int) (g : List Int) (i : Int) : Int := ixC (Z.set d m) (jnL d z m g (dgL Z i))
def acU (Z C : List Int) (d : Nat) (z m : Int) (g : List Int) (n : Nat) : Nat → List Int
  | 0 => List.replicate n 0
  | i + 1 => (acU Z C d z m g n i).set (jdT Z d z m g i).toNat ((acU Z C d z m g n i).getD (jdT Z d z m g i).toNat 0 + C.getD i 0)
theorem acU_len (Z C : List Int) (d : Nat) (z m : Int) (g : List Int) (n : Nat) : ∀ i, (acU Z C d z m g n i).length = n
  | 0 => by simp [acU]
  | i + 1 => by unfold acU; rw [List.length_set]; exact acU_len Z C d z m g n i
theorem acU_sum (Z C : List Int) (d : Nat) (z m : Int) (g : List Int) (n j : Nat) (hj : j < n) (ht : ∀ i : Int, 0 ≤ jdT Z d z m g i) : ∀ i : Nat, (acU Z C d z m g n i).getD j 0 = (((rnI (i : Int)).filter fun k => jdT Z d z m g k = (j : Int)).map fun k => C.getD k.toNat 0).sum
  | 0 => by simp [acU, rnI, List.getD_eq_getElem?_getD, hj]
  | i + 1 => by
    have e : rnI ((i + 1 : Nat) : Int) = rnI (i : Int) ++ [(i : Int)] := by
      unfold rnI
      rw [Int.toNat_natCast, Int.toNat_natCast, List.range_succ, List.map_append]
      rfl
    have ih := acU_sum Z C d z m g n j hj ht i
    have hl := acU_len Z C d z m g n i
    have h0 := ht i
    rw [e, List.filter_append, List.map_append, List.sum_append, ← ih]
    show ((acU Z C d z m g n i).set _ _).getD j 0 = _
    rw [List.getD_eq_getElem?_getD, List.getElem?_set]
    by_cases hq : (jdT Z d z m g i).toNat = j
    · have hq2 : jdT Z d z m g i = (j : Int) := by omega
      rw [if_pos hq, if_pos (by omega)]
      simp [hq2]
    · have hq2 : ¬ jdT Z d z m g i = (j : Int) := by omega
      rw [if_neg hq]
      simp [hq2, List.getD_eq_getElem?_getD]
theorem ft_both {Z I : List Int} (h : FtC Z I) (d : Nat) {m k : Int} (h0 : 0 ≤ k) (h1 : k ≤ m) : FtC (Z.set d m) (I.set d k) := by
  refine ⟨by rw [List.length_set, List.length_set]; exact h.1, fun e y x hy hx => ?_⟩
  rw [List.getElem?_set] at hy hx
  by_cases hd : d = e
  · rw [if_pos hd] at hy hx
    split at hy
    · split at hx
      · cases hy
        cases hx
        exact ⟨h0, h1⟩
      · cases hx
    · cases hy
  · rw [if_neg hd] at hy hx
    exact h.2 e y x hy hx
theorem set_back {Z : List Int} {d : Nat} {z : Int} (hd : Z[d]? = some z) (m : Int) : (Z.set d m).set d z = Z := by
  rw [List.set_set]
  refine List.ext_getElem? fun e => ?_
  rw [List.getElem?_set]
  split
  · rename_i h
    subst h
    rw [hd, if_pos (List.getElem?_eq_some_iff.1 hd).1]
  · rfl
/-- A joined cell is the sum over the indices that are joined to its own. -/
def ceF (Z C I : List Int) : Int := C.getD (ixC Z I).toNat 0
def ouF (Z C : List Int) (d : Nat) (z m : Int) (g J : List Int) : Int := (((List.range (z + 1).toNat).filter fun k : Nat => gzI z m g (k : Int) = J.getD d 0).map fun k : Nat => ceF Z C (J.set d (k : Int))).sum
theorem jd_cell {Z C : List Int} {d : Nat} {z m : Int} {g J : List Int} {j n : Nat} (hz : ∀ a ∈ Z, 0 ≤ a) (hd : Z[d]? = some z) (hm : 0 ≤ m) (hg : ∀ x, 0 ≤ x → x ≤ z → 0 ≤ gzI z m g x ∧ gzI z m g x ≤ m) (hC : (C.length : Int) = cnC Z) (hJ : J = dgL (Z.set d m) j) (hj : j < n) (hn : (n : Int) = cnC (Z.set d m)) :
    (acU Z C d z m g n C.length).getD j 0 = ouF Z C d z m g J := by
  have hzd : 0 ≤ z := hz z (List.mem_of_getElem? hd)
  have hy : ∀ a ∈ Z.set d m, 0 ≤ a := fun a ha => by
    rcases List.mem_or_eq_of_mem_set ha with h | rfl
    · exact hz a h
    · exact hm
  have hJf : FtC (Z.set d m) J := by rw [hJ]; exact dg_fit hy _
  have hJl : J.length = Z.length := by rw [hJ, dgL_len, List.length_set]
  have hdl := (List.getElem?_eq_some_iff.1 hd).1
  have hJn : ∀ x ∈ J, 0 ≤ x := fun x hx => by
    obtain ⟨e, he, hxe⟩ := List.getElem_of_mem hx
    have hh := List.getElem?_eq_getElem he
    rw [hxe] at hh
    exact (hJf.2 e ((Z.set d m)[e]'(by rw [List.length_set]; omega)) x (List.getElem?_eq_getElem _) hh).1
  have hfit : ∀ i : Int, FtC (Z.set d m) (jnL d z m g (dgL Z i)) := fun i => by
    unfold jnL
    have h1 := dg_fit hz i
    have h2 := (dgL_at i hd)
    have h3 := h1.2 d z _ hd h2
    rw [getD_at h2]
    exact ft_both h1 d (hg _ h3.1 h3.2).1 (hg _ h3.1 h3.2).2
  have ht : ∀ i : Int, 0 ≤ jdT Z d z m g i := fun i => (ix_in (hfit i)).1
  have hjl : (jnL d z m g (dgL Z 0)).length = (Z.set d m).length := by unfold jnL; rw [List.length_set, dgL_len, List.length_set]
  have key : ∀ i : Int, jdT Z d z m g i = (j : Int) ↔ jnL d z m g (dgL Z i) = J := fun i => by
    unfold jdT
    constructor
    · intro h
      have h9 := dg_ix (Z := Z.set d m) (I := jnL d z m g (dgL Z i)) (by unfold jnL; rw [List.length_set, dgL_len, List.length_set]) (hfit i) hy
      rw [h] at h9
      rw [← h9, hJ]
    · intro h
      rw [h, hJ]
      exact ix_dg hy (by omega) (by omega)
  rw [acU_sum Z C d z m g n j hj ht, hC]
  have e1 : ∀ i ∈ rnI (cnC Z), (decide (jdT Z d z m g i = (j : Int))) = (decide (gzI z m g ((dgL Z i).getD d 0) = J.getD d 0) && mtB Z (J.set d (-1)) i) := fun i _ => by
    rw [Bool.eq_iff_iff, decide_eq_true_eq, key i, jn_iff i hJl hd hJn, Bool.and_eq_true, decide_eq_true_eq]
    exact and_comm
  have hJZ : FtC Z J → True := fun _ => trivial
  rw [List.filter_congr e1, ← List.filter_filter]
  have hback : ∀ k : Int, 0 ≤ k → k ≤ z → FtC Z (J.set d k) := fun k h0 h1 => by
    have := ft_both hJf d h0 h1
    rwa [set_back hd] at this
  have hI0 := hback 0 (Int.le_refl _) hzd
  have e2 : J.set d (-1) = (J.set d 0).set d (-1) := by rw [List.set_set]
  have hok : okF Z (J.set d (-1)) := okF_of (by rw [List.length_set]; exact hJl) fun e y f hy2 hf => by
    rw [List.getElem?_set] at hf
    split at hf
    · split at hf
      · exact .inl (Option.some.inj hf).symm
      · cases hf
    · rename_i hne
      refine .inr (hI0.2 e y f hy2 ?_)
      rw [List.getElem?_set, if_neg hne]
      exact hf
  rw [en_told hok hz, e2, en_one (by rw [List.length_set]; exact hJl) hI0 hd, List.filter_map, List.map_map]
  unfold ouF
  have e3 : ∀ k ∈ List.range (z + 1).toNat, ((fun i : Int => decide (gzI z m g ((dgL Z i).getD d 0) = J.getD d 0)) ∘ fun k : Nat => ixC Z ((J.set d 0).set d (k : Int))) k = decide (gzI z m g (k : Int) = J.getD d 0) := fun k hk => by
    rw [List.mem_range] at hk
    simp only [Function.comp, List.set_set]
    rw [dg_ix (by rw [List.length_set]; exact hJl) (hback k (by omega) (by omega)) hz]
    have : (J.set d (k : Int)).getD d 0 = (k : Int) := getD_at (by rw [List.getElem?_set, if_pos rfl, if_pos (by omega)])
    rw [this]
  rw [List.filter_congr e3]
  congr 1
  refine List.map_congr_left fun k _ => ?_
  simp only [Function.comp, List.set_set]
  rfl
end Go.Proofs.Ytnmpigedhpdenaa
