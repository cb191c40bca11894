/-
  Plain mathematics of cubes that are cut: the cells that have the indices that are fixed, as they are told and as they are listed. No program's text.
-/
import Derived.Test.YtnmpigedhpdenaaCbZm
namespace Go.Proofs.Ytnmpigedhpdenaa
open Go.RowKit

/-- The dimensions that are open, from k on; their sizes; indices put into them. -/
def opD : List Int → Int → List Int
  | [], _ => []
  | f :: g, k => if f = -1 then k :: opD g (k + 1) else opD g (k + 1)
def opZ : List Int → List Int → List Int
  | z :: r, f :: g => if f = -1 then z :: opZ r g else opZ r g
  | _, _ => []
def mgL : List Int → List Int → List Int
  | [], _ => []
  | f :: g, X => if f = -1 then X.headD 0 :: mgL g X.tail else f :: mgL g X
/-- The cells, listed. -/
def enI : List Int → List Int → List Int
  | z :: r, f :: g => if f = -1 then (List.range (z + 1).toNat).flatMap (fun a : Nat => (enI r g).map fun j => (a : Int) * cnC r + j) else (enI r g).map fun j => f * cnC r + j
  | _, _ => [0]
/-- Has a cell the indices that are fixed? -/
def mtB : List Int → List Int → Int → Bool
  | z :: r, f :: g, i => ((f == -1) || (f == i / cnC r % (z + 1))) && mtB r g i
  | _, _, _ => true
def okF : List Int → List Int → Prop
  | [], [] => True
  | z :: r, f :: g => (f = -1 ∨ (0 ≤ f ∧ f ≤ z)) ∧ okF r g
  | _, _ => False
theorem okF_len : ∀ {Z F : List Int}, okF Z F → F.length = Z.length
  | [], [], _ => rfl
  | [], _ :: _, h => h.elim
  | _ :: _, [], h => h.elim
  | _ :: r, _ :: g, h => by simp only [List.length_cons]; rw [okF_len h.2]
theorem okF_of : ∀ {Z F : List Int}, F.length = Z.length → (∀ (d : Nat) (z f : Int), Z[d]? = some z → F[d]? = some f → f = -1 ∨ (0 ≤ f ∧ f ≤ z)) → okF Z F
  | [], [], _, _ => trivial
  | [], _ :: _, h, _ => by simp at h
  | _ :: _, [], h, _ => by simp at h
  | z :: r, f :: g, h, k => ⟨k 0 z f rfl rfl, okF_of (by simpa using h) fun d a b ha hb => k (d + 1) a b (by simpa using ha) (by simpa using hb)⟩
/-- The numbers below n. -/
def rnI (n : Int) : List Int := (List.range n.toNat).map fun k : Nat => (k : Int)
theorem rng_mul : ∀ n c : Nat, List.range (n * c) = (List.range n).flatMap fun a => (List.range c).map fun j => a * c + j
  | 0, c => by simp
  | n + 1, c => by
    rw [Nat.add_mul, Nat.one_mul, List.range_add, rng_mul n c, List.range_succ, List.flatMap_append]
    simp
theorem rnI_mul {z c : Int} (hz : 0 ≤ z) (hc : 0 ≤ c) : rnI ((z + 1) * c) = (List.range (z + 1).toNat).flatMap fun a : Nat => (rnI c).map fun j => (a : Int) * c + j := by
  unfold rnI
  obtain ⟨n, rfl⟩ : ∃ n : Nat, z = (n : Int) := ⟨z.toNat, by omega⟩
  obtain ⟨k, rfl⟩ : ∃ k : Nat, c = (k : Int) := ⟨c.toNat, by omega⟩
  have e1 : (((n : Int) + 1) * (k : Int)).toNat = (n + 1) * k := by rw [show ((n : Int) + 1) * (k : Int) = (((n + 1) * k : Nat) : Int) by simp]; rfl
  have e2 : ((n : Int) + 1).toNat = n + 1 := by omega
  rw [e1, e2, Int.toNat_natCast, rng_mul, List.map_flatMap]
  congr 1
  funext a
  rw [List.map_map, List.map_map]
  congr 1
  try (funext j; simp)
theorem rnI_mem {n i : Int} (h : i ∈ rnI n) : 0 ≤ i ∧ i < n := by
  unfold rnI at h
  obtain ⟨k, hk, rfl⟩ := List.mem_map.1 h
  rw [List.mem_range] at hk
  omega
theorem dm_mul {c : Int} (hc : 1 ≤ c) (m z j : Int) : (m * ((z + 1) * c) + j) / c % (z + 1) = j / c % (z + 1) := by
  rw [← Int.mul_assoc, Int.add_comm, Int.add_mul_ediv_right _ _ (by omega), Int.add_mul_emod_self_right]
theorem mt_mul : ∀ {r : List Int} (g : List Int) (m j : Int), (∀ z ∈ r, 0 ≤ z) → mtB r g (m * cnC r + j) = mtB r g j
  | [], _, _, _, _ => by simp [mtB]
  | z :: r, [], _, _, _ => by simp [mtB]
  | z :: r, f :: g, m, j, h => by
    have h1 := cnC_pos (Z := r) fun a ha => h a (by simp [ha])
    have ih := mt_mul (r := r) g (m * (z + 1)) j fun a ha => h a (by simp [ha])
    rw [Int.mul_assoc] at ih
    simp only [mtB, cnC]
    rw [dm_mul h1, ih]
theorem dg_mul : ∀ {r : List Int} (m j : Int), (∀ z ∈ r, 0 ≤ z) → dgL r (m * cnC r + j) = dgL r j
  | [], _, _, _ => rfl
  | z :: r, m, j, h => by
    have h1 := cnC_pos (Z := r) fun a ha => h a (by simp [ha])
    have ih := dg_mul (r := r) (m * (z + 1)) j fun a ha => h a (by simp [ha])
    rw [Int.mul_assoc] at ih
    simp only [dgL, cnC]
    rw [dm_mul h1, ih]
theorem dm_head {a z c j : Int} (h0 : 0 ≤ a) (h1 : a ≤ z) (hj : 0 ≤ j) (hc : j < c) : (a * c + j) / c % (z + 1) = a := by
  rw [Int.add_comm, Int.add_mul_ediv_right _ _ (by omega), Int.ediv_eq_zero_of_lt hj hc, Int.zero_add, Int.emod_eq_of_lt h0 (by omega)]
theorem pick_one {α : Type} (X : Nat → List α) (f : Nat) : ∀ n, (List.range n).flatMap (fun a => if a = f then X a else []) = if f < n then X f else []
  | 0 => by simp
  | n + 1 => by
    rw [List.range_succ, List.flatMap_append, pick_one X f n]
    simp only [List.flatMap_cons, List.flatMap_nil, List.append_nil]
    by_cases h : n = f
    · subst h
      simp
    · rw [if_neg h, List.append_nil]
      by_cases h2 : f < n
      · rw [if_pos h2, if_pos (by omega)]
      · rw [if_neg h2, if_neg (by omega)]
theorem flat_congr {α : Type} {X Y : Nat → List α} {L : List Nat} (h : ∀ a ∈ L, X a = Y a) : L.flatMap X = L.flatMap Y := by
  induction L with
  | nil => rfl
  | cons a L ih =>
    rw [List.flatMap_cons, List.flatMap_cons, h a (by simp), ih fun b hb => h b (by simp [hb])]
/-- The cells that are told are those that are listed. -/
theorem en_told : ∀ {Z F : List Int}, okF Z F → (∀ z ∈ Z, 0 ≤ z) → (rnI (cnC Z)).filter (mtB Z F) = enI Z F
  | [], [], _, _ => rfl
  | [], _ :: _, h, _ => h.elim
  | _ :: _, [], h, _ => h.elim
  | z :: r, f :: g, h, k => by
    have kr : ∀ y ∈ r, 0 ≤ y := fun a ha => k a (by simp [ha])
    have h1 := cnC_pos kr
    have hz := k z (by simp)
    have ih := en_told h.2 kr
    simp only [cnC]
    rw [rnI_mul hz (by omega), List.filter_flatMap]
    simp only [enI]
    have key : ∀ a ∈ List.range (z + 1).toNat, ((rnI (cnC r)).map fun j => (a : Int) * cnC r + j).filter (mtB (z :: r) (f :: g)) = if ((f == -1) || (f == (a : Int))) then (enI r g).map fun j => (a : Int) * cnC r + j else [] := by
      intro a ha
      rw [List.mem_range] at ha
      rw [List.filter_map]
      have : ∀ j ∈ rnI (cnC r), (mtB (z :: r) (f :: g) ∘ fun j => (a : Int) * cnC r + j) j = (((f == -1) || (f == (a : Int))) && mtB r g j) := by
        intro j hj
        have := rnI_mem hj
        simp only [Function.comp, mtB]
        rw [dm_head (by omega) (by omega) this.1 this.2, mt_mul _ _ _ kr]
      rw [List.filter_congr this]
      split
      · rename_i hc
        simp only [hc, Bool.true_and]
        rw [ih]
      · rename_i hc
        rw [Bool.not_eq_true] at hc
        simp only [hc, Bool.false_and]
        simp
    rw [flat_congr key]
    by_cases hf : f = -1
    · simp [hf]
    · rw [if_neg hf]
      have h2 := h.1.resolve_left hf
      obtain ⟨m, rfl⟩ : ∃ m : Nat, f = (m : Int) := ⟨f.toNat, by omega⟩
      have : ∀ a ∈ List.range (z + 1).toNat, (if (((m : Int) == -1) || ((m : Int) == (a : Int))) then (enI r g).map fun j => (a : Int) * cnC r + j else []) = if a = m then (enI r g).map fun j => (a : Int) * cnC r + j else [] := by
        intro a _
        by_cases e : a = m
        · subst e; simp
        · have : ¬ (m : Int) = (a : Int) := by omega
          have h3 : ¬ (m : Int) = -1 := by omega
          simp [this, h3, e]
      rw [flat_congr this, pick_one, if_pos (by omega)]
/-- The cells, by the indices of the dimensions that are open. -/
theorem en_open : ∀ {Z F : List Int}, okF Z F → (∀ z ∈ Z, 0 ≤ z) → (rnI (cnC (opZ Z F))).map (fun i => ixC Z (mgL F (dgL (opZ Z F) i))) = enI Z F
  | [], [], _, _ => rfl
  | [], _ :: _, h, _ => h.elim
  | _ :: _, [], h, _ => h.elim
  | z :: r, f :: g, h, k => by
    have kr : ∀ y ∈ r, 0 ≤ y := fun a ha => k a (by simp [ha])
    have hz := k z (by simp)
    have ih := en_open h.2 kr
    have ko : ∀ y ∈ opZ r g, 0 ≤ y := by
      have : ∀ (r g : List Int), (∀ y ∈ r, 0 ≤ y) → ∀ y ∈ opZ r g, 0 ≤ y := by
        intro r
        induction r with
        | nil => intro g _ y hy; simp [opZ] at hy
        | cons a r ihr =>
          intro g hr y hy
          match g, hy with
          | [], hy => simp [opZ] at hy
          | f :: g, hy =>
            simp only [opZ] at hy
            split at hy
            · rcases List.mem_cons.1 hy with rfl | hy
              · exact hr _ (by simp)
              · exact ihr g (fun b hb => hr b (by simp [hb])) y hy
            · exact ihr g (fun b hb => hr b (by simp [hb])) y hy
      exact this r g kr
    simp only [opZ, enI, mgL]
    by_cases hf : f = -1
    · rw [if_pos hf, if_pos hf]
      simp only [if_pos hf]
      simp only [cnC]
      rw [rnI_mul hz (by have := cnC_pos ko; omega), List.map_flatMap]
      refine flat_congr fun a ha => ?_
      rw [List.mem_range] at ha
      rw [List.map_map, ← ih, List.map_map]
      refine List.map_congr_left fun j hj => ?_
      have := rnI_mem hj
      simp only [Function.comp, dgL, List.headD_cons, List.tail_cons, ixC]
      rw [dm_head (by omega) (by omega) this.1 this.2, dg_mul _ _ ko]
    · rw [if_neg hf, if_neg hf]
      simp only [if_neg hf]
      rw [← ih, List.map_map]
      rfl
theorem opZ_mem : ∀ {Z F : List Int} {z : Int}, z ∈ opZ Z F → z ∈ Z
  | [], _, _, h => by simp [opZ] at h
  | _ :: _, [], _, h => by simp [opZ] at h
  | y :: r, f :: g, z, h => by
    simp only [opZ] at h
    split at h
    · rcases List.mem_cons.1 h with rfl | h
      · simp
      · exact List.mem_cons_of_mem _ (opZ_mem h)
    · exact List.mem_cons_of_mem _ (opZ_mem h)
theorem opZ_len : ∀ (Z F : List Int), (opZ Z F).length ≤ Z.length
  | [], _ => by simp [opZ]
  | _ :: _, [] => by simp [opZ]
  | y :: r, f :: g => by
    have := opZ_len r g
    simp only [opZ]
    split <;> simp only [List.length_cons] <;> omega
theorem opZ_snoc : ∀ {Z F : List Int} (z f : Int), F.length = Z.length → opZ (Z ++ [z]) (F ++ [f]) = opZ Z F ++ (if f = -1 then [z] else [])
  | [], [], z, f, _ => by simp [opZ]
  | [], _ :: _, _, _, h => by simp at h
  | _ :: _, [], _, _, h => by simp at h
  | y :: r, e :: g, z, f, h => by
    simp only [List.cons_append, opZ]
    rw [opZ_snoc z f (by simpa using h)]
    split <;> rfl
theorem opZ_step {Z F : List Int} {k : Nat} {z f : Int} (hl : F.length = Z.length) (hz : Z[k]? = some z) (hf : F[k]? = some f) : opZ (Z.take (k + 1)) (F.take (k + 1)) = opZ (Z.take k) (F.take k) ++ (if f = -1 then [z] else []) := by
  rw [take_snoc hz, take_snoc hf, opZ_snoc z f (by simp only [List.length_take]; omega)]
theorem opZ_ok {Z F : List Int} (h : okZ Z = true) : okZ (opZ Z F) = true := by
  unfold okZ
  rw [Bool.and_eq_true, decide_eq_true_eq]
  refine ⟨by have := opZ_len Z F; have := okZ_len h; omega, ?_⟩
  unfold inR
  rw [List.all_eq_true]
  intro z hz
  exact (inB_iff _ _ _).2 (okZ_mem h (opZ_mem hz))
theorem cn_open : ∀ {Z : List Int} (F : List Int), (∀ z ∈ Z, 0 ≤ z) → cnC (opZ Z F) ≤ cnC Z
  | [], _, _ => by simp [opZ, cnC]
  | z :: r, [], k => by
    have h1 := cnC_pos k
    simpa [opZ, cnC] using h1
  | z :: r, f :: g, k => by
    have kr : ∀ y ∈ r, 0 ≤ y := fun a ha => k a (by simp [ha])
    have ih := cn_open g kr
    have hz := k z (by simp)
    have h1 := cnC_pos kr
    simp only [opZ]
    split
    · simp only [cnC]
      exact Int.mul_le_mul_of_nonneg_left ih (by omega)
    · simp only [cnC]
      have := Int.mul_le_mul_of_nonneg_right (show 1 ≤ z + 1 by omega) (show 0 ≤ cnC r by omega)
      omega
/-- The dimensions that are open. -/
theorem opD_snoc : ∀ (F : List Int) (f k : Int), opD (F ++ [f]) k = opD F k ++ (if f = -1 then [k + (F.length : Int)] else [])
  | [], f, k => by simp [opD]
  | e :: g, f, k => by
    simp only [List.cons_append, opD]
    rw [opD_snoc g f (k + 1)]
    have : k + 1 + (g.length : Int) = k + ((e :: g).length : Int) := by simp only [List.length_cons]; omega
    rw [this]
    split <;> rfl
theorem opD_mem : ∀ {F : List Int} {k d : Int}, d ∈ opD F k → k ≤ d ∧ d < k + (F.length : Int)
  | [], _, _, h => by simp [opD] at h
  | f :: g, k, d, h => by
    simp only [opD] at h
    simp only [List.length_cons]
    split at h
    · rcases List.mem_cons.1 h with rfl | h
      · omega
      · have := opD_mem h; omega
    · have := opD_mem h; omega
theorem opD_len : ∀ {Z F : List Int} (k : Int), F.length = Z.length → (opD F k).length = (opZ Z F).length
  | [], [], _, _ => rfl
  | [], _ :: _, _, h => by simp at h
  | _ :: _, [], _, h => by simp at h
  | z :: r, f :: g, k, h => by
    have ih := opD_len (k + 1) (show g.length = r.length by simpa using h)
    simp only [opD, opZ]
    split
    · simp only [List.length_cons]; rw [ih]
    · exact ih
theorem opD_pick : ∀ {Z F : List Int} (P : List Int), F.length = Z.length → (opD F (P.length : Int)).map (fun d => (P ++ Z).getD d.toNat 0) = opZ Z F
  | [], [], _, _ => rfl
  | [], _ :: _, _, h => by simp at h
  | _ :: _, [], _, h => by simp at h
  | z :: r, f :: g, P, h => by
    have ih := opD_pick (Z := r) (F := g) (P ++ [z]) (by simpa using h)
    rw [List.append_assoc, List.singleton_append, List.length_append] at ih
    simp only [opD, opZ]
    have e : ((P.length + [z].length : Nat) : Int) = (P.length : Int) + 1 := by simp
    rw [e] at ih
    split
    · rw [List.map_cons, ih]
      congr 1
      rw [Int.toNat_natCast, List.getD_eq_getElem?_getD, List.getElem?_append_right (Nat.le_refl _)]
      simp
    · exact ih
theorem opD_sizes {Z F : List Int} (h : F.length = Z.length) : (opD F 0).map (fun d => Z.getD d.toNat 0) = opZ Z F := by
  have := opD_pick (Z := Z) (F := F) [] h
  simpa using this
/-- Indices put where they belong. -/
def stL (G : List Int) (Q : List (Int × Int)) : List Int := Q.foldl (fun L q => L.set q.1.toNat q.2) G
theorem stL_snoc (G : List Int) (Q : List (Int × Int)) (q : Int × Int) : stL G (Q ++ [q]) = (stL G Q).set q.1.toNat q.2 := by unfold stL; rw [List.foldl_append]; rfl
theorem stL_cons (G : List Int) (q : Int × Int) (Q : List (Int × Int)) : stL G (q :: Q) = stL (G.set q.1.toNat q.2) Q := rfl
def agF : List Int → List Int → Prop
  | [], [] => True
  | f :: g, x :: y => (f = -1 ∨ f = x) ∧ agF g y
  | _, _ => False
theorem st_at : ∀ {F G : List Int} (P X : List Int), agF F G → X.length = (opD F (P.length : Int)).length → stL (P ++ G) ((opD F (P.length : Int)).zip X) = P ++ mgL F X
  | [], [], P, X, _, _ => by simp [opD, mgL, stL]
  | [], _ :: _, _, _, h, _ => h.elim
  | _ :: _, [], _, _, h, _ => h.elim
  | f :: g, x :: y, P, X, h, hl => by
    simp only [opD, mgL] at hl ⊢
    have e : ∀ u : Int, (((P ++ [u]).length : Nat) : Int) = (P.length : Int) + 1 := fun u => by simp
    split
    · rename_i hf
      rw [if_pos hf] at hl
      match X, hl with
      | [], hl => simp at hl
      | u :: X, hl =>
        rw [List.zip_cons_cons, stL_cons]
        have ih := st_at (F := g) (G := y) (P ++ [u]) X h.2 (by rw [e]; simpa using hl)
        rw [e, List.append_assoc, List.append_assoc, List.singleton_append, List.singleton_append] at ih
        simp only [Int.toNat_natCast, List.headD_cons, List.tail_cons]
        rw [List.set_append_right _ _ (Nat.le_refl _), Nat.sub_self, List.set_cons_zero]
        exact ih
    · rename_i hf
      rw [if_neg hf] at hl
      have ih := st_at (F := g) (G := y) (P ++ [x]) X h.2 (by rw [e]; exact hl)
      rw [e, List.append_assoc, List.append_assoc, List.singleton_append, List.singleton_append] at ih
      rw [h.1.resolve_left hf]
      exact ih
theorem st_all {F G X : List Int} (h : agF F G) (hl : X.length = (opD F 0).length) : stL G ((opD F 0).zip X) = mgL F X := by
  have := st_at (F := F) (G := G) [] X h hl
  simpa using this
/-- Has a place the indices that are fixed? -/
def mvL (A F : List Int) : List Int := List.zipWith (fun a f => if f = -1 then a else f) A F
theorem mv_own : ∀ {Z F : List Int} (i : Int), F.length = Z.length → (dgL Z i = mvL (dgL Z i) F ↔ mtB Z F i = true)
  | [], [], _, _ => by simp [dgL, mvL, mtB]
  | [], _ :: _, _, h => by simp at h
  | _ :: _, [], _, h => by simp at h
  | z :: r, f :: g, i, h => by
    have ih := mv_own (Z := r) (F := g) i (by simpa using h)
    simp only [dgL, mtB]
    show _ :: _ = List.zipWith _ _ _ ↔ _
    rw [List.zipWith_cons_cons, List.cons_eq_cons, Bool.and_eq_true, ← ih]
    refine and_congr ?_ Iff.rfl
    by_cases hf : f = -1
    · simp [hf]
    · rw [if_neg hf, Bool.or_eq_true, beq_iff_eq, beq_iff_eq]
      exact ⟨fun e => .inr e.symm, fun e => (e.resolve_left hf).symm⟩
theorem mv_place {Z F T : List Int} (i : Int) (hl : F.length = Z.length) (hT : ∀ t ∈ T, t = 0 ∨ t = -1) (hTl : T.length = 4 - Z.length) : dgX Z i = mvL (dgX Z i) (F ++ T) ↔ mtB Z F i = true := by
  rw [← mv_own i hl]
  have e : List.zipWith (fun a f : Int => if f = -1 then a else f) (List.replicate (4 - Z.length) 0) T = List.replicate (4 - Z.length) 0 := by
    refine List.ext_getElem (by simp [hTl]) fun j h1 h2 => ?_
    rw [List.getElem_zipWith]
    have hj : j < T.length := by simp at h1; omega
    rcases hT T[j] (List.getElem_mem hj) with e | e <;> simp [e]
  unfold dgX mvL
  rw [List.zipWith_append (by rw [dgL_len, hl]), e, List.append_left_inj]
/-- The cells of the cut cube, among the first. -/
def ctU (Z F C : List Int) : Nat → List Int
  | 0 => []
  | n + 1 => if mtB Z F n then ctU Z F C n ++ [C.getD n 0] else ctU Z F C n
theorem ctU_len (Z F C : List Int) : ∀ n, (ctU Z F C n).length ≤ n
  | 0 => Nat.le_refl _
  | n + 1 => by
    have := ctU_len Z F C n
    unfold ctU
    split
    · rw [List.length_append]; simp; omega
    · omega
theorem ctU_map (Z F C : List Int) : ∀ n : Nat, ctU Z F C n = ((rnI (n : Int)).filter (mtB Z F)).map fun i => C.getD i.toNat 0
  | 0 => rfl
  | n + 1 => by
    have e : rnI ((n + 1 : Nat) : Int) = rnI (n : Int) ++ [(n : Int)] := by
      unfold rnI
      rw [Int.toNat_natCast, Int.toNat_natCast, List.range_succ, List.map_append]
      rfl
    rw [e, List.filter_append, List.map_append, ← ctU_map Z F C n]
    show (if mtB Z F (n : Int) = true then ctU Z F C n ++ [C.getD n 0] else ctU Z F C n) = _
    by_cases h : mtB Z F (n : Int) = true
    · rw [if_pos h]
      simp [h]
    · rw [if_neg h]
      simp [h]
/-- The cells of the cut cube. -/
def ctL (Z F C : List Int) : List Int := (enI Z F).map fun i => C.getD i.toNat 0
theorem ctU_all {Z F C : List Int} (h : okF Z F) (hz : ∀ z ∈ Z, 0 ≤ z) (hl : (C.length : Int) = cnC Z) : ctU Z F C C.length = ctL Z F C := by
  rw [ctU_map, hl, en_told h hz]
  rfl
theorem ctO_all {Z F C : List Int} (h : okF Z F) (hz : ∀ z ∈ Z, 0 ≤ z) : (rnI (cnC (opZ Z F))).map (fun i => C.getD (ixC Z (mgL F (dgL (opZ Z F) i))).toNat 0) = ctL Z F C := by
  unfold ctL
  rw [← en_open h hz, List.map_map]
  rfl
end Go.Proofs.Ytnmpigedhpdenaa
