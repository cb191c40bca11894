/-
  Plain mathematics of chapter 2: groupings: increasing lists of different numbers. No program's text.
-/
import Derived.Test.YtnmpigedhpdenaaSchM
namespace Go.Proofs.Ytnmpigedhpdenaa
open Go.RowKit

theorem snoc_rec {α : Type} {P : List α → Prop} (h0 : P []) (h1 : ∀ l a, P l → P (l ++ [a])) (l : List α) : P l := by
  have : ∀ n (l : List α), l.length = n → P l := by
    intro n
    induction n with
    | zero => intro l hl; rw [List.eq_nil_of_length_eq_zero hl]; exact h0
    | succ n ih =>
      intro l hl
      have hne : l ≠ [] := by intro e; rw [e] at hl; simp at hl
      rw [← List.dropLast_concat_getLast hne]
      exact h1 _ _ (ih _ (by rw [List.length_dropLast]; omega))
  exact this _ l rfl

/-- Where a number belongs in an increasing list. -/
def plK (L : List Int) (n : Int) : Nat := (L.takeWhile fun x => decide (x < n)).length
/-- An increasing list with one number more, unless it is there. -/
def putL (L : List Int) (n : Int) : List Int := if n ∈ L then L else L.take (plK L n) ++ n :: L.drop (plK L n)
def metL (G : List Int) : List Int := G.foldl putL []
abbrev Inc (L : List Int) : Prop := L.Pairwise (· < ·)

theorem plK_le (L : List Int) (n : Int) : plK L n ≤ L.length := by unfold plK; exact List.Sublist.length_le (List.takeWhile_sublist _)
theorem plK_of {L : List Int} {n : Int} {k : Nat} (hk : k ≤ L.length) (h1 : ∀ j v, j < k → L[j]? = some v → v < n) (h2 : k < L.length → ∀ v, L[k]? = some v → ¬ v < n) : plK L n = k := by
  unfold plK
  induction L generalizing k with
  | nil => simp at hk; simp [hk]
  | cons a r ih =>
    cases k with
    | zero =>
      have := h2 (by simp) a (by simp)
      simp [this]
    | succ k =>
      have ha := h1 0 a (by omega) (by simp)
      simp only [List.takeWhile_cons, decide_eq_true ha, if_true, List.length_cons]
      congr 1
      refine ih (by simp at hk; exact hk) (fun j v hj hv => h1 (j + 1) v (by omega) (by simpa using hv)) (fun hl v hv => h2 (by simp; exact hl) v (by simpa using hv))
theorem plK_lt {L : List Int} {n : Int} {j : Nat} {v : Int} (hj : j < plK L n) (hv : L[j]? = some v) : v < n := by
  unfold plK at hj
  have hp := (List.takeWhile_prefix (p := fun x : Int => decide (x < n)) (l := L))
  have e : (L.takeWhile fun x => decide (x < n))[j]? = some v := by
    obtain ⟨t, ht⟩ := hp
    rw [← ht, List.getElem?_append_left hj] at hv
    exact hv
  have hm := List.mem_of_getElem? e
  have key : ∀ M : List Int, v ∈ M.takeWhile (fun x => decide (x < n)) → v < n := by
    intro M
    induction M with
    | nil => intro h; cases h
    | cons a r ih =>
      intro h
      by_cases ha : a < n
      · simp only [List.takeWhile_cons, decide_eq_true ha, if_true, List.mem_cons] at h
        rcases h with rfl | h
        · exact ha
        · exact ih h
      · simp [ha] at h
  exact key L hm
theorem plK_ge {L : List Int} {n v : Int} {j : Nat} (hI : Inc L) (hj : plK L n ≤ j) (hv : L[j]? = some v) : n ≤ v := by
  have hlj := (List.getElem?_eq_some_iff.1 hv).1
  have hk : plK L n < L.length := by omega
  have h0 : ¬ L[plK L n] < n := by
    have : ∀ (M : List Int) (h : plK M n < M.length), ¬ M[plK M n] < n := by
      intro M
      induction M with
      | nil => intro h; simp at h
      | cons a r ih =>
        intro h
        unfold plK at h ⊢
        by_cases ha : a < n
        · have e : (List.takeWhile (fun x => decide (x < n)) (a :: r)) = a :: List.takeWhile (fun x => decide (x < n)) r := by simp [ha]
          simp only [e, List.length_cons] at h ⊢
          simp only [List.getElem_cons_succ]
          exact ih (by unfold plK; simpa using h)
        · have e : (List.takeWhile (fun x => decide (x < n)) (a :: r)) = [] := by simp [ha]
          simp only [e, List.length_nil, List.getElem_cons_zero]
          exact ha
    exact this L hk
  rcases Nat.lt_or_ge (plK L n) j with h | h
  · have := List.pairwise_iff_getElem.1 hI (plK L n) j hk hlj h
    have e := (List.getElem?_eq_some_iff.1 hv).2
    omega
  · have ej : j = plK L n := by omega
    subst ej
    have e := (List.getElem?_eq_some_iff.1 hv).2
    omega

theorem putL_mem {L : List Int} {n x : Int} : x ∈ putL L n ↔ x ∈ L ∨ x = n := by
  unfold putL
  split
  · rename_i h
    constructor
    · exact Or.inl
    · rintro (h' | rfl)
      · exact h'
      · exact h
  · rw [List.mem_append, List.mem_cons]
    constructor
    · rintro (h | rfl | h)
      · exact Or.inl (List.mem_of_mem_take h)
      · exact Or.inr rfl
      · exact Or.inl (List.mem_of_mem_drop h)
    · rintro (h | rfl)
      · rw [← List.take_append_drop (plK L n) L, List.mem_append] at h
        exact h.imp id Or.inr
      · exact Or.inr (Or.inl rfl)
theorem putL_len (L : List Int) (n : Int) : (putL L n).length = if n ∈ L then L.length else L.length + 1 := by
  unfold putL
  split
  · rfl
  · have := plK_le L n
    simp only [List.length_append, List.length_take, List.length_cons, List.length_drop]
    omega
theorem putL_inc {L : List Int} {n : Int} (hI : Inc L) : Inc (putL L n) := by
  unfold putL
  split
  · exact hI
  · rename_i hn
    have h1 : ∀ x ∈ L.take (plK L n), x < n := by
      intro x hx
      obtain ⟨j, hj, e⟩ := List.mem_take_iff_getElem.1 hx
      have hj1 : j < plK L n := by omega
      have hj2 : j < L.length := by omega
      exact plK_lt hj1 (by rw [← e]; exact List.getElem?_eq_getElem hj2)
    have h2 : ∀ x ∈ L.drop (plK L n), n < x := by
      intro x hx
      obtain ⟨j, hj, e⟩ := List.mem_drop_iff_getElem.1 hx
      have hat : L[plK L n + j]? = some x := by rw [List.getElem?_eq_getElem (by omega), e]
      have := plK_ge (n := n) hI (Nat.le_add_right _ _) hat
      have hne : x ≠ n := fun h => hn (h ▸ List.mem_of_mem_drop hx)
      omega
    show List.Pairwise _ _
    rw [List.pairwise_append, List.pairwise_cons]
    refine ⟨hI.sublist (List.take_sublist _ _), ⟨h2, hI.sublist (List.drop_sublist _ _)⟩, fun a ha b hb => ?_⟩
    rcases List.mem_cons.1 hb with rfl | hb
    · exact h1 a ha
    · have := h1 a ha
      have := h2 b hb
      omega
theorem metL_snoc (G : List Int) (x : Int) : metL (G ++ [x]) = putL (metL G) x := by unfold metL; rw [List.foldl_append]; rfl
theorem metL_inc (G : List Int) : Inc (metL G) := by
  induction G using snoc_rec with
  | h0 => exact List.Pairwise.nil
  | h1 G x ih => rw [metL_snoc]; exact putL_inc ih
theorem metL_mem (G : List Int) (x : Int) : x ∈ metL G ↔ x ∈ G := by
  induction G using snoc_rec with
  | h0 => rfl
  | h1 G y ih => rw [metL_snoc, putL_mem, ih, List.mem_append, List.mem_singleton]
theorem metL_len (G : List Int) : (metL G).length ≤ G.length := by
  induction G using snoc_rec with
  | h0 => exact Nat.le_refl _
  | h1 G y ih =>
    rw [metL_snoc, putL_len, List.length_append, List.length_singleton]
    split <;> omega

/-- The greatest number of an increasing list: its last. -/
def lsZ (L : List Int) : Int := match L.getLast? with | some v => v | none => 0
theorem lsZ_at {L : List Int} {v : Int} (h : L[L.length - 1]? = some v) : lsZ L = v := by
  unfold lsZ
  rw [List.getLast?_eq_getElem?, h]
theorem lsZ_top {L : List Int} (hI : Inc L) (hne : L ≠ []) : lsZ L ∈ L ∧ ∀ x ∈ L, x ≤ lsZ L := by
  have hl : 0 < L.length := List.length_pos_iff.2 hne
  have e : L[L.length - 1]? = some L[L.length - 1] := List.getElem?_eq_getElem (by omega)
  rw [lsZ_at e]
  refine ⟨List.getElem_mem _, fun x hx => ?_⟩
  obtain ⟨j, hj, rfl⟩ := List.getElem_of_mem hx
  rcases Nat.lt_or_ge j (L.length - 1) with h | h
  · have := List.pairwise_iff_getElem.1 hI j (L.length - 1) hj (by omega) h
    omega
  · have : j = L.length - 1 := by omega
    subst this
    omega
/-- The greatest number of a list. -/
def mxZ (G : List Int) : Int := lsZ (metL G)
theorem met_ne {G : List Int} (h : G ≠ []) : metL G ≠ [] := by
  obtain ⟨a, r, rfl⟩ := List.exists_cons_of_ne_nil h
  intro e
  have := (metL_mem (a :: r) a).2 (by simp)
  rw [e] at this
  cases this
theorem mx_uniq {G : List Int} {m : Int} (h1 : m ∈ G) (h2 : ∀ x ∈ G, x ≤ m) : mxZ G = m := by
  obtain ⟨k1, k2⟩ := lsZ_top (metL_inc G) (met_ne (List.ne_nil_of_mem h1))
  have a := h2 _ ((metL_mem G _).1 k1)
  have b := k2 _ ((metL_mem G _).2 h1)
  unfold mxZ
  omega
theorem mx_top {G : List Int} {x : Int} (h : x ∈ G) : x ≤ mxZ G := (lsZ_top (metL_inc G) (met_ne (List.ne_nil_of_mem h))).2 x ((metL_mem G x).2 h)

/-- The number of groups, or 0 where they are none. -/
def inR (G : List Int) (lo hi : Int) : Bool := G.all fun x => inB x lo hi
def gsB (G : List Int) : Bool := inR G 0 7 && decide (2 ≤ (metL G).length) && decide (mxZ G = (metL G).length - 1)
def gsZ (G : List Int) : Int := if gsB G then (metL G).length else 0
theorem gs_out {G : List Int} (h : inR G 0 7 = false) : gsB G = false := by unfold gsB; rw [h]; rfl
theorem gs_few {G : List Int} (h : (metL G).length < 2) : gsB G = false := by
  unfold gsB
  rw [decide_eq_false (by omega), Bool.and_false]
  rfl
theorem gs_gap {G : List Int} (h : mxZ G ≠ (metL G).length - 1) : gsB G = false := by
  unfold gsB
  rw [decide_eq_false h, Bool.and_false]
theorem gs_yes {G : List Int} (h1 : inR G 0 7 = true) (h2 : 2 ≤ (metL G).length) (h3 : mxZ G = (metL G).length - 1) : gsB G = true := by
  unfold gsB
  rw [h1, decide_eq_true h2, decide_eq_true h3]
  rfl
theorem gsB_get {G : List Int} (h : gsB G = true) : inR G 0 7 = true ∧ 2 ≤ (metL G).length ∧ mxZ G = (metL G).length - 1 := by
  unfold gsB at h
  simp only [Bool.and_eq_true, decide_eq_true_eq] at h
  exact ⟨h.1.1, h.1.2, h.2⟩
theorem gsZ_pos (G : List Int) : (0 < gsZ G) ↔ gsB G = true := by
  unfold gsZ
  cases h : gsB G with
  | false => simp
  | true =>
    have := (gsB_get h).2.1
    simp
    omega
theorem gsZ_bd (G : List Int) : 0 ≤ gsZ G ∧ gsZ G ≤ G.length := by
  unfold gsZ
  have := metL_len G
  split <;> omega
theorem inR_bad {G : List Int} {i : Nat} {v lo hi : Int} (h : G[i]? = some v) (hb : inB v lo hi = false) : inR G lo hi = false := by
  unfold inR
  rw [List.all_eq_false]
  exact ⟨v, List.mem_of_getElem? h, by rw [hb]; exact Bool.false_ne_true⟩
theorem inR_all {G : List Int} {lo hi : Int} (h : ∀ j, j < G.length → ∃ v, G[j]? = some v ∧ inB v lo hi = true) : inR G lo hi = true := by
  unfold inR
  rw [List.all_eq_true]
  intro x hx
  obtain ⟨j, hj, e⟩ := List.getElem_of_mem hx
  obtain ⟨v, hv, hb⟩ := h j hj
  rw [List.getElem?_eq_getElem hj, e] at hv
  cases hv
  exact hb
/-- A number that is not below the length: no grouping. -/
theorem gs_wide {G : List Int} {i : Nat} {v : Int} (h : G[i]? = some v) (hb : v < 0 ∨ (G.length : Int) ≤ v) : gsB G = false := by
  cases hg : gsB G with
  | false => rfl
  | true =>
    obtain ⟨h1, h2, h3⟩ := gsB_get hg
    have hm := List.mem_of_getElem? h
    have ht := mx_top hm
    have hl := metL_len G
    unfold inR at h1
    rw [List.all_eq_true] at h1
    have := (inB_iff _ _ _).1 (h1 v hm)
    omega
theorem inR_of {G : List Int} (hl : G.length ≤ 8) (h : ∀ j, j < G.length → ∃ v, G[j]? = some v ∧ 0 ≤ v ∧ v < (G.length : Int)) : inR G 0 7 = true :=
  inR_all fun j hj => by
    obtain ⟨v, hv, h0, h1⟩ := h j hj
    exact ⟨v, hv, (inB_iff _ _ _).2 ⟨h0, by omega⟩⟩

/-- Is it a grouping for a schema? How many groups has it? -/
def okG (S : List (ByteArray × Int)) (v : Int) (G : List Int) : Bool := decide (0 ≤ v) && (match S[v.toNat]? with | some p => decide ((G.length : Int) = p.2) | none => false)
def gvB (S : List (ByteArray × Int)) (v : Int) (G : List Int) : Bool := okG S v G && gsB G
def gvZ (S : List (ByteArray × Int)) (v : Int) (G : List Int) : Int := if gvB S v G then (metL G).length else 0
theorem okG_neg {S : List (ByteArray × Int)} {v : Int} {G : List Int} (h : v < 0) : okG S v G = false := by unfold okG; rw [decide_eq_false (by omega)]; rfl
theorem okG_far {S : List (ByteArray × Int)} {v : Int} {G : List Int} (h : (S.length : Int) ≤ v) : okG S v G = false := by
  unfold okG
  rw [List.getElem?_eq_none (by omega), Bool.and_false]
theorem okG_at {S : List (ByteArray × Int)} {k : Nat} {nm : ByteArray} {lv : Int} {G : List Int} (h : S[k]? = some (nm, lv)) : okG S (k : Int) G = decide ((G.length : Int) = lv) := by
  unfold okG
  rw [Int.toNat_natCast, h, decide_eq_true (by omega)]
  rfl
theorem gv_no {S : List (ByteArray × Int)} {v : Int} {G : List Int} (h : okG S v G = false) : gvB S v G = false := by unfold gvB; rw [h]; rfl
theorem gv_of {S : List (ByteArray × Int)} {v : Int} {G : List Int} (h : okG S v G = true) : gvB S v G = gsB G := by unfold gvB; rw [h]; rfl
theorem gvZ_no {S : List (ByteArray × Int)} {v : Int} {G : List Int} (h : gvB S v G = false) : gvZ S v G = 0 := by unfold gvZ; rw [h]; rfl
theorem gvZ_yes {S : List (ByteArray × Int)} {v : Int} {G : List Int} (h : gvB S v G = true) : gvZ S v G = (metL G).length := by unfold gvZ; rw [h]; rfl
theorem gvB_get {S : List (ByteArray × Int)} {v : Int} {G : List Int} (h : gvB S v G = true) : ∃ (k : Nat) (nm : ByteArray) (lv : Int), v = (k : Int) ∧ S[k]? = some (nm, lv) ∧ (G.length : Int) = lv ∧ gsB G = true := by
  unfold gvB at h
  simp only [Bool.and_eq_true] at h
  obtain ⟨h1, h2⟩ := h
  by_cases h0 : v < 0
  · rw [okG_neg h0] at h1; cases h1
  · obtain ⟨k, rfl⟩ := Int.eq_ofNat_of_zero_le (show 0 ≤ v by omega)
    cases hk : S[k]? with
    | none =>
      rw [okG_far (by have := List.getElem?_eq_none_iff.1 hk; omega)] at h1
      cases h1
    | some p =>
      obtain ⟨nm, lv⟩ := p
      rw [okG_at hk, decide_eq_true_eq] at h1
      exact ⟨k, nm, lv, rfl, hk, h1, h2⟩
theorem gvZ_pos (S : List (ByteArray × Int)) (v : Int) (G : List Int) : decide (0 < gvZ S v G) = gvB S v G := by
  cases h : gvB S v G with
  | false => rw [gvZ_no h]; rfl
  | true =>
    obtain ⟨_, _, _, _, _, _, hg⟩ := gvB_get h
    have := (gsB_get hg).2.1
    rw [gvZ_yes h, decide_eq_true_eq]
    omega
end Go.Proofs.Ytnmpigedhpdenaa
