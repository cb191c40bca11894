import Derived.Test.YtgkaalonmkcclabGreatPRgC
import Derived.Test.YtgkaalonmkcclabGreatPRgA
import Derived.Test.YtgkaalonmkcclabGreatEdP
import Derived.Test.YtgkaalonmkcclabGreatSchM
import Derived.Test.YtgkaalonmkcclabGreatSchV
import Derived.Test.YtgkaalonmkcclabGreatApp
import Derived.Test.YtgkaalonmkcclabGreatPRgB
import Derived.Test.YtgkaalonmkcclabGreatEdX
namespace Go.Proofs.YtgkaalonmkcclabGreat
open Go.RowKit
set_option maxRecDepth 100000

/-- The values of records; a schema, edits and data for it. -/
def dV (R : List RV) : List (List Int) := R.map fun q => q.2.2
theorem dV_len (R : List RV) : (dV R).length = R.length := by unfold dV; simp
theorem dV_at {P : List PR} {i : Nat} {q : PR} (h : P[i]? = some q) : (dV (pM P))[i]? = some q.L := by unfold dV; rw [List.getElem?_map, pM_at h]; rfl
def sldB (S : List (ByteArray × Int)) (M : List (List Int)) (R : List RV) : Bool := elB S M && dokB S R
theorem sld_no1 {S : List (ByteArray × Int)} {M : List (List Int)} {R : List RV} (h : elB S M = false) : sldB S M R = false := by unfold sldB; rw [h]; rfl
theorem sld_no2 {S : List (ByteArray × Int)} {M : List (List Int)} {R : List RV} (h : dokB S R = false) : sldB S M R = false := by unfold sldB; rw [h, Bool.and_false]
theorem sld_yes {S : List (ByteArray × Int)} {M : List (List Int)} {R : List RV} (h : elB S M = true) (k : dokB S R = true) : sldB S M R = true := by unfold sldB; rw [h, k]; rfl
theorem iC_setE (L : List Int) (j : Nat) (v : Int) : iC (L.set j v) = (iC L).set j (.int .i64 v) := by unfold iC; rw [List.map_set]
theorem take_le_len {L : List (List Int)} {i : Nat} : (L.take i).length ≤ i := by rw [List.length_take]; omega

theorem sld_len {S : List (ByteArray × Int)} {M : List (List Int)} {R : List RV} (h : sldB S M R = true) : M.length ≤ 40 := by
  unfold sldB at h
  rw [Bool.and_eq_true] at h
  exact (el_get h.1).2.1
end Go.Proofs.YtgkaalonmkcclabGreat

namespace Go.Proofs.YtgkaalonmkcclabGreat
open Go.RowKit
set_option maxRecDepth 100000

/-- A small schema, edits and data for it. -/
def sdB (S : List (ByteArray × Int)) (M : List (List Int)) (R : List RV) : Bool := smB S M && dokB S R
theorem sd_no1 {S : List (ByteArray × Int)} {M : List (List Int)} {R : List RV} (h : smB S M = false) : sdB S M R = false := by unfold sdB; rw [h]; rfl
theorem sd_no2 {S : List (ByteArray × Int)} {M : List (List Int)} {R : List RV} (h : dokB S R = false) : sdB S M R = false := by unfold sdB; rw [h, Bool.and_false]
theorem sd_yes {S : List (ByteArray × Int)} {M : List (List Int)} {R : List RV} (h : smB S M = true) (k : dokB S R = true) : sdB S M R = true := by unfold sdB; rw [h, k]; rfl
theorem sd_get {S : List (ByteArray × Int)} {M : List (List Int)} {R : List RV} (h : sdB S M R = true) : smB S M = true ∧ dokB S R = true := by
  unfold sdB at h
  rwa [Bool.and_eq_true] at h
/-- Does the record with this index fail an edit? The records that do. -/
def frB (M D : List (List Int)) (i : Nat) : Bool := match D[i]? with | some V => faB M V | none => false
theorem fr_at {M D : List (List Int)} {V : List Int} {i : Nat} (h : D[i]? = some V) : frB M D i = faB M V := by unfold frB; rw [h]
def frUp (M D : List (List Int)) (n : Nat) : List Int := pkUp (frB M D) n
def frL (M D : List (List Int)) : List Int := frUp M D D.length
theorem frUp_len (M D : List (List Int)) (n : Nat) : (frUp M D n).length ≤ n := pkUp_len _ _

theorem frL_len (M D : List (List Int)) : (frL M D).length ≤ D.length := pkUp_len _ _
theorem sd_len {S : List (ByteArray × Int)} {M : List (List Int)} {R : List RV} (h : sdB S M R = true) : R.length ≤ 40 := dokB_len (sd_get h).2
end Go.Proofs.YtgkaalonmkcclabGreat

namespace Go.Proofs.YtgkaalonmkcclabGreat
open Go.RowKit

theorem snoc_rec {α : Type} {P : List α → Prop} (h0 : P []) (h1 : ∀ l a, P l → P (l ++ [a])) (l : List α) : P l := by
  have : ∀ n (l : List α), l.length = n → P l := by
    intro n
    induction n with
    | zero => intro l hl; rw [List.eq_nil_of_length_eq_zero hl]; exact h0
    | succ n ih =>
      intro l hl
      have hne : l ≠ [] := by intro e; rw [e] at hl; simp at hl
      rw [← List.dropLast_concat_getLast hne]
      exact h1 _ _ (ih _ (by rw [List.length_dropLast]; omega))
  exact this _ l rfl

/-- Where a number belongs in an increasing list. -/
def plK (L : List Int) (n : Int) : Nat := (L.takeWhile fun x => decide (x < n)).length
/-- An increasing list with one number more, unless it is there. -/
def putL (L : List Int) (n : Int) : List Int := if n ∈ L then L else L.take (plK L n) ++ n :: L.drop (plK L n)
def metL (G : List Int) : List Int := G.foldl putL []
abbrev Inc (L : List Int) : Prop := L.Pairwise (· < ·)

theorem plK_le (L : List Int) (n : Int) : plK L n ≤ L.length := by unfold plK; exact List.Sublist.length_le (List.takeWhile_sublist _)
theorem plK_of {L : List Int} {n : Int} {k : Nat} (hk : k ≤ L.length) (h1 : ∀ j v, j < k → L[j]? = some v → v < n) (h2 : k < L.length → ∀ v, L[k]? = some v → ¬ v < n) : plK L n = k := by
  unfold plK
  induction L generalizing k with
  | nil => simp at hk; simp [hk]
  | cons a r ih =>
    cases k with
    | zero =>
      have := h2 (by simp) a (by simp)
      simp [this]
    | succ k =>
      have ha := h1 0 a (by omega) (by simp)
      simp only [List.takeWhile_cons, decide_eq_true ha, if_true, List.length_cons]
      congr 1
      refine ih (by simp at hk; exact hk) (fun j v hj hv => h1 (j + 1) v (by omega) (by simpa using hv)) (fun hl v hv => h2 (by simp; exact hl) v (by simpa using hv))
theorem plK_lt {L : List Int} {n : Int} {j : Nat} {v : Int} (hj : j < plK L n) (hv : L[j]? = some v) : v < n := by
  unfold plK at hj
  have hp := (List.takeWhile_prefix (p := fun x : Int => decide (x < n)) (l := L))
  have e : (L.takeWhile fun x => decide (x < n))[j]? = some v := by
    obtain ⟨t, ht⟩ := hp
    rw [← ht, List.getElem?_append_left hj] at hv
    exact hv
  have hm := List.mem_of_getElem? e
  have key : ∀ M : List Int, v ∈ M.takeWhile (fun x => decide (x < n)) → v < n := by
    intro M
    induction M with
    | nil => intro h; cases h
    | cons a r ih =>
      intro h
      by_cases ha : a < n
      · simp only [List.takeWhile_cons, decide_eq_true ha, if_true, List.mem_cons] at h
        rcases h with rfl | h
        · exact ha
        · exact ih h
      · simp [ha] at h
  exact key L hm
theorem plK_ge {L : List Int} {n v : Int} {j : Nat} (hI : Inc L) (hj : plK L n ≤ j) (hv : L[j]? = some v) : n ≤ v := by
  have hlj := (List.getElem?_eq_some_iff.1 hv).1
  have hk : plK L n < L.length := by omega
  have h0 : ¬ L[plK L n] < n := by
    have : ∀ (M : List Int) (h : plK M n < M.length), ¬ M[plK M n] < n := by
      intro M
      induction M with
      | nil => intro h; simp at h
      | cons a r ih =>
        intro h
        unfold plK at h ⊢
        by_cases ha : a < n
        · have e : (List.takeWhile (fun x => decide (x < n)) (a :: r)) = a :: List.takeWhile (fun x => decide (x < n)) r := by simp [ha]
          simp only [e, List.length_cons] at h ⊢
          simp only [List.getElem_cons_succ]
          exact ih (by unfold plK; simpa using h)
        · have e : (List.takeWhile (fun x => decide (x < n)) (a :: r)) = [] := by simp [ha]
          simp only [e, List.length_nil, List.getElem_cons_zero]
          exact ha
    exact this L hk
  rcases Nat.lt_or_ge (plK L n) j with h | h
  · have := List.pairwise_iff_getElem.1 hI (plK L n) j hk hlj h
    have e := (List.getElem?_eq_some_iff.1 hv).2
    omega
  · have ej : j = plK L n := by omega
    subst ej
    have e := (List.getElem?_eq_some_iff.1 hv).2
    omega

theorem putL_mem {L : List Int} {n x : Int} : x ∈ putL L n ↔ x ∈ L ∨ x = n := by
  unfold putL
  split
  · rename_i h
    constructor
    · exact Or.inl
    · rintro (h' | rfl)
      · exact h'
      · exact h
  · rw [List.mem_append, List.mem_cons]
    constructor
    · rintro (h | rfl | h)
      · exact Or.inl (List.mem_of_mem_take h)
      · exact Or.inr rfl
      · exact Or.inl (List.mem_of_mem_drop h)
    · rintro (h | rfl)
      · rw [← List.take_append_drop (plK L n) L, List.mem_append] at h
        exact h.imp id Or.inr
      · exact Or.inr (Or.inl rfl)
theorem putL_len (L : List Int) (n : Int) : (putL L n).length = if n ∈ L then L.length else L.length + 1 := by
  unfold putL
  split
  · rfl
  · have := plK_le L n
    simp only [List.length_append, List.length_take, List.length_cons, List.length_drop]
    omega
theorem putL_inc {L : List Int} {n : Int} (hI : Inc L) : Inc (putL L n) := by
  unfold putL
  split
  · exact hI
  · rename_i hn
    have h1 : ∀ x ∈ L.take (plK L n), x < n := by
      intro x hx
      obtain ⟨j, hj, e⟩ := List.mem_take_iff_getElem.1 hx
      have hj1 : j < plK L n := by omega
      have hj2 : j < L.length := by omega
      exact plK_lt hj1 (by rw [← e]; exact List.getElem?_eq_getElem hj2)
    have h2 : ∀ x ∈ L.drop (plK L n), n < x := by
      intro x hx
      obtain ⟨j, hj, e⟩ := List.mem_drop_iff_getElem.1 hx
      have hat : L[plK L n + j]? = some x := by rw [List.getElem?_eq_getElem (by omega), e]
      have := plK_ge (n := n) hI (Nat.le_add_right _ _) hat
      have hne : x ≠ n := fun h => hn (h ▸ List.mem_of_mem_drop hx)
      omega
    show List.Pairwise _ _
    rw [List.pairwise_append, List.pairwise_cons]
    refine ⟨hI.sublist (List.take_sublist _ _), ⟨h2, hI.sublist (List.drop_sublist _ _)⟩, fun a ha b hb => ?_⟩
    rcases List.mem_cons.1 hb with rfl | hb
    · exact h1 a ha
    · have := h1 a ha
      have := h2 b hb
      omega
theorem metL_snoc (G : List Int) (x : Int) : metL (G ++ [x]) = putL (metL G) x := by unfold metL; rw [List.foldl_append]; rfl
theorem metL_inc (G : List Int) : Inc (metL G) := by
  induction G using snoc_rec with
  | h0 => exact List.Pairwise.nil
  | h1 G x ih => rw [metL_snoc]; exact putL_inc ih
theorem metL_mem (G : List Int) (x : Int) : x ∈ metL G ↔ x ∈ G := by
  induction G using snoc_rec with
  | h0 => rfl
  | h1 G y ih => rw [metL_snoc, putL_mem, ih, List.mem_append, List.mem_singleton]
theorem metL_len (G : List Int) : (metL G).length ≤ G.length := by
  induction G using snoc_rec with
  | h0 => exact Nat.le_refl _
  | h1 G y ih =>
    rw [metL_snoc, putL_len, List.length_append, List.length_singleton]
    split <;> omega

/-- The greatest number of an increasing list: its last. -/
def lsZ (L : List Int) : Int := match L.getLast? with | some v => v | none => 0
theorem lsZ_at {L : List Int} {v : Int} (h : L[L.length - 1]? = some v) : lsZ L = v := by
  unfold lsZ
  rw [List.getLast?_eq_getElem?, h]
theorem lsZ_top {L : List Int} (hI : Inc L) (hne : L ≠ []) : lsZ L ∈ L ∧ ∀ x ∈ L, x ≤ lsZ L := by
  have hl : 0 < L.length := List.length_pos_iff.2 hne
  have e : L[L.length - 1]? = some L[L.length - 1] := List.getElem?_eq_getElem (by omega)
  rw [lsZ_at e]
  refine ⟨List.getElem_mem _, fun x hx => ?_⟩
  obtain ⟨j, hj, rfl⟩ := List.getElem_of_mem hx
  rcases Nat.lt_or_ge j (L.length - 1) with h | h
  · have := List.pairwise_iff_getElem.1 hI j (L.length - 1) hj (by omega) h
    omega
  · have : j = L.length - 1 := by omega
    subst this
    omega
/-- The greatest number of a list. -/
def mxZ (G : List Int) : Int := lsZ (metL G)
theorem met_ne {G : List Int} (h : G ≠ []) : metL G ≠ [] := by
  obtain ⟨a, r, rfl⟩ := List.exists_cons_of_ne_nil h
  intro e
  have := (metL_mem (a :: r) a).2 (by simp)
  rw [e] at this
  cases this
theorem mx_uniq {G : List Int} {m : Int} (h1 : m ∈ G) (h2 : ∀ x ∈ G, x ≤ m) : mxZ G = m := by
  obtain ⟨k1, k2⟩ := lsZ_top (metL_inc G) (met_ne (List.ne_nil_of_mem h1))
  have a := h2 _ ((metL_mem G _).1 k1)
  have b := k2 _ ((metL_mem G _).2 h1)
  unfold mxZ
  omega
theorem mx_top {G : List Int} {x : Int} (h : x ∈ G) : x ≤ mxZ G := (lsZ_top (metL_inc G) (met_ne (List.ne_nil_of_mem h))).2 x ((metL_mem G x).2 h)

/-- The number of groups, or 0 where they are none. -/
def inR (G : List Int) (lo hi : Int) : Bool := G.all fun x => inB x lo hi
def gsB (G : List Int) : Bool := inR G 0 7 && decide (2 ≤ (metL G).length) && decide (mxZ G = (metL G).length - 1)
def gsZ (G : List Int) : Int := if gsB G then (metL G).length else 0
theorem gs_out {G : List Int} (h : inR G 0 7 = false) : gsB G = false := by unfold gsB; rw [h]; rfl
theorem gs_few {G : List Int} (h : (metL G).length < 2) : gsB G = false := by
  unfold gsB
  rw [decide_eq_false (by omega), Bool.and_false]
  rfl
theorem gs_gap {G : List Int} (h : mxZ G ≠ (metL G).length - 1) : gsB G = false := by
  unfold gsB
  rw [decide_eq_false h, Bool.and_false]
theorem gs_yes {G : List Int} (h1 : inR G 0 7 = true) (h2 : 2 ≤ (metL G).length) (h3 : mxZ G = (metL G).length - 1) : gsB G = true := by
  unfold gsB
  rw [h1, decide_eq_true h2, decide_eq_true h3]
  rfl
theorem gsB_get {G : List Int} (h : gsB G = true) : inR G 0 7 = true ∧ 2 ≤ (metL G).length ∧ mxZ G = (metL G).length - 1 := by
  unfold gsB at h
  simp only [Bool.and_eq_true, decide_eq_true_eq] at h
  exact ⟨h.1.1, h.1.2, h.2⟩
theorem gsZ_pos (G : List Int) : (0 < gsZ G) ↔ gsB G = true := by
  unfold gsZ
  cases h : gsB G with
  | false => simp
  | true =>
    have := (gsB_get h).2.1
    simp
    omega
theorem gsZ_bd (G : List Int) : 0 ≤ gsZ G ∧ gsZ G ≤ G.length := by
  unfold gsZ
  have := metL_len G
  split <;> omega
theorem inR_bad {G : List Int} {i : Nat} {v lo hi : Int} (h : G[i]? = some v) (hb : inB v lo hi = false) : inR G lo hi = false := by
  unfold inR
  rw [List.all_eq_false]
  exact ⟨v, List.mem_of_getElem? h, by rw [hb]; exact Bool.false_ne_true⟩
theorem inR_all {G : List Int} {lo hi : Int} (h : ∀ j, j < G.length → ∃ v, G[j]? = some v ∧ inB v lo hi = true) : inR G lo hi = true := by
  unfold inR
  rw [List.all_eq_true]
  intro x hx
  obtain ⟨j, hj, e⟩ := List.getElem_of_mem hx
  obtain ⟨v, hv, hb⟩ := h j hj
  rw [List.getElem?_eq_getElem hj, e] at hv
  cases hv
  exact hb
/-- A number that is not below the length: no grouping. -/
theorem gs_wide {G : List Int} {i : Nat} {v : Int} (h : G[i]? = some v) (hb : v < 0 ∨ (G.length : Int) ≤ v) : gsB G = false := by
  cases hg : gsB G with
  | false => rfl
  | true =>
    obtain ⟨h1, h2, h3⟩ := gsB_get hg
    have hm := List.mem_of_getElem? h
    have ht := mx_top hm
    have hl := metL_len G
    unfold inR at h1
    rw [List.all_eq_true] at h1
    have := (inB_iff _ _ _).1 (h1 v hm)
    omega
theorem inR_of {G : List Int} (hl : G.length ≤ 8) (h : ∀ j, j < G.length → ∃ v, G[j]? = some v ∧ 0 ≤ v ∧ v < (G.length : Int)) : inR G 0 7 = true :=
  inR_all fun j hj => by
    obtain ⟨v, hv, h0, h1⟩ := h j hj
    exact ⟨v, hv, (inB_iff _ _ _).2 ⟨h0, by omega⟩⟩

/-- Is it a grouping for a schema? How many groups has it? -/
def okG (S : List (ByteArray × Int)) (v : Int) (G : List Int) : Bool := decide (0 ≤ v) && (match S[v.toNat]? with | some p => decide ((G.length : Int) = p.2) | none => false)
def gvB (S : List (ByteArray × Int)) (v : Int) (G : List Int) : Bool := okG S v G && gsB G
def gvZ (S : List (ByteArray × Int)) (v : Int) (G : List Int) : Int := if gvB S v G then (metL G).length else 0
theorem okG_neg {S : List (ByteArray × Int)} {v : Int} {G : List Int} (h : v < 0) : okG S v G = false := by unfold okG; rw [decide_eq_false (by omega)]; rfl
theorem okG_far {S : List (ByteArray × Int)} {v : Int} {G : List Int} (h : (S.length : Int) ≤ v) : okG S v G = false := by
  unfold okG
  rw [List.getElem?_eq_none (by omega), Bool.and_false]
theorem okG_at {S : List (ByteArray × Int)} {k : Nat} {nm : ByteArray} {lv : Int} {G : List Int} (h : S[k]? = some (nm, lv)) : okG S (k : Int) G = decide ((G.length : Int) = lv) := by
  unfold okG
  rw [Int.toNat_natCast, h, decide_eq_true (by omega)]
  rfl
theorem gv_no {S : List (ByteArray × Int)} {v : Int} {G : List Int} (h : okG S v G = false) : gvB S v G = false := by unfold gvB; rw [h]; rfl
theorem gv_of {S : List (ByteArray × Int)} {v : Int} {G : List Int} (h : okG S v G = true) : gvB S v G = gsB G := by unfold gvB; rw [h]; rfl
theorem gvZ_no {S : List (ByteArray × Int)} {v : Int} {G : List Int} (h : gvB S v G = false) : gvZ S v G = 0 := by unfold gvZ; rw [h]; rfl
theorem gvZ_yes {S : List (ByteArray × Int)} {v : Int} {G : List Int} (h : gvB S v G = true) : gvZ S v G = (metL G).length := by unfold gvZ; rw [h]; rfl
theorem gvB_get {S : List (ByteArray × Int)} {v : Int} {G : List Int} (h : gvB S v G = true) : ∃ (k : Nat) (nm : ByteArray) (lv : Int), v = (k : Int) ∧ S[k]? = some (nm, lv) ∧ (G.length : Int) = lv ∧ gsB G = true := by
  unfold gvB at h
  simp only [Bool.and_eq_true] at h
  obtain ⟨h1, h2⟩ := h
  by_cases h0 : v < 0
  · rw [okG_neg h0] at h1; cases h1
  · obtain ⟨k, rfl⟩ := Int.eq_ofNat_of_zero_le (show 0 ≤ v by omega)
    cases hk : S[k]? with
    | none =>
      rw [okG_far (by have := List.getElem?_eq_none_iff.1 hk; omega)] at h1
      cases h1
    | some p =>
      obtain ⟨nm, lv⟩ := p
      rw [okG_at hk, decide_eq_true_eq] at h1
      exact ⟨k, nm, lv, rfl, hk, h1, h2⟩
theorem gvZ_pos (S : List (ByteArray × Int)) (v : Int) (G : List Int) : decide (0 < gvZ S v G) = gvB S v G := by
  cases h : gvB S v G with
  | false => rw [gvZ_no h]; rfl
  | true =>
    obtain ⟨_, _, _, _, _, _, hg⟩ := gvB_get h
    have := (gsB_get hg).2.1
    rw [gvZ_yes h, decide_eq_true_eq]
    omega
end Go.Proofs.YtgkaalonmkcclabGreat

namespace Go.Proofs.YtgkaalonmkcclabGreat
open Go.RowKit
set_option maxRecDepth 100000

set_option maxHeartbeats 1000000 in
theorem l1All_any (x : Option Addr) (cap : Nat) (G : List Int) (lo hi : Int) (w : World) (hm : G.length ≤ 1048576) (hL : Rd w x (iC G)) :
    Calls Tryz.prog 64 #[.slice x G.length cap, .int .i64 lo, .int .i64 hi] w fun e w' => e = .returned (.bool (inR G lo hi)) ∧ w = w' := by
  have hLh := Lib.hid hL
  clear hL
  go_enter Tryz.func64, Tryz.ntmps64
  go_wp2
  go_loop [11] (fun c => ∃ i : Nat, i ≤ G.length ∧ c = .int .i64 i ∧ Hid (∀ j, j < i → ∃ v, G[j]? = some v ∧ inB v lo hi = true)) (fun c => G.length - (intOf c).toNat)
  case atStart => exact ⟨0, by omega, rfl, fun j hj => absurd hj (by omega)⟩
  case round =>
    obtain ⟨i, hi', rfl, hall⟩ := hrel
    by_cases hlt : i < G.length
    · obtain ⟨bl, off, v, hx, hbl, hGi, hc⟩ := hLh.out.int (i := i) hlt
      subst hx
      have hlt' : (i : Int) < (G.length : Int) := by omega
      cases hb : inB v lo hi
      · have hv := Lib.hid (inR_bad hGi hb)
        clear hGi
        go_wp2_with (go_at_call 59; refine (l1In_any _ _ _ _).mono ?_; rintro e w1 ⟨rfl, rfl⟩)
        go_ret
        exact ⟨ret_bool hv.out.symm, rfl⟩
      · replace hGi := Lib.hid hGi
        go_wp2_with (go_at_call 59; refine (l1In_any _ _ _ _).mono ?_; rintro e w1 ⟨rfl, rfl⟩)
        go_round
        case rel =>
          refine ⟨i + 1, by omega, by go_num, fun j hj => ?_⟩
          rcases Nat.lt_or_ge j i with h | h
          · exact hall.out j h
          · obtain rfl : j = i := by omega
            exact ⟨v, hGi.out, hb⟩
        case measure => simp [intOf]; omega
    · have hij : i = G.length := by omega
      subst hij
      have hv := Lib.hid (inR_all hall.out)
      clear hall
      go_wp2
      go_ret
      exact ⟨ret_bool hv.out.symm, rfl⟩

/-- The array of the levels that are met. -/
def UsedAt (w : World) (g : Nat) (t : TypeId) (G : List Int) : Prop := ∃ cs : Array Value, Wb w g t cs ∧ cs.size = 8 ∧ ∀ j : Nat, j < 8 → cs[j]? = some (.bool (decide ((j : Int) ∈ G)))
theorem UsedAt.start (w : World) (t : TypeId) : UsedAt (w.alloc (.cells #[.bool false, .bool false, .bool false, .bool false, .bool false, .bool false, .bool false, .bool false] t)) w.heap.size t [] := by
  refine ⟨_, Wb.new w t _, rfl, fun j hj => ?_⟩
  have : j = 0 ∨ j = 1 ∨ j = 2 ∨ j = 3 ∨ j = 4 ∨ j = 5 ∨ j = 6 ∨ j = 7 := by omega
  rcases this with rfl | rfl | rfl | rfl | rfl | rfl | rfl | rfl <;> rfl
theorem UsedAt.same {w : World} {g : Nat} {t : TypeId} {G : List Int} {k : Nat} (h : UsedAt w g t G) (hk : (k : Int) ∈ G) : UsedAt w g t (G ++ [(k : Int)]) := by
  obtain ⟨cs, h1, h2, h3⟩ := h
  refine ⟨cs, h1, h2, fun j hj => ?_⟩
  rw [h3 j hj]
  congr 2
  rw [decide_eq_decide, List.mem_append, List.mem_singleton]
  exact ⟨Or.inl, fun h => h.elim id (fun e => e ▸ hk)⟩
theorem UsedAt.put {w : World} {g : Nat} {t : TypeId} {G : List Int} {k : Nat} (h : UsedAt w g t G) (hk : k < 8) : UsedAt (w.setCell ⟨g, k, none⟩ (.bool true)) g t (G ++ [(k : Int)]) := by
  obtain ⟨cs, h1, h2, h3⟩ := h
  refine ⟨_, h1.put k (.bool true), by simpa using h2, fun j hj => ?_⟩
  rw [Array.getElem?_setIfInBounds]
  split
  · rename_i e
    subst e
    rw [if_pos (by omega)]
    simp
  · rename_i e
    rw [h3 j hj]
    congr 2
    rw [decide_eq_decide, List.mem_append, List.mem_singleton]
    exact ⟨Or.inl, fun h => h.elim id (fun e2 => absurd (by omega) e)⟩
theorem UsedAt.facts {w : World} {g : Nat} {t : TypeId} {G : List Int} (h : UsedAt w g t G) {k : Nat} (hk : k < 8) : w.cell? ⟨g, k, none⟩ = some (.bool (decide ((k : Int) ∈ G))) ∧ w.frozen? ⟨g, k, none⟩ = false ∧ g < w.heap.size := by
  obtain ⟨cs, h1, h2, h3⟩ := h
  exact ⟨(h1.read k).trans (h3 k hk), h1.free k, h1.inside⟩
theorem met_step {G : List Int} {i : Nat} {v : Int} (h : G[i]? = some v) : ((metL (G.take (i + 1))).length : Int) = if v ∈ G.take i then ((metL (G.take i)).length : Int) else (metL (G.take i)).length + 1 := by
  rw [take_snoc h, metL_snoc, putL_len]
  by_cases hv : v ∈ metL (G.take i)
  · rw [if_pos hv, if_pos ((metL_mem _ _).1 hv)]
  · rw [if_neg hv, if_neg (fun h => hv ((metL_mem _ _).2 h))]
    omega

end Go.Proofs.YtgkaalonmkcclabGreat

namespace Go.Proofs.YtgkaalonmkcclabGreat
open Go.RowKit
set_option maxRecDepth 100000

/-- One weight for each variable. -/
def wgB (S : List (ByteArray × Int)) (W : List Int) : Bool := decide (W.length = S.length) && inR W 1 100
theorem wg_no1 {S : List (ByteArray × Int)} {W : List Int} (h : W.length ≠ S.length) : wgB S W = false := by unfold wgB; rw [decide_eq_false h]; rfl
theorem wg_no2 {S : List (ByteArray × Int)} {W : List Int} (h : inR W 1 100 = false) : wgB S W = false := by unfold wgB; rw [h, Bool.and_false]
theorem wg_yes {S : List (ByteArray × Int)} {W : List Int} (h : W.length = S.length) (k : inR W 1 100 = true) : wgB S W = true := by unfold wgB; rw [decide_eq_true h, k]; rfl
theorem wg_get {S : List (ByteArray × Int)} {W : List Int} (h : wgB S W = true) : W.length = S.length ∧ inR W 1 100 = true := by
  unfold wgB at h
  rw [Bool.and_eq_true] at h
  exact ⟨of_decide_eq_true h.1, h.2⟩
theorem inR_at {G : List Int} {lo hi v : Int} {i : Nat} (h : inR G lo hi = true) (hi' : G[i]? = some v) : lo ≤ v ∧ v ≤ hi := by
  unfold inR at h
  rw [List.all_eq_true] at h
  exact (inB_iff v lo hi).1 (h v (List.mem_of_getElem? hi')) |> fun k => k
/-- The weight of a variable; the weights of a set. -/
def wtA (W : List Int) (v : Int) : Int := (W[v.toNat]?).getD 0
def swZ (W L : List Int) : Int := (L.map (wtA W)).sum
theorem wtA_at {W : List Int} {i : Nat} {n : Int} (h : W[i]? = some n) : wtA W (i : Int) = n := by unfold wtA; rw [Int.toNat_natCast, h]; rfl
theorem wtA_bd {W : List Int} (h : inR W 1 100 = true) (v : Int) : 0 ≤ wtA W v ∧ wtA W v ≤ 100 := by
  unfold wtA
  cases e : W[v.toNat]? with
  | none => exact ⟨by simp, by simp⟩
  | some n => have := inR_at h e; exact ⟨by simp; omega, by simp; omega⟩
theorem sw_snoc (W L : List Int) (v : Int) : swZ W (L ++ [v]) = swZ W L + wtA W v := by unfold swZ; rw [List.map_append, List.sum_append]; simp
theorem sw_bd {W : List Int} (h : inR W 1 100 = true) : ∀ L : List Int, 0 ≤ swZ W L ∧ swZ W L ≤ 100 * (L.length : Int)
  | [] => ⟨by simp [swZ], by simp [swZ]⟩
  | v :: L => by
    have a := sw_bd h L
    have b := wtA_bd h v
    have e : swZ W (v :: L) = wtA W v + swZ W L := by unfold swZ; simp
    rw [e, List.length_cons]
    exact ⟨by omega, by omega⟩
theorem sw_take {W L : List Int} {i : Nat} {v : Int} (h : L[i]? = some v) : swZ W (L.take (i + 1)) = swZ W (L.take i) + wtA W v := by
  rw [List.take_add_one, h, Option.toList_some, sw_snoc]
/-- The cost of a change, variable by variable. -/
def chZ (W A B : List Int) (n : Nat) : Int := swZ W (pkUp (dvB A B) n)
theorem ch_yes {W A B : List Int} {i : Nat} (h : dvB A B i = true) : chZ W A B (i + 1) = chZ W A B i + wtA W (i : Int) := by unfold chZ; rw [pkUp_yes h, sw_snoc]
theorem ch_no {W A B : List Int} {i : Nat} (h : dvB A B i = false) : chZ W A B (i + 1) = chZ W A B i := by unfold chZ; rw [pkUp_no h]
theorem ch_bd {W A B : List Int} {n : Nat} (h : inR W 1 100 = true) : 0 ≤ chZ W A B n ∧ chZ W A B n ≤ 100 * (n : Int) := by
  have a := sw_bd h (pkUp (dvB A B) n)
  have b := pkUp_len (dvB A B) n
  unfold chZ
  exact ⟨a.1, by omega⟩

set_option maxHeartbeats 1000000 in
theorem areWeights_any (x y : Option Addr) (c1 c2 : Nat) (S : List (ByteArray × Int)) (W : List Int) (w : World) (hm : S.length ≤ 1048576) (hW : IIn w y W) :
    Calls Tryz.prog 52 #[.slice x S.length c1, .slice y W.length c2] w fun e w' => e = .returned (.bool (wgB S W)) ∧ Below w.heap.size w w' := by
  have hWh := Lib.hid hW
  have hWl := hW.1
  clear hW
  by_cases hlen : W.length = S.length
  · have hne : ((W.length : Int) != (S.length : Int)) = false := by rw [bne_eq_false_iff_eq]; omega
    go_enter Tryz.func52, Tryz.ntmps52
    go_wp2
    go_loopw [14] (fun c wr => ∃ i : Nat, i ≤ W.length ∧ c = .int .i64 i ∧ Hid (∀ j, j < i → ∃ v, W[j]? = some v ∧ inB v 1 100 = true) ∧ Below w.heap.size w wr) (fun c _ => W.length - (intOf c).toNat)
    case atStart => exact ⟨0, by omega, rfl, (fun j hj => absurd hj (by omega)), (by repeat (first | exact Below.refl _ _ | assumption | refine Below.drew ?_ | refine below_drewN ?_ _ | refine Below.alloc' ?_ _ | (refine Below.setCell ?_ (by first | omega | (simp; done) | (simp; omega) | exact Below.size (by assumption) | exact Nat.le_trans (Below.size (by assumption)) (by simp)) _) | (refine Below.via' ?_ (by assumption)) | (refine Below.alloc ?_ (by first | omega | (simp; done) | (simp; omega) | exact Below.size (by assumption) | exact Nat.le_trans (Below.size (by assumption)) (by simp)) _) | (refine Below.via ?_ (by assumption) (by first | omega | (simp; done) | (simp; omega) | exact Below.size (by assumption) | exact Nat.le_trans (Below.size (by assumption)) (by simp)))))⟩
    case round =>
      obtain ⟨i, hi, rfl, hall, hb⟩ := hrel
      by_cases hlt : i < W.length
      · obtain ⟨bl, off, v, rfl, hbl, hWi, hc0⟩ := (hWh.out.below hb).2.2.int hlt
        have hlt' : (i : Int) < (W.length : Int) := by omega
        have hi0 : (0 : Int) ≤ (i : Int) := by omega
        by_cases h1 : v < 1
        · have hv := Lib.hid (wg_no2 (S := S) (inR_bad hWi ((inB_no v 1 100).2 (by omega))))
          clear hWi
          go_wp2
          go_ret
          exact ⟨ret_bool hv.out.symm, (by repeat (first | exact Below.refl _ _ | assumption | refine Below.drew ?_ | refine below_drewN ?_ _ | refine Below.alloc' ?_ _ | (refine Below.setCell ?_ (by first | omega | (simp; done) | (simp; omega) | exact Below.size (by assumption) | exact Nat.le_trans (Below.size (by assumption)) (by simp)) _) | (refine Below.via' ?_ (by assumption)) | (refine Below.alloc ?_ (by first | omega | (simp; done) | (simp; omega) | exact Below.size (by assumption) | exact Nat.le_trans (Below.size (by assumption)) (by simp)) _) | (refine Below.via ?_ (by assumption) (by first | omega | (simp; done) | (simp; omega) | exact Below.size (by assumption) | exact Nat.le_trans (Below.size (by assumption)) (by simp)))))⟩
        by_cases h2 : 100 < v
        · have hv := Lib.hid (wg_no2 (S := S) (inR_bad hWi ((inB_no v 1 100).2 (by omega))))
          clear hWi
          go_wp2
          go_ret
          exact ⟨ret_bool hv.out.symm, (by repeat (first | exact Below.refl _ _ | assumption | refine Below.drew ?_ | refine below_drewN ?_ _ | refine Below.alloc' ?_ _ | (refine Below.setCell ?_ (by first | omega | (simp; done) | (simp; omega) | exact Below.size (by assumption) | exact Nat.le_trans (Below.size (by assumption)) (by simp)) _) | (refine Below.via' ?_ (by assumption)) | (refine Below.alloc ?_ (by first | omega | (simp; done) | (simp; omega) | exact Below.size (by assumption) | exact Nat.le_trans (Below.size (by assumption)) (by simp)) _) | (refine Below.via ?_ (by assumption) (by first | omega | (simp; done) | (simp; omega) | exact Below.size (by assumption) | exact Nat.le_trans (Below.size (by assumption)) (by simp)))))⟩
        have hgood := (inB_iff v 1 100).2 ⟨by omega, by omega⟩
        replace hWi := Lib.hid hWi
        go_wp2
        go_roundw
        case rel =>
          refine ⟨i + 1, by omega, by go_num, fun j hj => ?_, (by repeat (first | exact Below.refl _ _ | assumption | refine Below.drew ?_ | refine below_drewN ?_ _ | refine Below.alloc' ?_ _ | (refine Below.setCell ?_ (by first | omega | (simp; done) | (simp; omega) | exact Below.size (by assumption) | exact Nat.le_trans (Below.size (by assumption)) (by simp)) _) | (refine Below.via' ?_ (by assumption)) | (refine Below.alloc ?_ (by first | omega | (simp; done) | (simp; omega) | exact Below.size (by assumption) | exact Nat.le_trans (Below.size (by assumption)) (by simp)) _) | (refine Below.via ?_ (by assumption) (by first | omega | (simp; done) | (simp; omega) | exact Below.size (by assumption) | exact Nat.le_trans (Below.size (by assumption)) (by simp)))))⟩
          rcases Nat.lt_or_ge j i with hj2 | hj2
          · exact hall.out j hj2
          · obtain rfl : j = i := by omega
            exact ⟨v, hWi.out, hgood⟩
        case measure => simp [intOf]; omega
      · have hij : i = W.length := by omega
        subst hij
        have hv := Lib.hid (wg_yes hlen (inR_all hall.out))
        clear hall
        go_wp2
        go_ret
        exact ⟨ret_bool hv.out.symm, (by repeat (first | exact Below.refl _ _ | assumption | refine Below.drew ?_ | refine below_drewN ?_ _ | refine Below.alloc' ?_ _ | (refine Below.setCell ?_ (by first | omega | (simp; done) | (simp; omega) | exact Below.size (by assumption) | exact Nat.le_trans (Below.size (by assumption)) (by simp)) _) | (refine Below.via' ?_ (by assumption)) | (refine Below.alloc ?_ (by first | omega | (simp; done) | (simp; omega) | exact Below.size (by assumption) | exact Nat.le_trans (Below.size (by assumption)) (by simp)) _) | (refine Below.via ?_ (by assumption) (by first | omega | (simp; done) | (simp; omega) | exact Below.size (by assumption) | exact Nat.le_trans (Below.size (by assumption)) (by simp)))))⟩
  · have hne : ((W.length : Int) != (S.length : Int)) = true := by rw [bne_iff_ne]; omega
    have hv := Lib.hid (wg_no1 hlen)
    go_enter Tryz.func52, Tryz.ntmps52
    go_wp2
    go_ret
    exact ⟨ret_bool hv.out.symm, (by repeat (first | exact Below.refl _ _ | assumption | refine Below.drew ?_ | refine below_drewN ?_ _ | refine Below.alloc' ?_ _ | (refine Below.setCell ?_ (by first | omega | (simp; done) | (simp; omega) | exact Below.size (by assumption) | exact Nat.le_trans (Below.size (by assumption)) (by simp)) _) | (refine Below.via' ?_ (by assumption)) | (refine Below.alloc ?_ (by first | omega | (simp; done) | (simp; omega) | exact Below.size (by assumption) | exact Nat.le_trans (Below.size (by assumption)) (by simp)) _) | (refine Below.via ?_ (by assumption) (by first | omega | (simp; done) | (simp; omega) | exact Below.size (by assumption) | exact Nat.le_trans (Below.size (by assumption)) (by simp)))))⟩
set_option maxHeartbeats 1000000 in
theorem iWeights_any (x y : Option Addr) (c1 c2 : Nat) (S : List (ByteArray × Int)) (W : List Int) (w : World) (hW : IIn w y W) :
    Calls Tryz.prog 44 #[.slice x S.length c1, .slice y W.length c2] w fun e w' => e = .returned (.bool (wgB S W)) ∧ Below w.heap.size w w' := by
  have hWh := Lib.hid hW
  have hWl := hW.1
  clear hW
  by_cases hlen : W.length = S.length
  · have hne : ((W.length : Int) == (S.length : Int)) = true := by rw [beq_iff_eq]; omega
    have hv : Hid (inR W 1 100 = wgB S W) := by
      unfold Hid
      cases h : inR W 1 100
      · rw [wg_no2 h]
      · rw [wg_yes hlen h]
    replace hlen := Lib.hid hlen
    go_enter Tryz.func44, Tryz.ntmps44
    go_wp2_with (go_at_call 64; refine (l1All_any _ _ W _ _ _ hWl (hWh.out.2.2.below (by exact (by repeat (first | exact Below.refl _ _ | assumption | refine Below.drew ?_ | refine below_drewN ?_ _ | refine Below.alloc' ?_ _ | (refine Below.setCell ?_ (by first | omega | (simp; done) | (simp; omega) | exact Below.size (by assumption) | exact Nat.le_trans (Below.size (by assumption)) (by simp)) _) | (refine Below.via' ?_ (by assumption)) | (refine Below.alloc ?_ (by first | omega | (simp; done) | (simp; omega) | exact Below.size (by assumption) | exact Nat.le_trans (Below.size (by assumption)) (by simp)) _) | (refine Below.via ?_ (by assumption) (by first | omega | (simp; done) | (simp; omega) | exact Below.size (by assumption) | exact Nat.le_trans (Below.size (by assumption)) (by simp)))))))).mono ?_; rintro e w1 ⟨rfl, rfl⟩)
    go_ret
    exact ⟨ret_bool hv.out, (by repeat (first | exact Below.refl _ _ | assumption | refine Below.drew ?_ | refine below_drewN ?_ _ | refine Below.alloc' ?_ _ | (refine Below.setCell ?_ (by first | omega | (simp; done) | (simp; omega) | exact Below.size (by assumption) | exact Nat.le_trans (Below.size (by assumption)) (by simp)) _) | (refine Below.via' ?_ (by assumption)) | (refine Below.alloc ?_ (by first | omega | (simp; done) | (simp; omega) | exact Below.size (by assumption) | exact Nat.le_trans (Below.size (by assumption)) (by simp)) _) | (refine Below.via ?_ (by assumption) (by first | omega | (simp; done) | (simp; omega) | exact Below.size (by assumption) | exact Nat.le_trans (Below.size (by assumption)) (by simp)))))⟩
  · have hne : ((W.length : Int) == (S.length : Int)) = false := by rw [beq_eq_false_iff_ne]; omega
    have hv := Lib.hid (wg_no1 hlen)
    go_enter Tryz.func44, Tryz.ntmps44
    go_wp2
    go_ret
    exact ⟨ret_bool hv.out.symm, (by repeat (first | exact Below.refl _ _ | assumption | refine Below.drew ?_ | refine below_drewN ?_ _ | refine Below.alloc' ?_ _ | (refine Below.setCell ?_ (by first | omega | (simp; done) | (simp; omega) | exact Below.size (by assumption) | exact Nat.le_trans (Below.size (by assumption)) (by simp)) _) | (refine Below.via' ?_ (by assumption)) | (refine Below.alloc ?_ (by first | omega | (simp; done) | (simp; omega) | exact Below.size (by assumption) | exact Nat.le_trans (Below.size (by assumption)) (by simp)) _) | (refine Below.via ?_ (by assumption) (by first | omega | (simp; done) | (simp; omega) | exact Below.size (by assumption) | exact Nat.le_trans (Below.size (by assumption)) (by simp)))))⟩
set_option maxHeartbeats 1000000 in
theorem sumWeights_any (x y : Option Addr) (c1 c2 : Nat) (W L : List Int) (w : World) (hw : inR W 1 100 = true) (hl : L.length ≤ 1000) (hL : ∀ v ∈ L, 0 ≤ v ∧ v < (W.length : Int)) (hWi : IIn w x W) (hLi : IIn w y L) :
    Calls Tryz.prog 57 #[.slice x W.length c1, .slice y L.length c2] w fun e w' => e = .returned (.int .i64 (swZ W L)) ∧ Below w.heap.size w w' := by
  have hWh := Lib.hid hWi
  have hWl := hWi.1
  have hLh := Lib.hid hLi
  have hb0 := Lib.hid (fun M : List Int => sw_bd hw M)
  have hwt := Lib.hid (wtA_bd hw)
  have hLm := Lib.hid hL
  clear hWi hLi hL
  go_enter Tryz.func57, Tryz.ntmps57
  go_wp2
  go_loopw [5, 10] (fun q c wr => ∃ i : Nat, i ≤ L.length ∧ c = .int .i64 i ∧ q = .int .i64 (swZ W (L.take i)) ∧ Below w.heap.size w wr) (fun _ c _ => L.length - (intOf c).toNat)
  case atStart => exact ⟨0, by omega, rfl, rfl, (by repeat (first | exact Below.refl _ _ | assumption | refine Below.drew ?_ | refine below_drewN ?_ _ | refine Below.alloc' ?_ _ | (refine Below.setCell ?_ (by first | omega | (simp; done) | (simp; omega) | exact Below.size (by assumption) | exact Nat.le_trans (Below.size (by assumption)) (by simp)) _) | (refine Below.via' ?_ (by assumption)) | (refine Below.alloc ?_ (by first | omega | (simp; done) | (simp; omega) | exact Below.size (by assumption) | exact Nat.le_trans (Below.size (by assumption)) (by simp)) _) | (refine Below.via ?_ (by assumption) (by first | omega | (simp; done) | (simp; omega) | exact Below.size (by assumption) | exact Nat.le_trans (Below.size (by assumption)) (by simp)))))⟩
  case round =>
    obtain ⟨i, hi, rfl, rfl, hb⟩ := hrel
    by_cases hlt : i < L.length
    · obtain ⟨bl, off, v, rfl, hbl, hLv, hc0⟩ := (hLh.out.below hb).2.2.int hlt
      obtain ⟨v1, v2⟩ := hLm.out v (List.mem_of_getElem? hLv)
      obtain ⟨k, rfl⟩ : ∃ k : Nat, v = (k : Int) := ⟨v.toNat, by omega⟩
      obtain ⟨bl2, off2, n, rfl, hbl2, hWk, hc1⟩ := (hWh.out.below hb).2.2.int (i := k) (by omega)
      have hst := Lib.hid (sw_take (W := W) hLv)
      have hwn := Lib.hid (wtA_at hWk)
      have hb1 := hb0.out (L.take i)
      have hb2 : ((L.take i).length : Int) ≤ 1000 := by rw [List.length_take]; omega
      have hn := hwt.out (k : Int)
      rw [hwn.out] at hn
      have hlt' : (i : Int) < (L.length : Int) := by omega
      have hi0 : (0 : Int) ≤ (i : Int) := by omega
      replace hLv := Lib.hid hLv
      replace hWk := Lib.hid hWk
      go_wp2
      go_roundw
      case rel => exact ⟨i + 1, by omega, by go_num, (by rw [hst.out, hwn.out]; try rw [IntWalk.i64_in _ (by omega)]), (by repeat (first | exact Below.refl _ _ | assumption | refine Below.drew ?_ | refine below_drewN ?_ _ | refine Below.alloc' ?_ _ | (refine Below.setCell ?_ (by first | omega | (simp; done) | (simp; omega) | exact Below.size (by assumption) | exact Nat.le_trans (Below.size (by assumption)) (by simp)) _) | (refine Below.via' ?_ (by assumption)) | (refine Below.alloc ?_ (by first | omega | (simp; done) | (simp; omega) | exact Below.size (by assumption) | exact Nat.le_trans (Below.size (by assumption)) (by simp)) _) | (refine Below.via ?_ (by assumption) (by first | omega | (simp; done) | (simp; omega) | exact Below.size (by assumption) | exact Nat.le_trans (Below.size (by assumption)) (by simp)))))⟩
      case measure => simp [intOf]; omega
    · have hij : i = L.length := by omega
      subst hij
      go_wp2
      go_ret
      exact ⟨ret_int (by rw [List.take_length]), (by repeat (first | exact Below.refl _ _ | assumption | refine Below.drew ?_ | refine below_drewN ?_ _ | refine Below.alloc' ?_ _ | (refine Below.setCell ?_ (by first | omega | (simp; done) | (simp; omega) | exact Below.size (by assumption) | exact Nat.le_trans (Below.size (by assumption)) (by simp)) _) | (refine Below.via' ?_ (by assumption)) | (refine Below.alloc ?_ (by first | omega | (simp; done) | (simp; omega) | exact Below.size (by assumption) | exact Nat.le_trans (Below.size (by assumption)) (by simp)) _) | (refine Below.via ?_ (by assumption) (by first | omega | (simp; done) | (simp; omega) | exact Below.size (by assumption) | exact Nat.le_trans (Below.size (by assumption)) (by simp)))))⟩
/-- A schema, weights and two lists of values for it. -/
def wvB (S : List (ByteArray × Int)) (W A B : List Int) : Bool := schB S && wgB S W && fitB S A && fitB S B
theorem wv_no1 {S : List (ByteArray × Int)} {W A B : List Int} (h : schB S = false) : wvB S W A B = false := by unfold wvB; rw [h]; rfl
theorem wv_no2 {S : List (ByteArray × Int)} {W A B : List Int} (h : wgB S W = false) : wvB S W A B = false := by unfold wvB; rw [h, Bool.and_false]; rfl
theorem wv_no3 {S : List (ByteArray × Int)} {W A B : List Int} (h : fitB S A = false) : wvB S W A B = false := by unfold wvB; rw [h, Bool.and_false]; rfl
theorem wv_no4 {S : List (ByteArray × Int)} {W A B : List Int} (h : fitB S B = false) : wvB S W A B = false := by unfold wvB; rw [h, Bool.and_false]
theorem wv_yes {S : List (ByteArray × Int)} {W A B : List Int} (h1 : schB S = true) (h2 : wgB S W = true) (h3 : fitB S A = true) (h4 : fitB S B = true) : wvB S W A B = true := by unfold wvB; rw [h1, h2, h3, h4]; rfl
theorem dv_in {A B : List Int} : ∀ v ∈ dvL A B, 0 ≤ v ∧ v < (A.length : Int) := by
  intro v hv
  unfold dvL at hv
  obtain ⟨i, rfl, hi, _⟩ := pkUp_mem hv
  omega
end Go.Proofs.YtgkaalonmkcclabGreat
