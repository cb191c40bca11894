/-
  Plain mathematics of chapter 4: geographies: depths, paths, children, leaves, levels, meeting areas, sums. No program's text.
-/
import Derived.Test.YtgkaalonmkcclaaKit
namespace Go.Proofs.Ytgkaalonmkcclaa
open Go.RowKit

/-- Is it a geography? -/
def geB (P : List Int) : Bool := inB P.length 1 30 && decide (P[0]? = some (-1)) && (List.range P.length).all fun i => decide (i = 0) || inB (P.getD i 0) 0 ((i : Int) - 1)
theorem ge_short {P : List Int} (h : P.length = 0 ∨ 30 < P.length) : geB P = false := by
  unfold geB
  rw [(inB_no _ _ _).2 (by omega)]
  rfl
theorem ge_root {P : List Int} (h : P[0]? ≠ some (-1)) : geB P = false := by
  unfold geB
  rw [decide_eq_false h, Bool.and_false]
  rfl
theorem ge_bad {P : List Int} {i : Nat} {v : Int} (h1 : 1 ≤ i) (h : P[i]? = some v) (hb : ¬ (0 ≤ v ∧ v < i)) : geB P = false := by
  unfold geB
  rw [Bool.and_eq_false_iff]
  right
  rw [List.all_eq_false]
  refine ⟨i, List.mem_range.2 (List.getElem?_eq_some_iff.1 h).1, ?_⟩
  rw [List.getD_eq_getElem?_getD, h, Option.getD_some, (inB_no _ _ _).2 (by omega), decide_eq_false (by omega)]
  simp
theorem ge_ok {P : List Int} (h0 : 1 ≤ P.length) (h1 : P.length ≤ 30) (h2 : P[0]? = some (-1)) (h : ∀ i, 1 ≤ i → i < P.length → ∃ v, P[i]? = some v ∧ 0 ≤ v ∧ v < i) : geB P = true := by
  unfold geB
  rw [(inB_iff _ _ _).2 ⟨by omega, by omega⟩, decide_eq_true h2, Bool.and_true, Bool.true_and, List.all_eq_true]
  intro i hi
  rcases Nat.eq_zero_or_pos i with e | e
  · rw [decide_eq_true e]; rfl
  · obtain ⟨v, hv, a, b⟩ := h i e (List.mem_range.1 hi)
    rw [List.getD_eq_getElem?_getD, hv, Option.getD_some, (inB_iff _ _ _).2 ⟨a, by omega⟩, Bool.or_true]
theorem ge_len {P : List Int} (h : geB P = true) : 1 ≤ P.length ∧ P.length ≤ 30 := by
  unfold geB at h
  simp only [Bool.and_eq_true] at h
  have := (inB_iff _ _ _).1 h.1.1
  omega
theorem ge_zero {P : List Int} (h : geB P = true) : P[0]? = some (-1) := by
  unfold geB at h
  simp only [Bool.and_eq_true, decide_eq_true_eq] at h
  exact h.1.2
theorem ge_par {P : List Int} (h : geB P = true) {i : Nat} (h1 : 1 ≤ i) (hi : i < P.length) : ∃ p : Nat, P[i]? = some (p : Int) ∧ p < i := by
  unfold geB at h
  simp only [Bool.and_eq_true] at h
  have := List.all_eq_true.1 h.2 i (List.mem_range.2 hi)
  rw [decide_eq_false (by omega), Bool.false_or, inB_iff, List.getD_eq_getElem?_getD, List.getElem?_eq_getElem hi, Option.getD_some] at this
  exact ⟨P[i].toNat, by rw [List.getElem?_eq_getElem hi]; congr 1; omega, by omega⟩

/-- An area and its ancestors, the area first; the path to it. -/
def upW (P : List Int) (i : Nat) : List Int := (i : Int) :: (if _h : i ≠ 0 ∧ (P.getD i 0).toNat < i then upW P (P.getD i 0).toNat else [])
termination_by i
decreasing_by exact _h.2
def ptL (P : List Int) (i : Nat) : List Int := (upW P i).reverse
def dpN (P : List Int) (i : Nat) : Nat := (ptL P i).length - 1
theorem upW_zero (P : List Int) : upW P 0 = [0] := by rw [upW]; simp
theorem upW_step {P : List Int} {i p : Nat} (h : P[i]? = some (p : Int)) (hp : p < i) : upW P i = (i : Int) :: upW P p := by
  rw [upW]
  have e : (P.getD i 0).toNat = p := by rw [List.getD_eq_getElem?_getD, h]; simp
  rw [e, dif_pos ⟨by omega, hp⟩]
theorem pt_zero (P : List Int) : ptL P 0 = [0] := by unfold ptL; rw [upW_zero]; rfl
theorem pt_step {P : List Int} {i p : Nat} (h : P[i]? = some (p : Int)) (hp : p < i) : ptL P i = ptL P p ++ [(i : Int)] := by unfold ptL; rw [upW_step h hp, List.reverse_cons]
theorem dp_zero (P : List Int) : dpN P 0 = 0 := by unfold dpN; rw [pt_zero]; rfl
theorem pt_len (P : List Int) (i : Nat) : (ptL P i).length = dpN P i + 1 := by
  have : 1 ≤ (ptL P i).length := by unfold ptL; rw [upW]; simp
  unfold dpN
  omega
theorem dp_step {P : List Int} {i p : Nat} (h : P[i]? = some (p : Int)) (hp : p < i) : dpN P i = dpN P p + 1 := by
  have := pt_len P i
  rw [pt_step h hp, List.length_append, pt_len] at this
  simp at this
  omega
/-- Areas by their parents. -/
theorem ge_ind {P : List Int} (h : geB P = true) {Q : Nat → Prop} (h0 : Q 0) (h1 : ∀ i p : Nat, i < P.length → P[i]? = some (p : Int) → p < i → Q p → Q i) : ∀ i, i < P.length → Q i := by
  intro i
  induction i using Nat.strongRecOn with
  | _ i ih =>
    intro hi
    rcases Nat.eq_zero_or_pos i with e | e
    · subst e; exact h0
    · obtain ⟨p, hp, hl⟩ := ge_par h e hi
      exact h1 i p hi hp hl (ih p hl (by omega))
theorem dp_le {P : List Int} (h : geB P = true) {i : Nat} (hi : i < P.length) : dpN P i ≤ i := by
  refine ge_ind h (Q := fun i => dpN P i ≤ i) (by rw [dp_zero]; omega) (fun i p _ h1 h2 h3 => ?_) i hi
  have := dp_step h1 h2
  show _ ≤ _
  have h3' : dpN P p ≤ p := h3
  omega
theorem pt_mem {P : List Int} (h : geB P = true) {i : Nat} (hi : i < P.length) : ∀ x ∈ ptL P i, 0 ≤ x ∧ x ≤ i := by
  refine ge_ind h (Q := fun i => ∀ x ∈ ptL P i, 0 ≤ x ∧ x ≤ (i : Int)) (by rw [pt_zero]; simp) (fun i p _ h1 h2 h3 => ?_) i hi
  intro x hx
  rw [pt_step h1 h2, List.mem_append, List.mem_singleton] at hx
  rcases hx with hx | hx
  · have := h3 x hx
    omega
  · omega
theorem pt_last (P : List Int) {i : Nat} : (ptL P i)[dpN P i]? = some (i : Int) := by
  have e : dpN P i = (ptL P i).length - 1 := rfl
  rw [e, ← List.getLast?_eq_getElem?]
  unfold ptL
  rw [upW]
  simp
/-- An ancestor, or -1. -/
def anZ (P : List Int) (i : Nat) (l : Int) : Int := if 0 ≤ l ∧ l ≤ dpN P i then (ptL P i).getD l.toNat 0 else -1
theorem an_low {P : List Int} {i : Nat} {l : Int} (h : l < 0) : anZ P i l = -1 := if_neg (by omega)
theorem an_high {P : List Int} {i : Nat} {l : Int} (h : (dpN P i : Int) < l) : anZ P i l = -1 := if_neg (by omega)
theorem an_at {P : List Int} {i l : Nat} {v : Int} (h : (ptL P i)[l]? = some v) : anZ P i l = v := by
  have := (List.getElem?_eq_some_iff.1 h).1
  rw [pt_len] at this
  unfold anZ
  rw [if_pos (by omega), List.getD_eq_getElem?_getD, Int.toNat_natCast, h]
  rfl
theorem an_pre {P : List Int} {i j l : Nat} (h : ptL P j <+: ptL P i) (hl : dpN P j = l) : anZ P i l = j := by
  refine an_at ?_
  obtain ⟨t, ht⟩ := h
  rw [← ht, List.getElem?_append_left (by rw [pt_len]; omega), ← hl]
  exact pt_last P
theorem an_bd {P : List Int} (h : geB P = true) {i : Nat} (hi : i < P.length) (l : Int) : -1 ≤ anZ P i l ∧ anZ P i l ≤ 29 ∧ (0 ≤ anZ P i l ↔ 0 ≤ l ∧ l ≤ dpN P i) := by
  have hl := ge_len h
  unfold anZ
  by_cases hk : 0 ≤ l ∧ l ≤ dpN P i
  · rw [if_pos hk]
    have hlt : l.toNat < (ptL P i).length := by rw [pt_len]; omega
    rw [List.getD_eq_getElem?_getD, List.getElem?_eq_getElem hlt, Option.getD_some]
    have := pt_mem h hi _ (List.getElem_mem hlt)
    refine ⟨by omega, by omega, ⟨fun _ => hk, fun _ => this.1⟩⟩
  · rw [if_neg hk]
    exact ⟨by omega, by omega, ⟨fun h => by omega, fun h => absurd h hk⟩⟩

/-- The numbers below k that a test takes. -/
def selK (p : Nat → Bool) (k : Nat) : List Int := ((List.range k).filter p).map fun i : Nat => (i : Int)
theorem sel_zero (p : Nat → Bool) : selK p 0 = [] := rfl
theorem sel_yes {p : Nat → Bool} {k : Nat} (h : p k = true) : selK p (k + 1) = selK p k ++ [(k : Int)] := by unfold selK; rw [List.range_succ, List.filter_append]; simp [h]
theorem sel_no {p : Nat → Bool} {k : Nat} (h : p k = false) : selK p (k + 1) = selK p k := by unfold selK; rw [List.range_succ, List.filter_append]; simp [h]
theorem sel_len (p : Nat → Bool) (k : Nat) : (selK p k).length ≤ k := by
  unfold selK
  rw [List.length_map]
  exact Nat.le_trans (List.length_filter_le _ _) (by simp)
theorem sel_congr {p q : Nat → Bool} {k : Nat} (h : ∀ i, i < k → p i = q i) : selK p k = selK q k := by
  unfold selK
  rw [List.filter_congr (fun i hi => h i (List.mem_range.1 hi))]
theorem sel_mem {p : Nat → Bool} {k : Nat} {x : Int} : x ∈ selK p k ↔ ∃ i : Nat, x = (i : Int) ∧ i < k ∧ p i = true := by
  unfold selK
  simp only [List.mem_map, List.mem_filter, List.mem_range]
  constructor
  · rintro ⟨i, ⟨a, b⟩, rfl⟩; exact ⟨i, rfl, a, b⟩
  · rintro ⟨i, rfl, a, b⟩; exact ⟨i, ⟨a, b⟩, rfl⟩
/-- The places that hold a number. -/
def eqP (L : List Int) (n : Int) : Nat → Bool := fun i => decide (L[i]? = some n)
def awL (L : List Int) (n : Int) : List Int := selK (eqP L n) L.length
theorem eqP_at {L : List Int} {n v : Int} {i : Nat} (h : L[i]? = some v) : eqP L n i = decide (v = n) := by unfold eqP; rw [h]; simp
/-- Depths, counts of children; leaves, levels. -/
def dpL (P : List Int) : List Int := (List.range P.length).map fun i : Nat => (dpN P i : Int)
def cnK (P : List Int) (k i : Nat) : Int := (selK (eqP P i) k).length
def cnL (P : List Int) : List Int := (List.range P.length).map fun i : Nat => cnK P P.length i
def lvL (P : List Int) (l : Int) : List Int := selK (fun i => decide ((dpN P i : Int) = l)) P.length
def lfP (P : List Int) : Nat → Bool := fun i => decide ((awL P i).length = 0)
def lfL (P : List Int) : List Int := selK (lfP P) P.length
theorem dpL_len (P : List Int) : (dpL P).length = P.length := by unfold dpL; simp
theorem cnL_len (P : List Int) : (cnL P).length = P.length := by unfold cnL; simp
theorem dpL_at {P : List Int} {i : Nat} (h : i < P.length) : (dpL P)[i]? = some (dpN P i : Int) := by unfold dpL; simp [h]
theorem cnL_at {P : List Int} {i : Nat} (h : i < P.length) : (cnL P)[i]? = some (cnK P P.length i) := by unfold cnL; simp [h]
theorem lv_aw (P : List Int) (l : Int) : awL (dpL P) l = lvL P l := by
  unfold awL lvL
  rw [dpL_len]
  refine sel_congr fun i hi => ?_
  rw [eqP_at (dpL_at hi)]
theorem lf_aw (P : List Int) : awL (cnL P) 0 = lfL P := by
  unfold awL lfL
  rw [cnL_len]
  refine sel_congr fun i hi => ?_
  rw [eqP_at (cnL_at hi)]
  unfold lfP cnK awL
  rw [decide_eq_decide]
  omega
theorem gcn_zero (P : List Int) (h : geB P = true) (i : Nat) : cnK P 1 i = 0 := by
  unfold cnK
  rw [sel_no (by rw [eqP_at (ge_zero h)]; exact decide_eq_false (by omega)), sel_zero]
  rfl
theorem gcn_yes {P : List Int} {k p : Nat} (h : P[k]? = some (p : Int)) : cnK P (k + 1) p = cnK P k p + 1 := by
  unfold cnK
  rw [sel_yes (by rw [eqP_at h]; exact decide_eq_true rfl), List.length_append]
  simp
theorem gcn_no {P : List Int} {k p q : Nat} (h : P[k]? = some (p : Int)) (hq : q ≠ p) : cnK P (k + 1) q = cnK P k q := by
  unfold cnK
  rw [sel_no (by rw [eqP_at h]; exact decide_eq_false (by omega))]
theorem gcn_bd (P : List Int) (k i : Nat) : 0 ≤ cnK P k i ∧ cnK P k i ≤ k := by
  have := sel_len (eqP P i) k
  unfold cnK
  omega

/-- What two paths have in common, from the root on; its last area. -/
def cpL : List Int → List Int → List Int
  | a :: r, b :: s => if a = b then a :: cpL r s else []
  | _, _ => []
def mtZ (P : List Int) (i k : Nat) : Int := (cpL (ptL P i) (ptL P k)).getLastD 0
theorem cp_same : ∀ a : List Int, cpL a a = a
  | [] => rfl
  | a :: r => by simp [cpL, cp_same r]
theorem cp_comm : ∀ a b : List Int, cpL a b = cpL b a
  | [], [] => rfl
  | [], b :: s => rfl
  | a :: r, [] => rfl
  | a :: r, b :: s => by
    unfold cpL
    by_cases h : a = b
    · subst h; rw [if_pos rfl, if_pos rfl, cp_comm r s]
    · rw [if_neg h, if_neg (fun e => h e.symm)]
theorem cp_snoc {c : Int} : ∀ {a b : List Int}, c ∉ b → cpL (a ++ [c]) b = cpL a b
  | [], [], _ => rfl
  | [], b :: s, h => by
    simp only [List.mem_cons, not_or] at h
    show cpL [c] (b :: s) = []
    unfold cpL
    rw [if_neg h.1]
  | a :: r, [], _ => rfl
  | a :: r, b :: s, h => by
    simp only [List.mem_cons, not_or] at h
    simp only [List.cons_append, cpL]
    rw [cp_snoc h.2]
theorem mt_same (P : List Int) (i : Nat) : mtZ P i i = i := by
  unfold mtZ
  rw [cp_same, List.getLastD_eq_getLast?]
  unfold ptL
  rw [upW]
  simp
theorem mt_comm (P : List Int) (i k : Nat) : mtZ P i k = mtZ P k i := by unfold mtZ; rw [cp_comm]
theorem mt_up {P : List Int} (hg : geB P = true) {i p k : Nat} (h : P[i]? = some (p : Int)) (hp : p < i) (hk : k < P.length) (hik : k < i) : mtZ P i k = mtZ P p k := by
  unfold mtZ
  rw [pt_step h hp, cp_snoc]
  intro hm
  have := pt_mem hg hk _ hm
  omega
theorem cp_take : ∀ (a b : List Int) (n : Nat) (x : Int), n = (cpL (a.take n) (b.take n)).length → a[n]? = some x → b[n]? = some x → cpL (a.take (n + 1)) (b.take (n + 1)) = cpL (a.take n) (b.take n) ++ [x]
  | [], b, n, x, _, h, _ => by simp at h
  | a :: r, [], n, x, _, _, h => by simp at h
  | a :: r, b :: s, 0, x, _, h1, h2 => by
    simp at h1 h2
    subst h1 h2
    simp [cpL]
  | a :: r, b :: s, n + 1, x, h, h1, h2 => by
    simp only [List.take_succ_cons, cpL] at h ⊢
    by_cases e : a = b
    · subst e
      rw [if_pos rfl] at h ⊢
      rw [if_pos rfl]
      simp only [List.length_cons, Nat.add_right_cancel_iff, List.getElem?_cons_succ, List.cons_append, List.cons.injEq, true_and] at h h1 h2 ⊢
      have := cp_take r s n x h h1 h2
      simpa using this
    · rw [if_neg e] at h
      simp at h
theorem cp_end : ∀ (a b : List Int) (n : Nat), n = (cpL (a.take n) (b.take n)).length → (n = a.length ∨ n = b.length ∨ ∃ x y, a[n]? = some x ∧ b[n]? = some y ∧ x ≠ y) → cpL a b = cpL (a.take n) (b.take n)
  | [], b, n, h, _ => by simp [cpL]
  | a :: r, [], n, h, _ => by simp [cpL]
  | a :: r, b :: s, 0, h, hk => by
    rcases hk with hk | hk | ⟨x, y, h1, h2, hne⟩
    · simp at hk
    · simp at hk
    · simp at h1 h2
      subst h1 h2
      simp [cpL, hne]
  | a :: r, b :: s, n + 1, h, hk => by
    simp only [List.take_succ_cons, cpL] at h ⊢
    by_cases e : a = b
    · subst e
      rw [if_pos rfl] at h ⊢
      rw [if_pos rfl]
      congr 1
      refine cp_end r s n (by simpa using h) ?_
      simpa using hk
    · rw [if_neg e] at h
      simp at h

/-- One step of a sum, and all steps above k. -/
def suS (P : List Int) (V : List Int) (i : Nat) : List Int := V.set (P.getD i 0).toNat (wrap64 (V.getD (P.getD i 0).toNat 0 + V.getD i 0))
def suK (P : List Int) (V : List Int) : Nat → List Int
  | 0 => V
  | n + 1 => suS P (suK P V n) (V.length - 1 - n)
def suL (P V : List Int) : List Int := suK P V (V.length - 1)
theorem suS_at {P V : List Int} {i p : Nat} {a b : Int} (hp : P[i]? = some (p : Int)) (ha : V[p]? = some a) (hb : V[i]? = some b) : suS P V i = V.set p (wrap64 (a + b)) := by
  unfold suS
  rw [show P.getD i 0 = (p : Int) by rw [List.getD_eq_getElem?_getD, hp]; rfl, Int.toNat_natCast, List.getD_eq_getElem?_getD, ha, List.getD_eq_getElem?_getD, hb]
  rfl
theorem suK_len (P V : List Int) : ∀ n, (suK P V n).length = V.length
  | 0 => rfl
  | n + 1 => by unfold suK suS; rw [List.length_set, suK_len]
theorem suL_len (P V : List Int) : (suL P V).length = V.length := suK_len P V _
end Go.Proofs.Ytgkaalonmkcclaa
