/-
  Lists of edits in memory (as records without numbers: one slice of integers each): reading, the size, a copy, a comparison, marks and their test; a list that comes in.
-/
import Derived.Test.YtnmpigedhpdenaaEdL
import Derived.Test.YtnmpigedhpdenaaRecM
namespace Go.Proofs.Ytnmpigedhpdenaa
open Go.ChangeShapes Go.WideShapes Go.ChangeAt Go.RowKit
open Go.Joins Go.Deep
set_option maxRecDepth 100000

/-- The cells of a list of edits; the edits without their places. -/
def eC (Q : List PR) : List Value := Q.map PR.v
def eM (Q : List PR) : List (List Int) := Q.map fun q => q.L
theorem eC_len (Q : List PR) : (eC Q).length = Q.length := by unfold eC; simp
theorem eM_len (Q : List PR) : (eM Q).length = Q.length := by unfold eM; simp
theorem eC_at {Q : List PR} {i : Nat} {q : PR} (h : Q[i]? = some q) : (eC Q)[i]? = some q.v := by unfold eC; rw [List.getElem?_map, h]; rfl
theorem eM_at {Q : List PR} {i : Nat} {q : PR} (h : Q[i]? = some q) : (eM Q)[i]? = some q.L := by unfold eM; rw [List.getElem?_map, h]; rfl
theorem eM_app (Q T : List PR) : eM (Q ++ T) = eM Q ++ eM T := by unfold eM; rw [List.map_append]
theorem eM_take (Q : List PR) (k : Nat) : eM (Q.take k) = (eM Q).take k := by unfold eM; rw [List.map_take]
theorem eC_one (Q : List PR) : ∀ u ∈ eC Q, u.oneCell' = true := by
  intro u hu
  unfold eC at hu
  obtain ⟨q, _, rfl⟩ := List.mem_map.1 hu
  rfl
theorem Rd.ed {w : World} {x : Option Addr} {Q : List PR} {i : Nat} (h : Rd w x (eC Q)) (hi : i < Q.length) :
    ∃ b off q, x = some ⟨b, off, none⟩ ∧ b < w.heap.size ∧ Q[i]? = some q ∧ w.cell? ⟨b, off + i, none⟩ = some (.slice q.x q.L.length q.c) := by
  rcases h with h | ⟨b, off, e, hl, hc⟩
  · have := eC_len Q
    rw [h] at this
    simp at this
    omega
  · exact ⟨b, off, Q[i], e, hl, List.getElem?_eq_getElem hi, hc _ _ (eC_at (List.getElem?_eq_getElem hi))⟩
/-- A list of edits that is read; one that comes in. -/
def EIn (w : World) (x : Option Addr) (Q : List PR) : Prop := Q.length ≤ 1048576 ∧ (∀ q ∈ Q, IIn w q.x q.L) ∧ Rd w x (eC Q)
def EIn0 (w : World) (x : Option Addr) (Q : List PR) : Prop := Q.length ≤ 9223372036854775807 ∧ (∀ q ∈ Q, q.L.length ≤ 9223372036854775807 ∧ (∀ n ∈ q.L, IsI64 n) ∧ Rd w q.x (iC q.L)) ∧ Rd w x (eC Q)
theorem EIn.below {w w' : World} {x : Option Addr} {Q : List PR} (h : EIn w x Q) (hb : Below w.heap.size w w') : EIn w' x Q := ⟨h.1, fun q hq => (h.2.1 q hq).below hb, h.2.2.below hb⟩
theorem EIn0.below {w w' : World} {x : Option Addr} {Q : List PR} (h : EIn0 w x Q) (hb : Below w.heap.size w w') : EIn0 w' x Q := ⟨h.1, fun q hq => ⟨(h.2.1 q hq).1, (h.2.1 q hq).2.1, (h.2.1 q hq).2.2.below hb⟩, h.2.2.below hb⟩
/-- A list of edits that a call owns. -/
def OwE (w : World) (lo hi : Nat) (te ti : TypeId) (v : Value) (Q : List PR) : Prop :=
  OwR w lo hi te 1 v Q.length (eC Q) ∧ OwV w lo hi ti Q ∧ ∀ q ∈ Q, ∀ k, v.ownBlock = some k → q.v.ownBlock ≠ some k
section
variable {lo hi : Nat} {w w1 : World} {te ti : TypeId} {v : Value} {Q : List PR}
theorem OwE.below (h : OwE w lo hi te ti v Q) (hb : Below w.heap.size w w1) : OwE w1 lo hi te ti v Q := ⟨h.1.below hb, h.2.1.below hb, h.2.2⟩
theorem OwE.off {lo2 hi2 : Nat} (h : OwE w lo hi te ti v Q) (hg : Off lo2 hi2 w w1) (hne : hi ≤ lo2 ∨ hi2 ≤ lo) : OwE w1 lo hi te ti v Q := ⟨h.1.off hg hne, h.2.1.off hg hne, h.2.2⟩
theorem OwE.more {lo' hi' : Nat} (h : OwE w lo hi te ti v Q) (h1 : lo' ≤ lo) (h2 : hi ≤ hi') : OwE w lo' hi' te ti v Q := ⟨h.1.more h1 h2, h.2.1.more h1 h2, h.2.2⟩
theorem OwE.form (h : OwE w lo hi te ti v Q) : ∃ x c, v = .slice x Q.length c ∧ Q.length ≤ c ∧ (x = none → c = 0) := h.1.form
end
theorem eM_get {Q T : List PR} (h : eM T = eM Q) {i : Nat} {q t : PR} (hq : Q[i]? = some q) (ht : T[i]? = some t) : t.L = q.L := Option.some.inj ((eM_at ht).symm.trans (h ▸ eM_at hq))
theorem eM_length {Q T : List PR} (h : eM T = eM Q) : T.length = Q.length := by rw [← eM_len, h, eM_len]
theorem EIn.of_owE {w W : World} {lo hi : Nat} {te ti : TypeId} {x y : Option Addr} {c : Nat} {T Q : List PR} (h : OwE w lo hi te ti (.slice x T.length c) T) (hT : eM T = eM Q) (hQ : EIn0 W y Q) (hl : Q.length ≤ 1048576) (ht : tot Q ≤ 1048576) : EIn w x T := by
  refine ⟨by rw [eM_length hT]; exact hl, fun t hm => ?_, h.1.rd⟩
  obtain ⟨i, hi, e⟩ := List.getElem_of_mem hm
  have hTi : T[i]? = some t := by rw [List.getElem?_eq_getElem hi, e]
  have hQl : i < Q.length := by rw [← eM_length hT]; exact hi
  have hQi : Q[i]? = some Q[i] := List.getElem?_eq_getElem hQl
  have e3 := eM_get hT hQi hTi
  have := tot_mem (List.getElem_mem hQl)
  exact ⟨by rw [e3]; omega, by rw [e3]; exact (hQ.2.1 Q[i] (List.getElem_mem hQl)).2.1, (h.2.1.1 t hm).rd⟩
theorem EIn.len {w : World} {x : Option Addr} {Q : List PR} (h : EIn w x Q) : Q.length ≤ 9223372036854775807 ∧ ∀ q ∈ Q, q.L.length ≤ 9223372036854775807 := ⟨by have := h.1; omega, fun q hq => by have := (h.2.1 q hq).1; omega⟩
theorem EIn.inn {w : World} {x : Option Addr} {Q : List PR} (h : EIn w x Q) : ∀ q ∈ Q, Rd w q.x (iC q.L) := fun q hq => (h.2.1 q hq).2.2

theorem eC_snoc_at {T : List PR} {q : PR} {xs : List Value} {i n : Nat} (hT : T.length = i) (hi : i < n) (hl : xs.length = n) (hd : ∀ j, j < i → xs[j]? = (eC T)[j]?) :
    ∀ j, j < i + 1 → (xs.set i q.v)[j]? = (eC (T ++ [q]))[j]? := by
  intro j hj
  have hq : (T ++ [q])[i]? = some q := by subst hT; simp
  rw [List.getElem?_set]
  by_cases e0 : i = j
  · subst e0; rw [if_pos rfl, if_pos (by omega), eC_at hq]
  · rw [if_neg e0, hd j (by omega)]
    unfold eC
    rw [List.map_append, List.getElem?_append_left (by rw [List.length_map]; omega)]
theorem eC_ext {n : Nat} {xs : List Value} {Q : List PR} (hl : xs.length = n) (hq : Q.length = n) (h : ∀ j, j < n → xs[j]? = (eC Q)[j]?) : xs = eC Q := by
  apply List.ext_getElem?
  intro j
  rcases Nat.lt_or_ge j n with hj | hj
  · exact h j hj
  · rw [List.getElem?_eq_none (by omega), List.getElem?_eq_none (by rw [eC_len]; omega)]
end Go.Proofs.Ytnmpigedhpdenaa
