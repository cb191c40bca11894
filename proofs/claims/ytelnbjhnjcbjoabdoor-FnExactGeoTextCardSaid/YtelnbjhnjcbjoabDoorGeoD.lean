/-
  The walks of chapter 4: depths, lists of areas; the program's and the model's.
-/
import Derived.Test.YtelnbjhnjcbjoabDoorGeoT
import Derived.Test.YtelnbjhnjcbjoabDoorApp
namespace Go.Proofs.YtelnbjhnjcbjoabDoor
open Go.RowKit
set_option maxRecDepth 100000

theorem iC_appG (A B : List Int) : iC (A ++ B) = iC A ++ iC B := by unfold iC; rw [List.map_append]
theorem rd_oneG (w : World) (t : TypeId) (n : Int) (g : Nat) (h : w.heap.size = g) : Rd (w.alloc (.cells #[.int .i64 n] t)) (some ⟨g, 0, none⟩) (iC [n]) := by
  subst h
  refine Or.inr ⟨w.heap.size, 0, rfl, by simp, fun j u hj => ?_⟩
  rw [Nat.zero_add, World.cell?_alloc_at _ _ _ _ rfl, ← hj, ← Array.getElem?_toList]
  rfl
/-- A list that a function hands back. -/
def RetG (L : List Int) (w : World) (e : Ending) (w' : World) : Prop := ∃ v, e = .returned v ∧ w'.ownsRow w.heap.size 3 1 v L.length (iC L) ∧ Below w.heap.size w w'
def RetGB (L : List Int) (b : Bool) (w : World) (e : Ending) (w' : World) : Prop := ∃ v, e = .returned (.tuple #[v, .bool b]) ∧ w'.ownsRow w.heap.size 3 1 v L.length (iC L) ∧ Below w.heap.size w w'
theorem ret_ibG {a b : Int} {p q : Bool} (h : a = b) (k : p = q) : Ending.returned (.tuple #[.int .i64 a, .bool p]) = .returned (.tuple #[.int .i64 b, .bool q]) := by rw [h, k]
theorem ret_vb {v : Value} {p q : Bool} (k : p = q) : Ending.returned (.tuple #[v, .bool p]) = .returned (.tuple #[v, .bool q]) := by rw [k]

/-- Is it an area of a geography? -/
def gaB (P : List Int) (i : Int) : Bool := geB P && inB i 0 ((P.length : Int) - 1)
theorem ga_no1 {P : List Int} {i : Int} (h : geB P = false) : gaB P i = false := by unfold gaB; rw [h]; rfl
theorem ga_no2 {P : List Int} {i : Int} (h : inB i 0 ((P.length : Int) - 1) = false) : gaB P i = false := by unfold gaB; rw [h, Bool.and_false]
theorem ga_yes {P : List Int} {i : Int} (h : geB P = true) (k : inB i 0 ((P.length : Int) - 1) = true) : gaB P i = true := by unfold gaB; rw [h, k]; rfl
theorem ga_get {P : List Int} {i : Int} (h : gaB P i = true) : geB P = true ∧ ∃ k : Nat, i = (k : Int) ∧ k < P.length := by
  unfold gaB at h
  rw [Bool.and_eq_true, inB_iff] at h
  exact ⟨h.1, i.toNat, by omega, by omega⟩
/-- Depths of the areas before i, the others 0. -/
def dpF (P : List Int) (i : Nat) : List Int := (List.range P.length).map fun j : Nat => if j < i then (dpN P j : Int) else 0
theorem dpF_len (P : List Int) (i : Nat) : (dpF P i).length = P.length := by unfold dpF; simp
theorem dpF_at {P : List Int} {i j : Nat} (h : j < P.length) : (dpF P i)[j]? = some (if j < i then (dpN P j : Int) else 0) := by unfold dpF; simp [h]
theorem dpF_one (P : List Int) : dpF P 1 = zL P.length := by
  apply List.ext_getElem?
  intro j
  by_cases h : j < P.length
  · rw [dpF_at h]
    unfold zL
    rw [List.getElem?_replicate, if_pos h]
    split
    · obtain rfl : j = 0 := by omega
      rw [dp_zero]; rfl
    · rfl
  · rw [List.getElem?_eq_none (by rw [dpF_len]; omega), List.getElem?_eq_none (by rw [zL_len]; omega)]
theorem dpF_all (P : List Int) : dpF P P.length = dpL P := by
  unfold dpF dpL
  apply List.map_congr_left
  intro j hj
  rw [if_pos (List.mem_range.1 hj)]
theorem dpF_step {P : List Int} {i p : Nat} (h : P[i]? = some (p : Int)) (hp : p < i) (hi : i < P.length) : (dpF P i).set i ((dpN P p : Int) + 1) = dpF P (i + 1) := by
  apply List.ext_getElem?
  intro j
  rw [List.getElem?_set, dpF_len]
  by_cases hj : j < P.length
  · rw [dpF_at hj, dpF_at hj]
    by_cases e : i = j
    · subst e
      rw [if_pos rfl, if_pos hi, if_pos (by omega), dp_step h hp]
      rfl
    · rw [if_neg e]
      by_cases k : j < i
      · rw [if_pos k, if_pos (by omega)]
      · rw [if_neg k, if_neg (by omega)]
  · rw [if_neg (by omega), List.getElem?_eq_none (by rw [dpF_len]; omega), List.getElem?_eq_none (by rw [dpF_len]; omega)]
theorem rd_low {w : World} {x : Option Addr} {xs : List Value} (h : Rd w x xs) (hne : 0 < xs.length) : ∀ b off, x = some ⟨b, off, none⟩ → b < w.heap.size := by
  intro b off e
  rcases h with h | ⟨b2, off2, e2, hl, _⟩
  · rw [h] at hne; simp at hne
  · rw [e2] at e
    injection e with e
    injection e with e3
    omega
/-- The same row, read from below. -/
theorem own_low {w : World} {base base' e size n : Nat} {v : Value} {xs : List Value} (h : w.ownsRow base e size v n xs) (hb : base' ≤ base) : w.ownsRow base' e size v n xs := own_more h hb
end Go.Proofs.YtelnbjhnjcbjoabDoor
