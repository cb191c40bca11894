/-
  Rows that a law's calls hand back: where they lie, and that they are kept while others are marked.
-/
import Derived.Test.YtgkaalonmkcclabMark
namespace Go.Proofs.Ytgkaalonmkcclab
open Go.RowKit

/-- The row of v lies in a block between lo and hi, and is the call's own. -/
def OwR (w : World) (lo hi : Nat) (e : TypeId) (size : Nat) (v : Value) (n : Nat) (xs : List Value) : Prop := w.ownsRow lo e size v n xs ∧ ∀ k, v.ownBlock = some k → lo ≤ k ∧ k < hi
section
variable {w w' : World} {lo hi e size n : Nat} {v : Value} {xs : List Value}
theorem OwR.of (h : w.ownsRow lo e size v n xs) : OwR w lo w.heap.size e size v n xs := ⟨h, h.lt⟩
theorem OwR.keep {r : Option Nat} (h : OwR w lo hi e size v n xs) (hg : w.grownBy w' r) (hr : ∀ k, r = some k → k < lo ∨ hi ≤ k) : OwR w' lo hi e size v n xs := by
  refine ⟨h.1.kept hg ?_, h.2⟩
  cases hv : v.ownBlock with
  | none => exact Or.inl rfl
  | some k =>
    refine Or.inr fun e => ?_
    have := h.2 k hv
    rcases hr k e.symm with h' | h' <;> omega
theorem OwR.below (h : OwR w lo hi e size v n xs) (hb : Below w.heap.size w w') : OwR w' lo hi e size v n xs := ⟨own_below h.1 hb, h.2⟩
theorem OwR.turn {ys : List Value} (h : OwR w lo hi e size v n xs) (k : w'.ownsRow lo e size v n ys) : OwR w' lo hi e size v n ys := ⟨k, h.2⟩
theorem OwR.rd {x : Option Addr} {c : Nat} (h : OwR w lo hi e size (.slice x n c) n xs) : Rd w x xs := Rd.of_own h.1
theorem OwR.low (h : OwR w lo hi e size v n xs) : ∀ k, v.ownBlock = some k → lo ≤ k := fun k hk => (h.2 k hk).1
/-- A slice that is owned is a slice. -/
theorem OwR.form (h : OwR w lo hi e size v n xs) : ∃ x c, v = .slice x n c ∧ n ≤ c ∧ (x = none → c = 0) := by
  rcases h.1.2 with ⟨rfl, rfl⟩ | ⟨g, cap, cur, rfl, _, _, hc, _⟩
  · exact ⟨none, 0, rfl, Nat.le_refl _, fun _ => rfl⟩
  · exact ⟨_, _, rfl, hc, fun h => by cases h⟩
theorem Below.mark {w0 : World} (hb : Below w0.heap.size w0 w) (h : OwR w lo hi e size v n xs) (hg : w.grownBy w' v.ownBlock) (hl : w0.heap.size ≤ lo) : Below w0.heap.size w0 w' :=
  hb.grown hg hb.size (fun k hk => Nat.le_trans hl (h.low k hk))
theorem Rd.mark {x : Option Addr} {ys : List Value} (hr : Rd w x ys) (h : OwR w lo hi e size v n xs) (hg : w.grownBy w' v.ownBlock) (hx : ∀ b off, x = some ⟨b, off, none⟩ → b < lo) : Rd w' x ys :=
  hr.keep hg (fun b off e2 h2 => by have := h.low b h2.symm; have := hx b off e2; omega)
end
end Go.Proofs.Ytgkaalonmkcclab
