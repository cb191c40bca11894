/-
  The model's draws of chapter 2: any schema.
-/
import Derived.Test.YtmefkknkahmihaaDrwS
import Derived.Test.YtmefkknkahmihaaTxt
namespace Go.Proofs.Ytmefkknkahmihaa
open Go.RowKit
set_option maxRecDepth 100000

theorem Rd.litS (w : World) (L : List ByteArray) (ty : TypeId) : Rd (w.alloc (.cells (L.map Value.string).toArray ty)) (some ⟨w.heap.size, 0, none⟩) (tC L) := by
  refine Or.inr ⟨w.heap.size, 0, rfl, by simp, fun j u hj => ?_⟩
  rw [World.cell?_alloc_at _ _ _ _ rfl, Nat.zero_add, List.getElem?_toArray]
  exact hj
def OfPost (b : Nat) (x : Option Addr) (n cap k : Nat) (L : List ByteArray) (w : World) (e : Ending) (w' : World) : Prop :=
  ∃ (s : ByteArray) (k' : Nat), e = .returned (.string s) ∧ s ∈ L ∧ k ≤ k' ∧ k' ≤ k + 2 ∧ CurAt w' b x n cap k' ∧ w.grownBy w' (some b)
theorem vC_nam0 {S : List (ByteArray × Int)} {nm nm' : ByteArray} {lv : Int} (h : S[0]? = some (nm, lv)) : vC (S.set 0 (nm', lv)) = (vC S).set 0 (.string nm') := by
  cases S with
  | nil => cases h
  | cons p r =>
    simp at h
    subst h
    rfl
theorem vC_lev0 {S : List (ByteArray × Int)} {nm : ByteArray} {lv lv' : Int} (h : S[0]? = some (nm, lv)) : vC (S.set 0 (nm, lv')) = (vC S).set 1 (.int .i64 lv') := by
  cases S with
  | nil => cases h
  | cons p r =>
    simp at h
    subst h
    rfl
theorem Rd.oneV_at (w : World) (t : TypeId) (s : ByteArray) (n : Int) (g : Nat) (h : w.heap.size = g) : Rd (w.alloc (.cells #[.string s, .int .i64 n] t)) (some ⟨g, 0, none⟩) (vC [(s, n)]) := by subst h; exact Rd.oneV w t s n
theorem grown_setAt {w w' : World} {b g : Nat} (h : w.grownBy w' (some b)) (hg : w.heap.size ≤ g) (o : Nat) (v : Value) : w.grownBy (w'.setCell ⟨g, o, none⟩ v) (some b) := grown_set h hg o v
end Go.Proofs.Ytmefkknkahmihaa
