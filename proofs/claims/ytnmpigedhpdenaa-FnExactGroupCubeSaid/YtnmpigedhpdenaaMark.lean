/-
  The laws' marks on lists of variables: the text of a number, the marks and their test.
-/
import Derived.Test.YtnmpigedhpdenaaVar
namespace Go.Proofs.Ytnmpigedhpdenaa
open Go.RowKit
set_option maxRecDepth 100000

/-- One byte as a string; the text that a mark takes from a number. -/
def byT (n : Int) : ByteArray := ⟨#[UInt8.ofNat n.toNat]⟩
theorem byT_len (n : Int) : (byT n).size = 1 := rfl
def mtF : Nat → Int → ByteArray → ByteArray
  | 0, _, out => out
  | f + 1, k, out => if k ≤ 0 then out else mtF f (k / 10) (byT (48 + k % 10) ++ out)
def mtT (k : Int) : ByteArray := ⟨#[109]⟩ ++ mtF 13 k ⟨#[]⟩
theorem mtF_end {f : Nat} {k : Int} {out : ByteArray} (h : k ≤ 0) : mtF f k out = out := by
  cases f with
  | zero => rfl
  | succ f => unfold mtF; rw [if_pos h]
theorem mtF_step {f : Nat} {k : Int} {out : ByteArray} (h : 0 < k) : mtF (f + 1) k out = mtF f (k / 10) (byT (48 + k % 10) ++ out) := by
  show (if k ≤ 0 then out else _) = _
  rw [if_neg (by omega)]
theorem mtF_len : ∀ (f : Nat) (k : Int) (out : ByteArray), (mtF f k out).size ≤ out.size + f
  | 0, k, out => by show out.size ≤ _; omega
  | f + 1, k, out => by
    unfold mtF
    split
    · omega
    · have := mtF_len f (k / 10) (byT (48 + k % 10) ++ out)
      rw [ByteArray.size_append, byT_len] at this
      omega
theorem ret_sT {a b : ByteArray} (h : a = b) : Ending.returned (.string a) = .returned (.string b) := by rw [h]

/-- The marks that are laid into n variables, from k on. -/
def mvS (k : Int) (n : Nat) : List (ByteArray × Int) := (List.range n).map fun i : Nat => (mtT (k + 2 * (i : Int)), k + 2 * (i : Int) + 1)
theorem mvS_len (k : Int) (n : Nat) : (mvS k n).length = n := by unfold mvS; simp
theorem mvS_at (k : Int) {n i : Nat} (h : i < n) : (mvS k n)[i]? = some (mtT (k + 2 * (i : Int)), k + 2 * (i : Int) + 1) := by unfold mvS; simp [h]
theorem own_grown {w w' : World} {base e size g n cap : Nat} {xs : List Value} {r : Option Nat} (h : w.ownsRow base e size (.slice (some ⟨g, 0, none⟩) n cap) n xs) (hg : w.grownBy w' r) (hne : some g ≠ r) : w'.ownsRow base e size (.slice (some ⟨g, 0, none⟩) n cap) n xs :=
  h.kept hg (Or.inr hne)
theorem grown_of_bel {w w' : World} (h : Below w.heap.size w w') (r : Option Nat) : w.grownBy w' r := ⟨h.os, h.tape, h.output, h.size, fun k hk _ => h.block k hk⟩

end Go.Proofs.Ytnmpigedhpdenaa
