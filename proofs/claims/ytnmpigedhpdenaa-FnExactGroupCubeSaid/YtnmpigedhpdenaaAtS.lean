/-
  The walks of chapter 2: the values with an index; the model's.
-/
import Derived.Test.YtnmpigedhpdenaaAt
import Derived.Test.YtnmpigedhpdenaaSchV
import Derived.Test.YtnmpigedhpdenaaApp
namespace Go.Proofs.Ytnmpigedhpdenaa
open Go.RowKit
set_option maxRecDepth 100000

/-- One below a count. -/
def pdZ (m : Nat) : Int := (m : Int) - 1
theorem pdZ_s (m : Nat) : pdZ (m + 1) = (m : Int) := by unfold pdZ; omega
theorem made_zeros (n : Nat) : (madeCells (Value.int .i64 0).cells (n * 1)).toList = iC (List.replicate n 0) := by
  apply List.ext_getElem?
  intro j
  unfold iC
  rw [List.map_replicate, List.getElem?_replicate]
  by_cases h : j < n
  · simp [madeCells, Value.cells, h, Nat.mod_one]
  · simp [madeCells, Value.cells, h]
theorem iC_setA (L : List Int) (j : Nat) (v : Int) : iC (L.set j v) = (iC L).set j (.int .i64 v) := by unfold iC; rw [List.map_set]
def AtPost2 (S : List (ByteArray × Int)) (i : Int) (w : World) (e : Ending) (w' : World) : Prop :=
  ∃ u, e = .returned u ∧ w'.ownsRow w.heap.size 3 1 u (atL S i).length (iC (atL S i)) ∧ Below w.heap.size w w'
end Go.Proofs.Ytnmpigedhpdenaa
