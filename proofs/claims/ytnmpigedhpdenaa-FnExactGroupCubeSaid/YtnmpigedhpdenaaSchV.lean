/-
  The walks of chapter 2: values of a schema, their index and their distance; the program's and the model's.
-/
import Derived.Test.YtnmpigedhpdenaaSchN
namespace Go.Proofs.Ytnmpigedhpdenaa
open Go.RowKit
set_option maxRecDepth 100000

/-- What is asked of a list of integers that comes in. -/
def IIn (w : World) (x : Option Addr) (L : List Int) : Prop := L.length ≤ 1048576 ∧ (∀ n ∈ L, IsI64 n) ∧ Rd w x (iC L)
theorem IIn.below {w w' : World} {x : Option Addr} {L : List Int} (h : IIn w x L) (hb : Below w.heap.size w w') : IIn w' x L := ⟨h.1, h.2.1, h.2.2.below hb⟩

end Go.Proofs.Ytnmpigedhpdenaa
