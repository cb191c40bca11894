/-
  The laws' helpers on groupings: the size, a copy, a comparison, marks.
-/
import Derived.Test.YtgkaalonmkcclabVar
namespace Go.Proofs.Ytgkaalonmkcclab
open Go.RowKit
set_option maxRecDepth 100000

/-- Block g begins with an integer and a slice. -/
def GB (w : World) (g : Nat) (v : Int) (y : Option Addr) (n c : Nat) : Prop := w.cell? ⟨g, 0, none⟩ = some (.int .i64 v) ∧ w.cell? ⟨g, 1, none⟩ = some (.slice y n c) ∧ g < w.heap.size
theorem GB.new (w : World) (v : Int) (y : Option Addr) (n c : Nat) (t : TypeId) : GB (w.alloc (.cells #[.int .i64 v, .slice y n c] t)) w.heap.size v y n c := by
  have h := Wb.new w t #[.int .i64 v, .slice y n c]
  exact ⟨(h.read 0).trans rfl, (h.read 1).trans rfl, h.inside⟩
theorem GB.below {w w' : World} {g : Nat} {v : Int} {y : Option Addr} {n c : Nat} (h : GB w g v y n c) (hb : Below w.heap.size w w') : GB w' g v y n c :=
  ⟨(hb.cell h.2.2).trans h.1, (hb.cell h.2.2).trans h.2.1, Nat.lt_of_lt_of_le h.2.2 hb.size⟩
theorem GB.grown {w w' : World} {g : Nat} {v : Int} {y : Option Addr} {n c : Nat} {r : Option Nat} (h : GB w g v y n c) (hg : w.grownBy w' r) (hne : some g ≠ r) : GB w' g v y n c := by
  have e := hg.block g h.2.2 hne
  exact ⟨(World.cell?_of_block (a := ⟨g, 0, none⟩) e).trans h.1, (World.cell?_of_block (a := ⟨g, 1, none⟩) e).trans h.2.1, Nat.lt_of_lt_of_le h.2.2 hg.size⟩

/-- A grouping that the law has copied. -/
def GrPost (v : Int) (G : List Int) (w : World) (e : Ending) (w' : World) : Prop :=
  ∃ g, e = .returned (.agg #[.int .i64 v, .slice (some ⟨g, 0, none⟩) G.length G.length]) ∧ w'.ownsRow w.heap.size 3 1 (.slice (some ⟨g, 0, none⟩) G.length G.length) G.length (iC G) ∧ Below w.heap.size w w'
end Go.Proofs.Ytgkaalonmkcclab
