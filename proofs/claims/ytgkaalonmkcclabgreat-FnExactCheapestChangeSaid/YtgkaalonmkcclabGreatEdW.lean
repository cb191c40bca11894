/-
  The walks of chapter 5: CountFailing, InvolvedIn; the program's and the model's.
-/
import Derived.Test.YtgkaalonmkcclabGreatEdV
namespace Go.Proofs.YtgkaalonmkcclabGreat
open Go.RowKit
set_option maxRecDepth 100000

theorem retLB_no {L : List Int} {b : Bool} {w w' : World} (hb : b = false) (h : Below w.heap.size w w') : RetLB (eIf b L) b w (.returned (.tuple #[.slice none 0 0, .bool false])) w' := by
  subst hb
  exact ⟨_, rfl, World.ownsRow_nil _ _ _ _, h⟩
theorem retLB_yes {L : List Int} {b : Bool} {w w' : World} {v : Value} (hb : b = true) (ho : w'.ownsRow w.heap.size 3 1 v L.length (iC L)) (h : Below w.heap.size w w') : RetLB (eIf b L) b w (.returned (.tuple #[v, .bool true])) w' := by
  subst hb
  rw [eIf_t rfl]
  exact ⟨_, rfl, ho, h⟩
theorem retN_no {n : Int} {b : Bool} {w w' : World} (hb : b = false) (h : Below w.heap.size w w') : Ending.returned (.tuple #[.int .i64 0, .bool false]) = .returned (.tuple #[.int .i64 (nIf b n), .bool b]) ∧ Below w.heap.size w w' := by
  subst hb
  exact ⟨rfl, h⟩
theorem retN_yes {n m : Int} {b : Bool} {w w' : World} (hb : b = true) (hm : m = n) (h : Below w.heap.size w w') : Ending.returned (.tuple #[.int .i64 m, .bool true]) = .returned (.tuple #[.int .i64 (nIf b n), .bool b]) ∧ Below w.heap.size w w' := by
  subst hb hm
  exact ⟨rfl, h⟩
/-- The list of the involved variables, step by step. -/
def ivUp (S : List (ByteArray × Int)) (E : List Int) (i : Nat) : List Int := pkUp (ivB S E) i
theorem ivUp_len (S : List (ByteArray × Int)) (E : List Int) (i : Nat) : (ivUp S E i).length ≤ i := pkUp_len _ _
end Go.Proofs.YtgkaalonmkcclabGreat
