/-
  The laws' helpers on lists of variables (a string and an integer each): the size, a copy, a comparison, marks and their test.
-/
import Derived.Test.YtcmfoclalcmamabGreatDoorVec
namespace Go.Proofs.YtcmfoclalcmamabGreatDoor
open Go.RowKit
set_option maxRecDepth 100000

theorem ba_same (s : ByteArray) : (s == s) = true := by rw [ba_eq]; simp
theorem ba_same' (s : ByteArray) : (s != s) = false := by show (!(s == s)) = false; rw [ba_same]; rfl
theorem Tryz.infoVar : (Tryz.prog.info? 99).map (fun i => (i.zero, i.size, i.bytes)) = some (some (.agg #[.string ⟨#[]⟩, .int .i64 0]), 2, 24) := by kernel_rfl

theorem szZ_bd (left : Int) (n : Nat) (hl : 0 ≤ left) : -1 ≤ szZ left n ∧ szZ left n ≤ left := by unfold szZ; split <;> omega

/-- What a size says. -/
def SzPost (left : Int) (S : List (ByteArray × Int)) (w : World) (e : Ending) (w' : World) : Prop :=
  ∃ r : Int, e = .returned (.int .i64 r) ∧ r ≤ left ∧ -1 ≤ r ∧ (0 ≤ r → S.length ≤ left ∧ ∀ p ∈ S, (p.1.size : Int) ≤ left) ∧ Below w.heap.size w w'
end Go.Proofs.YtcmfoclalcmamabGreatDoor
