/-
  The walks of chapter 1: making a fraction; equality of two.
-/
import Derived.Test.YtkjgccdgihkkoabDoorOpsS
namespace Go.Proofs.YtkjgccdgihkkoabDoor
open Go.RowKit
set_option maxRecDepth 100000

theorem bne_of_beq {n m : Int} {b : Bool} (h : (n == m) = b) : (n != m) = !b := by unfold bne; rw [h]
theorem eqFrac_any (n d m c : Int) (w : World) :
    Calls Tryd.prog 10 #[.agg #[.int .i64 n, .int .i64 d], .agg #[.int .i64 m, .int .i64 c]] w fun e w' => e = .returned (.bool (n == m && d == c)) ∧ Below w.heap.size w w' := by
  cases h1 : (n == m) <;> cases h2 : (d == c)
  all_goals
    have h3 := bne_of_beq h1
    have h4 := bne_of_beq h2
    go_enter Tryd.func10, Tryd.ntmps10
    go_wp2
    go_ret
    exact ⟨rfl, (by repeat (first | exact Below.refl _ _ | assumption | refine Below.drew ?_ | refine below_drewN ?_ _ | refine Below.alloc' ?_ _ | (refine Below.setCell ?_ (by first | omega | (simp; done) | (simp; omega) | exact Below.size (by assumption) | exact Nat.le_trans (Below.size (by assumption)) (by simp)) _) | (refine Below.via' ?_ (by assumption)) | (refine Below.alloc ?_ (by first | omega | (simp; done) | (simp; omega) | exact Below.size (by assumption) | exact Nat.le_trans (Below.size (by assumption)) (by simp)) _) | (refine Below.via ?_ (by assumption) (by first | omega | (simp; done) | (simp; omega) | exact Below.size (by assumption) | exact Nat.le_trans (Below.size (by assumption)) (by simp)))))⟩

/-- May MakeFrac be called so? -/
def partOK (n d : Int) : Bool := inB n (-1000000000000000000) 1000000000000000000 && inB d (-1000000000000000000) 1000000000000000000 && decide (d ≠ 0)
/-! The same, their results written out. -/
theorem iAdd_x (n d m c : Int) (w : World) (hT : Tab w) :
    Calls Tryd.prog 19 #[.agg #[.int .i64 n, .int .i64 d], .agg #[.int .i64 m, .int .i64 c]] w fun e w' => e = .returned (.tuple #[.agg #[.int .i64 (okN (fOK n d && fOK m c) (n * c + m * d) (d * c)), .int .i64 (okD (fOK n d && fOK m c) (n * c + m * d) (d * c))], .bool (okB (fOK n d && fOK m c) (n * c + m * d) (d * c))]) ∧ Below w.heap.size w w' := iAdd_any n d m c w hT
/-- Not 0 (closed to the walk). -/
def neZ (m : Int) : Bool := decide (m ≠ 0)
end Go.Proofs.YtkjgccdgihkkoabDoor
