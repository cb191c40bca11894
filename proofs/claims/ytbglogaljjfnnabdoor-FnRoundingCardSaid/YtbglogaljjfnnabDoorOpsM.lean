/-
  The walks of chapter 1: making a fraction; equality of two.
-/
import Derived.Test.YtbglogaljjfnnabDoorOpsS
namespace Go.Proofs.YtbglogaljjfnnabDoor
open Go.RowKit
set_option maxRecDepth 100000

theorem bne_of_beq {n m : Int} {b : Bool} (h : (n == m) = b) : (n != m) = !b := by unfold bne; rw [h]
theorem eqFrac_any (n d m c : Int) (w : World) :
    Calls Tryd.prog 30 #[.agg #[.int .i64 n, .int .i64 d], .agg #[.int .i64 m, .int .i64 c]] w fun e w' => e = .returned (.bool (n == m && d == c)) ∧ Below w.heap.size w w' := by
  cases h1 : (n == m) <;> cases h2 : (d == c)
  all_goals
    have h3 := bne_of_beq h1
    have h4 := bne_of_beq h2
    go_enter Tryd.func30, Tryd.ntmps30
    go_wp2
    go_ret
    exact ⟨rfl, (by repeat (first | exact Below.refl _ _ | assumption | refine Below.drew ?_ | refine below_drewN ?_ _ | refine Below.alloc' ?_ _ | (refine Below.setCell ?_ (by first | omega | (simp; done) | (simp; omega) | exact Below.size (by assumption) | exact Nat.le_trans (Below.size (by assumption)) (by simp)) _) | (refine Below.via' ?_ (by assumption)) | (refine Below.alloc ?_ (by first | omega | (simp; done) | (simp; omega) | exact Below.size (by assumption) | exact Nat.le_trans (Below.size (by assumption)) (by simp)) _) | (refine Below.via ?_ (by assumption) (by first | omega | (simp; done) | (simp; omega) | exact Below.size (by assumption) | exact Nat.le_trans (Below.size (by assumption)) (by simp)))))⟩

/-- May MakeFrac be called so? -/
def partOK (n d : Int) : Bool := inB n (-1000000000000000000) 1000000000000000000 && inB d (-1000000000000000000) 1000000000000000000 && decide (d ≠ 0)
/-! The same, their results written out. -/
theorem iAdd_x (n d m c : Int) (w : World) (hT : Tab w) :
    Calls Tryd.prog 7 #[.agg #[.int .i64 n, .int .i64 d], .agg #[.int .i64 m, .int .i64 c]] w fun e w' => e = .returned (.tuple #[.agg #[.int .i64 (okN (fOK n d && fOK m c) (n * c + m * d) (d * c)), .int .i64 (okD (fOK n d && fOK m c) (n * c + m * d) (d * c))], .bool (okB (fOK n d && fOK m c) (n * c + m * d) (d * c))]) ∧ Below w.heap.size w w' := iAdd_any n d m c w hT
theorem sAdd_x (n d m c : Int) (w : World) :
    Calls Tryd.prog 8 #[.agg #[.int .i64 n, .int .i64 d], .agg #[.int .i64 m, .int .i64 c]] w fun e w' => e = .returned (.tuple #[.agg #[.int .i64 (okN (fOK n d && fOK m c) (n * c + m * d) (d * c)), .int .i64 (okD (fOK n d && fOK m c) (n * c + m * d) (d * c))], .bool (okB (fOK n d && fOK m c) (n * c + m * d) (d * c))]) ∧ Below w.heap.size w w' := sAdd_any n d m c w
theorem iSub_x (n d m c : Int) (w : World) (hT : Tab w) :
    Calls Tryd.prog 14 #[.agg #[.int .i64 n, .int .i64 d], .agg #[.int .i64 m, .int .i64 c]] w fun e w' => e = .returned (.tuple #[.agg #[.int .i64 (okN (fOK n d && fOK m c) (n * c - m * d) (d * c)), .int .i64 (okD (fOK n d && fOK m c) (n * c - m * d) (d * c))], .bool (okB (fOK n d && fOK m c) (n * c - m * d) (d * c))]) ∧ Below w.heap.size w w' := iSub_any n d m c w hT
theorem iMul_x (n d m c : Int) (w : World) (hT : Tab w) :
    Calls Tryd.prog 12 #[.agg #[.int .i64 n, .int .i64 d], .agg #[.int .i64 m, .int .i64 c]] w fun e w' => e = .returned (.tuple #[.agg #[.int .i64 (okN (fOK n d && fOK m c) (n * m) (d * c)), .int .i64 (okD (fOK n d && fOK m c) (n * m) (d * c))], .bool (okB (fOK n d && fOK m c) (n * m) (d * c))]) ∧ Below w.heap.size w w' := iMul_any n d m c w hT
/-- Not 0 (closed to the walk). -/
def neZ (m : Int) : Bool := decide (m ≠ 0)
theorem iDiv_x (n d m c : Int) (w : World) (hT : Tab w) :
    Calls Tryd.prog 10 #[.agg #[.int .i64 n, .int .i64 d], .agg #[.int .i64 m, .int .i64 c]] w fun e w' => e = .returned (.tuple #[.agg #[.int .i64 (okN (fOK n d && fOK m c && neZ m) (n * c) (d * m)), .int .i64 (okD (fOK n d && fOK m c && neZ m) (n * c) (d * m))], .bool (okB (fOK n d && fOK m c && neZ m) (n * c) (d * m))]) ∧ Below w.heap.size w w' := iDiv_any n d m c w hT
theorem sDiv_x (n d m c : Int) (w : World) :
    Calls Tryd.prog 11 #[.agg #[.int .i64 n, .int .i64 d], .agg #[.int .i64 m, .int .i64 c]] w fun e w' => e = .returned (.tuple #[.agg #[.int .i64 (okN (fOK n d && fOK m c && neZ m) (n * c) (d * m)), .int .i64 (okD (fOK n d && fOK m c && neZ m) (n * c) (d * m))], .bool (okB (fOK n d && fOK m c && neZ m) (n * c) (d * m))]) ∧ Below w.heap.size w w' := sDiv_any n d m c w
end Go.Proofs.YtbglogaljjfnnabDoor
