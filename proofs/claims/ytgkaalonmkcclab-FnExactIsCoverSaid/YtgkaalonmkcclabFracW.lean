/-
  The walks of chapter 1's small functions: the program's and the model's.
-/
import Derived.Test.YtgkaalonmkcclabRows
import Derived.Test.YtgkaalonmkcclabFrac
import Derived.Outline
namespace Go.Proofs.Ytgkaalonmkcclab
open Go.RowKit
set_option maxRecDepth 100000


theorem l1In_any (n lo hi : Int) (w : World) :
    Calls Try.prog 83 #[.int .i64 n, .int .i64 lo, .int .i64 hi] w fun e w' => e = .returned (.bool (inB n lo hi)) ∧ w = w' := by
  go_enter Try.func83, Try.ntmps83
  go_wp2
  all_goals
    go_ret
    exact ⟨ret_bool (by rw [Bool.eq_iff_iff]; simp [inB_iff]; omega), rfl⟩
/-- What a function that returns a number and a bool gives. -/
theorem ret_ib {a b : Int} {p q : Bool} (h : a = b) (k : p = q) : Ending.returned (.tuple #[.int .i64 a, .bool p]) = .returned (.tuple #[.int .i64 b, .bool q]) := by rw [h, k]

end Go.Proofs.Ytgkaalonmkcclab
