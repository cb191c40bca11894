/-
  The walks of chapter 2: names, schemas; the program's and the model's.
-/
import Derived.Test.YtmefkknkahmihaaSch
import Derived.Test.YtmefkknkahmihaaVar
import Derived.Test.YtmefkknkahmihaaFracW
import Derived.Maps.RangeWalk
import Derived.Maps.OwnOps
namespace Go.Proofs.Ytmefkknkahmihaa
open Go.RowKit
set_option maxRecDepth 100000

theorem va_f1 {nm : ByteArray} {lv : Int} (h : nmB nm = false) : vaB (nm, lv) = false := by unfold vaB; rw [h]; rfl
theorem va_f2 {nm : ByteArray} {lv : Int} (h : lvB lv = false) : vaB (nm, lv) = false := by unfold vaB; rw [h, Bool.and_false]
theorem va_t {nm : ByteArray} {lv : Int} (h : nmB nm = true) (k : lvB lv = true) : vaB (nm, lv) = true := by unfold vaB; rw [h, k]; rfl
theorem sch_bad {S : List (ByteArray × Int)} {i : Nat} {p : ByteArray × Int} (h : S[i]? = some p) (k : vaB p = false ∨ hasB (S.take i) (nmL p.1) = true) : upB S = false := by
  refine upB_take_false (i + 1) ?_
  rw [take_snoc h, upB_snoc]
  rcases k with k | k <;> simp [k]
theorem sch_bad' {S : List (ByteArray × Int)} {i : Nat} {p : ByteArray × Int} (h : S[i]? = some p) (k : vaB p = false ∨ hasB (S.take i) (nmL p.1) = true) : schB S = false := by
  unfold schB
  rw [sch_bad h k, Bool.and_false]
theorem lvB_in (n : Int) : inB n 2 8 = lvB n := rfl
theorem fdZ_hasB {S : List (ByteArray × Int)} {l : List UInt8} {b : Bool} (h : hasB S l = b) : decide (0 ≤ fdZ S l) = b := by
  cases b with
  | false => rw [decide_eq_false_iff_not, fdZ_neg, h]; simp
  | true => rw [decide_eq_true_iff, fdZ_neg, h]

end Go.Proofs.Ytmefkknkahmihaa
