/-
  What the tied rows of the laws that read and write fractions' texts share: the library's table of powers of ten, out of what a row lists.
-/
import Derived.Test.YtbglogaljjfnnabDoorTieP
import Derived.Test.YtbglogaljjfnnabDoorTextB
namespace Go.Proofs.YtbglogaljjfnnabDoor
open Go.ChangeShapes Go.WideShapes Go.ChangeAt Go.RowKit
open Go.Joins
set_option maxRecDepth 100000

theorem tPow : (Tryd.prog.globals[1]?).map (·.type) = some 91 := by kernel_rfl
theorem cU64 : Tryd.prog.cellsOf 47 = 1 := by kernel_rfl
theorem cPow : Tryd.prog.cellsOf 91 = 20 := by kernel_rfl
theorem pow_of_laidMet {W : World} {rest : List (String × DataW Unit)} (h : laidMet Tryd.prog (("internal/strconv.uint64pow10", Lib.tabData .u64 Lib.pow10Tab) :: rest) W) : PowTab W := by
  have ht := Lib.tabIs_of_head gPow tPow Tryd.underlying91 Tryd.underlying47 cU64 cPow h
  have hl := Lib.TabIs.cell ht gPow 0 (by simp [Lib.pow10Tab_length])
  exact ⟨ht, World.block_lt_of_cell? W _ hl⟩
end Go.Proofs.YtbglogaljjfnnabDoor
