/-
  What the tied rows of this seat share: the table of small divisors, out of the row's condition.
-/
import Derived.Test.YtbglogaljjfnnabDoorOpsM
import Derived.Test.YtbglogaljjfnnabDoorTie
import Derived.Test.YtbglogaljjfnnabDoorCards
import Derived.Lib.LaidTab
import Derived.LaidMore
import Derived.SevenTiedAt
import Derived.MakeChecks
import Derived.OpenShut
import Derived.Deep.DeepCutAuto
namespace Go.Proofs.YtbglogaljjfnnabDoor
open Go.ChangeShapes Go.WideShapes Go.ChangeAt Go.RowKit
open Go.Joins
set_option maxRecDepth 100000

theorem own : ownKnob Tryd.prog.godebug = none := by kernel_rfl
theorem laidOut : laidOutB Tryd.prog = true := by kernel_rfl

theorem vars_one {H : Type} {enc : TypeId × Value → H} {P : Program} {w : World} {sp : Nat → Bool} {n : String} {gs : List (DataW H)} {ps : List MemPlace} (h : DataW.TrodVars enc P w sp [n] gs ps) : ∃ d, gs = [d] := by
  cases gs with
  | nil => simp [DataW.TrodVars] at h
  | cons d r =>
    cases r with
    | nil => exact ⟨d, rfl⟩
    | cons _ _ =>
      obtain ⟨_, _, _, _, _, _, _, _, _, _, hs, _⟩ := h
      exact hs.elim

theorem gTab : Tryd.prog.globalNamed "loop.example/g00908/impl.smallDivisors" = some 0 := by kernel_rfl
theorem tTab : (Tryd.prog.globals[0]?).map (·.type) = some 74 := by kernel_rfl
theorem cInt : Tryd.prog.cellsOf 3 = 1 := by kernel_rfl
theorem cTab : Tryd.prog.cellsOf 74 = 4 := by kernel_rfl

theorem tab_of_laidMet {W : World} {rest : List (String × DataW Unit)} (h : laidMet Tryd.prog (("loop.example/g00908/impl.smallDivisors", Lib.tabData .i64 [2, 3, 5, 7]) :: rest) W) : Tab W := by
  have ht := Lib.tabIs_of_head gTab tTab Tryd.underlying74 Tryd.underlying3 cInt cTab h
  have c := fun i hi => ht.cell gTab i hi
  have hl : 0 < W.heap.size := by
    have := c 0 (by decide)
    exact World.block_lt_of_cell? W _ this
  exact ⟨c 0 (by decide), c 1 (by decide), c 2 (by decide), c 3 (by decide), hl⟩
/-- A slot that points to a new block with a fraction. -/
def FracAt (s : Value) (x y : Int) (wx : World) : Prop := ∃ g, s = .pointer (some ⟨g, 0, none⟩) ∧ wx.cell? ⟨g, 0, none⟩ = some (.int .i64 x) ∧ wx.cell? ⟨g, 1, none⟩ = some (.int .i64 y)
end Go.Proofs.YtbglogaljjfnnabDoor
