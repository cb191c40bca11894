/-
  What the tied rows of this seat share: the table of small divisors, out of the row's condition.
-/
import Derived.Test.YtkjgccdgihkkoabDoorOpsM
import Derived.Test.YtkjgccdgihkkoabDoorTie
import Derived.Test.YtkjgccdgihkkoabDoorCards
import Derived.Lib.LaidTab
import Derived.LaidMore
import Derived.SevenTiedAt
import Derived.MakeChecks
import Derived.OpenShut
import Derived.Deep.DeepCutAuto
namespace Go.Proofs.YtkjgccdgihkkoabDoor
open Go.ChangeShapes Go.WideShapes Go.ChangeAt Go.RowKit
open Go.Joins
set_option maxRecDepth 100000

theorem own : ownKnob Tryd.prog.godebug = none := by kernel_rfl
theorem laidOut : laidOutB Tryd.prog = true := by kernel_rfl

theorem vars_one {H : Type} {enc : TypeId × Value → H} {P : Program} {w : World} {sp : Nat → Bool} {n : String} {gs : List (DataW H)} {ps : List MemPlace} (h : DataW.TrodVars enc P w sp [n] gs ps) : ∃ d, gs = [d] := by
  cases gs with
  | nil => simp [DataW.TrodVars] at h
  | cons d r =>
    cases r with
    | nil => exact ⟨d, rfl⟩
    | cons _ _ =>
      obtain ⟨_, _, _, _, _, _, _, _, _, _, hs, _⟩ := h
      exact hs.elim

theorem gTab : Tryd.prog.globalNamed "loop.example/g00908/impl.smallDivisors" = some 0 := by kernel_rfl
theorem tTab : (Tryd.prog.globals[0]?).map (·.type) = some 63 := by kernel_rfl
theorem cInt : Tryd.prog.cellsOf 3 = 1 := by kernel_rfl
theorem cTab : Tryd.prog.cellsOf 63 = 4 := by kernel_rfl

theorem tab_of_laidMet {W : World} {rest : List (String × DataW Unit)} (h : laidMet Tryd.prog (("loop.example/g00908/impl.smallDivisors", Lib.tabData .i64 [2, 3, 5, 7]) :: rest) W) : Tab W := by
  have ht := Lib.tabIs_of_head gTab tTab Tryd.underlying63 Tryd.underlying3 cInt cTab h
  have c := fun i hi => ht.cell gTab i hi
  have hl : 0 < W.heap.size := by
    have := c 0 (by decide)
    exact World.block_lt_of_cell? W _ this
  exact ⟨c 0 (by decide), c 1 (by decide), c 2 (by decide), c 3 (by decide), hl⟩
theorem cellsF : Tryd.prog.cellsOf 33 = 2 := by kernel_rfl

/-- A fraction that comes in is two numbers. -/
theorem open_frac {H : Type} {enc : TypeId × Value → H} {W : World} {base : Nat} {v : Value} {d : DataW H} {p : List MemPlace} (hv : Value.okWide Tryd.prog W .any base 33 v)
    (h : DataW.Trod enc Tryd.prog W 0 (fun _ => true) true 33 v d p) : ∃ a b : Int, IsI64 a ∧ IsI64 b ∧ v = .agg #[.int .i64 a, .int .i64 b] := by
  obtain ⟨c0, c1, y0, y1, m, rfl, rfl, rfl, hy0, hy1⟩ := open_agg2 Tryd.underlying33 (by kernel_rfl) cellsF hv h
  obtain ⟨a, e0, rfl, wa⟩ := DataW.trod_int Tryd.underlying3 hy0
  obtain ⟨b, e1, rfl, wb⟩ := DataW.trod_int Tryd.underlying3 hy1
  simp at e0 e1
  subst e0 e1
  exact ⟨a, b, isI64_of_wf wa, isI64_of_wf wb, rfl⟩

/-- A slot that points to a new block with a fraction. -/
def FracAt (s : Value) (x y : Int) (wx : World) : Prop := ∃ g, s = .pointer (some ⟨g, 0, none⟩) ∧ wx.cell? ⟨g, 0, none⟩ = some (.int .i64 x) ∧ wx.cell? ⟨g, 1, none⟩ = some (.int .i64 y)
end Go.Proofs.YtkjgccdgihkkoabDoor
