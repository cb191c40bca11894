/-
  What the tied rows of the laws that read texts share: the library's variables, out of the row's conditions; the wrap that keeps the world's shape and the variables' contents both.
-/
import Derived.Test.YtcmfoclalcmamabGreatDoorSpl
import Derived.Test.YtcmfoclalcmamabGreatDoorTie
import Derived.Test.YtcmfoclalcmamabGreatDoorCards
import Derived.HandedShaped
import Derived.LaidMore
import Derived.SevenTiedAt
import Derived.MakeChecks
import Derived.OpenShut
import Derived.Stop.LaidErr
import Derived.Shelf.Vars
namespace Go.Proofs.YtcmfoclalcmamabGreatDoor
open Go.ChangeShapes Go.WideShapes Go.ChangeAt Go.RowKit
open Go.Joins
set_option maxRecDepth 100000

theorem handed_and_shape {H : Type} {enc : TypeId × Value → H} {a : Assume} {C : Checked} {os : Os} {f : FuncId} {fn : Func} {s : ChangeSpec} {conds : List PathCond} {apart fresh handsOn again : Bool} {X : World → Array Value → Prop}
    (hX : ∀ (w w' : World) (args : Array Value), w.heap = w'.heap → X w args → X w' args)
    (own : ownKnob C.prog.godebug = none) (started : os.Started) (noInit : C.prog.inits.idxOf? f = none) (hfn : C.prog.funcs[f]? = some fn)
    (witness : ∃ (w : World) (tape : Tape) (i : Input), w.os = os ∧ (w.forCall tape i).Shaped C.prog ∧ i.vars = [] ∧ Input.okWide C.prog (w.forCall tape i) .any w.heap.size f i ∧
      ((s.pre enc C.prog fn conds apart (w.forCall tape i).memory i.args ∧ X (w.forCall tape i).memory i.args) ∧ sizedMet enc C.prog fn (OpenSpec.ofChange s) apart (w.forCall tape i).memory i.args) ∧ a.holds C.prog (lone (Frame.enter C.prog f i.args .normal) [] (w.forCall tape i)))
    (contract : ∀ (W : World) (base : Nat) (args : Array Value) (ds gs : List (DataW H)) (before : List MemPlace),
      (∀ (j : Nat) t v, fn.params[j]? = some t → args[j]? = some v → Value.okWide C.prog W .any base t v) →
      DataW.Whole enc C.prog fn.params.toList s.vars apart W args.toList ds gs before →
      (DataW.weightsEach C.prog (fn.params.toList ++ s.plain.varTypes C.prog) (ds ++ gs)).all (· ≤ reachBytes) = true → X W args → W.ShapedOpen C.prog →
      Calls C.prog f args W fun e W' => ∃ v, e = .returned v ∧ s.post enc C.prog fn apart fresh handsOn again W args v W') :
    ReturnsInHanded a C os f .any (fun w args => (s.pre enc C.prog fn conds apart w args ∧ X w args) ∧ sizedMet enc C.prog fn (OpenSpec.ofChange s) apart w args) (s.post enc C.prog fn apart fresh handsOn again) := by
  refine returnsInHanded_of_calls own started noInit witness ?_
  intro w tape i _ hshape _ hok hpre _
  obtain ⟨_, _, _, fn', hfn', _, _, _, _, hval⟩ := hok
  obtain rfl : fn' = fn := Option.some.inj (hfn'.symm.trans hfn)
  obtain ⟨⟨⟨ds, gs, before, hwhole, _⟩, hx⟩, hsize⟩ := hpre
  refine (contract (w.forCall tape i) w.heap.size i.args ds gs before hval (DataW.Whole.of_heap (w' := w.forCall tape i) (by rfl) hwhole) (hsize.weights hwhole) (hX _ _ _ (by rfl) hx) hshape).mono ?_
  rintro e W' ⟨v, rfl, hp⟩
  exact ChangeSpec.post_blind hp

theorem cStr' : Tryz.prog.cellsOf 9 = 1 := by kernel_rfl
theorem cErrS : Tryz.prog.cellsOf 244 = 1 := by kernel_rfl
theorem tSyn : (Tryz.prog.globals[2]?).map (·.type) = some 130 := by kernel_rfl
theorem tRan : (Tryz.prog.globals[3]?).map (·.type) = some 130 := by kernel_rfl
theorem starE : "*" ++ "errors.errorString" = "*errors.errorString" := by decide
theorem rowE (u : TypeId) (h : Tryz.prog.typeName? 3 u = some "*errors.errorString") : u = 242 :=
  typeName_ptr_named (nm := "errors.errorString") (by rw [starE]; kernel_rfl) (by kernel_rfl) (by decide) u (by rw [starE]; exact h)
theorem gMax : Tryz.prog.globalNamed "internal/bytealg.MaxLen" = some 1 := by kernel_rfl

/-- The library's variables, out of what the row lists and of the world's shape. -/
theorem libV_of {W : World} {r r' : List (String × DataW Unit)} (hr : laidMet Tryz.prog (("strconv.ErrRange", .iface "*errors.errorString" (.ptr (.agg [.lit (.string [118, 97, 108, 117, 101, 32, 111, 117, 116, 32, 111, 102, 32, 114, 97, 110, 103, 101])]))) :: r) W)
    (hs : laidMet Tryz.prog (("strconv.ErrSyntax", .iface "*errors.errorString" (.ptr (.agg [.lit (.string [105, 110, 118, 97, 108, 105, 100, 32, 115, 121, 110, 116, 97, 120])]))) :: r') W)
    (hsh : W.ShapedOpen Tryz.prog) : LibV W := by
  obtain ⟨m, hm⟩ := cell_of_shapedOpen_int (g := 1) (t := 3) (k := .i64) (zero := #[.int .i64 0]) hsh (by decide +kernel) (by kernel_rfl) (by kernel_rfl) (by kernel_rfl) (by kernel_rfl) Tryz.underlying3
  obtain ⟨a1, s1, hv1, -, -, -⟩ := laid_sentinel hr gRan tRan Tryz.underlying130 rowE Tryz.underlying242 Tryz.underlying244 rfl rfl Tryz.underlying9 cErrS cStr'
  obtain ⟨a2, s2, hv2, -, -, -⟩ := laid_sentinel hs gSyn tSyn Tryz.underlying130 rowE Tryz.underlying242 Tryz.underlying244 rfl rfl Tryz.underlying9 cErrS cStr'
  have c1 := World.var?_cell gRan hv1 0
  have c2 := World.var?_cell gSyn hv2 0
  exact ⟨⟨m, hm⟩, World.block_lt_of_cell? W _ hm, ⟨_, _, hv2⟩, World.block_lt_of_cell? W _ (by simpa using c2), ⟨_, _, hv1⟩, World.block_lt_of_cell? W _ (by simpa using c1)⟩
end Go.Proofs.YtcmfoclalcmamabGreatDoor
