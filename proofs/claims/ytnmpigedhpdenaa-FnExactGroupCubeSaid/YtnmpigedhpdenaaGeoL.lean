/-
  The laws' helpers on geographies (a struct of one slice of integers): the size, a copy, a comparison, marks; a geography that comes in.
-/
import Derived.Test.YtnmpigedhpdenaaSchV
import Derived.Test.YtnmpigedhpdenaaSchO
import Derived.Test.YtnmpigedhpdenaaOwR
namespace Go.Proofs.Ytnmpigedhpdenaa
open Go.ChangeShapes Go.WideShapes Go.ChangeAt Go.RowKit
open Go.Joins Go.Deep
set_option maxRecDepth 100000

/-- Block g is a slice. -/
def QB (w : World) (g : Nat) (y : Option Addr) (n c : Nat) : Prop := w.cell? ⟨g, 0, none⟩ = some (.slice y n c) ∧ w.frozen? ⟨g, 0, none⟩ = false ∧ g < w.heap.size
theorem QB.new (w : World) (y : Option Addr) (n c : Nat) (t : TypeId) : QB (w.alloc (.cells #[.slice y n c] t)) w.heap.size y n c := by
  have h := Wb.new w t #[.slice y n c]
  exact ⟨(h.read 0).trans rfl, h.free 0, h.inside⟩
theorem QB.below {w w' : World} {g : Nat} {y : Option Addr} {n c : Nat} (h : QB w g y n c) (hb : Below w.heap.size w w') : QB w' g y n c :=
  ⟨(hb.cell h.2.2).trans h.1, (hb.frozen (p := ⟨g, 0, none⟩) h.2.2).trans h.2.1, Nat.lt_of_lt_of_le h.2.2 hb.size⟩
theorem QB.grown {w w' : World} {g : Nat} {y : Option Addr} {n c : Nat} {r : Option Nat} (h : QB w g y n c) (hg : w.grownBy w' r) (hne : some g ≠ r) : QB w' g y n c := by
  have e := hg.block g h.2.2 hne
  exact ⟨(World.cell?_of_block (a := ⟨g, 0, none⟩) e).trans h.1, (World.frozen?_of_block (a := ⟨g, 0, none⟩) e).trans h.2.1, Nat.lt_of_lt_of_le h.2.2 hg.size⟩

/-- A geography that the law has copied. -/
def QrPost (G : List Int) (w : World) (e : Ending) (w' : World) : Prop :=
  ∃ g, e = .returned (.agg #[.slice (some ⟨g, 0, none⟩) G.length G.length]) ∧ w'.ownsRow w.heap.size 3 1 (.slice (some ⟨g, 0, none⟩) G.length G.length) G.length (iC G) ∧ Below w.heap.size w w'
theorem open_agg1 {H : Type} {enc : TypeId × Value → H} {P : Program} {w : World} {base : Nat} {spare : Nat → Bool} {held : Bool} {r : Reach} {b0 : Nat} {t : TypeId} {f0 : Field} {v : Value} {d : DataW H} {p : List MemPlace} (hs : P.underlying t = some (.struct #[f0])) (hone : oneCellFields P #[f0] = true) (hC : P.cellsOf t = 1)
    (hv : Value.okWide P w r b0 t v) (h : DataW.Trod enc P w base spare held t v d p) :
    ∃ (v0 : Value) (y0 : DataW H × List MemPlace) (n : Nat), v = .agg #[v0] ∧ d = .agg [y0.1] ∧ p = y0.2 ∧ DataW.trod enc P w base spare held n f0.type [v0] = some y0 := by
  obtain ⟨cs, rfl, hsz⟩ := okWide_struct hs hv
  obtain ⟨c0, rfl⟩ : ∃ c0, cs = #[c0] := by
    obtain ⟨l⟩ := cs
    match l, hsz.trans hC with
    | [c0], _ => exact ⟨c0, rfl⟩
  obtain ⟨fuel, hf⟩ := h
  obtain ⟨xs, n, _, hx, hl, hlen, hf⟩ := DataW.trod_struct hs hf
  obtain ⟨o0, k0⟩ := hone_of hone 0 f0 rfl
  match xs, hlen with
  | [y0], _ =>
    have h0 := hf 0 f0 rfl
    simp at hx h0
    exact ⟨c0, y0, n, rfl, hx.1, hx.2, by simpa [Value.cells, o0, k0] using h0⟩
end Go.Proofs.Ytnmpigedhpdenaa
