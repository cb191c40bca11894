/-
  What the laws over two slices of bytes share: the slice that comes in; blocks of two integers.
-/
import Derived.Test.YtcmfoclalcmamabGreatDoorCurB
import Derived.SizedLaws
namespace Go.Proofs.YtcmfoclalcmamabGreatDoor
open Go.ChangeShapes Go.WideShapes Go.ChangeAt Go.RowKit
open Go.Joins
set_option maxRecDepth 100000

theorem ByRd.low {w : World} {x : Option Addr} {n : Nat} (h : ByRd w x n) : 0 < n → ∀ c off, x = some ⟨c, off, none⟩ → c < w.heap.size := by
  intro h0 c off e
  rcases h with h | ⟨c', off', e', hc, _⟩
  · omega
  · rw [e'] at e
    injection e with e
    injection e with e _
    omega
/-- Block g begins with two integers. -/
def FB (w : World) (g : Nat) (x y : Int) : Prop := w.cell? ⟨g, 0, none⟩ = some (.int .i64 x) ∧ w.cell? ⟨g, 1, none⟩ = some (.int .i64 y) ∧ g < w.heap.size
theorem FB.below {w w' : World} {g : Nat} {x y : Int} (h : FB w g x y) (hb : Below w.heap.size w w') : FB w' g x y :=
  ⟨(hb.cell h.2.2).trans h.1, (hb.cell h.2.2).trans h.2.1, Nat.lt_of_lt_of_le h.2.2 hb.size⟩
theorem FB.new (w : World) (x y : Int) (t : TypeId) : FB (w.alloc (.cells #[.int .i64 x, .int .i64 y] t)) w.heap.size x y := by
  exact ⟨(World.cell?_alloc_at _ _ _ _ rfl).trans rfl, (World.cell?_alloc_at _ _ _ _ rfl).trans rfl, by simp⟩
theorem FB.al {w : World} {g : Nat} {x y : Int} (h : FB w g x y) (o : Obj) : FB (w.alloc o) g x y := h.below ((Below.refl _ _).alloc (Nat.le_refl _) _)
/-- A slice of bytes that comes in. -/
theorem open_byS {H : Type} {enc : TypeId × Value → H} {W : World} {base : Nat} {v : Value} {d : DataW H} {p : List MemPlace} (hv : Value.okWide Tryz.prog W .any base 22 v)
    (h : DataW.Trod enc Tryz.prog W 0 (fun _ => true) true 22 v d p) (hw : ∀ elems spare, d = .slice elems spare → elems.length ≤ 140737488355327) : ∃ x n cap, v = .slice x n cap ∧ n ≤ 140737488355327 ∧ ByRd W x n := by
  obtain ⟨a0, len, cap, rfl⟩ := okWide_slice Tryz.underlying22 hv
  obtain ⟨fuel, hf⟩ := h
  rcases open_ints Tryz.underlying22 Tryz.underlying5 (by kernel_rfl) hf with ⟨hcs, _⟩ | ⟨a, len', cap', zs, hcs, _, hl, hm, hz, hx, hc, hwf⟩
  · simp [Value.cells] at hcs
    obtain ⟨rfl, rfl, rfl⟩ := hcs
    exact ⟨none, 0, 0, rfl, by omega, Or.inl rfl⟩
  · simp [Value.cells] at hcs
    obtain ⟨rfl, rfl, rfl⟩ := hcs
    simp only [if_true] at hz
    injection hx with hx _
    have hn := hw _ _ hx
    simp only [lits, List.length_map, List.length_take] at hn
    have hlen : len ≤ 140737488355327 := by omega
    refine ⟨some a, len, cap, rfl, hlen, ?_⟩
    by_cases h0 : len = 0
    · exact Or.inl h0
    obtain ⟨b, off, spot⟩ := a
    have hc0 := hc 0 (by omega)
    have hspot : spot = none := by simpa [Addr.add] using World.cell?_spot hc0
    subst hspot
    have hblk : b < W.heap.size := World.block_lt_of_cell? W _ (by simpa [Addr.add] using hc0)
    refine Or.inr ⟨b, off, rfl, hblk, fun i hi => ?_⟩
    have k0 := hc i (by omega)
    have hzi : zs[i]? = some (zs[i]'(by omega)) := List.getElem?_eq_getElem (by omega)
    rw [List.getD, hzi, show (⟨b, off, none⟩ : Addr).add i = ⟨b, off + i, none⟩ from by unfold Addr.add; split <;> simp_all] at k0
    have hw2 := hwf _ (List.getElem_mem (show i < zs.length by omega))
    simp only [Lit.wf, Bool.and_eq_true, decide_eq_true_eq] at hw2
    have h1 : IntKind.min .u8 = 0 := by decide
    have h2 : IntKind.max .u8 = 255 := by decide
    simp only [Option.getD_some] at k0
    exact ⟨_, by omega, by omega, k0⟩

end Go.Proofs.YtcmfoclalcmamabGreatDoor
