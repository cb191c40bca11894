/-
  The walks of chapter 4: tallies: one number for each area.
-/
import Derived.Test.YtelnbjhnjcbjoabDoorGeoI
import Derived.RegionTactic
import Derived.BigRegion
import Derived.StillTailTactics
import Derived.Deep.OwnRows
namespace Go.Proofs.YtelnbjhnjcbjoabDoor
open Go.RowKit
set_option maxRecDepth 100000

theorem iC_setG (L : List Int) (k : Nat) (v : Int) : (iC L).set k (.int .i64 v) = iC (L.set k v) := by unfold iC; rw [List.map_set]
theorem drew_own {w : World} {base e size n : Nat} {v : Value} {xs : List Value} (h : w.ownsRow base e size v n xs) : w.drew.ownsRow base e size v n xs := own_below h (Below.drew (Below.refl _ _))
/-- A row of zeros. -/
def zL (n : Nat) : List Int := List.replicate n 0
theorem zL_len (n : Nat) : (zL n).length = n := by unfold zL; simp
theorem made_own (W : World) (base g n : Nat) (hg : W.heap.size = g) (hb : base ≤ g) (hn : n ≤ 1048576) : (W.alloc (.cells (madeCells #[.int .i64 0] n) 3)).ownsRow base 3 1 (.slice (some ⟨g, 0, none⟩) n n) n (iC (zL n)) := by
  subst hg
  refine ⟨by rw [iC_len, zL_len, Nat.mul_one], .inr ⟨W.heap.size, n, _, rfl, hb, heap_alloc_new W _, Nat.le_refl _, by unfold maxLen; omega, (by rw [size_madeCells]; simp), ?_⟩⟩
  rw [toList_madeCells_one, Nat.mul_one, List.take_of_length_le (by simp)]
  unfold iC zL
  rw [List.map_replicate]
/-- A tally. -/
def TlP (x : Option Addr) (c : Nat) (P V : List Int) (w : World) (e : Ending) (w' : World) : Prop :=
  ∃ g, e = .returned (.agg #[.slice x P.length c, .slice (some ⟨g, 0, none⟩) P.length P.length]) ∧ w'.ownsRow w.heap.size 3 1 (.slice (some ⟨g, 0, none⟩) P.length P.length) P.length (iC V) ∧ Below w.heap.size w w'
/-- Block b is two slices. -/
def GBt (w : World) (b : Nat) (y : Option Addr) (n c : Nat) (z : Option Addr) (m d : Nat) : Prop := w.cell? ⟨b, 0, none⟩ = some (.slice y n c) ∧ w.cell? ⟨b, 1, none⟩ = some (.slice z m d) ∧ b < w.heap.size
theorem GBt.new (w : World) (y : Option Addr) (n c : Nat) (z : Option Addr) (m d : Nat) (t : TypeId) : GBt (w.alloc (.cells #[.slice y n c, .slice z m d] t)) w.heap.size y n c z m d := by
  have h := Wb.new w t #[.slice y n c, .slice z m d]
  exact ⟨(h.read 0).trans rfl, (h.read 1).trans rfl, h.inside⟩
theorem GBt.below {w w' : World} {b : Nat} {y z : Option Addr} {n c m d : Nat} (h : GBt w b y n c z m d) (hb : Below w.heap.size w w') : GBt w' b y n c z m d :=
  ⟨(hb.cell h.2.2).trans h.1, (hb.cell h.2.2).trans h.2.1, Nat.lt_of_lt_of_le h.2.2 hb.size⟩
theorem GBt.grown {w w' : World} {b : Nat} {y z : Option Addr} {n c m d : Nat} {r : Option Nat} (h : GBt w b y n c z m d) (hg : w.grownBy w' r) (hne : some b ≠ r) : GBt w' b y n c z m d := by
  have e := hg.block b h.2.2 hne
  exact ⟨(World.cell?_of_block (a := ⟨b, 0, none⟩) e).trans h.1, (World.cell?_of_block (a := ⟨b, 1, none⟩) e).trans h.2.1, Nat.lt_of_lt_of_le h.2.2 hg.size⟩
/-- What a visit of one area does to a tally. -/
def StepP (fn : FuncId) (x : Option Addr) (c g base : Nat) (P : List Int) (F : Nat → List Int) (i j : Nat) : Prop :=
  ∀ W : World, Rd W x (iC P) → W.ownsRow base 3 1 (.slice (some ⟨g, 0, none⟩) P.length P.length) P.length (iC (F i)) →
    Calls Tryd.prog fn #[.agg #[.slice x P.length c, .slice (some ⟨g, 0, none⟩) P.length P.length], .int .i64 i] W fun e w' => e = .returned (.tuple #[]) ∧ w'.ownsRow base 3 1 (.slice (some ⟨g, 0, none⟩) P.length P.length) P.length (iC (F j)) ∧ W.grownBy w' (some g)
theorem tb_set {W w' : World} {b g : Nat} {y z : Option Addr} {n c m d : Nat} (h : GBt W b y n c z m d) (hg : W.grownBy w' (some g)) (hne : b ≠ g) : GBt w' b y n c z m d := h.grown hg (fun e => by injection e with e; exact hne e)
end Go.Proofs.YtelnbjhnjcbjoabDoor
