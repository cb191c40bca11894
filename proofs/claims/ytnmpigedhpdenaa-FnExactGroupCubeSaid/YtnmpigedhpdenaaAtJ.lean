/-
  The walks of chapter 2: the values with an index; the program's, where there are some: a range over the variables from the last on.
-/
import Derived.Test.YtnmpigedhpdenaaAtI
import Derived.Test.YtnmpigedhpdenaaPts
namespace Go.Proofs.Ytnmpigedhpdenaa
open Go.RowKit Go.Shelf
set_option maxRecDepth 100000
attribute [local go_sem] Oper.semAt_some

/-- The places of variables. -/
abbrev BwI (S : List (ByteArray × Int)) := { j : Nat // j < S.length }
def bwM {S : List (ByteArray × Int)} (pre : List (BwI S)) : List Nat := pre.map (·.1)
def KpB (n₀ Bs : Nat) (A B : World) : Prop := Below n₀ A B ∧ B.heap[Bs]? = A.heap[Bs]?
theorem row_own {β : Type} (n₀ : Nat) (e : TypeId) (size g cap n : Nat) (f : β → List Value) : Own (fun s W => W.ownsRow n₀ e size (.slice (some ⟨g, 0, none⟩) n cap) n (f s)) := by
  intro s X Y row hr hg hrow
  refine hr.kept hg (.inr fun e' => ?_)
  obtain ⟨o, ho, hc⟩ := hrow g e'.symm
  rcases hr.2 with ⟨h, _⟩ | ⟨g', cap', cur, h', _, hgb, _⟩
  · cases h
  · injection h' with h'
    injection h' with h'
    injection h' with h'
    subst h'
    rw [hgb] at ho
    cases ho
    cases hc
theorem wb_kept {X Y : World} {B : Nat} {t : TypeId} {cs : Array Value} {row : Option Nat} (h : Wb X B t cs) (hg : X.grownBy Y row) (hr : ∀ r, row = some r → ∃ o : Obj, X.heap[r]? = some o ∧ o.isCells = false) : Wb Y B t cs :=
  (hg.block B h.inside (fun e => by
    obtain ⟨o, ho, hc⟩ := hr B e.symm
    rw [show X.heap[B]? = _ from h] at ho
    cases ho
    cases hc)).trans h
theorem boxed_far {W : World} {B : Nat} {t : TypeId} {v : Value} (h : Boxed W B t v) (p : Addr) (hne : B ≠ p.block) (u : Value) : Boxed (W.setCell p u) B t v := (Below.heap_setCell _ _ _ _ hne).trans h
theorem bw_post {w W : World} {n₀ g Bi Bv Bs e n : Nat} {ti tv ts : TypeId} {q : Int} {L : List Int} {vv vs : Value} (B : Nat) (b1 : Boxed W Bi ti (.int .i64 q)) (r1 : W.ownsRow g e 1 (.slice (some ⟨g, 0, none⟩) n n) n (iC L)) (b2 : Boxed W Bv tv vv) (b3 : Boxed W Bs ts vs) (hB : Below n₀ w W)
    (hg : n₀ ≤ g) (h1 : g ≠ Bi) (hBi : n₀ ≤ Bi) (h2 : Bv ≠ g) (h3 : Bs ≠ g) (h4 : Bv ≠ Bi) (h5 : Bs ≠ Bi) (j : Nat) (v q' : Int) :
    KeepsFrom B W (((W.setCell ⟨g, j, none⟩ (.int .i64 v)).setCell ⟨Bi, 0, none⟩ (.int .i64 q')).drew) ∧ KpB n₀ Bs W (((W.setCell ⟨g, j, none⟩ (.int .i64 v)).setCell ⟨Bi, 0, none⟩ (.int .i64 q')).drew) ∧
      ((((Boxed (((W.setCell ⟨g, j, none⟩ (.int .i64 v)).setCell ⟨Bi, 0, none⟩ (.int .i64 q')).drew) Bi ti (.int .i64 q')) ∧ (((W.setCell ⟨g, j, none⟩ (.int .i64 v)).setCell ⟨Bi, 0, none⟩ (.int .i64 q')).drew).ownsRow g e 1 (.slice (some ⟨g, 0, none⟩) n n) n (iC (L.set j v))) ∧ Boxed (((W.setCell ⟨g, j, none⟩ (.int .i64 v)).setCell ⟨Bi, 0, none⟩ (.int .i64 q')).drew) Bv tv vv) ∧ Boxed (((W.setCell ⟨g, j, none⟩ (.int .i64 v)).setCell ⟨Bi, 0, none⟩ (.int .i64 q')).drew) Bs ts vs) ∧ Below n₀ w (((W.setCell ⟨g, j, none⟩ (.int .i64 v)).setCell ⟨Bi, 0, none⟩ (.int .i64 q')).drew) := by
  have a1 := (boxed_far b1 ⟨g, j, none⟩ (Ne.symm h1) (.int .i64 v)).set (.int .i64 q')
  have a2 := boxed_far (boxed_far b2 ⟨g, j, none⟩ h2 (.int .i64 v)) ⟨Bi, 0, none⟩ h4 (.int .i64 q')
  have a3 := boxed_far (boxed_far b3 ⟨g, j, none⟩ h3 (.int .i64 v)) ⟨Bi, 0, none⟩ h5 (.int .i64 q')
  have a4 := (r1.stored j (.int .i64 v)).1.kept (grownBy_setCell' _ Bi (.int .i64 q')) (.inr (fun e => h1 (by injection e)))
  rw [← iC_setA] at a4
  have a5 : Below n₀ W (((W.setCell ⟨g, j, none⟩ (.int .i64 v)).setCell ⟨Bi, 0, none⟩ (.int .i64 q')).drew) := Below.drew (((Below.refl n₀ W).setCell (p := ⟨g, j, none⟩) hg _).setCell (p := ⟨Bi, 0, none⟩) hBi _)
  refine ⟨((((KeepsOthers.setCell _ _ _).trans (KeepsOthers.setCell _ _ _)).trans (KeepsOthers.drew _))).from _, ⟨a5, a3.trans b3.symm⟩, ⟨⟨⟨⟨a1, a4.drew⟩, a2⟩, a3⟩, hB.trans a5⟩⟩
end Go.Proofs.Ytnmpigedhpdenaa
