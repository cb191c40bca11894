/-
  The walks of chapter 4: the exported functions up to ChildrenOf; the program's and the model's.
-/
import Derived.Test.YtmefkknkahmihaaGeoG
namespace Go.Proofs.Ytmefkknkahmihaa
open Go.RowKit
set_option maxRecDepth 100000

/-- A list that is handed back only together with true. -/
def gIf (b : Bool) (L : List Int) : List Int := if b then L else []
theorem gIf_len (b : Bool) (L : List Int) {n : Nat} (h : b = true → L.length ≤ n) : (gIf b L).length ≤ n := by
  unfold gIf
  cases b with
  | true => exact h rfl
  | false => simp
theorem RetGB.no {b : Bool} {L : List Int} {w w' : World} (h : b = false) (hb : Below w.heap.size w w') : RetGB (gIf b L) b w (.returned (.tuple #[.slice none 0 0, .bool false])) w' := by
  subst h
  exact ⟨_, rfl, World.ownsRow_nil _ _ _ _, hb⟩
theorem RetGB.yes {b : Bool} {L : List Int} {w w' w2 : World} {v : Value} (h : b = true) (ho : w2.ownsRow w.heap.size 3 1 v L.length (iC L)) (hb2 : Below w2.heap.size w2 w') (hb : Below w.heap.size w w') : RetGB (gIf b L) b w (.returned (.tuple #[v, .bool true])) w' := by
  subst h
  exact ⟨_, rfl, own_below ho hb2, hb⟩
def dpZ (P : List Int) (i : Int) : Int := if gaB P i then dpN P i.toNat else 0
theorem dpZ_no {P : List Int} {i : Int} (h : gaB P i = false) : dpZ P i = 0 := by unfold dpZ; rw [h]; rfl
theorem dpZ_yes {P : List Int} {k : Nat} (h : gaB P k = true) : dpZ P k = dpN P k := by unfold dpZ; rw [h, Int.toNat_natCast]; rfl
def aaB (P : List Int) (i l : Int) : Bool := gaB P i && (decide (0 ≤ l) && decide (l ≤ dpN P i.toNat))
def aaZ (P : List Int) (i l : Int) : Int := if aaB P i l then anZ P i.toNat l else 0
theorem aa_no1 {P : List Int} {i l : Int} (h : gaB P i = false) : aaB P i l = false ∧ aaZ P i l = 0 := by
  have e : aaB P i l = false := by unfold aaB; rw [h]; rfl
  exact ⟨e, by unfold aaZ; rw [e]; rfl⟩
theorem aa_no2 {P : List Int} {k : Nat} {l : Int} (h : ¬ (0 ≤ l ∧ l ≤ dpN P k)) : aaB P k l = false ∧ aaZ P k l = 0 := by
  have e : aaB P k l = false := by
    unfold aaB
    rw [Int.toNat_natCast, Bool.and_eq_false_iff, Bool.and_eq_false_iff, decide_eq_false_iff_not, decide_eq_false_iff_not]
    right
    omega
  exact ⟨e, by unfold aaZ; rw [e]; rfl⟩
theorem aa_yes {P : List Int} {k : Nat} {l : Int} (h : gaB P k = true) (h0 : 0 ≤ l) (h1 : l ≤ dpN P k) : aaB P k l = true ∧ aaZ P k l = anZ P k l := by
  have e : aaB P k l = true := by unfold aaB; rw [h, Int.toNat_natCast, decide_eq_true h0, decide_eq_true h1]; rfl
  exact ⟨e, by unfold aaZ; rw [e, Int.toNat_natCast]; rfl⟩

/-- A level: whether it has areas. -/
def lvnB (P : List Int) (l : Int) : Bool := geB P && decide (0 < (lvL P l).length)
def LvP (P : List Int) (l : Int) (w : World) (e : Ending) (w' : World) : Prop := ∃ v, e = .returned (.tuple #[v, .bool (lvnB P l)]) ∧ w'.ownsRow w.heap.size 3 1 v (gIf (geB P) (lvL P l)).length (iC (gIf (geB P) (lvL P l))) ∧ Below w.heap.size w w'
theorem LvP.no {P : List Int} {l : Int} {w w' : World} (h : geB P = false) (hb : Below w.heap.size w w') : LvP P l w (.returned (.tuple #[.slice none 0 0, .bool false])) w' := by
  unfold LvP lvnB gIf
  rw [h]
  exact ⟨_, rfl, World.ownsRow_nil _ _ _ _, hb⟩
theorem LvP.yes {P : List Int} {l : Int} {w w' w2 : World} {v : Value} {b : Bool} (h : geB P = true) (hq : b = decide (0 < (lvL P l).length)) (ho : w2.ownsRow w.heap.size 3 1 v (lvL P l).length (iC (lvL P l))) (hb2 : Below w2.heap.size w2 w') (hb : Below w.heap.size w w') : LvP P l w (.returned (.tuple #[v, .bool b])) w' := by
  subst hq
  unfold LvP lvnB gIf
  rw [h]
  exact ⟨_, rfl, own_below ho hb2, hb⟩
end Go.Proofs.Ytmefkknkahmihaa
