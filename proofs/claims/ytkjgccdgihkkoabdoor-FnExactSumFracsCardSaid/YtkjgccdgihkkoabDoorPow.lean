/-
  The walks of chapter 1: powers, the program's and the model's.
-/
import Derived.Test.YtkjgccdgihkkoabDoorOpsM
namespace Go.Proofs.YtkjgccdgihkkoabDoor
open Go.RowKit
set_option maxRecDepth 100000

/-- A block of two cells that may be written. -/
def Blk (w : World) (b : Nat) (x y : Value) : Prop :=
  w.cell? ⟨b, 0, none⟩ = some x ∧ w.cell? ⟨b, 1, none⟩ = some y ∧ w.frozen? ⟨b, 0, none⟩ = false ∧ w.frozen? ⟨b, 1, none⟩ = false ∧ b < w.heap.size
theorem Blk.below {w w' : World} {b : Nat} {x y : Value} (h : Blk w b x y) (hb : Below w.heap.size w w') : Blk w' b x y := by
  obtain ⟨h1, h2, h3, h4, h5⟩ := h
  exact ⟨(hb.cell h5).trans h1, (hb.cell h5).trans h2, (hb.frozen h5).trans h3, (hb.frozen h5).trans h4, Nat.lt_of_lt_of_le h5 hb.size⟩
theorem Blk.set {w : World} {b : Nat} {x y : Value} (h : Blk w b x y) (x' y' : Value) : Blk ((w.setCell ⟨b, 0, none⟩ x').setCell ⟨b, 1, none⟩ y') b x' y' := by
  obtain ⟨h1, h2, h3, h4, h5⟩ := h
  have e1 : (w.setCell ⟨b, 0, none⟩ x').cell? ⟨b, 1, none⟩ = some y := by rw [World.cell?_setCell_other _ _ _ _ (by simp), h2]
  refine ⟨?_, ?_, ?_, ?_, ?_⟩
  · rw [World.cell?_setCell_other _ _ _ _ (by simp)]
    exact World.cell?_setCell_same _ _ _ h1
  · exact World.cell?_setCell_same _ _ _ e1
  · rw [World.frozen?_setCell, World.frozen?_setCell, h3]
  · rw [World.frozen?_setCell, World.frozen?_setCell, h4]
  · simpa [World.setCell] using h5
theorem Blk.setFar {w : World} {b c : Nat} {x y : Value} (h : Blk w b x y) (hc : c ≠ b) (o : Nat) (v : Value) : Blk (w.setCell ⟨c, o, none⟩ v) b x y := by
  obtain ⟨h1, h2, h3, h4, h5⟩ := h
  refine ⟨?_, ?_, ?_, ?_, ?_⟩
  · rw [World.cell?_setCell_far _ _ _ _ hc, h1]
  · rw [World.cell?_setCell_far _ _ _ _ hc, h2]
  · rw [World.frozen?_setCell, h3]
  · rw [World.frozen?_setCell, h4]
  · simpa [World.setCell] using h5

theorem Blk.alloc {w : World} {b : Nat} {x y : Value} (h : Blk w b x y) (o : Obj) : Blk (w.alloc o) b x y := h.below ((Below.refl _ _).alloc (Nat.le_refl _) o)

/-- The i-th power of n/d, if it and all lower ones are valid. -/
def powS (n d : Int) : Nat → Option (Int × Int)
  | 0 => some (1, 1)
  | i + 1 => match powS n d i with
    | none => none
    | some (a, b) => if mkB (a * n) (b * d) then some (mkN (a * n) (b * d), mkD (a * n) (b * d)) else none
theorem powS_valid (n d : Int) : ∀ (i : Nat) (a b : Int), powS n d i = some (a, b) → fOK a b = true
  | 0, a, b, h => by
    simp [powS] at h
    obtain ⟨rfl, rfl⟩ := h
    decide +kernel
  | i + 1, a, b, h => by
    unfold powS at h
    cases hp : powS n d i with
    | none => rw [hp] at h; cases h
    | some p =>
      obtain ⟨x, y⟩ := p
      rw [hp] at h
      simp only at h
      cases hm : mkB (x * n) (y * d) with
      | false => rw [hm] at h; cases h
      | true =>
        rw [hm] at h
        simp at h
        obtain ⟨rfl, rfl⟩ := h
        exact mk_valid hm
theorem powS_none (n d : Int) (i : Nat) (h : powS n d i = none) : ∀ j, powS n d (i + j) = none
  | 0 => h
  | j + 1 => by
    show powS n d ((i + j) + 1) = none
    unfold powS
    rw [powS_none n d i h j]
theorem powS_t {n d : Int} {i : Nat} {a b : Int} (h : powS n d i = some (a, b)) (hm : mkB (a * n) (b * d) = true) : powS n d (i + 1) = some (mkN (a * n) (b * d), mkD (a * n) (b * d)) := by
  unfold powS
  rw [h]
  simp [hm]
theorem powS_f {n d : Int} {i : Nat} {a b : Int} (h : powS n d i = some (a, b)) (hm : mkB (a * n) (b * d) = false) : powS n d (i + 1) = none := by
  unfold powS
  rw [h]
  simp [hm]
/-- What PowFrac gives, part by part. -/
def pwN (n d : Int) (k : Nat) : Int := match powS n d k with | none => 0 | some (a, _) => a
def pwD (n d : Int) (k : Nat) : Int := match powS n d k with | none => 0 | some (_, b) => b
def pwB (n d : Int) (k : Nat) : Bool := (powS n d k).isSome
theorem pw_some {n d : Int} {k : Nat} {a b : Int} (h : powS n d k = some (a, b)) : pwN n d k = a ∧ pwD n d k = b ∧ pwB n d k = true := by unfold pwN pwD pwB; rw [h]; exact ⟨rfl, rfl, rfl⟩
theorem pw_none {n d : Int} {k : Nat} (h : powS n d k = none) : pwN n d k = 0 ∧ pwD n d k = 0 ∧ pwB n d k = false := by unfold pwN pwD pwB; rw [h]; exact ⟨rfl, rfl, rfl⟩

theorem fInt_any (n : Int) (w : World) :
    Calls Tryd.prog 27 #[.int .i64 n] w fun e w' => e = .returned (.agg #[.int .i64 n, .int .i64 1]) ∧ Below w.heap.size w w' := by
  go_enter Tryd.func27, Tryd.ntmps27
  go_wp2
  refine bodyPost_ret (v := .agg #[.int .i64 n, .int .i64 1]) (by simp [results, Tryd.results27, go_sem, *]) rfl ⟨rfl, ?_⟩
  exact (by repeat (first | exact Below.refl _ _ | assumption | refine Below.drew ?_ | refine below_drewN ?_ _ | refine Below.alloc' ?_ _ | (refine Below.setCell ?_ (by first | omega | (simp; done) | (simp; omega) | exact Below.size (by assumption) | exact Nat.le_trans (Below.size (by assumption)) (by simp)) _) | (refine Below.via' ?_ (by assumption)) | (refine Below.alloc ?_ (by first | omega | (simp; done) | (simp; omega) | exact Below.size (by assumption) | exact Nat.le_trans (Below.size (by assumption)) (by simp)) _) | (refine Below.via ?_ (by assumption) (by first | omega | (simp; done) | (simp; omega) | exact Below.size (by assumption) | exact Nat.le_trans (Below.size (by assumption)) (by simp)))))

end Go.Proofs.YtkjgccdgihkkoabDoor
