import Derived.Test.YtgkaalonmkcclabGreatPRgD
import Derived.Test.YtgkaalonmkcclabGreatPRgC
import Derived.Test.YtgkaalonmkcclabGreatShelf
import Derived.Shelf.SlSortCmp.NoneTotal
import Derived.Shelf.SlSortCmp.Whole1
import Derived.Lib.QuietBelow
import Derived.Deep.RegionHeld3
import Derived.Deep.DeepAppendRoom
import Derived.ArgAppend
namespace Go.Proofs.YtgkaalonmkcclabGreat
open Go.RowKit
set_option maxRecDepth 100000

/-- A small schema, edits, weights and values for it. -/
def cmB (S : List (ByteArray × Int)) (M : List (List Int)) (W V : List Int) : Bool := smB S M && wgB S W && fitB S V
theorem cm_no1 {S : List (ByteArray × Int)} {M : List (List Int)} {W V : List Int} (h : smB S M = false) : cmB S M W V = false := by unfold cmB; rw [h]; rfl
theorem cm_no2 {S : List (ByteArray × Int)} {M : List (List Int)} {W V : List Int} (h : wgB S W = false) : cmB S M W V = false := by unfold cmB; rw [h, Bool.and_false]; rfl
theorem cm_no3 {S : List (ByteArray × Int)} {M : List (List Int)} {W V : List Int} (h : fitB S V = false) : cmB S M W V = false := by unfold cmB; rw [h, Bool.and_false]
theorem cm_yes {S : List (ByteArray × Int)} {M : List (List Int)} {W V : List Int} (h1 : smB S M = true) (h2 : wgB S W = true) (h3 : fitB S V = true) : cmB S M W V = true := by unfold cmB; rw [h1, h2, h3]; rfl
theorem cm_get {S : List (ByteArray × Int)} {M : List (List Int)} {W V : List Int} (h : cmB S M W V = true) : smB S M = true ∧ wgB S W = true ∧ fitB S V = true := by
  unfold cmB at h
  rw [Bool.and_eq_true, Bool.and_eq_true] at h
  exact ⟨h.1.1, h.1.2, h.2⟩
set_option maxHeartbeats 1000000 in
theorem iInput_any (x y z u : Option Addr) (c1 c2 c3 c4 : Nat) (S : List (ByteArray × Int)) (Q : List PR) (W V : List Int) (w : World) (hS : SIn w x c1 S) (hQ : EIn w y Q) (hW : IIn w z W) (hV : IIn w u V) :
    Calls Tryz.prog 26 #[.slice x S.length c1, .slice y Q.length c2, .slice z W.length c3, .slice u V.length c4] w fun e w' => e = .returned (.bool (cmB S (eM Q) W V)) ∧ Below w.heap.size w w' := by
  have hSh := Lib.hid hS
  have hQh := Lib.hid hQ
  have hWh := Lib.hid hW
  have hVh := Lib.hid hV
  have hm := hS.1
  clear hS hQ hW hV
  go_enter Tryz.func26, Tryz.ntmps26
  go_wp2_with fail
  refine (eSmall_any _ _ _ _ S Q _ (hSh.out.below (by exact (by repeat (first | exact Below.refl _ _ | assumption | refine Below.drew ?_ | refine below_drewN ?_ _ | refine Below.alloc' ?_ _ | (refine Below.setCell ?_ (by first | omega | (simp; done) | (simp; omega) | exact Below.size (by assumption) | exact Nat.le_trans (Below.size (by assumption)) (by simp)) _) | (refine Below.via' ?_ (by assumption)) | (refine Below.alloc ?_ (by first | omega | (simp; done) | (simp; omega) | exact Below.size (by assumption) | exact Nat.le_trans (Below.size (by assumption)) (by simp)) _) | (refine Below.via ?_ (by assumption) (by first | omega | (simp; done) | (simp; omega) | exact Below.size (by assumption) | exact Nat.le_trans (Below.size (by assumption)) (by simp))))))) (hQh.out.below (by exact (by repeat (first | exact Below.refl _ _ | assumption | refine Below.drew ?_ | refine below_drewN ?_ _ | refine Below.alloc' ?_ _ | (refine Below.setCell ?_ (by first | omega | (simp; done) | (simp; omega) | exact Below.size (by assumption) | exact Nat.le_trans (Below.size (by assumption)) (by simp)) _) | (refine Below.via' ?_ (by assumption)) | (refine Below.alloc ?_ (by first | omega | (simp; done) | (simp; omega) | exact Below.size (by assumption) | exact Nat.le_trans (Below.size (by assumption)) (by simp)) _) | (refine Below.via ?_ (by assumption) (by first | omega | (simp; done) | (simp; omega) | exact Below.size (by assumption) | exact Nat.le_trans (Below.size (by assumption)) (by simp)))))))).mono ?_
  rintro e w1 ⟨rfl, hb1⟩
  cases he : smB S (eM Q)
  · have hv := Lib.hid (cm_no1 (W := W) (V := V) he)
    go_wp2
    go_ret
    exact ⟨ret_bool hv.out.symm, (by repeat (first | exact Below.refl _ _ | assumption | refine Below.drew ?_ | refine below_drewN ?_ _ | refine Below.alloc' ?_ _ | (refine Below.setCell ?_ (by first | omega | (simp; done) | (simp; omega) | exact Below.size (by assumption) | exact Nat.le_trans (Below.size (by assumption)) (by simp)) _) | (refine Below.via' ?_ (by assumption)) | (refine Below.alloc ?_ (by first | omega | (simp; done) | (simp; omega) | exact Below.size (by assumption) | exact Nat.le_trans (Below.size (by assumption)) (by simp)) _) | (refine Below.via ?_ (by assumption) (by first | omega | (simp; done) | (simp; omega) | exact Below.size (by assumption) | exact Nat.le_trans (Below.size (by assumption)) (by simp)))))⟩
  have hsmh := Lib.hid he
  have hsh := Lib.hid (el_get (sm_get he).1).1
  clear he
  go_wp2_with fail
  refine (iWeights_any _ _ _ _ S W _ (hWh.out.below (by exact (by repeat (first | exact Below.refl _ _ | assumption | refine Below.drew ?_ | refine below_drewN ?_ _ | refine Below.alloc' ?_ _ | (refine Below.setCell ?_ (by first | omega | (simp; done) | (simp; omega) | exact Below.size (by assumption) | exact Nat.le_trans (Below.size (by assumption)) (by simp)) _) | (refine Below.via' ?_ (by assumption)) | (refine Below.alloc ?_ (by first | omega | (simp; done) | (simp; omega) | exact Below.size (by assumption) | exact Nat.le_trans (Below.size (by assumption)) (by simp)) _) | (refine Below.via ?_ (by assumption) (by first | omega | (simp; done) | (simp; omega) | exact Below.size (by assumption) | exact Nat.le_trans (Below.size (by assumption)) (by simp)))))))).mono ?_
  rintro e w2 ⟨rfl, hb2⟩
  cases hg : wgB S W
  · have hv := Lib.hid (cm_no2 (M := eM Q) (V := V) hg)
    go_wp2
    go_ret
    exact ⟨ret_bool hv.out.symm, (by repeat (first | exact Below.refl _ _ | assumption | refine Below.drew ?_ | refine below_drewN ?_ _ | refine Below.alloc' ?_ _ | (refine Below.setCell ?_ (by first | omega | (simp; done) | (simp; omega) | exact Below.size (by assumption) | exact Nat.le_trans (Below.size (by assumption)) (by simp)) _) | (refine Below.via' ?_ (by assumption)) | (refine Below.alloc ?_ (by first | omega | (simp; done) | (simp; omega) | exact Below.size (by assumption) | exact Nat.le_trans (Below.size (by assumption)) (by simp)) _) | (refine Below.via ?_ (by assumption) (by first | omega | (simp; done) | (simp; omega) | exact Below.size (by assumption) | exact Nat.le_trans (Below.size (by assumption)) (by simp)))))⟩
  have hgh := Lib.hid hg
  clear hg
  go_wp2_with fail
  refine (sFits_any _ _ _ _ S V _ hsh.out hm (hSh.out.rd.below (by exact (by repeat (first | exact Below.refl _ _ | assumption | refine Below.drew ?_ | refine below_drewN ?_ _ | refine Below.alloc' ?_ _ | (refine Below.setCell ?_ (by first | omega | (simp; done) | (simp; omega) | exact Below.size (by assumption) | exact Nat.le_trans (Below.size (by assumption)) (by simp)) _) | (refine Below.via' ?_ (by assumption)) | (refine Below.alloc ?_ (by first | omega | (simp; done) | (simp; omega) | exact Below.size (by assumption) | exact Nat.le_trans (Below.size (by assumption)) (by simp)) _) | (refine Below.via ?_ (by assumption) (by first | omega | (simp; done) | (simp; omega) | exact Below.size (by assumption) | exact Nat.le_trans (Below.size (by assumption)) (by simp))))))) (hVh.out.below (by exact (by repeat (first | exact Below.refl _ _ | assumption | refine Below.drew ?_ | refine below_drewN ?_ _ | refine Below.alloc' ?_ _ | (refine Below.setCell ?_ (by first | omega | (simp; done) | (simp; omega) | exact Below.size (by assumption) | exact Nat.le_trans (Below.size (by assumption)) (by simp)) _) | (refine Below.via' ?_ (by assumption)) | (refine Below.alloc ?_ (by first | omega | (simp; done) | (simp; omega) | exact Below.size (by assumption) | exact Nat.le_trans (Below.size (by assumption)) (by simp)) _) | (refine Below.via ?_ (by assumption) (by first | omega | (simp; done) | (simp; omega) | exact Below.size (by assumption) | exact Nat.le_trans (Below.size (by assumption)) (by simp)))))))).mono ?_
  rintro e w3 ⟨rfl, hb3⟩
  have hv : Hid (cmB S (eM Q) W V = fitB S V) := by unfold Hid cmB; rw [hsmh.out, hgh.out]; rfl
  go_wp2
  go_ret
  exact ⟨ret_bool hv.out.symm, (by repeat (first | exact Below.refl _ _ | assumption | refine Below.drew ?_ | refine below_drewN ?_ _ | refine Below.alloc' ?_ _ | (refine Below.setCell ?_ (by first | omega | (simp; done) | (simp; omega) | exact Below.size (by assumption) | exact Nat.le_trans (Below.size (by assumption)) (by simp)) _) | (refine Below.via' ?_ (by assumption)) | (refine Below.alloc ?_ (by first | omega | (simp; done) | (simp; omega) | exact Below.size (by assumption) | exact Nat.le_trans (Below.size (by assumption)) (by simp)) _) | (refine Below.via ?_ (by assumption) (by first | omega | (simp; done) | (simp; omega) | exact Below.size (by assumption) | exact Nat.le_trans (Below.size (by assumption)) (by simp)))))⟩
set_option maxHeartbeats 1000000 in
theorem canBeMended_any (x y z u : Option Addr) (c1 c2 c3 c4 : Nat) (S : List (ByteArray × Int)) (Q : List PR) (W V : List Int) (w : World) (hS : SIn w x c1 S) (hQ : EIn w y Q) (hW : IIn w z W) (hV : IIn w u V) :
    Calls Tryz.prog 30 #[.slice x S.length c1, .slice y Q.length c2, .slice z W.length c3, .slice u V.length c4] w fun e w' => e = .returned (.bool (cmB S (eM Q) W V)) ∧ Below w.heap.size w w' := by
  have hSh := Lib.hid hS
  have hQh := Lib.hid hQ
  have hWh := Lib.hid hW
  have hVh := Lib.hid hV
  have hm := hS.1
  clear hS hQ hW hV
  go_enter Tryz.func30, Tryz.ntmps30
  go_wp2_with fail
  refine (isSmall_any _ _ _ _ (hSh.out.below (by exact (by repeat (first | exact Below.refl _ _ | assumption | refine Below.drew ?_ | refine below_drewN ?_ _ | refine Below.alloc' ?_ _ | (refine Below.setCell ?_ (by first | omega | (simp; done) | (simp; omega) | exact Below.size (by assumption) | exact Nat.le_trans (Below.size (by assumption)) (by simp)) _) | (refine Below.via' ?_ (by assumption)) | (refine Below.alloc ?_ (by first | omega | (simp; done) | (simp; omega) | exact Below.size (by assumption) | exact Nat.le_trans (Below.size (by assumption)) (by simp)) _) | (refine Below.via ?_ (by assumption) (by first | omega | (simp; done) | (simp; omega) | exact Below.size (by assumption) | exact Nat.le_trans (Below.size (by assumption)) (by simp)))))))).mono ?_
  rintro e w0 ⟨rfl, hb0⟩
  cases hs : smS S
  · have hv := Lib.hid (cm_no1 (W := W) (V := V) (sm_no3 (M := eM Q) hs))
    go_wp2
    go_ret
    exact ⟨ret_bool hv.out.symm, (by repeat (first | exact Below.refl _ _ | assumption | refine Below.drew ?_ | refine below_drewN ?_ _ | refine Below.alloc' ?_ _ | (refine Below.setCell ?_ (by first | omega | (simp; done) | (simp; omega) | exact Below.size (by assumption) | exact Nat.le_trans (Below.size (by assumption)) (by simp)) _) | (refine Below.via' ?_ (by assumption)) | (refine Below.alloc ?_ (by first | omega | (simp; done) | (simp; omega) | exact Below.size (by assumption) | exact Nat.le_trans (Below.size (by assumption)) (by simp)) _) | (refine Below.via ?_ (by assumption) (by first | omega | (simp; done) | (simp; omega) | exact Below.size (by assumption) | exact Nat.le_trans (Below.size (by assumption)) (by simp)))))⟩
  have hsh := Lib.hid (smS_get hs).1
  have hcn := Lib.hid (smS_get hs).2
  clear hs
  go_wp2_with fail
  refine (areEditsFor_any _ _ _ _ S Q _ hsh.out hm (hSh.out.rd.below (by exact (by repeat (first | exact Below.refl _ _ | assumption | refine Below.drew ?_ | refine below_drewN ?_ _ | refine Below.alloc' ?_ _ | (refine Below.setCell ?_ (by first | omega | (simp; done) | (simp; omega) | exact Below.size (by assumption) | exact Nat.le_trans (Below.size (by assumption)) (by simp)) _) | (refine Below.via' ?_ (by assumption)) | (refine Below.alloc ?_ (by first | omega | (simp; done) | (simp; omega) | exact Below.size (by assumption) | exact Nat.le_trans (Below.size (by assumption)) (by simp)) _) | (refine Below.via ?_ (by assumption) (by first | omega | (simp; done) | (simp; omega) | exact Below.size (by assumption) | exact Nat.le_trans (Below.size (by assumption)) (by simp))))))) (hQh.out.below (by exact (by repeat (first | exact Below.refl _ _ | assumption | refine Below.drew ?_ | refine below_drewN ?_ _ | refine Below.alloc' ?_ _ | (refine Below.setCell ?_ (by first | omega | (simp; done) | (simp; omega) | exact Below.size (by assumption) | exact Nat.le_trans (Below.size (by assumption)) (by simp)) _) | (refine Below.via' ?_ (by assumption)) | (refine Below.alloc ?_ (by first | omega | (simp; done) | (simp; omega) | exact Below.size (by assumption) | exact Nat.le_trans (Below.size (by assumption)) (by simp)) _) | (refine Below.via ?_ (by assumption) (by first | omega | (simp; done) | (simp; omega) | exact Below.size (by assumption) | exact Nat.le_trans (Below.size (by assumption)) (by simp)))))))).mono ?_
  rintro e w1 ⟨rfl, hb1⟩
  cases he : elB S (eM Q)
  · have hv := Lib.hid (cm_no1 (W := W) (V := V) (sm_no1 he))
    go_wp2
    go_ret
    exact ⟨ret_bool hv.out.symm, (by repeat (first | exact Below.refl _ _ | assumption | refine Below.drew ?_ | refine below_drewN ?_ _ | refine Below.alloc' ?_ _ | (refine Below.setCell ?_ (by first | omega | (simp; done) | (simp; omega) | exact Below.size (by assumption) | exact Nat.le_trans (Below.size (by assumption)) (by simp)) _) | (refine Below.via' ?_ (by assumption)) | (refine Below.alloc ?_ (by first | omega | (simp; done) | (simp; omega) | exact Below.size (by assumption) | exact Nat.le_trans (Below.size (by assumption)) (by simp)) _) | (refine Below.via ?_ (by assumption) (by first | omega | (simp; done) | (simp; omega) | exact Below.size (by assumption) | exact Nat.le_trans (Below.size (by assumption)) (by simp)))))⟩
  have hsmh := Lib.hid (sm_yes he hcn.out)
  clear he
  go_wp2_with fail
  refine (areWeights_any _ _ _ _ S W _ hm (hWh.out.below (by exact (by repeat (first | exact Below.refl _ _ | assumption | refine Below.drew ?_ | refine below_drewN ?_ _ | refine Below.alloc' ?_ _ | (refine Below.setCell ?_ (by first | omega | (simp; done) | (simp; omega) | exact Below.size (by assumption) | exact Nat.le_trans (Below.size (by assumption)) (by simp)) _) | (refine Below.via' ?_ (by assumption)) | (refine Below.alloc ?_ (by first | omega | (simp; done) | (simp; omega) | exact Below.size (by assumption) | exact Nat.le_trans (Below.size (by assumption)) (by simp)) _) | (refine Below.via ?_ (by assumption) (by first | omega | (simp; done) | (simp; omega) | exact Below.size (by assumption) | exact Nat.le_trans (Below.size (by assumption)) (by simp)))))))).mono ?_
  rintro e w2 ⟨rfl, hb2⟩
  cases hg : wgB S W
  · have hv := Lib.hid (cm_no2 (M := eM Q) (V := V) hg)
    go_wp2
    go_ret
    exact ⟨ret_bool hv.out.symm, (by repeat (first | exact Below.refl _ _ | assumption | refine Below.drew ?_ | refine below_drewN ?_ _ | refine Below.alloc' ?_ _ | (refine Below.setCell ?_ (by first | omega | (simp; done) | (simp; omega) | exact Below.size (by assumption) | exact Nat.le_trans (Below.size (by assumption)) (by simp)) _) | (refine Below.via' ?_ (by assumption)) | (refine Below.alloc ?_ (by first | omega | (simp; done) | (simp; omega) | exact Below.size (by assumption) | exact Nat.le_trans (Below.size (by assumption)) (by simp)) _) | (refine Below.via ?_ (by assumption) (by first | omega | (simp; done) | (simp; omega) | exact Below.size (by assumption) | exact Nat.le_trans (Below.size (by assumption)) (by simp)))))⟩
  have hgh := Lib.hid hg
  clear hg
  go_wp2_with fail
  refine (areValues_any _ _ _ _ S V _ hsh.out hm (hSh.out.rd.below (by exact (by repeat (first | exact Below.refl _ _ | assumption | refine Below.drew ?_ | refine below_drewN ?_ _ | refine Below.alloc' ?_ _ | (refine Below.setCell ?_ (by first | omega | (simp; done) | (simp; omega) | exact Below.size (by assumption) | exact Nat.le_trans (Below.size (by assumption)) (by simp)) _) | (refine Below.via' ?_ (by assumption)) | (refine Below.alloc ?_ (by first | omega | (simp; done) | (simp; omega) | exact Below.size (by assumption) | exact Nat.le_trans (Below.size (by assumption)) (by simp)) _) | (refine Below.via ?_ (by assumption) (by first | omega | (simp; done) | (simp; omega) | exact Below.size (by assumption) | exact Nat.le_trans (Below.size (by assumption)) (by simp))))))) (hVh.out.below (by exact (by repeat (first | exact Below.refl _ _ | assumption | refine Below.drew ?_ | refine below_drewN ?_ _ | refine Below.alloc' ?_ _ | (refine Below.setCell ?_ (by first | omega | (simp; done) | (simp; omega) | exact Below.size (by assumption) | exact Nat.le_trans (Below.size (by assumption)) (by simp)) _) | (refine Below.via' ?_ (by assumption)) | (refine Below.alloc ?_ (by first | omega | (simp; done) | (simp; omega) | exact Below.size (by assumption) | exact Nat.le_trans (Below.size (by assumption)) (by simp)) _) | (refine Below.via ?_ (by assumption) (by first | omega | (simp; done) | (simp; omega) | exact Below.size (by assumption) | exact Nat.le_trans (Below.size (by assumption)) (by simp)))))))).mono ?_
  rintro e w3 ⟨rfl, hb3⟩
  have hv : Hid (cmB S (eM Q) W V = fitB S V) := by unfold Hid cmB; rw [hsmh.out, hgh.out]; rfl
  go_wp2
  go_ret
  exact ⟨ret_bool hv.out.symm, (by repeat (first | exact Below.refl _ _ | assumption | refine Below.drew ?_ | refine below_drewN ?_ _ | refine Below.alloc' ?_ _ | (refine Below.setCell ?_ (by first | omega | (simp; done) | (simp; omega) | exact Below.size (by assumption) | exact Nat.le_trans (Below.size (by assumption)) (by simp)) _) | (refine Below.via' ?_ (by assumption)) | (refine Below.alloc ?_ (by first | omega | (simp; done) | (simp; omega) | exact Below.size (by assumption) | exact Nat.le_trans (Below.size (by assumption)) (by simp)) _) | (refine Below.via ?_ (by assumption) (by first | omega | (simp; done) | (simp; omega) | exact Below.size (by assumption) | exact Nat.le_trans (Below.size (by assumption)) (by simp)))))⟩

theorem retN_at {n m : Int} {b d : Bool} {w w' : World} (hd : d = b) (hn : n = nIf b m) (h : Below w.heap.size w w') : Ending.returned (.tuple #[.int .i64 n, .bool d]) = .returned (.tuple #[.int .i64 (nIf b m), .bool b]) ∧ Below w.heap.size w w' := ⟨by rw [hd, hn], h⟩
/-- The best donor among the first records. -/
def ndS (M : List (List Int)) (W V : List Int) (o : Option (Nat × Int)) (i : Nat) (X : List Int) : Option (Nat × Int) :=
  if faB M X = true then o else match o with
    | none => some (i, swZ W (dvL V X))
    | some (j, b) => if swZ W (dvL V X) < b then some (i, swZ W (dvL V X)) else some (j, b)
def ndUp (M : List (List Int)) (W V : List Int) (D : List (List Int)) : Nat → Option (Nat × Int)
  | 0 => none
  | i + 1 => match D[i]? with
    | none => ndUp M W V D i
    | some X => ndS M W V (ndUp M W V D i) i X
theorem nd_step {M : List (List Int)} {W V : List Int} {D : List (List Int)} {i : Nat} {X : List Int} (h : D[i]? = some X) : ndUp M W V D (i + 1) = ndS M W V (ndUp M W V D i) i X := by
  show (match D[i]? with | none => ndUp M W V D i | some X => ndS M W V (ndUp M W V D i) i X) = _
  rw [h]
theorem ndS_fails {M : List (List Int)} {W V X : List Int} {o : Option (Nat × Int)} {i : Nat} (h : faB M X = true) : ndS M W V o i X = o := if_pos h
theorem ndS_first {M : List (List Int)} {W V X : List Int} {i : Nat} (h : faB M X = false) : ndS M W V none i X = some (i, swZ W (dvL V X)) := if_neg (by rw [h]; exact Bool.false_ne_true)
theorem ndS_less {M : List (List Int)} {W V X : List Int} {i j : Nat} {b : Int} (h : faB M X = false) (k : swZ W (dvL V X) < b) : ndS M W V (some (j, b)) i X = some (i, swZ W (dvL V X)) := by
  unfold ndS
  rw [if_neg (by rw [h]; exact Bool.false_ne_true)]
  exact if_pos k
theorem ndS_keep {M : List (List Int)} {W V X : List Int} {i j : Nat} {b : Int} (h : faB M X = false) (k : ¬ swZ W (dvL V X) < b) : ndS M W V (some (j, b)) i X = some (j, b) := by
  unfold ndS
  rw [if_neg (by rw [h]; exact Bool.false_ne_true)]
  exact if_neg k
theorem dvB_symm (A B : List Int) (i : Nat) : dvB A B i = dvB B A i := by
  unfold dvB
  congr 1
  exact decide_eq_decide.2 ⟨Eq.symm, Eq.symm⟩
theorem dvL_symm {A B : List Int} (h : A.length = B.length) : dvL A B = dvL B A := by
  unfold dvL
  rw [h]
  congr 1
  funext i
  exact dvB_symm A B i
/-- What the best donor's place, cost and presence look like. -/
def ndI (o : Option (Nat × Int)) : Int := match o with | some (j, _) => (j : Int) | none => 0
def ndJ (o : Option (Nat × Int)) : Int := match o with | some (j, _) => (j : Int) | none => -1
def ndC (o : Option (Nat × Int)) : Int := match o with | some (_, b) => b | none => 0
theorem nd_lt (M : List (List Int)) (W V : List Int) (D : List (List Int)) : ∀ n : Nat, ∀ j b, ndUp M W V D n = some (j, b) → j < n
  | 0, j, b, h => by cases h
  | n + 1, j, b, h => by
    have ih := nd_lt M W V D n
    have e : ndUp M W V D (n + 1) = match D[n]? with | none => ndUp M W V D n | some X => ndS M W V (ndUp M W V D n) n X := rfl
    rw [e] at h
    cases hD : D[n]? with
    | none => rw [hD] at h; have := ih j b h; omega
    | some X =>
      rw [hD] at h
      change ndS M W V (ndUp M W V D n) n X = some (j, b) at h
      cases hf : faB M X
      · cases ho : ndUp M W V D n with
        | none => rw [ho, ndS_first hf] at h; cases h; omega
        | some q =>
          obtain ⟨j0, b0⟩ := q
          rw [ho] at h
          by_cases hk : swZ W (dvL V X) < b0
          · rw [ndS_less hf hk] at h; cases h; omega
          · rw [ndS_keep hf hk] at h; cases h; have := ih j b ho; omega
      · rw [ndS_fails hf] at h; have := ih j b h; omega
/-- The arguments, and the answer. -/
def ndG (S : List (ByteArray × Int)) (M : List (List Int)) (W : List Int) (R : List RV) (V : List Int) : Bool := cmB S M W V && dokB S R
def ndO (M : List (List Int)) (W : List Int) (R : List RV) (V : List Int) : Option (Nat × Int) := ndUp M W V (dV R) (dV R).length
def neB (S : List (ByteArray × Int)) (M : List (List Int)) (W : List Int) (R : List RV) (V : List Int) : Bool := ndG S M W R V && (ndO M W R V).isSome
theorem nd_no1 {S : List (ByteArray × Int)} {M : List (List Int)} {W : List Int} {R : List RV} {V : List Int} (h : cmB S M W V = false) : neB S M W R V = false := by unfold neB ndG; rw [h]; rfl
theorem nd_no2 {S : List (ByteArray × Int)} {M : List (List Int)} {W : List Int} {R : List RV} {V : List Int} (h : dokB S R = false) : neB S M W R V = false := by unfold neB ndG; rw [h, Bool.and_false]; rfl
theorem nd_yes {S : List (ByteArray × Int)} {M : List (List Int)} {W : List Int} {R : List RV} {V : List Int} (h1 : cmB S M W V = true) (h2 : dokB S R = true) : neB S M W R V = (ndO M W R V).isSome := by unfold neB ndG; rw [h1, h2]; rfl
end Go.Proofs.YtgkaalonmkcclabGreat

namespace Go.Proofs.YtgkaalonmkcclabGreat
open Go.RowKit
set_option maxRecDepth 100000

/-- The order of changes: by cost, by size, then lexicographically. -/
def kcZ (W a b : List Int) : Int := if swZ W a < swZ W b then -1 else if swZ W b < swZ W a then 1 else csZ a b
theorem kcZ_self (W a : List Int) : kcZ W a a = 0 := by unfold kcZ; rw [if_neg (by omega), if_neg (by omega)]; exact csZ_self a
theorem kcZ_zero {W a b : List Int} (h : kcZ W a b = 0) : a = b := by
  unfold kcZ at h
  by_cases h1 : swZ W a < swZ W b
  · rw [if_pos h1] at h; omega
  · by_cases h2 : swZ W b < swZ W a
    · rw [if_neg h1, if_pos h2] at h; omega
    · rw [if_neg h1, if_neg h2] at h
      exact csZ_zero h
theorem kcZ_neg (W a b : List Int) : kcZ W b a = - kcZ W a b := by
  unfold kcZ
  by_cases h1 : swZ W a < swZ W b
  · rw [if_neg (by omega), if_pos h1, if_pos h1]; rfl
  · by_cases h2 : swZ W b < swZ W a
    · rw [if_pos h2, if_neg h1, if_pos h2]
    · rw [if_neg h2, if_neg h1, if_neg h1, if_neg h2]
      exact csZ_neg a b
theorem kcZ_trans {W a b c : List Int} (h : kcZ W a b ≤ 0) (k : kcZ W b c ≤ 0) : kcZ W a c ≤ 0 := by
  unfold kcZ at *
  by_cases h1 : swZ W a < swZ W b
  · by_cases h2 : swZ W b < swZ W c
    · rw [if_pos (by omega)]; omega
    · by_cases h3 : swZ W c < swZ W b
      · rw [if_neg h2, if_pos h3] at k; omega
      · rw [if_pos (by omega)]; omega
  · by_cases h2 : swZ W b < swZ W a
    · rw [if_neg h1, if_pos h2] at h; omega
    · rw [if_neg h1, if_neg h2] at h
      by_cases h3 : swZ W b < swZ W c
      · rw [if_pos (by omega)]; omega
      · by_cases h4 : swZ W c < swZ W b
        · rw [if_neg h3, if_pos h4] at k; omega
        · rw [if_neg h3, if_neg h4] at k
          rw [if_neg (by omega), if_neg (by omega)]
          exact csZ_trans h k
theorem kc_less {W a b : List Int} (h : swZ W a < swZ W b) : kcZ W a b = -1 := if_pos h
theorem kc_more {W a b : List Int} (h : swZ W b < swZ W a) : kcZ W a b = 1 := by unfold kcZ; rw [if_neg (by omega), if_pos h]
theorem kc_same {W a b : List Int} (h : swZ W a = swZ W b) : kcZ W a b = csZ a b := by unfold kcZ; rw [if_neg (by omega), if_neg (by omega)]
/-- The least of a list, the first of equals. -/
def moS (W : List Int) (o : Option (List Int)) (c : List Int) : Option (List Int) := match o with
  | none => some c
  | some b => if kcZ W c b < 0 then some c else some b
def moL (W : List Int) (C : List (List Int)) : Option (List Int) := C.foldl (moS W) none
theorem mo_snoc (W : List Int) (C : List (List Int)) (c : List Int) : moL W (C ++ [c]) = moS W (moL W C) c := by unfold moL; rw [List.foldl_append]; rfl
theorem mo_nil (W : List Int) : moL W [] = none := rfl
theorem moS_none {W c : List Int} : moS W none c = some c := rfl
theorem moS_yes {W b c : List Int} (h : kcZ W c b < 0) : moS W (some b) c = some c := if_pos h
theorem moS_no {W b c : List Int} (h : ¬ kcZ W c b < 0) : moS W (some b) c = some b := if_neg h
theorem mo_fold {W : List Int} : ∀ (C : List (List Int)) (o : Option (List Int)), (∃ b, C.foldl (moS W) o = some b ∧ (o = some b ∨ b ∈ C) ∧ (∀ a, o = some a → kcZ W b a ≤ 0) ∧ ∀ c ∈ C, kcZ W b c ≤ 0) ∨ (C = [] ∧ o = none)
  | [], none => .inr ⟨rfl, rfl⟩
  | [], some a => .inl ⟨a, rfl, .inl rfl, fun b h => by cases h; rw [kcZ_self]; omega, fun c hc => by cases hc⟩
  | c :: C, o => by
    have hs : ∃ d, moS W o c = some d ∧ (o = some d ∨ d = c) ∧ kcZ W d c ≤ 0 ∧ ∀ a, o = some a → kcZ W d a ≤ 0 := by
      cases o with
      | none => exact ⟨c, rfl, .inr rfl, by rw [kcZ_self]; omega, fun a h => by cases h⟩
      | some a =>
        by_cases h : kcZ W c a < 0
        · exact ⟨c, moS_yes h, .inr rfl, by rw [kcZ_self]; omega, fun b hb => by cases hb; omega⟩
        · refine ⟨a, moS_no h, .inl rfl, ?_, fun b hb => by cases hb; rw [kcZ_self]; omega⟩
          have := kcZ_neg W c a
          omega
    obtain ⟨d, h1, h2, h3, h4⟩ := hs
    rcases mo_fold C (some d) with ⟨b, k1, k2, k3, k4⟩ | ⟨_, k⟩
    · refine .inl ⟨b, by rw [List.foldl_cons, h1]; exact k1, ?_, fun a ha => kcZ_trans (k3 d rfl) (h4 a ha), fun e he => ?_⟩
      · rcases k2 with k | k
        · cases k
          rcases h2 with h | h
          · exact .inl h
          · subst h; exact .inr (List.mem_cons_self ..)
        · exact .inr (List.mem_cons_of_mem _ k)
      · rcases List.mem_cons.1 he with rfl | h
        · exact kcZ_trans (k3 d rfl) h3
        · exact k4 e h
    · cases k
theorem mo_some {W : List Int} {C : List (List Int)} {b : List Int} (h : moL W C = some b) : b ∈ C ∧ ∀ c ∈ C, kcZ W b c ≤ 0 := by
  rcases mo_fold (W := W) C none with ⟨d, k1, k2, k3, k4⟩ | ⟨k1, _⟩
  · have : d = b := by unfold moL at h; rw [k1] at h; exact Option.some.inj h
    subst this
    rcases k2 with k | k
    · cases k
    · exact ⟨k, k4⟩
  · subst k1; cases h
theorem mo_none {W : List Int} {C : List (List Int)} (h : moL W C = none) : C = [] := by
  rcases mo_fold (W := W) C none with ⟨d, k1, _⟩ | ⟨k1, _⟩
  · unfold moL at h; rw [k1] at h; cases h
  · exact k1
/-- Does a set of variables do? -/
def ckB (S : List (ByteArray × Int)) (M : List (List Int)) (V I : List Int) : Bool := (coN S M (otL I S.length) V).isSome
theorem ck_cvO (S : List (ByteArray × Int)) (M : List (List Int)) (V : List Int) (st : Nat) : cvO S M V st = ckB S M V (lvsL ((st : Nat) : Int)) := rfl
/-- The cheapest change. -/
def ckO (S : List (ByteArray × Int)) (M : List (List Int)) (W V : List Int) : Option (List Int) := moL W (cvQ S M V (2 ^ S.length))
/-- All sets of the variables below a number, as the program lists them. -/
def stA : Nat → List (List Int)
  | 0 => [[]]
  | v + 1 => stA v ++ (stA v).map (· ++ [(v : Int)])
theorem stA_len : ∀ n, (stA n).length = 2 ^ n
  | 0 => rfl
  | n + 1 => by unfold stA; rw [List.length_append, List.length_map, stA_len n, Nat.pow_succ]; omega
theorem stA_mem : ∀ (n : Nat) (I : List Int), I ∈ stA n ↔ ∃ p : Nat → Bool, I = pkUp p n
  | 0, I => by
    unfold stA
    rw [List.mem_singleton]
    exact ⟨fun h => ⟨fun _ => false, by rw [h]; rfl⟩, fun ⟨p, h⟩ => by rw [h]; rfl⟩
  | n + 1, I => by
    unfold stA
    rw [List.mem_append, List.mem_map, stA_mem n]
    constructor
    · rintro (⟨p, rfl⟩ | ⟨J, hJ, rfl⟩)
      · refine ⟨fun i => decide (i < n) && p i, ?_⟩
        rw [pkUp_no (by simp)]
        unfold pkUp
        congr 1
        exact List.filter_congr fun i hi => by rw [decide_eq_true (List.mem_range.1 hi), Bool.true_and]
      · obtain ⟨p, rfl⟩ := (stA_mem n J).1 hJ
        refine ⟨fun i => decide (i = n) || p i, ?_⟩
        rw [pkUp_yes (by simp)]
        congr 1
        unfold pkUp
        congr 1
        exact List.filter_congr fun i hi => by
          have := List.mem_range.1 hi
          rw [decide_eq_false (by omega), Bool.false_or]
    · rintro ⟨p, rfl⟩
      cases hp : p n
      · exact .inl ⟨p, pkUp_no hp⟩
      · exact .inr ⟨pkUp p n, (stA_mem n _).2 ⟨p, rfl⟩, (pkUp_yes hp).symm⟩
theorem stA_lvs {n : Nat} (hn : n ≤ 8) {I : List Int} (h : I ∈ stA n) : ∃ st : Nat, st < 2 ^ n ∧ I = lvsL ((st : Nat) : Int) := by
  obtain ⟨p, rfl⟩ := (stA_mem n I).1 h
  exact ⟨stN p n, stN_lt p n, (st_lvs p hn).symm⟩
theorem lvs_stA {n st : Nat} (hn : n ≤ 8) (h : st < 2 ^ n) : lvsL ((st : Nat) : Int) ∈ stA n := by
  refine (stA_mem n _).2 ⟨fun l : Nat => hsB ((st : Nat) : Int) (l : Int), ?_⟩
  rw [← lvsUp_all (x := ((st : Nat) : Int)) (i := n) (by rw [Int.toNat_natCast]; exact h) hn]
  rfl
/-- The first set of an ordered list of all sets that does is the cheapest change. -/
theorem ck_first {S : List (ByteArray × Int)} {M : List (List Int)} {W V : List Int} {L : List (List Int)} (h8 : S.length ≤ 8) (hp : L.Perm (stA S.length)) (hs : L.Pairwise fun a b => kcZ W a b ≤ 0) : L.find? (ckB S M V) = ckO S M W V := by
  have hQ : ∀ c, c ∈ cvQ S M V (2 ^ S.length) ↔ c ∈ L ∧ ckB S M V c = true := by
    intro c
    unfold cvQ
    rw [List.mem_map]
    constructor
    · rintro ⟨st, hst, rfl⟩
      obtain ⟨h1, h2⟩ := List.mem_filter.1 hst
      exact ⟨hp.mem_iff.2 (lvs_stA h8 (List.mem_range.1 h1)), h2⟩
    · rintro ⟨h1, h2⟩
      obtain ⟨st, h3, rfl⟩ := stA_lvs h8 (hp.mem_iff.1 h1)
      exact ⟨st, List.mem_filter.2 ⟨List.mem_range.2 h3, h2⟩, rfl⟩
  unfold ckO
  cases hf : L.find? (ckB S M V) with
  | none =>
    rw [List.find?_eq_none] at hf
    cases hm : moL W (cvQ S M V (2 ^ S.length)) with
    | none => rfl
    | some b =>
      have h1 := (hQ b).1 (mo_some hm).1
      exact absurd h1.2 (hf b h1.1)
  | some b =>
    obtain ⟨h1, la, lb, h2, h3⟩ := List.find?_eq_some_iff_append.1 hf
    have hb : b ∈ cvQ S M V (2 ^ S.length) := (hQ b).2 ⟨by rw [h2]; simp, h1⟩
    cases hm : moL W (cvQ S M V (2 ^ S.length)) with
    | none => rw [mo_none hm] at hb; cases hb
    | some d =>
      obtain ⟨d1, d2⟩ := mo_some hm
      have e1 := d2 b hb
      have e2 : kcZ W b d ≤ 0 := by
        obtain ⟨f1, f2⟩ := (hQ d).1 d1
        rw [h2] at f1 hs
        rw [List.pairwise_append] at hs
        rcases List.mem_append.1 f1 with g | g
        · have := h3 d g
          rw [f2] at this
          cases this
        · rcases List.mem_cons.1 g with rfl | g
          · rw [kcZ_self]; omega
          · exact (List.pairwise_cons.1 hs.2.1).1 d g
      have e3 := kcZ_neg W b d
      rw [kcZ_zero (show kcZ W b d = 0 by omega)]
theorem ag_do {I V x : List Int} {n : Nat} (hV : V.length = n) (hx : x.length = n) : agB (otL I n) V x = doB I V x := by
  rw [Bool.eq_iff_iff]
  constructor
  · intro h
    refine do_all fun j v hv => ?_
    obtain ⟨i, rfl, hi, hd⟩ := pkUp_mem (List.mem_of_getElem? hv)
    cases hc : I.contains (i : Int)
    · exfalso
      have hm : (i : Int) ∈ otL I n := pk_mem (by omega) (by unfold otB; rw [hc]; rfl)
      have := ag_get h hm
      rw [Int.toNat_natCast] at this
      unfold dvB at hd
      simp [this] at hd
    · rfl
  · intro h
    refine ag_of fun v hv => ?_
    obtain ⟨i, rfl, hi, ho⟩ := pkUp_mem hv
    rw [Int.toNat_natCast]
    cases hd : dvB V x i
    · unfold dvB at hd
      simp at hd
      exact hd.symm
    · exfalso
      have hm : (i : Int) ∈ dvL V x := pk_mem (by omega) hd
      unfold doB at h
      rw [List.all_eq_true] at h
      have := h _ hm
      unfold otB at ho
      rw [this] at ho
      cases ho
/-- The first values that pass and differ in no variable outside of a set. -/
theorem ck_find {S : List (ByteArray × Int)} {M : List (List Int)} {V I : List Int} (hV : V.length = S.length) : (psL S M (cnZ S).toNat).find? (doB I V) = (coN S M (otL I S.length) V).map fun k : Nat => atL S (k : Int) := by
  unfold psL psN coN ftN
  rw [List.find?_map, List.find?_filter]
  congr 2
  funext k
  unfold coP
  rw [ag_do hV (atL_len S _), Bool.decide_and, Bool.decide_eq_true, Bool.decide_eq_true]
  rfl
theorem ck_any {S : List (ByteArray × Int)} {M : List (List Int)} {V I : List Int} (hV : V.length = S.length) : ckB S M V I = ((psL S M (cnZ S).toNat).find? (doB I V)).isSome := by
  rw [ck_find hV]
  unfold ckB
  cases coN S M (otL I S.length) V <;> rfl
theorem co_at {S : List (ByteArray × Int)} {M : List (List Int)} {V I x : List Int} (hV : V.length = S.length) (h : (psL S M (cnZ S).toNat).find? (doB I V) = some x) : coL S M (otL I S.length) V = x := by
  rw [ck_find hV] at h
  unfold coL
  cases hc : coN S M (otL I S.length) V with
  | none => rw [hc] at h; cases h
  | some k => rw [hc] at h; exact Option.some.inj h
end Go.Proofs.YtgkaalonmkcclabGreat

namespace Go.Proofs.YtgkaalonmkcclabGreat
open Go.RowKit
set_option maxRecDepth 100000

/-- A call that leaves what was there, and draws no less. -/
def BI (w w' : World) : Prop := Below w.heap.size w w' ∧ w.drawn ≤ w'.drawn
theorem BI.refl (w : World) : BI w w := ⟨Below.refl _ _, Nat.le_refl _⟩
theorem BI.trans {w1 w2 w3 : World} (h : BI w1 w2) (k : BI w2 w3) : BI w1 w3 := ⟨h.1.trans (k.1.mono h.1.size), Nat.le_trans h.2 k.2⟩
theorem BI.drew {w w' : World} (h : BI w w') : BI w w'.drew := ⟨Below.drew h.1, Nat.le_trans h.2 (Nat.le_succ _)⟩
theorem BI.alloc {w w' : World} (h : BI w w') (o : Obj) : BI w (w'.alloc o) := ⟨Below.alloc' h.1 _, h.2⟩
theorem grow_of_BI {w w' : World} (h : BI w w') : ∃ q os, w' = Sort.grow (w.drewN q) os := by
  obtain ⟨p, e⟩ := regrown_of_below h.1
  have hd : w.drawn ≤ p.d := by have := h.2; rw [e] at this; exact this
  refine ⟨p.d - w.drawn, p.os, ?_⟩
  rw [e]
  congr 1
  unfold redrawn World.drewN
  congr 1
  omega
set_option maxHeartbeats 1000000 in
theorem sumW_eq (x y : Option Addr) (c1 c2 : Nat) (W L : List Int) (w : World) (hw : inR W 1 100 = true) (hl : L.length ≤ 1000) (hL : ∀ v ∈ L, 0 ≤ v ∧ v < (W.length : Int)) (hWi : IIn w x W) (hLi : IIn w y L) :
    Calls Tryz.prog 57 #[.slice x W.length c1, .slice y L.length c2] w fun e w' => e = .returned (.int .i64 (swZ W L)) ∧ w = w' := by
  have hWh := Lib.hid hWi
  have hWl := hWi.1
  have hLh := Lib.hid hLi
  have hb0 := Lib.hid (fun M : List Int => sw_bd hw M)
  have hwt := Lib.hid (wtA_bd hw)
  have hLm := Lib.hid hL
  clear hWi hLi hL
  go_enter Tryz.func57, Tryz.ntmps57
  go_wp2
  go_loopw [5, 10] (fun q c wr => ∃ i : Nat, i ≤ L.length ∧ c = .int .i64 i ∧ q = .int .i64 (swZ W (L.take i)) ∧ w = wr) (fun _ c _ => L.length - (intOf c).toNat)
  case atStart => exact ⟨0, by omega, rfl, rfl, rfl⟩
  case round =>
    obtain ⟨i, hi, rfl, rfl, rfl⟩ := hrel
    by_cases hlt : i < L.length
    · obtain ⟨bl, off, v, rfl, hbl, hLv, hc0⟩ := hLh.out.2.2.int hlt
      obtain ⟨v1, v2⟩ := hLm.out v (List.mem_of_getElem? hLv)
      obtain ⟨k, rfl⟩ : ∃ k : Nat, v = (k : Int) := ⟨v.toNat, by omega⟩
      obtain ⟨bl2, off2, n, rfl, hbl2, hWk, hc1⟩ := hWh.out.2.2.int (i := k) (by omega)
      have hst := Lib.hid (sw_take (W := W) hLv)
      have hwn := Lib.hid (wtA_at hWk)
      have hb1 := hb0.out (L.take i)
      have hb2 : ((L.take i).length : Int) ≤ 1000 := by rw [List.length_take]; omega
      have hn := hwt.out (k : Int)
      rw [hwn.out] at hn
      have hlt' : (i : Int) < (L.length : Int) := by omega
      have hi0 : (0 : Int) ≤ (i : Int) := by omega
      replace hLv := Lib.hid hLv
      replace hWk := Lib.hid hWk
      go_wp2
      go_roundw
      case rel => exact ⟨i + 1, by omega, by go_num, (by rw [hst.out, hwn.out]; try rw [IntWalk.i64_in _ (by omega)]), by first | rfl | trivial⟩
      case measure => simp [intOf]; omega
    · have hij : i = L.length := by omega
      subst hij
      go_wp2
      go_ret
      exact ⟨ret_int (by rw [List.take_length]), rfl⟩
set_option maxHeartbeats 1000000 in
theorem compareCovers_bd (y z : Option Addr) (c1 c2 : Nat) (A B : List Int) (w : World) (hA : IIn w y A) (hB : IIn w z B) :
    Calls Tryz.prog 80 #[.slice y A.length c1, .slice z B.length c2] w fun e w' => e = .returned (.int .i64 (csZ A B)) ∧ BI w w' := by
  have hAh := Lib.hid hA
  have hBh := Lib.hid hB
  have hl1 := hA.1
  have hl2 := hB.1
  have hcs := Lib.hid (orZ_cs A B)
  clear hA hB
  go_enter Tryz.func80, Tryz.ntmps80
  go_wp2_with fail
  refine (cmpInt_any _ _ _).mono ?_
  rintro e w1 ⟨rfl, rfl⟩
  go_wp2_with fail
  refine (sliceCmp_any _ _ _ _ A B _ hAh.out.2.2 hBh.out.2.2 (by omega)).mono ?_
  rintro e w2 ⟨rfl, rfl⟩
  have hrd : Hid (Rd (w.alloc (.cells #[.int .i64 (cmZ (A.length : Int) (B.length : Int)), .int .i64 (lxZ A B)] 3)) (some ⟨w.heap.size, 0, none⟩) (iC [cmZ (A.length : Int) (B.length : Int), lxZ A B])) := by
    refine Or.inr ⟨w.heap.size, 0, rfl, by simp, fun j u hj => ?_⟩
    rw [Nat.zero_add, World.cell?_alloc_at _ _ _ _ rfl, ← hj, ← Array.getElem?_toList]
    rfl
  go_wp2_with fail
  refine (cmpOr_any _ 2 _ [cmZ (A.length : Int) (B.length : Int), lxZ A B] _ rfl hrd.out (by omega)).mono ?_
  rintro e w3 ⟨rfl, rfl⟩
  go_wp2
  go_ret
  exact ⟨ret_int hcs.out, ⟨(by repeat (first | exact Below.refl _ _ | assumption | refine Below.drew ?_ | refine below_drewN ?_ _ | refine Below.alloc' ?_ _ | (refine Below.setCell ?_ (by first | omega | (simp; done) | (simp; omega) | exact Below.size (by assumption) | exact Nat.le_trans (Below.size (by assumption)) (by simp)) _) | (refine Below.via' ?_ (by assumption)) | (refine Below.alloc ?_ (by first | omega | (simp; done) | (simp; omega) | exact Below.size (by assumption) | exact Nat.le_trans (Below.size (by assumption)) (by simp)) _) | (refine Below.via ?_ (by assumption) (by first | omega | (simp; done) | (simp; omega) | exact Below.size (by assumption) | exact Nat.le_trans (Below.size (by assumption)) (by simp))))), Nat.le_refl _⟩⟩
theorem orZ_kc (W a b : List Int) : orZ [cmZ (swZ W a) (swZ W b), csZ a b] = kcZ W a b := by
  rw [orZ_cons, orZ_cons, orZ_nil]
  unfold kcZ cmZ
  by_cases h1 : swZ W a < swZ W b
  · rw [if_pos h1, if_pos h1]; rfl
  · by_cases h2 : swZ W b < swZ W a
    · rw [if_neg h1, if_pos h2, if_neg h1, if_pos h2]; rfl
    · rw [if_neg h1, if_neg h2, if_neg h1, if_neg h2, if_pos rfl]
      by_cases h3 : csZ a b = 0
      · rw [if_pos h3, h3]
      · rw [if_neg h3]
theorem rd_two (X : World) (a b : Int) (t : TypeId) : Rd (X.alloc (.cells #[.int .i64 a, .int .i64 b] t)) (some ⟨X.heap.size, 0, none⟩) (iC [a, b]) := by
  refine Or.inr ⟨X.heap.size, 0, rfl, by simp, fun j u hj => ?_⟩
  rw [Nat.zero_add, World.cell?_alloc_at _ _ _ _ rfl, ← hj, ← Array.getElem?_toList]
  rfl
set_option maxHeartbeats 8000000 in
theorem cmpSets_any (B : Nat) (z x y : Option Addr) (cz c1 c2 : Nat) (W I J : List Int) (w : World) (hw : inR W 1 100 = true) (hb : Boxed w B 24 (.slice z W.length cz)) (hW : IIn w z W) (hI : IIn w x I) (hJ : IIn w y J)
    (lI : I.length ≤ 1000) (lJ : J.length ≤ 1000) (mI : ∀ v ∈ I, 0 ≤ v ∧ v < (W.length : Int)) (mJ : ∀ v ∈ J, 0 ≤ v ∧ v < (W.length : Int)) :
    Calls Tryz.prog 77 #[.slice x I.length c1, .slice y J.length c2, .pointer (some ⟨B, 0, none⟩)] w fun e w' => e = .returned (.int .i64 (kcZ W I J)) ∧ BI w w' := by
  have hc := hb.cell
  have hBl := hb.lt
  have bdk : Hid (∀ X, BI w X → BI w X ∧ X.cell? ⟨B, 0, none⟩ = some (.slice z W.length cz)) := fun X h => ⟨h, (h.1.cell (p := ⟨B, 0, none⟩) hBl).trans hc⟩
  have hWh := Lib.hid hW
  have hIh := Lib.hid hI
  have hJh := Lib.hid hJ
  have hmI := Lib.hid mI
  have hmJ := Lib.hid mJ
  have hwh := Lib.hid hw
  have hkc := Lib.hid (orZ_kc W I J)
  clear hb hW hI hJ mI mJ hw
  go_enter Tryz.func77, Tryz.ntmps77
  go_wp2
  go_region_held3 (fun X => BI w X ∧ X.cell? ⟨B, 0, none⟩ = some (.slice z W.length cz))
    (((try go_split_ands); exact bdk.out _ (by repeat (first | assumption | exact BI.refl _ | refine BI.drew ?_ | refine BI.alloc ?_ _ | refine BI.trans ?_ (by assumption)))))
    (first
      | (go_at_call 57; (with_reducible show Calls _ _ #[_, .slice x I.length c1] _ _); (try go_split_ands); refine (sumW_eq _ _ _ _ W I _ hwh.out lI hmI.out (hWh.out.below (show BI w _ by assumption).1) (hIh.out.below (show BI w _ by assumption).1)).mono ?_; rintro e wz ⟨rfl, rfl⟩)
      | (go_at_call 57; (with_reducible show Calls _ _ #[_, .slice y J.length c2] _ _); (try go_split_ands); refine (sumW_eq _ _ _ _ W J _ hwh.out lJ hmJ.out (hWh.out.below (show BI w _ by assumption).1) (hJh.out.below (show BI w _ by assumption).1)).mono ?_; rintro e wz ⟨rfl, rfl⟩)
      | (go_at_call 79; refine (cmpInt_any _ _ _).mono ?_; rintro e wz ⟨rfl, rfl⟩)
      | (go_at_call 80; (try go_split_ands); refine (compareCovers_bd _ _ _ _ I J _ (hIh.out.below (show BI w _ by assumption).1) (hJh.out.below (show BI w _ by assumption).1)).mono ?_; rintro e wz ⟨rfl, hbd⟩)
      | (go_at_call 78; refine (cmpOr_any _ 2 _ [cmZ (swZ W I) (swZ W J), csZ I J] _ rfl (rd_two _ _ _ _) (by omega)).mono ?_; rintro e wz ⟨rfl, rfl⟩))
  all_goals
    (try go_split_ands)
    go_wp2
    go_ret
    exact ⟨ret_int hkc.out, by assumption⟩
end Go.Proofs.YtgkaalonmkcclabGreat

namespace Go.Proofs.YtgkaalonmkcclabGreat
open Go.RowKit
set_option maxRecDepth 100000

/-- Lists of integers that a call owns. -/
def StI (w : World) (lo : Nat) (u : Value) (T : List PR) : Prop := w.ownsRow lo 24 1 u T.length (eC T) ∧ ∀ q ∈ T, w.ownsRow lo 3 1 q.v q.L.length (iC q.L)
theorem StI.below {w w' : World} {lo : Nat} {u : Value} {T : List PR} (h : StI w lo u T) (hb : Below w.heap.size w w') : StI w' lo u T := ⟨own_below h.1 hb, fun q hq => own_below (h.2 q hq) hb⟩
theorem StI.more {w : World} {lo lo' : Nat} {u : Value} {T : List PR} (h : StI w lo u T) (hl : lo' ≤ lo) : StI w lo' u T := ⟨own_more h.1 hl, fun q hq => own_more (h.2 q hq) hl⟩
theorem apart_typ {W : World} {n1 n2 e1 e2 s1 s2 k1 k2 : Nat} {u v : Value} {xs ys : List Value} (h1 : W.ownsRow n1 e1 s1 u k1 xs) (h2 : W.ownsRow n2 e2 s2 v k2 ys) (hne : e1 ≠ e2) : u.ownBlock = none ∨ u.ownBlock ≠ v.ownBlock := by
  rcases h1.2 with ⟨rfl, _⟩ | ⟨g, cap, cur, rfl, _, hgb, _⟩
  · exact .inl rfl
  · refine .inr fun e' => ?_
    rcases h2.2 with ⟨rfl, _⟩ | ⟨g2, cap2, cur2, rfl, _, hgb2, _⟩
    · simp [Value.ownBlock] at e'
    · obtain rfl : g = g2 := by simpa [Value.ownBlock] using e'
      rw [hgb] at hgb2
      cases hgb2
      exact hne rfl
theorem eC_put (T : List PR) (q : PR) : eC (T ++ [q]) = eC T ++ [q.v] := by unfold eC; rw [List.map_append]; rfl
/-- One element behind a row that holds something: what was there stands where it stood, too. -/
theorem wpList_append_keep {P : Program} (w : World) {ops : Array Oper} {rest : List Oper} {o : Oper} {a : Act} {Q : Exit → Act → World → Prop} (hgd : o.guard = none) (s x : Operand) (t : TypeId)
    (ho : o.op = .call { callee := .builtin .append, args := #[s, x], argTypes := #[t, t] })
    (base : Nat) (e : TypeId) (i : TypeInfo) (z : Value) (bytes : Nat) (ht : P.underlying t = some (.slice e)) (hi : P.info? e = some i) (hz : i.zero = some z)
    (hsize : i.size = 1) (hby : i.bytes = bytes) (hzs : z.cells.size = 1)
    (g n cap : Nat) (xs : List Value) (hs : a.eval s = .slice (some ⟨g, 0, none⟩) n cap) (hown : w.ownsRow base e 1 (.slice (some ⟨g, 0, none⟩) n cap) n xs)
    (ad : Addr) (c : Nat) (y : Value) (hx : a.eval x = .slice (some ad) 1 c) (hy : w.cell? ad = some y) (h1 : y.oneCell' = true)
    (h63 : n + 1 ≤ maxLen) (hbytes : (n + 1) * bytes ≤ 140737488355328) (hbase : base ≤ w.heap.size)
    (h : ∀ v' w', w'.ownsRow base e 1 v' (n + 1) (xs ++ [y]) → w.grownBy w' (some g) → (∀ j u, xs[j]? = some u → w'.cell? ⟨g, j, none⟩ = some u) → wpList P ops Q rest (a.put o.dst v') w') : wpList P ops Q (o :: rest) a w := by
  have hn : ∀ j u, [y][j]? = some u → w.cell? (ad.add j) = some u := by
    intro j u hj
    cases j with
    | zero =>
      have e0 : ad.add 0 = ad := by unfold Addr.add; split <;> simp_all
      rw [e0, hy]
      simpa using hj
    | succ j => simp at hj
  have h1y : ∀ u ∈ [y], u.oneCell' = true := by intro u hu; rw [List.mem_singleton] at hu; subst hu; exact h1
  have hcell : ∀ j u, xs[j]? = some u → w.cell? ⟨g, j, none⟩ = some u := by
    intro j u hj
    have hl := (List.getElem?_eq_some_iff.1 hj).1
    obtain ⟨v, hv, hc⟩ := own_cell hown (j := j) (by rw [← hown.1]; exact hl)
    rw [hv] at hj
    cases hj
    exact hc
  by_cases hroom : n + 1 ≤ cap
  · refine wpList_append_own_spare w hgd s x t ho base e i 1 ht hi hsize g n cap xs hs hown ad 1 c [y] hx rfl hn h1y hroom fun w' h2 h3 => h _ _ h2 h3 fun j u hj => ?_
    have hl := (List.getElem?_eq_some_iff.1 hj).1
    have hln := hown.1
    obtain ⟨v, hv, hc⟩ := own_cell h2 (j := j) (by omega)
    rw [List.getElem?_append_left hl, hj] at hv
    cases hv
    exact hc
  · refine wpList_append_grows w hgd s x t ho e i z 1 bytes ht hi hz hsize hby hzs (by decide) (some ⟨g, 0, none⟩) n cap xs hs (by intro h; cases h) hown.1 (fun b hb j u hj => by
      cases hb
      have e0 : (⟨g, 0, none⟩ : Addr).add j = ⟨g, j, none⟩ := by unfold Addr.add; split <;> simp_all
      rw [e0]
      exact hcell j u hj) ad 1 c [y] hx rfl hn h1y (by omega) h63 hbytes fun v' w' h2 h3 => h _ _ (own_more h2 hbase) ⟨h3.1, h3.2, h3.3, h3.size, fun k hk _ => h3.block k hk (by intro h; cases h)⟩ fun j u hj => ?_
    have h4 := hcell j u hj
    have hg : g < w.heap.size := World.block_lt_of_cell? w ⟨g, j, none⟩ h4
    rw [← h4]
    exact World.cell?_of_block (a := ⟨g, j, none⟩) (h3.block g hg (by intro h; cases h))
section
variable {T0 : List PR}
/-- The lists of integers of a list, each with the word that it is among them. -/
def enI (x : {q : PR // q ∈ T0}) : Value := x.1.v
def cfI (W : List Int) (x y : {q : PR // q ∈ T0}) : Int := kcZ W x.1.L y.1.L
theorem swoI (W : List Int) : Sort.SWO (ltOf (cfI (T0 := T0) W)) where
  irrefl x := by unfold ltOf cfI; rw [kcZ_self]; rfl
  trans x y z h1 h2 := by
    unfold ltOf cfI at *
    rw [decide_eq_true_eq] at *
    have h3 := kcZ_trans (W := W) (a := x.1.L) (b := y.1.L) (c := z.1.L) (by omega) (by omega)
    by_cases h0 : kcZ W x.1.L z.1.L = 0
    · have e := kcZ_zero h0
      rw [e] at h1
      have := kcZ_neg W z.1.L y.1.L
      omega
    · omega
  ntrans x y z h1 h2 := by
    unfold ltOf cfI at *
    rw [decide_eq_false_iff_not] at *
    have n1 := kcZ_neg W x.1.L y.1.L
    have n2 := kcZ_neg W y.1.L z.1.L
    have n3 := kcZ_neg W x.1.L z.1.L
    have := kcZ_trans (W := W) (a := z.1.L) (b := y.1.L) (c := x.1.L) (by omega) (by omega)
    omega
theorem one_I : OneCell (enI (T0 := T0)) := by
  intro x
  rfl
theorem heap_sortI [Inhabited {q : PR // q ∈ T0}] {w : World} {g n : Nat} {os : Array Obj} {cur : Array Value} {e : TypeId} {fr : Nat × Nat} (d : Array {q : PR // q ∈ T0}) (hb : w.heap[g]? = some (.cells cur e fr)) :
    (sortWorld enI w g 0 n d os).heap[g]? = some (.cells (Sort.putCells enI 0 d cur) e fr) := by
  have hg : g < w.heap.size := (Array.getElem?_eq_some_iff.1 hb).1
  unfold sortWorld
  rw [Sort.heap_grow_old _ _ (by simpa [Sort.putRow, Sort.mapBlock, Sort.ahead] using hg)]
  simp [Sort.putRow, Sort.mapBlock, Sort.ahead, Array.getElem?_modify, hb, Sort.onCells]
theorem grown_sortI [Inhabited {q : PR // q ∈ T0}] {w : World} {g n : Nat} {os : Array Obj} (d : Array {q : PR // q ∈ T0}) : w.grownBy (sortWorld enI w g 0 n d os) (some g) := by
  unfold sortWorld
  refine ⟨rfl, rfl, rfl, by simp [Sort.putRow, Sort.mapBlock, Sort.ahead], fun k hk hne => ?_⟩
  rw [Sort.heap_grow_old _ _ (by simpa [Sort.putRow, Sort.mapBlock, Sort.ahead] using hk)]
  have : g ≠ k := fun e => hne (by rw [e])
  simp [Sort.putRow, Sort.mapBlock, Sort.ahead, Array.getElem?_modify, this]
theorem own_sortI [Inhabited {q : PR // q ∈ T0}] {w : World} {base e g n m cap : Nat} {os : Array Obj} {xs : List Value} {d : Array {q : PR // q ∈ T0}} (h : w.ownsRow base e 1 (.slice (some ⟨g, 0, none⟩) n cap) n xs) (hn : d.size = n) :
    (sortWorld enI w g 0 m d os).ownsRow base e 1 (.slice (some ⟨g, 0, none⟩) n cap) n (eC (d.toList.map (·.1))) := by
  rcases h.2 with ⟨h1, _⟩ | ⟨g', cap', cur, hv, hb, hg, h1, h2, h3, h4⟩
  · cases h1
  · injection hv with e1 e2 e3
    injection e1 with e1
    injection e1 with e1
    subst e1 e3
    refine ⟨by rw [eC_len]; simp [hn], Or.inr ⟨g, cap, _, rfl, hb, heap_sortI d hg, h1, h2, by simp [Sort.putCells, h3], ?_⟩⟩
    apply List.ext_getElem?
    intro j
    by_cases hj : j < n
    · rw [Nat.mul_one] at *
      rw [List.getElem?_take_of_lt hj, Array.getElem?_toList]
      have hc : j < cur.size := by rw [h3]; omega
      have hf : j < d.size := by omega
      simp only [Sort.putCells, Array.getElem?_mapIdx, Array.getElem?_eq_getElem hc, Option.map_some, Nat.zero_le, true_and, Nat.zero_add, if_pos hf, Nat.sub_zero]
      unfold eC
      rw [List.map_map, List.getElem?_map, Array.getElem?_toList, Array.getElem?_eq_getElem hf, getElem!_pos d j hf]
      rfl
    · rw [List.getElem?_take_eq_none (by omega), List.getElem?_eq_none (by rw [eC_len]; simp [hn]; omega)]
theorem holds_I [Inhabited {q : PR // q ∈ T0}] {w : World} {base e g n cap : Nat} {d : Array {q : PR // q ∈ T0}} (h : w.ownsRow base e 1 (.slice (some ⟨g, 0, none⟩) n cap) n (eC (d.toList.map (·.1)))) (hn : d.size = n) : Sort.Holds enI w g 0 d := by
  intro j hj
  rw [Nat.zero_add]
  refine ⟨?_, h.frozenAt j⟩
  obtain ⟨v, hv, hc⟩ := own_cell h (j := j) (by omega)
  rw [hc]
  unfold eC at hv
  rw [List.map_map, List.getElem?_map, Array.getElem?_toList, Array.getElem?_eq_getElem hj] at hv
  rw [getElem!_pos d j hj]
  exact congrArg some (Option.some.inj hv).symm
end
/-- What the sort of lists of integers asks of the comparison. -/
theorem cmpLaysI {T0 : List PR} [Inhabited {q : PR // q ∈ T0}] {w : World} {g n B : Nat} {z : Option Addr} {cz : Nat} {W : List Int} (hw : inR W 1 100 = true) (hb : Boxed w B 24 (.slice z W.length cz)) (hbg : B ≠ g) (hW : IIn w z W) (hWg : ∀ b off, z = some ⟨b, off, none⟩ → b ≠ g)
    (hT : ∀ q ∈ T0, q.L.length ≤ 1000 ∧ (∀ v ∈ q.L, 0 ≤ v ∧ v < (W.length : Int)) ∧ IIn w q.x q.L ∧ ∀ b off, q.x = some ⟨b, off, none⟩ → b ≠ g) :
    CmpLays1 Tryz.prog 77 #[.pointer (some ⟨B, 0, none⟩)] enI (cfI (T0 := T0) W) g 0 n w := by
  intro m os dk _ x y
  have keep : ∀ {x : Option Addr} {L : List Int}, IIn w x L → (∀ b off, x = some ⟨b, off, none⟩ → b ≠ g) → IIn (sortWorld enI w g 0 m dk os) x L := fun h k => ⟨h.1, h.2.1, h.2.2.keep (grown_sortI dk) (fun b off e => by intro h2; injection h2 with h2; exact k b off e h2)⟩
  obtain ⟨hx1, hx2, hx3, hx4⟩ := hT x.1 x.2
  obtain ⟨hy1, hy2, hy3, hy4⟩ := hT y.1 y.2
  refine (cmpSets_any B z x.1.x y.1.x cz x.1.c y.1.c W x.1.L y.1.L _ hw (hb.kept (grown_sortI dk) (fun e => by injection e with e; exact hbg e)) (keep hW hWg) (keep hx3 hx4) (keep hy3 hy4) hx1 hy1 hx2 hy2).mono ?_
  rintro e w' ⟨rfl, hb⟩
  exact ⟨rfl, grow_of_BI hb⟩
/-- slices.SortFunc over the sets of variables. -/
theorem sortI_any (lo g cap B : Nat) (z : Option Addr) (cz : Nat) (W : List Int) (T : List PR) (w : World) (hp : 0 < T.length) (hm : T.length ≤ 1048576) (hw : inR W 1 100 = true) (hb : Boxed w B 24 (.slice z W.length cz)) (hbl : B < lo) (hW : IIn w z W) (hWl : ∀ b off, z = some ⟨b, off, none⟩ → b < lo)
    (hT : ∀ q ∈ T, q.L.length ≤ 1000 ∧ ∀ v ∈ q.L, 0 ≤ v ∧ v < (W.length : Int)) (ho : StI w lo (.slice (some ⟨g, 0, none⟩) T.length cap) T) :
    Calls Tryz.prog 76 #[.slice (some ⟨g, 0, none⟩) T.length cap, .func (.func 77) #[] #[.pointer (some ⟨B, 0, none⟩)]] w fun e w' =>
      e = .returned (.tuple #[]) ∧ ∃ T', T'.Perm T ∧ (T'.map (·.L)).Pairwise (fun a b => kcZ W a b ≤ 0) ∧ StI w' lo (.slice (some ⟨g, 0, none⟩) T'.length cap) T' ∧ w.grownBy w' (some g) := by
  have hlt := own_lt ho.1
  obtain ⟨q0, hq0⟩ : ∃ q, q ∈ T := ⟨T[0], List.getElem_mem hp⟩
  haveI : Inhabited {q : PR // q ∈ T} := ⟨⟨q0, hq0⟩⟩
  have hd : (T.attach.toArray.toList.map (·.1)) = T := by simp
  have hH : Sort.Holds enI w g 0 T.attach.toArray := holds_I (by rw [hd]; exact ho.1) (by simp)
  have eg : ∀ args w, (callFunc 77 args).run Tryz.prog w = .ok (.enter 77 args) w := enters_of Tryz.func77 (by kernel_rfl) rfl
  have hin : ∀ q ∈ T, IIn w q.x q.L := fun q hq => by
    have h1 := ho.2 q hq
    unfold PR.v at h1
    exact ⟨by have := (hT q hq).1; omega, fun v hv => by have := (hT q hq).2 v hv; have := hW.1; unfold IsI64; omega, Rd.of_own h1⟩
  have hc := cmpLaysI (T0 := T) (w := w) (g := g) (n := T.attach.toArray.size) hw hb (by omega) hW (fun b off e => by have := hWl b off e; omega) (fun q hq => ⟨(hT q hq).1, (hT q hq).2, hin q hq, fun b off e hbg => by
    have h1 := ho.2 q hq
    rcases apart_typ h1 ho.1 (by decide) with h0 | h0
    · unfold PR.v at h0; rw [e] at h0; simp [Value.ownBlock] at h0
    · exact h0 (by unfold PR.v; rw [e, hbg]; rfl)⟩)
  have h := Any.slices_SortFunc Tryz.sortI enI one_I (cfI W) (swoI W) 77 #[.pointer (some ⟨B, 0, none⟩)] g 0 cap T.attach.toArray w eg hc hH hlt.2 (by simp; omega)
  rw [show T.attach.toArray.size = T.length by simp] at h
  refine h.mono ?_
  rintro e w' ⟨rfl, d', m, os, hpm, hs, rfl⟩
  have hds : d'.size = T.length := by rw [hpm.1]; simp
  have hperm : (d'.toList.map (·.1)).Perm T := by
    have h1 := hpm.2.2
    have e1 : d'.extract 0 T.length = d' := by
      apply Array.ext
      · simp; omega
      · intro i h1 h2; simp
    have e2 : T.attach.toArray.extract 0 T.length = T.attach.toArray := by
      apply Array.ext
      · simp
      · intro i h1 h2; simp
    rw [e1, e2] at h1
    have h2 := h1.map (fun x : {q : PR // q ∈ T} => x.1)
    rwa [hd] at h2
  have hg := grown_sortI (w := w) (g := g) (n := m) (os := os) d'
  have hl : (d'.toList.map (·.1)).length = T.length := by simp [hds]
  refine ⟨rfl, d'.toList.map (·.1), hperm, ?_, ⟨?_, fun q hq => ?_⟩, hg⟩
  · rw [List.pairwise_iff_getElem]
    intro i j hi hj hij
    have hi' : i < d'.size := by simpa using hi
    have hj' : j < d'.size := by simpa using hj
    have h1 := hs i j (Nat.zero_le _) hij (by rw [← hds]; exact hj')
    unfold ltOf cfI at h1
    rw [decide_eq_false_iff_not, getElem!_pos d' j hj', getElem!_pos d' i hi'] at h1
    have h2 := kcZ_neg W (d'[i]).1.L (d'[j]).1.L
    simp only [List.getElem_map, Array.getElem_toList]
    omega
  · rw [hl]; exact own_sortI ho.1 hds
  · have h1 := ho.2 q (hperm.mem_iff.1 hq)
    exact h1.kept hg (by
      rcases apart_typ h1 ho.1 (by decide) with h0 | h0
      · exact .inl h0
      · exact .inr h0)
end Go.Proofs.YtgkaalonmkcclabGreat

namespace Go.Proofs.YtgkaalonmkcclabGreat
open Go.RowKit
set_option maxRecDepth 100000

theorem stA_bd {n : Nat} {I : List Int} (h : I ∈ stA n) : I.length ≤ n ∧ ∀ v ∈ I, 0 ≤ v ∧ v < (n : Int) := by
  obtain ⟨p, rfl⟩ := (stA_mem n I).1 h
  refine ⟨pkUp_len _ _, fun v hv => ?_⟩
  obtain ⟨i, rfl, hi, _⟩ := pkUp_mem hv
  omega
theorem stA_le {n : Nat} (h : n ≤ 6) : (stA n).length ≤ 64 ∧ 0 < (stA n).length := by
  rw [stA_len]
  exact ⟨Nat.le_trans (Nat.pow_le_pow_right (by decide) h) (by decide), Nat.pow_pos (by decide)⟩
theorem own_clone {w : World} {lo e n c : Nat} {x : Option Addr} {xs : List Value} (h : w.ownsRow lo e 1 (.slice x n c) n xs) : n ≤ c ∧ (x = none → c = 0) := by
  rcases h.2 with ⟨h1, _⟩ | ⟨g, cap, cur, h1, _, _, h2, _⟩
  · cases h1
    exact ⟨Nat.le_refl _, fun _ => rfl⟩
  · cases h1
    exact ⟨h2, fun h => by cases h⟩
theorem eC_get {T : List PR} {i : Nat} {q : PR} (h : T[i]? = some q) : (eC T)[i]? = some q.v := by unfold eC; rw [List.getElem?_map, h]; rfl
theorem eM_put (T : List PR) (q : PR) : eM (T ++ [q]) = eM T ++ [q.L] := by unfold eM; rw [List.map_append]; rfl
theorem eM_join (T U : List PR) : eM (T ++ U) = eM T ++ eM U := by unfold eM; rw [List.map_append]
theorem eC_join (T U : List PR) : eC (T ++ U) = eC T ++ eC U := by unfold eC; rw [List.map_append]
/-- The sets by cost, handed back. -/
def StPost (W : List Int) (w : World) (e : Ending) (w' : World) : Prop := ∃ v T, e = .returned v ∧ (eM T).Perm (stA W.length) ∧ (eM T).Pairwise (fun a b => kcZ W a b ≤ 0) ∧ StI w' w.heap.size v T ∧ Below w.heap.size w w'
set_option maxHeartbeats 4000000 in
theorem setsByCost_any (z : Option Addr) (cz : Nat) (W : List Int) (w : World) (hw : inR W 1 100 = true) (h6 : W.length ≤ 6) (hp : 0 < W.length) (hW : IIn w z W) :
    Calls Tryz.prog 58 #[.slice z W.length cz] w (StPost W w) := by
  obtain ⟨i0, hii, hz0, hz1, hz2⟩ := info_parts Tryz.infoInt
  obtain ⟨r0, hri, hrz0, hrz1, hrz2⟩ := info_parts Tryz.infoRow
  have hWh := Lib.hid hW
  have hwh := Lib.hid hw
  have hWlt : Hid (∀ b off, z = some ⟨b, off, none⟩ → b < w.heap.size) := by
    intro b off e
    subst e
    rcases hW.2.2 with h | ⟨b', off', e, hl, _⟩
    · have h0 := congrArg List.length h
      rw [iC_len] at h0
      simp only [List.length_nil] at h0
      omega
    · cases e; exact hl
  clear hW hw
  have hbx := ((Boxed.new w 24 (.slice z W.length cz)).alloc (.cells #[.slice none 0 0] 24))
  have hB1 : Below w.heap.size w ((w.alloc (.cells #[.slice z W.length cz] 24)).alloc (.cells #[.slice none 0 0] 24)) := (by repeat (first | exact Below.refl _ _ | assumption | refine Below.drew ?_ | refine below_drewN ?_ _ | refine Below.alloc' ?_ _ | (refine Below.setCell ?_ (by first | omega | (simp; done) | (simp; omega) | exact Below.size (by assumption) | exact Nat.le_trans (Below.size (by assumption)) (by simp)) _) | (refine Below.via' ?_ (by assumption)) | (refine Below.alloc ?_ (by first | omega | (simp; done) | (simp; omega) | exact Below.size (by assumption) | exact Nat.le_trans (Below.size (by assumption)) (by simp)) _) | (refine Below.via ?_ (by assumption) (by first | omega | (simp; done) | (simp; omega) | exact Below.size (by assumption) | exact Nat.le_trans (Below.size (by assumption)) (by simp)))))
  have hst1 : Hid (StI ((w.alloc (.cells #[.slice z W.length cz] 24)).alloc (.cells #[.slice none 0 0] 24)) (w.heap.size + 1) (.slice (some ⟨w.heap.size + 1, 0, none⟩) 1 1) [⟨0, 0, none, 0, []⟩]) := by
    refine ⟨⟨rfl, .inr ⟨w.heap.size + 1, 1, #[.slice none 0 0], rfl, Nat.le_refl _, ?_, Nat.le_refl _, by decide, rfl, rfl⟩⟩, fun q hq => ?_⟩
    · have h0 := heap_alloc_new (w.alloc (.cells #[.slice z W.length cz] 24)) (.cells #[.slice none 0 0] 24)
      simpa using h0
    · obtain rfl := List.mem_singleton.1 hq
      exact World.ownsRow_nil _ _ _ _
  have hbxh := Lib.hid hbx
  have hB1h := Lib.hid hB1
  clear hbx hB1
  go_enter Tryz.func58, Tryz.ntmps58
  go_wp2
  go_loopw [3, 10] (fun u c wr => ∃ (v : Nat) (T : List PR), v ≤ W.length ∧ c = .int .i64 v ∧ Hid (eM T = stA v) ∧ Hid (StI wr (w.heap.size + 1) u T) ∧ Hid (Boxed wr w.heap.size 24 (.slice z W.length cz)) ∧ Below w.heap.size w wr ∧ w.heap.size + 1 ≤ wr.heap.size) (fun _ c _ => W.length - (intOf c).toNat)
  case atStart => exact ⟨0, [⟨0, 0, none, 0, []⟩], by omega, rfl, rfl, hst1.out, hbxh.out, hB1h.out, by simp⟩
  case round =>
    clear hst1 hbxh hB1h
    obtain ⟨v, T, hv, rfl, hM, hst, hbx, hBr, hszr⟩ := hrel
    have hTl : T.length ≤ 64 ∧ 0 < T.length := by
      have h0 := stA_le (n := v) (by omega)
      rw [← hM.out, eM_len] at h0
      exact h0
    obtain ⟨b0, c0, rfl⟩ := own_some hst.out.1 hTl.2
    by_cases hlt : v < W.length
    · have hlt' : (v : Int) < (W.length : Int) := by omega
      obtain ⟨wo, rfl⟩ : ∃ x : World, x = wr := ⟨_, rfl⟩
      have hrd0 : Hid (∀ k x, (eC T)[k]? = some x → wo.cell? ⟨b0, k, none⟩ = some x) := by
        intro k x hk
        have hl := (List.getElem?_eq_some_iff.1 hk).1
        rw [eC_len] at hl
        obtain ⟨y, hy, hc⟩ := own_cell hst.out.1 (j := k) (by omega)
        rw [hy] at hk
        cases hk
        exact hc
      have hlow0 := own_lt hst.out.1
      go_wp2
      go_loopw [3, 15] (fun u c wr => ∃ (j : Nat) (U : List PR), j ≤ T.length ∧ c = .int .i64 j ∧ U.length = j ∧ Hid (eM U = ((stA v).take j).map (· ++ [(v : Int)])) ∧ Hid (StI wr (w.heap.size + 1) u (T ++ U)) ∧ Hid (∀ k x, (eC T)[k]? = some x → wr.cell? ⟨b0, k, none⟩ = some x) ∧ Hid (Boxed wr w.heap.size 24 (.slice z W.length cz)) ∧ Below w.heap.size w wr ∧ wo.heap.size ≤ wr.heap.size) (fun _ c _ => T.length - (intOf c).toNat)
      case atStart => exact ⟨0, [], by omega, rfl, rfl, rfl, (by unfold Hid; rw [List.append_nil]; exact hst.out), hrd0.out, hbx.out, hBr, Nat.le_refl _⟩
      case round =>
        clear hst hrd0 hbx hBr
        obtain ⟨j, U, hj, rfl, hUl, hU, hst, hrd, hbx, hBr, hszi⟩ := hrel
        obtain ⟨wi, rfl⟩ : ∃ x : World, x = wr := ⟨_, rfl⟩
        obtain ⟨g, cg, rfl⟩ := own_some hst.out.1 (by rw [List.length_append]; omega)
        have hlow := own_lt hst.out.1
        obtain ⟨n, hn⟩ : ∃ n, (T ++ U).length = n := ⟨_, rfl⟩
        have hnn : n = T.length + U.length := by rw [← hn, List.length_append]
        have hn64 : n ≤ 128 := by omega
        have hrow : Hid (wi.ownsRow (w.heap.size + 1) 24 1 (.slice (some ⟨g, 0, none⟩) n cg) n (eC (T ++ U))) := by
          have h0 := hst.out.1
          rw [hn] at h0
          exact h0
        have hinn := Lib.hid hst.out.2
        rw [hn]
        replace hn := Lib.hid hn
        replace hnn := Lib.hid hnn
        replace hUl := Lib.hid hUl
        clear hst
        by_cases hjl : j < T.length
        · have hTj : T[j]? = some T[j] := List.getElem?_eq_getElem hjl
          obtain ⟨⟨qa, qh, qx, qc, qL⟩, hq⟩ : ∃ q, T[j] = q := ⟨_, rfl⟩
          rw [hq] at hTj
          have hcq := hrd.out j _ (eC_at hTj)
          have hqr := hinn.out _ (List.mem_append_left _ (List.mem_of_getElem? hTj))
          have hqM := eM_at hTj
          rw [hM.out] at hqM
          have hqb := stA_bd (List.mem_of_getElem? hqM)
          unfold PR.v at hcq hqr
          dsimp only at hcq hqr hqM hqb
          have hcl := own_clone hqr
          have hqrd := Lib.hid (Rd.of_own hqr)
          have hqMh := Lib.hid hqM
          have hjl' : (j : Int) < (T.length : Int) := by omega
          have hj0 : (0 : Int) ≤ (j : Int) := by omega
          have hqL6 : qL.length ≤ 6 := by omega
          clear hTj hq hqr hqM
          go_wp2_with fail
          refine (cloneInt_any _ qc qL _ (by omega) hcl.1 hcl.2 hqrd.out).mono ?_
          rintro e w2 ⟨u2, rfl, ho2, hb2⟩
          have ho2h := Lib.hid ho2
          have hs2 := hb2.size
          clear ho2 hcq
          go_wp2_with (first
            | (at_builtin; (refine wpList_append_rd _ rfl (.tmp 21) (.tmp 23) 24 rfl (wi.heap.size) 3 i0 (.int .i64 0) 1 8 Tryz.underlying24 hii hz0 hz1 hz2 rfl (by decide) _ qL.length (iC qL) rfl (ho2h.out.alloc _) _ 1 1 rfl (Nat.le_refl _) (by intro h; cases h) (iC [(v : Int)]) rfl (rd_oneE _ _ _ _ (by simp)) (iC_one _) (by unfold maxLen; omega) (by omega) (by simp; omega) ?_); intro v3 w3 hown3 hgrow3 hwhere3; (obtain ⟨g3, c3, rfl⟩ := own_some hown3 (by omega)); (have hb3 := Lib.hid (append_below hb2 (fun k hk => (ho2h.out.lt k hk).1) hgrow3 hwhere3).1); (have hrow3 := Lib.hid (own_below hrow.out hb3.out)); (have hown3h := Lib.hid hown3); (have hs3 := hb3.out.size); (have hrd3 : Hid (∀ k x, (eC T)[k]? = some x → w3.cell? ⟨b0, k, none⟩ = some x) := fun k x hk => (hb3.out.cell (p := ⟨b0, k, none⟩) (by dsimp only; omega)).trans (hrd.out k x hk)); clear hown3 hgrow3 hwhere3)
            | (at_builtin; (refine wpList_append_keep _ rfl (.tmp 19) (.tmp 25) 73 rfl (w.heap.size + 1) 24 r0 (.slice none 0 0) 24 Tryz.underlying73 hri hrz0 hrz1 hrz2 rfl g n cg (eC (T ++ U)) rfl (hrow3.out.alloc _) ⟨w3.heap.size, 0, none⟩ 1 (.slice (some ⟨g3, 0, none⟩) (qL.length + 1) c3) rfl (by rw [World.cell?_alloc_at _ _ _ _ rfl]; rfl) rfl (by unfold maxLen; omega) (by omega) (by simp; omega) ?_); intro v4 w4 hown4 hgrow4 hkeep4))
          have hgw3 : w.heap.size + 1 ≤ w3.heap.size := by omega
          have hq' : ((⟨0, 0, some ⟨g3, 0, none⟩, c3, qL ++ [(v : Int)]⟩ : PR)).v = .slice (some ⟨g3, 0, none⟩) (qL.length + 1) c3 := by
            show Value.slice (some ⟨g3, 0, none⟩) (qL ++ [(v : Int)]).length c3 = _
            rw [List.length_append]
            rfl
          have hfar : ∀ k, (w.heap.size + 1 ≤ k ∧ k < wi.heap.size ∨ k = w.heap.size) → k ≠ g → w4.heap[k]? = w3.heap[k]? := fun k hk hne => by
            have hk3 : k < w3.heap.size := by omega
            exact (hgrow4.block k (by rw [World.size_alloc]; omega) (fun e => hne (by injection e))).trans (Below.heap_alloc w3 _ k hk3)
          refine ⟨⟨j + 1, U ++ [⟨0, 0, some ⟨g3, 0, none⟩, c3, qL ++ [(v : Int)]⟩], by omega, by push_cast; rfl, by rw [List.length_append, hUl.out]; rfl, ?_, ⟨?_, fun q hq => ?_⟩, fun k x hk => ?_, ?_, ?_, ?_⟩, ?_⟩
          · unfold Hid
            rw [eM_put, hU.out, take_snoc hqMh.out, List.map_append]
            rfl
          · refine own_eq hown4 ?_ ?_
            · rw [List.length_append, List.length_append, hUl.out, List.length_singleton]
              have := hnn.out
              have := hUl.out
              omega
            · rw [← List.append_assoc, eC_put, hq']
          · have hkept : ∀ {u : Value} {m : Nat} {xs : List Value}, w3.ownsRow (w.heap.size + 1) 3 1 u m xs → w4.ownsRow (w.heap.size + 1) 3 1 u m xs := fun h => (h.alloc _).kept hgrow4 (by
              rcases apart_typ (h.alloc (.cells #[.slice (some ⟨g3, 0, none⟩) (qL.length + 1) c3] 24)) (hrow3.out.alloc _) (by decide) with h0 | h0
              · exact .inl h0
              · exact .inr h0)
            rw [← List.append_assoc] at hq
            rcases List.mem_append.1 hq with h | h
            · exact hkept (own_below (hinn.out q h) hb3.out)
            · obtain rfl := List.mem_singleton.1 h
              rw [hq']
              have h1 := hkept (own_more hown3h.out (by omega))
              exact own_eq h1 (by rw [List.length_append]; rfl) (by rw [iC_appE])
          · by_cases hbg : b0 = g
            · subst hbg
              refine hkeep4 k x ?_
              rw [eC_join, List.getElem?_append_left (List.getElem?_eq_some_iff.1 hk).1]
              exact hk
            · rw [← hrd3.out k x hk]
              exact World.cell?_of_block (a := ⟨b0, k, none⟩) (hfar b0 (.inl (by omega)) hbg)
          · exact (hfar _ (.inr rfl) (by omega)).trans (boxed_below hbx.out hb3.out)
          · exact ((hBr.trans (hb3.out.mono hBr.size)).alloc (by omega) _).grown hgrow4 (by rw [World.size_alloc]; omega) (fun k hk => by injection hk with hk; omega)
          · have := hgrow4.size
            rw [World.size_alloc] at this
            omega
          · simp [intOf]
            omega
        · have hij : j = T.length := by omega
          subst hij
          have hM2 : Hid (eM (T ++ U) = stA (v + 1)) := by
            unfold Hid
            rw [eM_join, hM.out, hU.out, List.take_of_length_le (by rw [← hM.out, eM_len]; omega)]
            rfl
          go_wp2
          go_roundw
          case rel => exact ⟨v + 1, T ++ U, by omega, by go_num, hM2.out, ⟨by rw [hn.out]; exact hrow.out, hinn.out⟩, hbx.out, hBr, by omega⟩
          case measure => simp [intOf]; omega
    · have hij : v = W.length := by omega
      subst hij
      have hbl := Lib.hid hbx.out
      have hTb : Hid (∀ q ∈ T, q.L.length ≤ 1000 ∧ ∀ v ∈ q.L, 0 ≤ v ∧ v < (W.length : Int)) := by
        intro q hq
        have h0 : q.L ∈ stA W.length := by rw [← hM.out]; exact List.mem_map_of_mem hq
        have h1 := stA_bd h0
        exact ⟨by omega, h1.2⟩
      go_wp2_with fail
      refine (sortI_any (w.heap.size + 1) b0 c0 w.heap.size z cz W T _ hTl.2 (by omega) hwh.out hbl.out (by omega) (hWh.out.below hBr) (fun b off e => by have := hWlt.out b off e; omega) hTb.out hst.out).mono ?_
      rintro e w5 ⟨rfl, T', hperm, hpw, hst5, hg5⟩
      have hlow := own_lt hst.out.1
      have hl5 : T'.length = T.length := hperm.length_eq
      have hpm : Hid ((eM T').Perm (stA W.length)) := by
        unfold Hid
        rw [← hM.out]
        exact hperm.map _
      have hpwh := Lib.hid hpw
      have hst5h := Lib.hid hst5
      have hB5 : Below w.heap.size w w5 := hBr.grown hg5 (by omega) (fun k hk => by injection hk with hk; omega)
      rw [hl5] at hst5h
      have hl5h := Lib.hid hl5
      clear hpw hst5 hg5 hperm hl5
      go_wp2
      go_ret
      exact ⟨_, T', rfl, hpm.out, hpwh.out, hst5h.out.more (by omega), hB5⟩
end Go.Proofs.YtgkaalonmkcclabGreat
