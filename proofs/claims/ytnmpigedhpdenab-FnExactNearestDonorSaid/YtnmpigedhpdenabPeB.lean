import Derived.Test.YtnmpigedhpdenabMdF
import Derived.Test.YtnmpigedhpdenabPeA
import Derived.Carry
import Derived.Test.YtnmpigedhpdenabEdS
import Derived.Test.YtnmpigedhpdenabSchO
import Derived.Test.YtnmpigedhpdenabRecI
import Derived.Deep.Strs
import Derived.Test.YtnmpigedhpdenabRecM
namespace Go.Proofs.Ytnmpigedhpdenab
open Go.RowKit
set_option maxRecDepth 100000

/-- A small schema, edits, weights and values for it. -/
def cmB (S : List (ByteArray × Int)) (M : List (List Int)) (W V : List Int) : Bool := smB S M && wgB S W && fitB S V
theorem cm_no1 {S : List (ByteArray × Int)} {M : List (List Int)} {W V : List Int} (h : smB S M = false) : cmB S M W V = false := by unfold cmB; rw [h]; rfl
theorem cm_no2 {S : List (ByteArray × Int)} {M : List (List Int)} {W V : List Int} (h : wgB S W = false) : cmB S M W V = false := by unfold cmB; rw [h, Bool.and_false]; rfl
theorem cm_no3 {S : List (ByteArray × Int)} {M : List (List Int)} {W V : List Int} (h : fitB S V = false) : cmB S M W V = false := by unfold cmB; rw [h, Bool.and_false]
theorem cm_yes {S : List (ByteArray × Int)} {M : List (List Int)} {W V : List Int} (h1 : smB S M = true) (h2 : wgB S W = true) (h3 : fitB S V = true) : cmB S M W V = true := by unfold cmB; rw [h1, h2, h3]; rfl
theorem cm_get {S : List (ByteArray × Int)} {M : List (List Int)} {W V : List Int} (h : cmB S M W V = true) : smB S M = true ∧ wgB S W = true ∧ fitB S V = true := by
  unfold cmB at h
  rw [Bool.and_eq_true, Bool.and_eq_true] at h
  exact ⟨h.1.1, h.1.2, h.2⟩
set_option maxHeartbeats 1000000 in
theorem iInput_any (x y z u : Option Addr) (c1 c2 c3 c4 : Nat) (S : List (ByteArray × Int)) (Q : List PR) (W V : List Int) (w : World) (hS : SIn w x c1 S) (hQ : EIn w y Q) (hW : IIn w z W) (hV : IIn w u V) :
    Calls Try.prog 154 #[.slice x S.length c1, .slice y Q.length c2, .slice z W.length c3, .slice u V.length c4] w fun e w' => e = .returned (.bool (cmB S (eM Q) W V)) ∧ Below w.heap.size w w' := by
  have hSh := Lib.hid hS
  have hQh := Lib.hid hQ
  have hWh := Lib.hid hW
  have hVh := Lib.hid hV
  have hm := hS.1
  clear hS hQ hW hV
  go_enter Try.func154, Try.ntmps154
  go_wp2_with fail
  refine (eSmall_any _ _ _ _ S Q _ (hSh.out.below (by exact (by repeat (first | exact Below.refl _ _ | assumption | refine Below.drew ?_ | refine below_drewN ?_ _ | refine Below.alloc' ?_ _ | (refine Below.setCell ?_ (by first | omega | (simp; done) | (simp; omega) | exact Below.size (by assumption) | exact Nat.le_trans (Below.size (by assumption)) (by simp)) _) | (refine Below.via' ?_ (by assumption)) | (refine Below.alloc ?_ (by first | omega | (simp; done) | (simp; omega) | exact Below.size (by assumption) | exact Nat.le_trans (Below.size (by assumption)) (by simp)) _) | (refine Below.via ?_ (by assumption) (by first | omega | (simp; done) | (simp; omega) | exact Below.size (by assumption) | exact Nat.le_trans (Below.size (by assumption)) (by simp))))))) (hQh.out.below (by exact (by repeat (first | exact Below.refl _ _ | assumption | refine Below.drew ?_ | refine below_drewN ?_ _ | refine Below.alloc' ?_ _ | (refine Below.setCell ?_ (by first | omega | (simp; done) | (simp; omega) | exact Below.size (by assumption) | exact Nat.le_trans (Below.size (by assumption)) (by simp)) _) | (refine Below.via' ?_ (by assumption)) | (refine Below.alloc ?_ (by first | omega | (simp; done) | (simp; omega) | exact Below.size (by assumption) | exact Nat.le_trans (Below.size (by assumption)) (by simp)) _) | (refine Below.via ?_ (by assumption) (by first | omega | (simp; done) | (simp; omega) | exact Below.size (by assumption) | exact Nat.le_trans (Below.size (by assumption)) (by simp)))))))).mono ?_
  rintro e w1 ⟨rfl, hb1⟩
  cases he : smB S (eM Q)
  · have hv := Lib.hid (cm_no1 (W := W) (V := V) he)
    go_wp2
    go_ret
    exact ⟨ret_bool hv.out.symm, (by repeat (first | exact Below.refl _ _ | assumption | refine Below.drew ?_ | refine below_drewN ?_ _ | refine Below.alloc' ?_ _ | (refine Below.setCell ?_ (by first | omega | (simp; done) | (simp; omega) | exact Below.size (by assumption) | exact Nat.le_trans (Below.size (by assumption)) (by simp)) _) | (refine Below.via' ?_ (by assumption)) | (refine Below.alloc ?_ (by first | omega | (simp; done) | (simp; omega) | exact Below.size (by assumption) | exact Nat.le_trans (Below.size (by assumption)) (by simp)) _) | (refine Below.via ?_ (by assumption) (by first | omega | (simp; done) | (simp; omega) | exact Below.size (by assumption) | exact Nat.le_trans (Below.size (by assumption)) (by simp)))))⟩
  have hsmh := Lib.hid he
  have hsh := Lib.hid (el_get (sm_get he).1).1
  clear he
  go_wp2_with fail
  refine (iWeights_any _ _ _ _ S W _ (hWh.out.below (by exact (by repeat (first | exact Below.refl _ _ | assumption | refine Below.drew ?_ | refine below_drewN ?_ _ | refine Below.alloc' ?_ _ | (refine Below.setCell ?_ (by first | omega | (simp; done) | (simp; omega) | exact Below.size (by assumption) | exact Nat.le_trans (Below.size (by assumption)) (by simp)) _) | (refine Below.via' ?_ (by assumption)) | (refine Below.alloc ?_ (by first | omega | (simp; done) | (simp; omega) | exact Below.size (by assumption) | exact Nat.le_trans (Below.size (by assumption)) (by simp)) _) | (refine Below.via ?_ (by assumption) (by first | omega | (simp; done) | (simp; omega) | exact Below.size (by assumption) | exact Nat.le_trans (Below.size (by assumption)) (by simp)))))))).mono ?_
  rintro e w2 ⟨rfl, hb2⟩
  cases hg : wgB S W
  · have hv := Lib.hid (cm_no2 (M := eM Q) (V := V) hg)
    go_wp2
    go_ret
    exact ⟨ret_bool hv.out.symm, (by repeat (first | exact Below.refl _ _ | assumption | refine Below.drew ?_ | refine below_drewN ?_ _ | refine Below.alloc' ?_ _ | (refine Below.setCell ?_ (by first | omega | (simp; done) | (simp; omega) | exact Below.size (by assumption) | exact Nat.le_trans (Below.size (by assumption)) (by simp)) _) | (refine Below.via' ?_ (by assumption)) | (refine Below.alloc ?_ (by first | omega | (simp; done) | (simp; omega) | exact Below.size (by assumption) | exact Nat.le_trans (Below.size (by assumption)) (by simp)) _) | (refine Below.via ?_ (by assumption) (by first | omega | (simp; done) | (simp; omega) | exact Below.size (by assumption) | exact Nat.le_trans (Below.size (by assumption)) (by simp)))))⟩
  have hgh := Lib.hid hg
  clear hg
  go_wp2_with fail
  refine (sFits_any _ _ _ _ S V _ hsh.out hm (hSh.out.rd.below (by exact (by repeat (first | exact Below.refl _ _ | assumption | refine Below.drew ?_ | refine below_drewN ?_ _ | refine Below.alloc' ?_ _ | (refine Below.setCell ?_ (by first | omega | (simp; done) | (simp; omega) | exact Below.size (by assumption) | exact Nat.le_trans (Below.size (by assumption)) (by simp)) _) | (refine Below.via' ?_ (by assumption)) | (refine Below.alloc ?_ (by first | omega | (simp; done) | (simp; omega) | exact Below.size (by assumption) | exact Nat.le_trans (Below.size (by assumption)) (by simp)) _) | (refine Below.via ?_ (by assumption) (by first | omega | (simp; done) | (simp; omega) | exact Below.size (by assumption) | exact Nat.le_trans (Below.size (by assumption)) (by simp))))))) (hVh.out.below (by exact (by repeat (first | exact Below.refl _ _ | assumption | refine Below.drew ?_ | refine below_drewN ?_ _ | refine Below.alloc' ?_ _ | (refine Below.setCell ?_ (by first | omega | (simp; done) | (simp; omega) | exact Below.size (by assumption) | exact Nat.le_trans (Below.size (by assumption)) (by simp)) _) | (refine Below.via' ?_ (by assumption)) | (refine Below.alloc ?_ (by first | omega | (simp; done) | (simp; omega) | exact Below.size (by assumption) | exact Nat.le_trans (Below.size (by assumption)) (by simp)) _) | (refine Below.via ?_ (by assumption) (by first | omega | (simp; done) | (simp; omega) | exact Below.size (by assumption) | exact Nat.le_trans (Below.size (by assumption)) (by simp)))))))).mono ?_
  rintro e w3 ⟨rfl, hb3⟩
  have hv : Hid (cmB S (eM Q) W V = fitB S V) := by unfold Hid cmB; rw [hsmh.out, hgh.out]; rfl
  go_wp2
  go_ret
  exact ⟨ret_bool hv.out.symm, (by repeat (first | exact Below.refl _ _ | assumption | refine Below.drew ?_ | refine below_drewN ?_ _ | refine Below.alloc' ?_ _ | (refine Below.setCell ?_ (by first | omega | (simp; done) | (simp; omega) | exact Below.size (by assumption) | exact Nat.le_trans (Below.size (by assumption)) (by simp)) _) | (refine Below.via' ?_ (by assumption)) | (refine Below.alloc ?_ (by first | omega | (simp; done) | (simp; omega) | exact Below.size (by assumption) | exact Nat.le_trans (Below.size (by assumption)) (by simp)) _) | (refine Below.via ?_ (by assumption) (by first | omega | (simp; done) | (simp; omega) | exact Below.size (by assumption) | exact Nat.le_trans (Below.size (by assumption)) (by simp)))))⟩
set_option maxHeartbeats 1000000 in
theorem canBeMended_any (x y z u : Option Addr) (c1 c2 c3 c4 : Nat) (S : List (ByteArray × Int)) (Q : List PR) (W V : List Int) (w : World) (hS : SIn w x c1 S) (hQ : EIn w y Q) (hW : IIn w z W) (hV : IIn w u V) :
    Calls Try.prog 157 #[.slice x S.length c1, .slice y Q.length c2, .slice z W.length c3, .slice u V.length c4] w fun e w' => e = .returned (.bool (cmB S (eM Q) W V)) ∧ Below w.heap.size w w' := by
  have hSh := Lib.hid hS
  have hQh := Lib.hid hQ
  have hWh := Lib.hid hW
  have hVh := Lib.hid hV
  have hm := hS.1
  clear hS hQ hW hV
  go_enter Try.func157, Try.ntmps157
  go_wp2_with fail
  refine (isSmall_any _ _ _ _ (hSh.out.below (by exact (by repeat (first | exact Below.refl _ _ | assumption | refine Below.drew ?_ | refine below_drewN ?_ _ | refine Below.alloc' ?_ _ | (refine Below.setCell ?_ (by first | omega | (simp; done) | (simp; omega) | exact Below.size (by assumption) | exact Nat.le_trans (Below.size (by assumption)) (by simp)) _) | (refine Below.via' ?_ (by assumption)) | (refine Below.alloc ?_ (by first | omega | (simp; done) | (simp; omega) | exact Below.size (by assumption) | exact Nat.le_trans (Below.size (by assumption)) (by simp)) _) | (refine Below.via ?_ (by assumption) (by first | omega | (simp; done) | (simp; omega) | exact Below.size (by assumption) | exact Nat.le_trans (Below.size (by assumption)) (by simp)))))))).mono ?_
  rintro e w0 ⟨rfl, hb0⟩
  cases hs : smS S
  · have hv := Lib.hid (cm_no1 (W := W) (V := V) (sm_no3 (M := eM Q) hs))
    go_wp2
    go_ret
    exact ⟨ret_bool hv.out.symm, (by repeat (first | exact Below.refl _ _ | assumption | refine Below.drew ?_ | refine below_drewN ?_ _ | refine Below.alloc' ?_ _ | (refine Below.setCell ?_ (by first | omega | (simp; done) | (simp; omega) | exact Below.size (by assumption) | exact Nat.le_trans (Below.size (by assumption)) (by simp)) _) | (refine Below.via' ?_ (by assumption)) | (refine Below.alloc ?_ (by first | omega | (simp; done) | (simp; omega) | exact Below.size (by assumption) | exact Nat.le_trans (Below.size (by assumption)) (by simp)) _) | (refine Below.via ?_ (by assumption) (by first | omega | (simp; done) | (simp; omega) | exact Below.size (by assumption) | exact Nat.le_trans (Below.size (by assumption)) (by simp)))))⟩
  have hsh := Lib.hid (smS_get hs).1
  have hcn := Lib.hid (smS_get hs).2
  clear hs
  go_wp2_with fail
  refine (areEditsFor_any _ _ _ _ S Q _ hsh.out hm (hSh.out.rd.below (by exact (by repeat (first | exact Below.refl _ _ | assumption | refine Below.drew ?_ | refine below_drewN ?_ _ | refine Below.alloc' ?_ _ | (refine Below.setCell ?_ (by first | omega | (simp; done) | (simp; omega) | exact Below.size (by assumption) | exact Nat.le_trans (Below.size (by assumption)) (by simp)) _) | (refine Below.via' ?_ (by assumption)) | (refine Below.alloc ?_ (by first | omega | (simp; done) | (simp; omega) | exact Below.size (by assumption) | exact Nat.le_trans (Below.size (by assumption)) (by simp)) _) | (refine Below.via ?_ (by assumption) (by first | omega | (simp; done) | (simp; omega) | exact Below.size (by assumption) | exact Nat.le_trans (Below.size (by assumption)) (by simp))))))) (hQh.out.below (by exact (by repeat (first | exact Below.refl _ _ | assumption | refine Below.drew ?_ | refine below_drewN ?_ _ | refine Below.alloc' ?_ _ | (refine Below.setCell ?_ (by first | omega | (simp; done) | (simp; omega) | exact Below.size (by assumption) | exact Nat.le_trans (Below.size (by assumption)) (by simp)) _) | (refine Below.via' ?_ (by assumption)) | (refine Below.alloc ?_ (by first | omega | (simp; done) | (simp; omega) | exact Below.size (by assumption) | exact Nat.le_trans (Below.size (by assumption)) (by simp)) _) | (refine Below.via ?_ (by assumption) (by first | omega | (simp; done) | (simp; omega) | exact Below.size (by assumption) | exact Nat.le_trans (Below.size (by assumption)) (by simp)))))))).mono ?_
  rintro e w1 ⟨rfl, hb1⟩
  cases he : elB S (eM Q)
  · have hv := Lib.hid (cm_no1 (W := W) (V := V) (sm_no1 he))
    go_wp2
    go_ret
    exact ⟨ret_bool hv.out.symm, (by repeat (first | exact Below.refl _ _ | assumption | refine Below.drew ?_ | refine below_drewN ?_ _ | refine Below.alloc' ?_ _ | (refine Below.setCell ?_ (by first | omega | (simp; done) | (simp; omega) | exact Below.size (by assumption) | exact Nat.le_trans (Below.size (by assumption)) (by simp)) _) | (refine Below.via' ?_ (by assumption)) | (refine Below.alloc ?_ (by first | omega | (simp; done) | (simp; omega) | exact Below.size (by assumption) | exact Nat.le_trans (Below.size (by assumption)) (by simp)) _) | (refine Below.via ?_ (by assumption) (by first | omega | (simp; done) | (simp; omega) | exact Below.size (by assumption) | exact Nat.le_trans (Below.size (by assumption)) (by simp)))))⟩
  have hsmh := Lib.hid (sm_yes he hcn.out)
  clear he
  go_wp2_with fail
  refine (areWeights_any _ _ _ _ S W _ hm (hWh.out.below (by exact (by repeat (first | exact Below.refl _ _ | assumption | refine Below.drew ?_ | refine below_drewN ?_ _ | refine Below.alloc' ?_ _ | (refine Below.setCell ?_ (by first | omega | (simp; done) | (simp; omega) | exact Below.size (by assumption) | exact Nat.le_trans (Below.size (by assumption)) (by simp)) _) | (refine Below.via' ?_ (by assumption)) | (refine Below.alloc ?_ (by first | omega | (simp; done) | (simp; omega) | exact Below.size (by assumption) | exact Nat.le_trans (Below.size (by assumption)) (by simp)) _) | (refine Below.via ?_ (by assumption) (by first | omega | (simp; done) | (simp; omega) | exact Below.size (by assumption) | exact Nat.le_trans (Below.size (by assumption)) (by simp)))))))).mono ?_
  rintro e w2 ⟨rfl, hb2⟩
  cases hg : wgB S W
  · have hv := Lib.hid (cm_no2 (M := eM Q) (V := V) hg)
    go_wp2
    go_ret
    exact ⟨ret_bool hv.out.symm, (by repeat (first | exact Below.refl _ _ | assumption | refine Below.drew ?_ | refine below_drewN ?_ _ | refine Below.alloc' ?_ _ | (refine Below.setCell ?_ (by first | omega | (simp; done) | (simp; omega) | exact Below.size (by assumption) | exact Nat.le_trans (Below.size (by assumption)) (by simp)) _) | (refine Below.via' ?_ (by assumption)) | (refine Below.alloc ?_ (by first | omega | (simp; done) | (simp; omega) | exact Below.size (by assumption) | exact Nat.le_trans (Below.size (by assumption)) (by simp)) _) | (refine Below.via ?_ (by assumption) (by first | omega | (simp; done) | (simp; omega) | exact Below.size (by assumption) | exact Nat.le_trans (Below.size (by assumption)) (by simp)))))⟩
  have hgh := Lib.hid hg
  clear hg
  go_wp2_with fail
  refine (areValues_any _ _ _ _ S V _ hsh.out hm (hSh.out.rd.below (by exact (by repeat (first | exact Below.refl _ _ | assumption | refine Below.drew ?_ | refine below_drewN ?_ _ | refine Below.alloc' ?_ _ | (refine Below.setCell ?_ (by first | omega | (simp; done) | (simp; omega) | exact Below.size (by assumption) | exact Nat.le_trans (Below.size (by assumption)) (by simp)) _) | (refine Below.via' ?_ (by assumption)) | (refine Below.alloc ?_ (by first | omega | (simp; done) | (simp; omega) | exact Below.size (by assumption) | exact Nat.le_trans (Below.size (by assumption)) (by simp)) _) | (refine Below.via ?_ (by assumption) (by first | omega | (simp; done) | (simp; omega) | exact Below.size (by assumption) | exact Nat.le_trans (Below.size (by assumption)) (by simp))))))) (hVh.out.below (by exact (by repeat (first | exact Below.refl _ _ | assumption | refine Below.drew ?_ | refine below_drewN ?_ _ | refine Below.alloc' ?_ _ | (refine Below.setCell ?_ (by first | omega | (simp; done) | (simp; omega) | exact Below.size (by assumption) | exact Nat.le_trans (Below.size (by assumption)) (by simp)) _) | (refine Below.via' ?_ (by assumption)) | (refine Below.alloc ?_ (by first | omega | (simp; done) | (simp; omega) | exact Below.size (by assumption) | exact Nat.le_trans (Below.size (by assumption)) (by simp)) _) | (refine Below.via ?_ (by assumption) (by first | omega | (simp; done) | (simp; omega) | exact Below.size (by assumption) | exact Nat.le_trans (Below.size (by assumption)) (by simp)))))))).mono ?_
  rintro e w3 ⟨rfl, hb3⟩
  have hv : Hid (cmB S (eM Q) W V = fitB S V) := by unfold Hid cmB; rw [hsmh.out, hgh.out]; rfl
  go_wp2
  go_ret
  exact ⟨ret_bool hv.out.symm, (by repeat (first | exact Below.refl _ _ | assumption | refine Below.drew ?_ | refine below_drewN ?_ _ | refine Below.alloc' ?_ _ | (refine Below.setCell ?_ (by first | omega | (simp; done) | (simp; omega) | exact Below.size (by assumption) | exact Nat.le_trans (Below.size (by assumption)) (by simp)) _) | (refine Below.via' ?_ (by assumption)) | (refine Below.alloc ?_ (by first | omega | (simp; done) | (simp; omega) | exact Below.size (by assumption) | exact Nat.le_trans (Below.size (by assumption)) (by simp)) _) | (refine Below.via ?_ (by assumption) (by first | omega | (simp; done) | (simp; omega) | exact Below.size (by assumption) | exact Nat.le_trans (Below.size (by assumption)) (by simp)))))⟩

theorem retN_at {n m : Int} {b d : Bool} {w w' : World} (hd : d = b) (hn : n = nIf b m) (h : Below w.heap.size w w') : Ending.returned (.tuple #[.int .i64 n, .bool d]) = .returned (.tuple #[.int .i64 (nIf b m), .bool b]) ∧ Below w.heap.size w w' := ⟨by rw [hd, hn], h⟩
/-- The best donor among the first records. -/
def ndS (M : List (List Int)) (W V : List Int) (o : Option (Nat × Int)) (i : Nat) (X : List Int) : Option (Nat × Int) :=
  if faB M X = true then o else match o with
    | none => some (i, swZ W (dvL V X))
    | some (j, b) => if swZ W (dvL V X) < b then some (i, swZ W (dvL V X)) else some (j, b)
def ndUp (M : List (List Int)) (W V : List Int) (D : List (List Int)) : Nat → Option (Nat × Int)
  | 0 => none
  | i + 1 => match D[i]? with
    | none => ndUp M W V D i
    | some X => ndS M W V (ndUp M W V D i) i X
theorem nd_step {M : List (List Int)} {W V : List Int} {D : List (List Int)} {i : Nat} {X : List Int} (h : D[i]? = some X) : ndUp M W V D (i + 1) = ndS M W V (ndUp M W V D i) i X := by
  show (match D[i]? with | none => ndUp M W V D i | some X => ndS M W V (ndUp M W V D i) i X) = _
  rw [h]
theorem ndS_fails {M : List (List Int)} {W V X : List Int} {o : Option (Nat × Int)} {i : Nat} (h : faB M X = true) : ndS M W V o i X = o := if_pos h
theorem ndS_first {M : List (List Int)} {W V X : List Int} {i : Nat} (h : faB M X = false) : ndS M W V none i X = some (i, swZ W (dvL V X)) := if_neg (by rw [h]; exact Bool.false_ne_true)
theorem ndS_less {M : List (List Int)} {W V X : List Int} {i j : Nat} {b : Int} (h : faB M X = false) (k : swZ W (dvL V X) < b) : ndS M W V (some (j, b)) i X = some (i, swZ W (dvL V X)) := by
  unfold ndS
  rw [if_neg (by rw [h]; exact Bool.false_ne_true)]
  exact if_pos k
theorem ndS_keep {M : List (List Int)} {W V X : List Int} {i j : Nat} {b : Int} (h : faB M X = false) (k : ¬ swZ W (dvL V X) < b) : ndS M W V (some (j, b)) i X = some (j, b) := by
  unfold ndS
  rw [if_neg (by rw [h]; exact Bool.false_ne_true)]
  exact if_neg k
theorem dvB_symm (A B : List Int) (i : Nat) : dvB A B i = dvB B A i := by
  unfold dvB
  congr 1
  exact decide_eq_decide.2 ⟨Eq.symm, Eq.symm⟩
theorem dvL_symm {A B : List Int} (h : A.length = B.length) : dvL A B = dvL B A := by
  unfold dvL
  rw [h]
  congr 1
  funext i
  exact dvB_symm A B i
/-- What the best donor's place, cost and presence look like. -/
def ndI (o : Option (Nat × Int)) : Int := match o with | some (j, _) => (j : Int) | none => 0
def ndJ (o : Option (Nat × Int)) : Int := match o with | some (j, _) => (j : Int) | none => -1
def ndC (o : Option (Nat × Int)) : Int := match o with | some (_, b) => b | none => 0
theorem nd_lt (M : List (List Int)) (W V : List Int) (D : List (List Int)) : ∀ n : Nat, ∀ j b, ndUp M W V D n = some (j, b) → j < n
  | 0, j, b, h => by cases h
  | n + 1, j, b, h => by
    have ih := nd_lt M W V D n
    have e : ndUp M W V D (n + 1) = match D[n]? with | none => ndUp M W V D n | some X => ndS M W V (ndUp M W V D n) n X := rfl
    rw [e] at h
    cases hD : D[n]? with
    | none => rw [hD] at h; have := ih j b h; omega
    | some X =>
      rw [hD] at h
      change ndS M W V (ndUp M W V D n) n X = some (j, b) at h
      cases hf : faB M X
      · cases ho : ndUp M W V D n with
        | none => rw [ho, ndS_first hf] at h; cases h; omega
        | some q =>
          obtain ⟨j0, b0⟩ := q
          rw [ho] at h
          by_cases hk : swZ W (dvL V X) < b0
          · rw [ndS_less hf hk] at h; cases h; omega
          · rw [ndS_keep hf hk] at h; cases h; have := ih j b ho; omega
      · rw [ndS_fails hf] at h; have := ih j b h; omega
/-- The arguments, and the answer. -/
def ndG (S : List (ByteArray × Int)) (M : List (List Int)) (W : List Int) (R : List RV) (V : List Int) : Bool := cmB S M W V && dokB S R
def ndO (M : List (List Int)) (W : List Int) (R : List RV) (V : List Int) : Option (Nat × Int) := ndUp M W V (dV R) (dV R).length
def neB (S : List (ByteArray × Int)) (M : List (List Int)) (W : List Int) (R : List RV) (V : List Int) : Bool := ndG S M W R V && (ndO M W R V).isSome
theorem nd_no1 {S : List (ByteArray × Int)} {M : List (List Int)} {W : List Int} {R : List RV} {V : List Int} (h : cmB S M W V = false) : neB S M W R V = false := by unfold neB ndG; rw [h]; rfl
theorem nd_no2 {S : List (ByteArray × Int)} {M : List (List Int)} {W : List Int} {R : List RV} {V : List Int} (h : dokB S R = false) : neB S M W R V = false := by unfold neB ndG; rw [h, Bool.and_false]; rfl
theorem nd_yes {S : List (ByteArray × Int)} {M : List (List Int)} {W : List Int} {R : List RV} {V : List Int} (h1 : cmB S M W V = true) (h2 : dokB S R = true) : neB S M W R V = (ndO M W R V).isSome := by unfold neB ndG; rw [h1, h2]; rfl
set_option maxHeartbeats 2000000 in
theorem iND_x (x y z t u : Option Addr) (c1 c2 c3 c4 c5 : Nat) (S : List (ByteArray × Int)) (Q : List PR) (W : List Int) (P : List PR) (V : List Int) (w : World) (hS : SIn w x c1 S) (hQ : EIn w y Q) (hW : IIn w z W) (hP : DIn w t P) (hV : IIn w u V) :
    Calls Try.prog 73 #[.slice x S.length c1, .slice y Q.length c2, .slice z W.length c3, .slice t P.length c4, .slice u V.length c5] w fun e w' => e = .returned (.tuple #[.int .i64 (nIf (neB S (eM Q) W (pM P) V) (ndI (ndO (eM Q) W (pM P) V))), .bool (neB S (eM Q) W (pM P) V)]) ∧ Below w.heap.size w w' := by
  have hSh := Lib.hid hS
  have hQh := Lib.hid hQ
  have hWh := Lib.hid hW
  have hPh := Lib.hid hP
  have hVh := Lib.hid hV
  have hm := hS.1
  have hel := Lib.hid (eM_len Q)
  have hpl := Lib.hid (pM_len P)
  clear hS hQ hW hP hV
  go_enter Try.func73, Try.ntmps73
  go_wp2_with fail
  refine (canBeMended_any _ _ _ _ _ _ _ _ S Q W V _ (hSh.out.below (by exact (by repeat (first | exact Below.refl _ _ | assumption | refine Below.drew ?_ | refine below_drewN ?_ _ | refine Below.alloc' ?_ _ | (refine Below.setCell ?_ (by first | omega | (simp; done) | (simp; omega) | exact Below.size (by assumption) | exact Nat.le_trans (Below.size (by assumption)) (by simp)) _) | (refine Below.via' ?_ (by assumption)) | (refine Below.alloc ?_ (by first | omega | (simp; done) | (simp; omega) | exact Below.size (by assumption) | exact Nat.le_trans (Below.size (by assumption)) (by simp)) _) | (refine Below.via ?_ (by assumption) (by first | omega | (simp; done) | (simp; omega) | exact Below.size (by assumption) | exact Nat.le_trans (Below.size (by assumption)) (by simp))))))) (hQh.out.below (by exact (by repeat (first | exact Below.refl _ _ | assumption | refine Below.drew ?_ | refine below_drewN ?_ _ | refine Below.alloc' ?_ _ | (refine Below.setCell ?_ (by first | omega | (simp; done) | (simp; omega) | exact Below.size (by assumption) | exact Nat.le_trans (Below.size (by assumption)) (by simp)) _) | (refine Below.via' ?_ (by assumption)) | (refine Below.alloc ?_ (by first | omega | (simp; done) | (simp; omega) | exact Below.size (by assumption) | exact Nat.le_trans (Below.size (by assumption)) (by simp)) _) | (refine Below.via ?_ (by assumption) (by first | omega | (simp; done) | (simp; omega) | exact Below.size (by assumption) | exact Nat.le_trans (Below.size (by assumption)) (by simp))))))) (hWh.out.below (by exact (by repeat (first | exact Below.refl _ _ | assumption | refine Below.drew ?_ | refine below_drewN ?_ _ | refine Below.alloc' ?_ _ | (refine Below.setCell ?_ (by first | omega | (simp; done) | (simp; omega) | exact Below.size (by assumption) | exact Nat.le_trans (Below.size (by assumption)) (by simp)) _) | (refine Below.via' ?_ (by assumption)) | (refine Below.alloc ?_ (by first | omega | (simp; done) | (simp; omega) | exact Below.size (by assumption) | exact Nat.le_trans (Below.size (by assumption)) (by simp)) _) | (refine Below.via ?_ (by assumption) (by first | omega | (simp; done) | (simp; omega) | exact Below.size (by assumption) | exact Nat.le_trans (Below.size (by assumption)) (by simp))))))) (hVh.out.below (by exact (by repeat (first | exact Below.refl _ _ | assumption | refine Below.drew ?_ | refine below_drewN ?_ _ | refine Below.alloc' ?_ _ | (refine Below.setCell ?_ (by first | omega | (simp; done) | (simp; omega) | exact Below.size (by assumption) | exact Nat.le_trans (Below.size (by assumption)) (by simp)) _) | (refine Below.via' ?_ (by assumption)) | (refine Below.alloc ?_ (by first | omega | (simp; done) | (simp; omega) | exact Below.size (by assumption) | exact Nat.le_trans (Below.size (by assumption)) (by simp)) _) | (refine Below.via ?_ (by assumption) (by first | omega | (simp; done) | (simp; omega) | exact Below.size (by assumption) | exact Nat.le_trans (Below.size (by assumption)) (by simp)))))))).mono ?_
  rintro e w1 ⟨rfl, hb1⟩
  cases he : cmB S (eM Q) W V
  · have hv := Lib.hid (nd_no1 (R := pM P) he)
    go_wp2
    go_ret2
    exact retN_no hv.out (by repeat (first | exact Below.refl _ _ | assumption | refine Below.drew ?_ | refine below_drewN ?_ _ | refine Below.alloc' ?_ _ | (refine Below.setCell ?_ (by first | omega | (simp; done) | (simp; omega) | exact Below.size (by assumption) | exact Nat.le_trans (Below.size (by assumption)) (by simp)) _) | (refine Below.via' ?_ (by assumption)) | (refine Below.alloc ?_ (by first | omega | (simp; done) | (simp; omega) | exact Below.size (by assumption) | exact Nat.le_trans (Below.size (by assumption)) (by simp)) _) | (refine Below.via ?_ (by assumption) (by first | omega | (simp; done) | (simp; omega) | exact Below.size (by assumption) | exact Nat.le_trans (Below.size (by assumption)) (by simp)))))
  have hcm := Lib.hid he
  obtain ⟨k1, k2, k3⟩ := cm_get he
  obtain ⟨g1, g2, g3⟩ := el_get (sm_get k1).1
  have hsh := Lib.hid g1
  have hl40 : Q.length ≤ 40 := by have := hel.out; omega
  have hedh := Lib.hid g3
  have hwr := Lib.hid (wg_get k2).2
  have hlw := Lib.hid (wg_get k2).1
  have hlv := Lib.hid (fit_len k3)
  have hl6 := (schB_len g1).2
  clear he g1 g2 g3 k1 k2 k3
  go_wp2_with fail
  refine (areDataFor_any _ _ _ _ S P _ hsh.out hm (hSh.out.rd.below (by exact (by repeat (first | exact Below.refl _ _ | assumption | refine Below.drew ?_ | refine below_drewN ?_ _ | refine Below.alloc' ?_ _ | (refine Below.setCell ?_ (by first | omega | (simp; done) | (simp; omega) | exact Below.size (by assumption) | exact Nat.le_trans (Below.size (by assumption)) (by simp)) _) | (refine Below.via' ?_ (by assumption)) | (refine Below.alloc ?_ (by first | omega | (simp; done) | (simp; omega) | exact Below.size (by assumption) | exact Nat.le_trans (Below.size (by assumption)) (by simp)) _) | (refine Below.via ?_ (by assumption) (by first | omega | (simp; done) | (simp; omega) | exact Below.size (by assumption) | exact Nat.le_trans (Below.size (by assumption)) (by simp))))))) (hPh.out.below (by exact (by repeat (first | exact Below.refl _ _ | assumption | refine Below.drew ?_ | refine below_drewN ?_ _ | refine Below.alloc' ?_ _ | (refine Below.setCell ?_ (by first | omega | (simp; done) | (simp; omega) | exact Below.size (by assumption) | exact Nat.le_trans (Below.size (by assumption)) (by simp)) _) | (refine Below.via' ?_ (by assumption)) | (refine Below.alloc ?_ (by first | omega | (simp; done) | (simp; omega) | exact Below.size (by assumption) | exact Nat.le_trans (Below.size (by assumption)) (by simp)) _) | (refine Below.via ?_ (by assumption) (by first | omega | (simp; done) | (simp; omega) | exact Below.size (by assumption) | exact Nat.le_trans (Below.size (by assumption)) (by simp)))))))).mono ?_
  rintro e w2 ⟨rfl, hb2⟩
  cases hf : dokB S (pM P)
  · have hv := Lib.hid (nd_no2 (M := eM Q) (W := W) (V := V) hf)
    go_wp2
    go_ret2
    exact retN_no hv.out (by repeat (first | exact Below.refl _ _ | assumption | refine Below.drew ?_ | refine below_drewN ?_ _ | refine Below.alloc' ?_ _ | (refine Below.setCell ?_ (by first | omega | (simp; done) | (simp; omega) | exact Below.size (by assumption) | exact Nat.le_trans (Below.size (by assumption)) (by simp)) _) | (refine Below.via' ?_ (by assumption)) | (refine Below.alloc ?_ (by first | omega | (simp; done) | (simp; omega) | exact Below.size (by assumption) | exact Nat.le_trans (Below.size (by assumption)) (by simp)) _) | (refine Below.via ?_ (by assumption) (by first | omega | (simp; done) | (simp; omega) | exact Below.size (by assumption) | exact Nat.le_trans (Below.size (by assumption)) (by simp)))))
  have hfh := Lib.hid hf
  have hp40 : P.length ≤ 40 := by have := dokB_len hf; have := hpl.out; omega
  clear hf
  have hv := Lib.hid (nd_yes hcm.out hfh.out)
  have B2 : Below w.heap.size w w2 := (by repeat (first | exact Below.refl _ _ | assumption | refine Below.drew ?_ | refine below_drewN ?_ _ | refine Below.alloc' ?_ _ | (refine Below.setCell ?_ (by first | omega | (simp; done) | (simp; omega) | exact Below.size (by assumption) | exact Nat.le_trans (Below.size (by assumption)) (by simp)) _) | (refine Below.via' ?_ (by assumption)) | (refine Below.alloc ?_ (by first | omega | (simp; done) | (simp; omega) | exact Below.size (by assumption) | exact Nat.le_trans (Below.size (by assumption)) (by simp)) _) | (refine Below.via ?_ (by assumption) (by first | omega | (simp; done) | (simp; omega) | exact Below.size (by assumption) | exact Nat.le_trans (Below.size (by assumption)) (by simp)))))
  have hs2' := B2.size
  go_wp2
  clear hb1 hb2
  go_loopw [12, 13, 14, 32] (fun a b d c wr => ∃ i : Nat, i ≤ P.length ∧ c = .int .i64 i ∧ a = .int .i64 (ndI (ndUp (eM Q) W V (dV (pM P)) i)) ∧ b = .int .i64 (ndC (ndUp (eM Q) W V (dV (pM P)) i)) ∧ d = .bool (ndUp (eM Q) W V (dV (pM P)) i).isSome ∧ Below w.heap.size w wr) (fun _ _ _ c _ => P.length - (intOf c).toNat)
  case atStart => exact ⟨0, by omega, rfl, rfl, rfl, rfl, B2⟩
  case round =>
    obtain ⟨i, hi, rfl, rfl, rfl, rfl, hBr⟩ := hrel
    by_cases hlt : i < P.length
    · obtain ⟨bl2, off2, p, rfl, hbl2, hPp, hc1, hc2, hc3⟩ := (hPh.out.below hBr).2.2.rec hlt
      have hVp := Lib.hid ((hPh.out.2.1 p (List.mem_of_getElem? hPp)).2.2.below hBr)
      have hfp := (rokB_get (dokB_mem hfh.out (List.mem_of_getElem? (pM_at hPp)))).2.2.2.2
      have hfi := Lib.hid (fun E hE => fine_of hsh.out (hedh.out E hE) hfp)
      have hlp : Hid (p.L.length = S.length) := fit_len hfp
      have hst := Lib.hid (nd_step (M := eM Q) (W := W) (V := V) (dV_at hPp))
      have hlt' : (i : Int) < (P.length : Int) := by omega
      clear hPp hfp
      cases hh : faB (eM Q) p.L
      · skip
        go_wp2_with fail
        refine (failsAny_any _ _ _ _ Q p.L _ hfi.out (hQh.out.below (by exact (by repeat (first | exact Below.refl _ _ | assumption | refine Below.drew ?_ | refine below_drewN ?_ _ | refine Below.alloc' ?_ _ | (refine Below.setCell ?_ (by first | omega | (simp; done) | (simp; omega) | exact Below.size (by assumption) | exact Nat.le_trans (Below.size (by assumption)) (by simp)) _) | (refine Below.via' ?_ (by assumption)) | (refine Below.alloc ?_ (by first | omega | (simp; done) | (simp; omega) | exact Below.size (by assumption) | exact Nat.le_trans (Below.size (by assumption)) (by simp)) _) | (refine Below.via ?_ (by assumption) (by first | omega | (simp; done) | (simp; omega) | exact Below.size (by assumption) | exact Nat.le_trans (Below.size (by assumption)) (by simp))))))) (hVp.out.below (by exact (by repeat (first | exact Below.refl _ _ | assumption | refine Below.drew ?_ | refine below_drewN ?_ _ | refine Below.alloc' ?_ _ | (refine Below.setCell ?_ (by first | omega | (simp; done) | (simp; omega) | exact Below.size (by assumption) | exact Nat.le_trans (Below.size (by assumption)) (by simp)) _) | (refine Below.via' ?_ (by assumption)) | (refine Below.alloc ?_ (by first | omega | (simp; done) | (simp; omega) | exact Below.size (by assumption) | exact Nat.le_trans (Below.size (by assumption)) (by simp)) _) | (refine Below.via ?_ (by assumption) (by first | omega | (simp; done) | (simp; omega) | exact Below.size (by assumption) | exact Nat.le_trans (Below.size (by assumption)) (by simp)))))))).mono ?_
        rintro e w3 ⟨rfl, hb3⟩
        rw [hh]
        replace hh := Lib.hid hh
        have hrb := Lib.hid ((RB.new wr p.a p.h p.x p.L.length p.c 140).below hb3)
        obtain ⟨-, -, hrc, hrs⟩ := hrb.out
        have hB3r : Below wr.heap.size wr w3 := (by repeat (first | exact Below.refl _ _ | assumption | refine Below.drew ?_ | refine below_drewN ?_ _ | refine Below.alloc' ?_ _ | (refine Below.setCell ?_ (by first | omega | (simp; done) | (simp; omega) | exact Below.size (by assumption) | exact Nat.le_trans (Below.size (by assumption)) (by simp)) _) | (refine Below.via' ?_ (by assumption)) | (refine Below.alloc ?_ (by first | omega | (simp; done) | (simp; omega) | exact Below.size (by assumption) | exact Nat.le_trans (Below.size (by assumption)) (by simp)) _) | (refine Below.via ?_ (by assumption) (by first | omega | (simp; done) | (simp; omega) | exact Below.size (by assumption) | exact Nat.le_trans (Below.size (by assumption)) (by simp)))))
        have hVp3 := Lib.hid (hVp.out.below hB3r)
        have hB3 : Below w.heap.size w w3 := hBr.trans (hB3r.mono hBr.size)
        clear hB3r hb3
        go_wp2_with fail
        refine (differing_any _ _ _ _ V p.L _ (by rw [hlv.out, hlp.out]) (by rw [hlv.out]; omega) (hVh.out.below (by exact (by repeat (first | exact Below.refl _ _ | assumption | refine Below.drew ?_ | refine below_drewN ?_ _ | refine Below.alloc' ?_ _ | (refine Below.setCell ?_ (by first | omega | (simp; done) | (simp; omega) | exact Below.size (by assumption) | exact Nat.le_trans (Below.size (by assumption)) (by simp)) _) | (refine Below.via' ?_ (by assumption)) | (refine Below.alloc ?_ (by first | omega | (simp; done) | (simp; omega) | exact Below.size (by assumption) | exact Nat.le_trans (Below.size (by assumption)) (by simp)) _) | (refine Below.via ?_ (by assumption) (by first | omega | (simp; done) | (simp; omega) | exact Below.size (by assumption) | exact Nat.le_trans (Below.size (by assumption)) (by simp))))))) hVp3.out).mono ?_
        rintro e w4 ⟨u4, rfl, ho4, hb4⟩
        obtain ⟨x4, n4, rfl, -, -⟩ := (OwR.of ho4).form
        have hdl := dvL_len V p.L
        have hin4 := Lib.hid (show IIn w4 x4 (dvL V p.L) from pk_iinW (by rw [hlv.out]; omega) (Rd.of_own ho4))
        have hB4 : Below w.heap.size w w4 := (by repeat (first | exact Below.refl _ _ | assumption | refine Below.drew ?_ | refine below_drewN ?_ _ | refine Below.alloc' ?_ _ | (refine Below.setCell ?_ (by first | omega | (simp; done) | (simp; omega) | exact Below.size (by assumption) | exact Nat.le_trans (Below.size (by assumption)) (by simp)) _) | (refine Below.via' ?_ (by assumption)) | (refine Below.alloc ?_ (by first | omega | (simp; done) | (simp; omega) | exact Below.size (by assumption) | exact Nat.le_trans (Below.size (by assumption)) (by simp)) _) | (refine Below.via ?_ (by assumption) (by first | omega | (simp; done) | (simp; omega) | exact Below.size (by assumption) | exact Nat.le_trans (Below.size (by assumption)) (by simp)))))
        clear ho4
        go_wp2_with fail
        refine (sumWeights_any _ _ _ _ W (dvL V p.L) _ hwr.out (by rw [hlv.out] at hdl; omega) (fun v hv => by have := dv_in v hv; rw [hlv.out] at this; rw [hlw.out]; exact this) (hWh.out.below (by exact (by repeat (first | exact Below.refl _ _ | assumption | refine Below.drew ?_ | refine below_drewN ?_ _ | refine Below.alloc' ?_ _ | (refine Below.setCell ?_ (by first | omega | (simp; done) | (simp; omega) | exact Below.size (by assumption) | exact Nat.le_trans (Below.size (by assumption)) (by simp)) _) | (refine Below.via' ?_ (by assumption)) | (refine Below.alloc ?_ (by first | omega | (simp; done) | (simp; omega) | exact Below.size (by assumption) | exact Nat.le_trans (Below.size (by assumption)) (by simp)) _) | (refine Below.via ?_ (by assumption) (by first | omega | (simp; done) | (simp; omega) | exact Below.size (by assumption) | exact Nat.le_trans (Below.size (by assumption)) (by simp))))))) hin4.out).mono ?_
        rintro e w5 ⟨rfl, hb5⟩
        have hB5 : Below w.heap.size w w5 := (by repeat (first | exact Below.refl _ _ | assumption | refine Below.drew ?_ | refine below_drewN ?_ _ | refine Below.alloc' ?_ _ | (refine Below.setCell ?_ (by first | omega | (simp; done) | (simp; omega) | exact Below.size (by assumption) | exact Nat.le_trans (Below.size (by assumption)) (by simp)) _) | (refine Below.via' ?_ (by assumption)) | (refine Below.alloc ?_ (by first | omega | (simp; done) | (simp; omega) | exact Below.size (by assumption) | exact Nat.le_trans (Below.size (by assumption)) (by simp)) _) | (refine Below.via ?_ (by assumption) (by first | omega | (simp; done) | (simp; omega) | exact Below.size (by assumption) | exact Nat.le_trans (Below.size (by assumption)) (by simp)))))
        cases ho : ndUp (eM Q) W V (dV (pM P)) i with
        | none =>
          have hnx : Hid (ndUp (eM Q) W V (dV (pM P)) (i + 1) = some (i, swZ W (dvL V p.L))) := by unfold Hid; rw [hst.out, ho, ndS_first hh.out]
          replace ho := Lib.hid ho
          dsimp only [ndI, ndC, Option.isSome]
          go_wp2
          first
            | (go_roundw
               case rel => exact ⟨i + 1, by omega, by go_num, by rw [hnx.out]; rfl, by rw [hnx.out]; rfl, by rw [hnx.out]; rfl, (by repeat (first | exact Below.refl _ _ | assumption | refine Below.drew ?_ | refine below_drewN ?_ _ | refine Below.alloc' ?_ _ | (refine Below.setCell ?_ (by first | omega | (simp; done) | (simp; omega) | exact Below.size (by assumption) | exact Nat.le_trans (Below.size (by assumption)) (by simp)) _) | (refine Below.via' ?_ (by assumption)) | (refine Below.alloc ?_ (by first | omega | (simp; done) | (simp; omega) | exact Below.size (by assumption) | exact Nat.le_trans (Below.size (by assumption)) (by simp)) _) | (refine Below.via ?_ (by assumption) (by first | omega | (simp; done) | (simp; omega) | exact Below.size (by assumption) | exact Nat.le_trans (Below.size (by assumption)) (by simp)))))⟩
               case measure => simp [intOf]; omega)
            | (go_region
               all_goals
                 go_wp2
                 go_roundw
                 case rel => exact ⟨i + 1, by omega, by go_num, by rw [hnx.out]; rfl, by rw [hnx.out]; rfl, by rw [hnx.out]; rfl, (by repeat (first | exact Below.refl _ _ | assumption | refine Below.drew ?_ | refine below_drewN ?_ _ | refine Below.alloc' ?_ _ | (refine Below.setCell ?_ (by first | omega | (simp; done) | (simp; omega) | exact Below.size (by assumption) | exact Nat.le_trans (Below.size (by assumption)) (by simp)) _) | (refine Below.via' ?_ (by assumption)) | (refine Below.alloc ?_ (by first | omega | (simp; done) | (simp; omega) | exact Below.size (by assumption) | exact Nat.le_trans (Below.size (by assumption)) (by simp)) _) | (refine Below.via ?_ (by assumption) (by first | omega | (simp; done) | (simp; omega) | exact Below.size (by assumption) | exact Nat.le_trans (Below.size (by assumption)) (by simp)))))⟩
                 case measure => simp [intOf]; omega)
        | some q =>
          obtain ⟨j, b⟩ := q
          have hjl := nd_lt _ _ _ _ _ j b ho
          by_cases hk : swZ W (dvL V p.L) < b
          · have hnx : Hid (ndUp (eM Q) W V (dV (pM P)) (i + 1) = some (i, swZ W (dvL V p.L))) := by unfold Hid; rw [hst.out, ho, ndS_less hh.out hk]
            replace ho := Lib.hid ho
            dsimp only [ndI, ndC, Option.isSome]
            go_wp2
            first
              | (go_roundw
                 case rel => exact ⟨i + 1, by omega, by go_num, by rw [hnx.out]; rfl, by rw [hnx.out]; rfl, by rw [hnx.out]; rfl, (by repeat (first | exact Below.refl _ _ | assumption | refine Below.drew ?_ | refine below_drewN ?_ _ | refine Below.alloc' ?_ _ | (refine Below.setCell ?_ (by first | omega | (simp; done) | (simp; omega) | exact Below.size (by assumption) | exact Nat.le_trans (Below.size (by assumption)) (by simp)) _) | (refine Below.via' ?_ (by assumption)) | (refine Below.alloc ?_ (by first | omega | (simp; done) | (simp; omega) | exact Below.size (by assumption) | exact Nat.le_trans (Below.size (by assumption)) (by simp)) _) | (refine Below.via ?_ (by assumption) (by first | omega | (simp; done) | (simp; omega) | exact Below.size (by assumption) | exact Nat.le_trans (Below.size (by assumption)) (by simp)))))⟩
                 case measure => simp [intOf]; omega)
              | (go_region
                 all_goals
                   go_wp2
                   go_roundw
                   case rel => exact ⟨i + 1, by omega, by go_num, by rw [hnx.out]; rfl, by rw [hnx.out]; rfl, by rw [hnx.out]; rfl, (by repeat (first | exact Below.refl _ _ | assumption | refine Below.drew ?_ | refine below_drewN ?_ _ | refine Below.alloc' ?_ _ | (refine Below.setCell ?_ (by first | omega | (simp; done) | (simp; omega) | exact Below.size (by assumption) | exact Nat.le_trans (Below.size (by assumption)) (by simp)) _) | (refine Below.via' ?_ (by assumption)) | (refine Below.alloc ?_ (by first | omega | (simp; done) | (simp; omega) | exact Below.size (by assumption) | exact Nat.le_trans (Below.size (by assumption)) (by simp)) _) | (refine Below.via ?_ (by assumption) (by first | omega | (simp; done) | (simp; omega) | exact Below.size (by assumption) | exact Nat.le_trans (Below.size (by assumption)) (by simp)))))⟩
                   case measure => simp [intOf]; omega)
          · have hnx : Hid (ndUp (eM Q) W V (dV (pM P)) (i + 1) = some (j, b)) := by unfold Hid; rw [hst.out, ho, ndS_keep hh.out hk]
            replace ho := Lib.hid ho
            dsimp only [ndI, ndC, Option.isSome]
            go_wp2
            first
              | (go_roundw
                 case rel => exact ⟨i + 1, by omega, by go_num, by rw [hnx.out]; rfl, by rw [hnx.out]; rfl, by rw [hnx.out]; rfl, (by repeat (first | exact Below.refl _ _ | assumption | refine Below.drew ?_ | refine below_drewN ?_ _ | refine Below.alloc' ?_ _ | (refine Below.setCell ?_ (by first | omega | (simp; done) | (simp; omega) | exact Below.size (by assumption) | exact Nat.le_trans (Below.size (by assumption)) (by simp)) _) | (refine Below.via' ?_ (by assumption)) | (refine Below.alloc ?_ (by first | omega | (simp; done) | (simp; omega) | exact Below.size (by assumption) | exact Nat.le_trans (Below.size (by assumption)) (by simp)) _) | (refine Below.via ?_ (by assumption) (by first | omega | (simp; done) | (simp; omega) | exact Below.size (by assumption) | exact Nat.le_trans (Below.size (by assumption)) (by simp)))))⟩
                 case measure => simp [intOf]; omega)
              | (go_region
                 all_goals
                   go_wp2
                   go_roundw
                   case rel => exact ⟨i + 1, by omega, by go_num, by rw [hnx.out]; rfl, by rw [hnx.out]; rfl, by rw [hnx.out]; rfl, (by repeat (first | exact Below.refl _ _ | assumption | refine Below.drew ?_ | refine below_drewN ?_ _ | refine Below.alloc' ?_ _ | (refine Below.setCell ?_ (by first | omega | (simp; done) | (simp; omega) | exact Below.size (by assumption) | exact Nat.le_trans (Below.size (by assumption)) (by simp)) _) | (refine Below.via' ?_ (by assumption)) | (refine Below.alloc ?_ (by first | omega | (simp; done) | (simp; omega) | exact Below.size (by assumption) | exact Nat.le_trans (Below.size (by assumption)) (by simp)) _) | (refine Below.via ?_ (by assumption) (by first | omega | (simp; done) | (simp; omega) | exact Below.size (by assumption) | exact Nat.le_trans (Below.size (by assumption)) (by simp)))))⟩
                   case measure => simp [intOf]; omega)
      · have hnx : Hid (ndUp (eM Q) W V (dV (pM P)) (i + 1) = ndUp (eM Q) W V (dV (pM P)) i) := by unfold Hid; rw [hst.out, ndS_fails hh]
        go_wp2_with fail
        refine (failsAny_any _ _ _ _ Q p.L _ hfi.out (hQh.out.below (by exact (by repeat (first | exact Below.refl _ _ | assumption | refine Below.drew ?_ | refine below_drewN ?_ _ | refine Below.alloc' ?_ _ | (refine Below.setCell ?_ (by first | omega | (simp; done) | (simp; omega) | exact Below.size (by assumption) | exact Nat.le_trans (Below.size (by assumption)) (by simp)) _) | (refine Below.via' ?_ (by assumption)) | (refine Below.alloc ?_ (by first | omega | (simp; done) | (simp; omega) | exact Below.size (by assumption) | exact Nat.le_trans (Below.size (by assumption)) (by simp)) _) | (refine Below.via ?_ (by assumption) (by first | omega | (simp; done) | (simp; omega) | exact Below.size (by assumption) | exact Nat.le_trans (Below.size (by assumption)) (by simp))))))) (hVp.out.below (by exact (by repeat (first | exact Below.refl _ _ | assumption | refine Below.drew ?_ | refine below_drewN ?_ _ | refine Below.alloc' ?_ _ | (refine Below.setCell ?_ (by first | omega | (simp; done) | (simp; omega) | exact Below.size (by assumption) | exact Nat.le_trans (Below.size (by assumption)) (by simp)) _) | (refine Below.via' ?_ (by assumption)) | (refine Below.alloc ?_ (by first | omega | (simp; done) | (simp; omega) | exact Below.size (by assumption) | exact Nat.le_trans (Below.size (by assumption)) (by simp)) _) | (refine Below.via ?_ (by assumption) (by first | omega | (simp; done) | (simp; omega) | exact Below.size (by assumption) | exact Nat.le_trans (Below.size (by assumption)) (by simp)))))))).mono ?_
        rintro e w3 ⟨rfl, hb3⟩
        rw [hh]
        go_wp2
        go_roundw
        case rel => exact ⟨i + 1, by omega, by go_num, by rw [hnx.out], by rw [hnx.out], by rw [hnx.out], (by repeat (first | exact Below.refl _ _ | assumption | refine Below.drew ?_ | refine below_drewN ?_ _ | refine Below.alloc' ?_ _ | (refine Below.setCell ?_ (by first | omega | (simp; done) | (simp; omega) | exact Below.size (by assumption) | exact Nat.le_trans (Below.size (by assumption)) (by simp)) _) | (refine Below.via' ?_ (by assumption)) | (refine Below.alloc ?_ (by first | omega | (simp; done) | (simp; omega) | exact Below.size (by assumption) | exact Nat.le_trans (Below.size (by assumption)) (by simp)) _) | (refine Below.via ?_ (by assumption) (by first | omega | (simp; done) | (simp; omega) | exact Below.size (by assumption) | exact Nat.le_trans (Below.size (by assumption)) (by simp)))))⟩
        case measure => simp [intOf]; omega
    · have hij : i = P.length := by omega
      subst hij
      have hfin := Lib.hid (show ndUp (eM Q) W V (dV (pM P)) P.length = ndO (eM Q) W (pM P) V by unfold ndO; rw [dV_len, hpl.out])
      have hv2 : Hid ((ndUp (eM Q) W V (dV (pM P)) P.length).isSome = neB S (eM Q) W (pM P) V) := by unfold Hid; rw [hv.out, hfin.out]
      have hn2 : Hid (ndI (ndUp (eM Q) W V (dV (pM P)) P.length) = nIf (neB S (eM Q) W (pM P) V) (ndI (ndO (eM Q) W (pM P) V))) := by
        unfold Hid
        rw [hfin.out, hv.out]
        unfold nIf
        cases ndO (eM Q) W (pM P) V with
        | none => rfl
        | some q => rfl
      go_wp2
      go_ret2
      exact retN_at hv2.out hn2.out (by repeat (first | exact Below.refl _ _ | assumption | refine Below.drew ?_ | refine below_drewN ?_ _ | refine Below.alloc' ?_ _ | (refine Below.setCell ?_ (by first | omega | (simp; done) | (simp; omega) | exact Below.size (by assumption) | exact Nat.le_trans (Below.size (by assumption)) (by simp)) _) | (refine Below.via' ?_ (by assumption)) | (refine Below.alloc ?_ (by first | omega | (simp; done) | (simp; omega) | exact Below.size (by assumption) | exact Nat.le_trans (Below.size (by assumption)) (by simp)) _) | (refine Below.via ?_ (by assumption) (by first | omega | (simp; done) | (simp; omega) | exact Below.size (by assumption) | exact Nat.le_trans (Below.size (by assumption)) (by simp)))))
set_option maxHeartbeats 2000000 in
theorem sND_x (x y z t u : Option Addr) (c1 c2 c3 c4 c5 : Nat) (S : List (ByteArray × Int)) (Q : List PR) (W : List Int) (P : List PR) (V : List Int) (w : World) (hS : SIn w x c1 S) (hQ : EIn w y Q) (hW : IIn w z W) (hP : DIn w t P) (hV : IIn w u V) :
    Calls Try.prog 72 #[.slice x S.length c1, .slice y Q.length c2, .slice z W.length c3, .slice t P.length c4, .slice u V.length c5] w fun e w' => e = .returned (.tuple #[.int .i64 (nIf (neB S (eM Q) W (pM P) V) (ndI (ndO (eM Q) W (pM P) V))), .bool (neB S (eM Q) W (pM P) V)]) ∧ Below w.heap.size w w' := by
  have hSh := Lib.hid hS
  have hQh := Lib.hid hQ
  have hWh := Lib.hid hW
  have hPh := Lib.hid hP
  have hVh := Lib.hid hV
  have hm := hS.1
  have hel := Lib.hid (eM_len Q)
  have hpl := Lib.hid (pM_len P)
  clear hS hQ hW hP hV
  go_enter Try.func72, Try.ntmps72
  go_wp2_with fail
  refine (iInput_any _ _ _ _ _ _ _ _ S Q W V _ (hSh.out.below (by exact (by repeat (first | exact Below.refl _ _ | assumption | refine Below.drew ?_ | refine below_drewN ?_ _ | refine Below.alloc' ?_ _ | (refine Below.setCell ?_ (by first | omega | (simp; done) | (simp; omega) | exact Below.size (by assumption) | exact Nat.le_trans (Below.size (by assumption)) (by simp)) _) | (refine Below.via' ?_ (by assumption)) | (refine Below.alloc ?_ (by first | omega | (simp; done) | (simp; omega) | exact Below.size (by assumption) | exact Nat.le_trans (Below.size (by assumption)) (by simp)) _) | (refine Below.via ?_ (by assumption) (by first | omega | (simp; done) | (simp; omega) | exact Below.size (by assumption) | exact Nat.le_trans (Below.size (by assumption)) (by simp))))))) (hQh.out.below (by exact (by repeat (first | exact Below.refl _ _ | assumption | refine Below.drew ?_ | refine below_drewN ?_ _ | refine Below.alloc' ?_ _ | (refine Below.setCell ?_ (by first | omega | (simp; done) | (simp; omega) | exact Below.size (by assumption) | exact Nat.le_trans (Below.size (by assumption)) (by simp)) _) | (refine Below.via' ?_ (by assumption)) | (refine Below.alloc ?_ (by first | omega | (simp; done) | (simp; omega) | exact Below.size (by assumption) | exact Nat.le_trans (Below.size (by assumption)) (by simp)) _) | (refine Below.via ?_ (by assumption) (by first | omega | (simp; done) | (simp; omega) | exact Below.size (by assumption) | exact Nat.le_trans (Below.size (by assumption)) (by simp))))))) (hWh.out.below (by exact (by repeat (first | exact Below.refl _ _ | assumption | refine Below.drew ?_ | refine below_drewN ?_ _ | refine Below.alloc' ?_ _ | (refine Below.setCell ?_ (by first | omega | (simp; done) | (simp; omega) | exact Below.size (by assumption) | exact Nat.le_trans (Below.size (by assumption)) (by simp)) _) | (refine Below.via' ?_ (by assumption)) | (refine Below.alloc ?_ (by first | omega | (simp; done) | (simp; omega) | exact Below.size (by assumption) | exact Nat.le_trans (Below.size (by assumption)) (by simp)) _) | (refine Below.via ?_ (by assumption) (by first | omega | (simp; done) | (simp; omega) | exact Below.size (by assumption) | exact Nat.le_trans (Below.size (by assumption)) (by simp))))))) (hVh.out.below (by exact (by repeat (first | exact Below.refl _ _ | assumption | refine Below.drew ?_ | refine below_drewN ?_ _ | refine Below.alloc' ?_ _ | (refine Below.setCell ?_ (by first | omega | (simp; done) | (simp; omega) | exact Below.size (by assumption) | exact Nat.le_trans (Below.size (by assumption)) (by simp)) _) | (refine Below.via' ?_ (by assumption)) | (refine Below.alloc ?_ (by first | omega | (simp; done) | (simp; omega) | exact Below.size (by assumption) | exact Nat.le_trans (Below.size (by assumption)) (by simp)) _) | (refine Below.via ?_ (by assumption) (by first | omega | (simp; done) | (simp; omega) | exact Below.size (by assumption) | exact Nat.le_trans (Below.size (by assumption)) (by simp)))))))).mono ?_
  rintro e w1 ⟨rfl, hb1⟩
  cases he : cmB S (eM Q) W V
  · have hv := Lib.hid (nd_no1 (R := pM P) he)
    go_wp2
    go_ret2
    exact retN_no hv.out (by repeat (first | exact Below.refl _ _ | assumption | refine Below.drew ?_ | refine below_drewN ?_ _ | refine Below.alloc' ?_ _ | (refine Below.setCell ?_ (by first | omega | (simp; done) | (simp; omega) | exact Below.size (by assumption) | exact Nat.le_trans (Below.size (by assumption)) (by simp)) _) | (refine Below.via' ?_ (by assumption)) | (refine Below.alloc ?_ (by first | omega | (simp; done) | (simp; omega) | exact Below.size (by assumption) | exact Nat.le_trans (Below.size (by assumption)) (by simp)) _) | (refine Below.via ?_ (by assumption) (by first | omega | (simp; done) | (simp; omega) | exact Below.size (by assumption) | exact Nat.le_trans (Below.size (by assumption)) (by simp)))))
  have hcm := Lib.hid he
  obtain ⟨k1, k2, k3⟩ := cm_get he
  obtain ⟨g1, g2, g3⟩ := el_get (sm_get k1).1
  have hsh := Lib.hid g1
  have hl40 : Q.length ≤ 40 := by have := hel.out; omega
  have hedh := Lib.hid g3
  have hwr := Lib.hid (wg_get k2).2
  have hlw := Lib.hid (wg_get k2).1
  have hlv := Lib.hid (fit_len k3)
  have hl6 := (schB_len g1).2
  clear he g1 g2 g3 k1 k2 k3
  go_wp2_with fail
  refine (dGood_any _ _ _ _ S P _ hsh.out hm (hSh.out.rd.below (by exact (by repeat (first | exact Below.refl _ _ | assumption | refine Below.drew ?_ | refine below_drewN ?_ _ | refine Below.alloc' ?_ _ | (refine Below.setCell ?_ (by first | omega | (simp; done) | (simp; omega) | exact Below.size (by assumption) | exact Nat.le_trans (Below.size (by assumption)) (by simp)) _) | (refine Below.via' ?_ (by assumption)) | (refine Below.alloc ?_ (by first | omega | (simp; done) | (simp; omega) | exact Below.size (by assumption) | exact Nat.le_trans (Below.size (by assumption)) (by simp)) _) | (refine Below.via ?_ (by assumption) (by first | omega | (simp; done) | (simp; omega) | exact Below.size (by assumption) | exact Nat.le_trans (Below.size (by assumption)) (by simp))))))) (hPh.out.below (by exact (by repeat (first | exact Below.refl _ _ | assumption | refine Below.drew ?_ | refine below_drewN ?_ _ | refine Below.alloc' ?_ _ | (refine Below.setCell ?_ (by first | omega | (simp; done) | (simp; omega) | exact Below.size (by assumption) | exact Nat.le_trans (Below.size (by assumption)) (by simp)) _) | (refine Below.via' ?_ (by assumption)) | (refine Below.alloc ?_ (by first | omega | (simp; done) | (simp; omega) | exact Below.size (by assumption) | exact Nat.le_trans (Below.size (by assumption)) (by simp)) _) | (refine Below.via ?_ (by assumption) (by first | omega | (simp; done) | (simp; omega) | exact Below.size (by assumption) | exact Nat.le_trans (Below.size (by assumption)) (by simp)))))))).mono ?_
  rintro e w2 ⟨rfl, hb2⟩
  cases hf : dokB S (pM P)
  · have hv := Lib.hid (nd_no2 (M := eM Q) (W := W) (V := V) hf)
    go_wp2
    go_ret2
    exact retN_no hv.out (by repeat (first | exact Below.refl _ _ | assumption | refine Below.drew ?_ | refine below_drewN ?_ _ | refine Below.alloc' ?_ _ | (refine Below.setCell ?_ (by first | omega | (simp; done) | (simp; omega) | exact Below.size (by assumption) | exact Nat.le_trans (Below.size (by assumption)) (by simp)) _) | (refine Below.via' ?_ (by assumption)) | (refine Below.alloc ?_ (by first | omega | (simp; done) | (simp; omega) | exact Below.size (by assumption) | exact Nat.le_trans (Below.size (by assumption)) (by simp)) _) | (refine Below.via ?_ (by assumption) (by first | omega | (simp; done) | (simp; omega) | exact Below.size (by assumption) | exact Nat.le_trans (Below.size (by assumption)) (by simp)))))
  have hfh := Lib.hid hf
  have hp40 : P.length ≤ 40 := by have := dokB_len hf; have := hpl.out; omega
  clear hf
  have hv := Lib.hid (nd_yes hcm.out hfh.out)
  have B2 : Below w.heap.size w w2 := (by repeat (first | exact Below.refl _ _ | assumption | refine Below.drew ?_ | refine below_drewN ?_ _ | refine Below.alloc' ?_ _ | (refine Below.setCell ?_ (by first | omega | (simp; done) | (simp; omega) | exact Below.size (by assumption) | exact Nat.le_trans (Below.size (by assumption)) (by simp)) _) | (refine Below.via' ?_ (by assumption)) | (refine Below.alloc ?_ (by first | omega | (simp; done) | (simp; omega) | exact Below.size (by assumption) | exact Nat.le_trans (Below.size (by assumption)) (by simp)) _) | (refine Below.via ?_ (by assumption) (by first | omega | (simp; done) | (simp; omega) | exact Below.size (by assumption) | exact Nat.le_trans (Below.size (by assumption)) (by simp)))))
  have hs2' := B2.size
  go_wp2
  clear hb1 hb2
  go_loopw [12, 13, 31] (fun a b c wr => ∃ i : Nat, i ≤ P.length ∧ c = .int .i64 i ∧ a = .int .i64 (ndJ (ndUp (eM Q) W V (dV (pM P)) i)) ∧ b = .int .i64 (ndC (ndUp (eM Q) W V (dV (pM P)) i)) ∧ Below w.heap.size w wr) (fun _ _ c _ => P.length - (intOf c).toNat)
  case atStart => exact ⟨0, by omega, rfl, rfl, rfl, B2⟩
  case round =>
    obtain ⟨i, hi, rfl, rfl, rfl, hBr⟩ := hrel
    by_cases hlt : i < P.length
    · obtain ⟨bl2, off2, p, rfl, hbl2, hPp, hc1, hc2, hc3⟩ := (hPh.out.below hBr).2.2.rec hlt
      have hVp := Lib.hid ((hPh.out.2.1 p (List.mem_of_getElem? hPp)).2.2.below hBr)
      have hfp := (rokB_get (dokB_mem hfh.out (List.mem_of_getElem? (pM_at hPp)))).2.2.2.2
      have hfi := Lib.hid (fun E hE => fine_of hsh.out (hedh.out E hE) hfp)
      have hlp : Hid (p.L.length = S.length) := fit_len hfp
      have hst := Lib.hid (nd_step (M := eM Q) (W := W) (V := V) (dV_at hPp))
      have hlt' : (i : Int) < (P.length : Int) := by omega
      clear hPp hfp
      have hfn := fe_none (M := eM Q) (V := p.L)
      cases hh : faB (eM Q) p.L
      · have hz0 := hfn.2 hh
        have hz : ¬ (0 : Int) < ((feL (eM Q) p.L).length : Int) := by omega
        clear hfn hz0
        go_wp2_with fail
        refine (eFailed_any _ _ _ _ Q p.L _ hl40 hfi.out (hQh.out.below (by exact (by repeat (first | exact Below.refl _ _ | assumption | refine Below.drew ?_ | refine below_drewN ?_ _ | refine Below.alloc' ?_ _ | (refine Below.setCell ?_ (by first | omega | (simp; done) | (simp; omega) | exact Below.size (by assumption) | exact Nat.le_trans (Below.size (by assumption)) (by simp)) _) | (refine Below.via' ?_ (by assumption)) | (refine Below.alloc ?_ (by first | omega | (simp; done) | (simp; omega) | exact Below.size (by assumption) | exact Nat.le_trans (Below.size (by assumption)) (by simp)) _) | (refine Below.via ?_ (by assumption) (by first | omega | (simp; done) | (simp; omega) | exact Below.size (by assumption) | exact Nat.le_trans (Below.size (by assumption)) (by simp))))))) (hVp.out.below (by exact (by repeat (first | exact Below.refl _ _ | assumption | refine Below.drew ?_ | refine below_drewN ?_ _ | refine Below.alloc' ?_ _ | (refine Below.setCell ?_ (by first | omega | (simp; done) | (simp; omega) | exact Below.size (by assumption) | exact Nat.le_trans (Below.size (by assumption)) (by simp)) _) | (refine Below.via' ?_ (by assumption)) | (refine Below.alloc ?_ (by first | omega | (simp; done) | (simp; omega) | exact Below.size (by assumption) | exact Nat.le_trans (Below.size (by assumption)) (by simp)) _) | (refine Below.via ?_ (by assumption) (by first | omega | (simp; done) | (simp; omega) | exact Below.size (by assumption) | exact Nat.le_trans (Below.size (by assumption)) (by simp)))))))).mono ?_
        rintro e w3 ⟨u3, rfl, ho3, hb3⟩
        obtain ⟨x3, n3, rfl, -, -⟩ := (OwR.of ho3).form
        clear ho3
        replace hh := Lib.hid hh
        have hrb := Lib.hid ((RB.new wr p.a p.h p.x p.L.length p.c 140).below hb3)
        obtain ⟨-, -, hrc, hrs⟩ := hrb.out
        have hB3r : Below wr.heap.size wr w3 := (by repeat (first | exact Below.refl _ _ | assumption | refine Below.drew ?_ | refine below_drewN ?_ _ | refine Below.alloc' ?_ _ | (refine Below.setCell ?_ (by first | omega | (simp; done) | (simp; omega) | exact Below.size (by assumption) | exact Nat.le_trans (Below.size (by assumption)) (by simp)) _) | (refine Below.via' ?_ (by assumption)) | (refine Below.alloc ?_ (by first | omega | (simp; done) | (simp; omega) | exact Below.size (by assumption) | exact Nat.le_trans (Below.size (by assumption)) (by simp)) _) | (refine Below.via ?_ (by assumption) (by first | omega | (simp; done) | (simp; omega) | exact Below.size (by assumption) | exact Nat.le_trans (Below.size (by assumption)) (by simp)))))
        have hVp3 := Lib.hid (hVp.out.below hB3r)
        have hB3 : Below w.heap.size w w3 := hBr.trans (hB3r.mono hBr.size)
        clear hB3r hb3
        go_wp2_with fail
        refine (iChanged_any _ _ _ _ _ _ W p.L V _ hwr.out (by rw [hlv.out, hlp.out]) (by rw [hlp.out, hlw.out]) (by rw [hlp.out]; omega) (hWh.out.below (by exact (by repeat (first | exact Below.refl _ _ | assumption | refine Below.drew ?_ | refine below_drewN ?_ _ | refine Below.alloc' ?_ _ | (refine Below.setCell ?_ (by first | omega | (simp; done) | (simp; omega) | exact Below.size (by assumption) | exact Nat.le_trans (Below.size (by assumption)) (by simp)) _) | (refine Below.via' ?_ (by assumption)) | (refine Below.alloc ?_ (by first | omega | (simp; done) | (simp; omega) | exact Below.size (by assumption) | exact Nat.le_trans (Below.size (by assumption)) (by simp)) _) | (refine Below.via ?_ (by assumption) (by first | omega | (simp; done) | (simp; omega) | exact Below.size (by assumption) | exact Nat.le_trans (Below.size (by assumption)) (by simp))))))) hVp3.out (hVh.out.below (by exact (by repeat (first | exact Below.refl _ _ | assumption | refine Below.drew ?_ | refine below_drewN ?_ _ | refine Below.alloc' ?_ _ | (refine Below.setCell ?_ (by first | omega | (simp; done) | (simp; omega) | exact Below.size (by assumption) | exact Nat.le_trans (Below.size (by assumption)) (by simp)) _) | (refine Below.via' ?_ (by assumption)) | (refine Below.alloc ?_ (by first | omega | (simp; done) | (simp; omega) | exact Below.size (by assumption) | exact Nat.le_trans (Below.size (by assumption)) (by simp)) _) | (refine Below.via ?_ (by assumption) (by first | omega | (simp; done) | (simp; omega) | exact Below.size (by assumption) | exact Nat.le_trans (Below.size (by assumption)) (by simp)))))))).mono ?_
        rintro e w5 ⟨rfl, hb5⟩
        have hsy := Lib.hid (dvL_symm (A := p.L) (B := V) (by rw [hlv.out, hlp.out]))
        rw [hsy.out]
        have hB5 : Below w.heap.size w w5 := (by repeat (first | exact Below.refl _ _ | assumption | refine Below.drew ?_ | refine below_drewN ?_ _ | refine Below.alloc' ?_ _ | (refine Below.setCell ?_ (by first | omega | (simp; done) | (simp; omega) | exact Below.size (by assumption) | exact Nat.le_trans (Below.size (by assumption)) (by simp)) _) | (refine Below.via' ?_ (by assumption)) | (refine Below.alloc ?_ (by first | omega | (simp; done) | (simp; omega) | exact Below.size (by assumption) | exact Nat.le_trans (Below.size (by assumption)) (by simp)) _) | (refine Below.via ?_ (by assumption) (by first | omega | (simp; done) | (simp; omega) | exact Below.size (by assumption) | exact Nat.le_trans (Below.size (by assumption)) (by simp)))))
        cases ho : ndUp (eM Q) W V (dV (pM P)) i with
        | none =>
          have hnx : Hid (ndUp (eM Q) W V (dV (pM P)) (i + 1) = some (i, swZ W (dvL V p.L))) := by unfold Hid; rw [hst.out, ho, ndS_first hh.out]
          replace ho := Lib.hid ho
          dsimp only [ndJ, ndC, Option.isSome]
          go_wp2
          first
            | (go_roundw
               case rel => exact ⟨i + 1, by omega, by go_num, by rw [hnx.out]; rfl, by rw [hnx.out]; rfl, (by repeat (first | exact Below.refl _ _ | assumption | refine Below.drew ?_ | refine below_drewN ?_ _ | refine Below.alloc' ?_ _ | (refine Below.setCell ?_ (by first | omega | (simp; done) | (simp; omega) | exact Below.size (by assumption) | exact Nat.le_trans (Below.size (by assumption)) (by simp)) _) | (refine Below.via' ?_ (by assumption)) | (refine Below.alloc ?_ (by first | omega | (simp; done) | (simp; omega) | exact Below.size (by assumption) | exact Nat.le_trans (Below.size (by assumption)) (by simp)) _) | (refine Below.via ?_ (by assumption) (by first | omega | (simp; done) | (simp; omega) | exact Below.size (by assumption) | exact Nat.le_trans (Below.size (by assumption)) (by simp)))))⟩
               case measure => simp [intOf]; omega)
            | (go_region
               all_goals
                 go_wp2
                 go_roundw
                 case rel => exact ⟨i + 1, by omega, by go_num, by rw [hnx.out]; rfl, by rw [hnx.out]; rfl, (by repeat (first | exact Below.refl _ _ | assumption | refine Below.drew ?_ | refine below_drewN ?_ _ | refine Below.alloc' ?_ _ | (refine Below.setCell ?_ (by first | omega | (simp; done) | (simp; omega) | exact Below.size (by assumption) | exact Nat.le_trans (Below.size (by assumption)) (by simp)) _) | (refine Below.via' ?_ (by assumption)) | (refine Below.alloc ?_ (by first | omega | (simp; done) | (simp; omega) | exact Below.size (by assumption) | exact Nat.le_trans (Below.size (by assumption)) (by simp)) _) | (refine Below.via ?_ (by assumption) (by first | omega | (simp; done) | (simp; omega) | exact Below.size (by assumption) | exact Nat.le_trans (Below.size (by assumption)) (by simp)))))⟩
                 case measure => simp [intOf]; omega)
        | some q =>
          obtain ⟨j, b⟩ := q
          have hjl := nd_lt _ _ _ _ _ j b ho
          by_cases hk : swZ W (dvL V p.L) < b
          · have hnx : Hid (ndUp (eM Q) W V (dV (pM P)) (i + 1) = some (i, swZ W (dvL V p.L))) := by unfold Hid; rw [hst.out, ho, ndS_less hh.out hk]
            replace ho := Lib.hid ho
            dsimp only [ndJ, ndC, Option.isSome]
            go_wp2
            first
              | (go_roundw
                 case rel => exact ⟨i + 1, by omega, by go_num, by rw [hnx.out]; rfl, by rw [hnx.out]; rfl, (by repeat (first | exact Below.refl _ _ | assumption | refine Below.drew ?_ | refine below_drewN ?_ _ | refine Below.alloc' ?_ _ | (refine Below.setCell ?_ (by first | omega | (simp; done) | (simp; omega) | exact Below.size (by assumption) | exact Nat.le_trans (Below.size (by assumption)) (by simp)) _) | (refine Below.via' ?_ (by assumption)) | (refine Below.alloc ?_ (by first | omega | (simp; done) | (simp; omega) | exact Below.size (by assumption) | exact Nat.le_trans (Below.size (by assumption)) (by simp)) _) | (refine Below.via ?_ (by assumption) (by first | omega | (simp; done) | (simp; omega) | exact Below.size (by assumption) | exact Nat.le_trans (Below.size (by assumption)) (by simp)))))⟩
                 case measure => simp [intOf]; omega)
              | (go_region
                 all_goals
                   go_wp2
                   go_roundw
                   case rel => exact ⟨i + 1, by omega, by go_num, by rw [hnx.out]; rfl, by rw [hnx.out]; rfl, (by repeat (first | exact Below.refl _ _ | assumption | refine Below.drew ?_ | refine below_drewN ?_ _ | refine Below.alloc' ?_ _ | (refine Below.setCell ?_ (by first | omega | (simp; done) | (simp; omega) | exact Below.size (by assumption) | exact Nat.le_trans (Below.size (by assumption)) (by simp)) _) | (refine Below.via' ?_ (by assumption)) | (refine Below.alloc ?_ (by first | omega | (simp; done) | (simp; omega) | exact Below.size (by assumption) | exact Nat.le_trans (Below.size (by assumption)) (by simp)) _) | (refine Below.via ?_ (by assumption) (by first | omega | (simp; done) | (simp; omega) | exact Below.size (by assumption) | exact Nat.le_trans (Below.size (by assumption)) (by simp)))))⟩
                   case measure => simp [intOf]; omega)
          · have hnx : Hid (ndUp (eM Q) W V (dV (pM P)) (i + 1) = some (j, b)) := by unfold Hid; rw [hst.out, ho, ndS_keep hh.out hk]
            replace ho := Lib.hid ho
            dsimp only [ndJ, ndC, Option.isSome]
            go_wp2
            first
              | (go_roundw
                 case rel => exact ⟨i + 1, by omega, by go_num, by rw [hnx.out]; rfl, by rw [hnx.out]; rfl, (by repeat (first | exact Below.refl _ _ | assumption | refine Below.drew ?_ | refine below_drewN ?_ _ | refine Below.alloc' ?_ _ | (refine Below.setCell ?_ (by first | omega | (simp; done) | (simp; omega) | exact Below.size (by assumption) | exact Nat.le_trans (Below.size (by assumption)) (by simp)) _) | (refine Below.via' ?_ (by assumption)) | (refine Below.alloc ?_ (by first | omega | (simp; done) | (simp; omega) | exact Below.size (by assumption) | exact Nat.le_trans (Below.size (by assumption)) (by simp)) _) | (refine Below.via ?_ (by assumption) (by first | omega | (simp; done) | (simp; omega) | exact Below.size (by assumption) | exact Nat.le_trans (Below.size (by assumption)) (by simp)))))⟩
                 case measure => simp [intOf]; omega)
              | (go_region
                 all_goals
                   go_wp2
                   go_roundw
                   case rel => exact ⟨i + 1, by omega, by go_num, by rw [hnx.out]; rfl, by rw [hnx.out]; rfl, (by repeat (first | exact Below.refl _ _ | assumption | refine Below.drew ?_ | refine below_drewN ?_ _ | refine Below.alloc' ?_ _ | (refine Below.setCell ?_ (by first | omega | (simp; done) | (simp; omega) | exact Below.size (by assumption) | exact Nat.le_trans (Below.size (by assumption)) (by simp)) _) | (refine Below.via' ?_ (by assumption)) | (refine Below.alloc ?_ (by first | omega | (simp; done) | (simp; omega) | exact Below.size (by assumption) | exact Nat.le_trans (Below.size (by assumption)) (by simp)) _) | (refine Below.via ?_ (by assumption) (by first | omega | (simp; done) | (simp; omega) | exact Below.size (by assumption) | exact Nat.le_trans (Below.size (by assumption)) (by simp)))))⟩
                   case measure => simp [intOf]; omega)
      · have hnx : Hid (ndUp (eM Q) W V (dV (pM P)) (i + 1) = ndUp (eM Q) W V (dV (pM P)) i) := by unfold Hid; rw [hst.out, ndS_fails hh]
        have hz : (0 : Int) < ((feL (eM Q) p.L).length : Int) := by
          rcases Nat.eq_zero_or_pos (feL (eM Q) p.L).length with h0 | h0
          · rw [hfn.1 h0] at hh; cases hh
          · omega
        clear hfn
        go_wp2_with fail
        refine (eFailed_any _ _ _ _ Q p.L _ hl40 hfi.out (hQh.out.below (by exact (by repeat (first | exact Below.refl _ _ | assumption | refine Below.drew ?_ | refine below_drewN ?_ _ | refine Below.alloc' ?_ _ | (refine Below.setCell ?_ (by first | omega | (simp; done) | (simp; omega) | exact Below.size (by assumption) | exact Nat.le_trans (Below.size (by assumption)) (by simp)) _) | (refine Below.via' ?_ (by assumption)) | (refine Below.alloc ?_ (by first | omega | (simp; done) | (simp; omega) | exact Below.size (by assumption) | exact Nat.le_trans (Below.size (by assumption)) (by simp)) _) | (refine Below.via ?_ (by assumption) (by first | omega | (simp; done) | (simp; omega) | exact Below.size (by assumption) | exact Nat.le_trans (Below.size (by assumption)) (by simp))))))) (hVp.out.below (by exact (by repeat (first | exact Below.refl _ _ | assumption | refine Below.drew ?_ | refine below_drewN ?_ _ | refine Below.alloc' ?_ _ | (refine Below.setCell ?_ (by first | omega | (simp; done) | (simp; omega) | exact Below.size (by assumption) | exact Nat.le_trans (Below.size (by assumption)) (by simp)) _) | (refine Below.via' ?_ (by assumption)) | (refine Below.alloc ?_ (by first | omega | (simp; done) | (simp; omega) | exact Below.size (by assumption) | exact Nat.le_trans (Below.size (by assumption)) (by simp)) _) | (refine Below.via ?_ (by assumption) (by first | omega | (simp; done) | (simp; omega) | exact Below.size (by assumption) | exact Nat.le_trans (Below.size (by assumption)) (by simp)))))))).mono ?_
        rintro e w3 ⟨u3, rfl, ho3, hb3⟩
        obtain ⟨x3, n3, rfl, -, -⟩ := (OwR.of ho3).form
        go_wp2
        go_roundw
        case rel => exact ⟨i + 1, by omega, by go_num, by rw [hnx.out], by rw [hnx.out], (by repeat (first | exact Below.refl _ _ | assumption | refine Below.drew ?_ | refine below_drewN ?_ _ | refine Below.alloc' ?_ _ | (refine Below.setCell ?_ (by first | omega | (simp; done) | (simp; omega) | exact Below.size (by assumption) | exact Nat.le_trans (Below.size (by assumption)) (by simp)) _) | (refine Below.via' ?_ (by assumption)) | (refine Below.alloc ?_ (by first | omega | (simp; done) | (simp; omega) | exact Below.size (by assumption) | exact Nat.le_trans (Below.size (by assumption)) (by simp)) _) | (refine Below.via ?_ (by assumption) (by first | omega | (simp; done) | (simp; omega) | exact Below.size (by assumption) | exact Nat.le_trans (Below.size (by assumption)) (by simp)))))⟩
        case measure => simp [intOf]; omega
    · have hij : i = P.length := by omega
      subst hij
      have hfin := Lib.hid (show ndUp (eM Q) W V (dV (pM P)) P.length = ndO (eM Q) W (pM P) V by unfold ndO; rw [dV_len, hpl.out])
      cases ho : ndUp (eM Q) W V (dV (pM P)) P.length with
      | none =>
        have hb : Hid (neB S (eM Q) W (pM P) V = false) := by unfold Hid; rw [hv.out, ← hfin.out, ho]; rfl
        replace ho := Lib.hid ho
        dsimp only [ndJ]
        go_wp2
        go_ret2
        exact retN_no hb.out (by repeat (first | exact Below.refl _ _ | assumption | refine Below.drew ?_ | refine below_drewN ?_ _ | refine Below.alloc' ?_ _ | (refine Below.setCell ?_ (by first | omega | (simp; done) | (simp; omega) | exact Below.size (by assumption) | exact Nat.le_trans (Below.size (by assumption)) (by simp)) _) | (refine Below.via' ?_ (by assumption)) | (refine Below.alloc ?_ (by first | omega | (simp; done) | (simp; omega) | exact Below.size (by assumption) | exact Nat.le_trans (Below.size (by assumption)) (by simp)) _) | (refine Below.via ?_ (by assumption) (by first | omega | (simp; done) | (simp; omega) | exact Below.size (by assumption) | exact Nat.le_trans (Below.size (by assumption)) (by simp)))))
      | some q =>
        obtain ⟨j, b⟩ := q
        have hb : Hid (neB S (eM Q) W (pM P) V = true) := by unfold Hid; rw [hv.out, ← hfin.out, ho]; rfl
        have hn : Hid ((j : Int) = ndI (ndO (eM Q) W (pM P) V)) := by unfold Hid; rw [← hfin.out, ho]; rfl
        have hj0 : ¬ (j : Int) < 0 := by omega
        replace ho := Lib.hid ho
        dsimp only [ndJ]
        go_wp2
        go_ret2
        exact retN_yes hb.out hn.out (by repeat (first | exact Below.refl _ _ | assumption | refine Below.drew ?_ | refine below_drewN ?_ _ | refine Below.alloc' ?_ _ | (refine Below.setCell ?_ (by first | omega | (simp; done) | (simp; omega) | exact Below.size (by assumption) | exact Nat.le_trans (Below.size (by assumption)) (by simp)) _) | (refine Below.via' ?_ (by assumption)) | (refine Below.alloc ?_ (by first | omega | (simp; done) | (simp; omega) | exact Below.size (by assumption) | exact Nat.le_trans (Below.size (by assumption)) (by simp)) _) | (refine Below.via ?_ (by assumption) (by first | omega | (simp; done) | (simp; omega) | exact Below.size (by assumption) | exact Nat.le_trans (Below.size (by assumption)) (by simp)))))
theorem sND_m (x y z t u : Option Addr) (c1 c2 c3 c4 c5 : Nat) (S : List (ByteArray × Int)) (Q : List PR) (W : List Int) (P : List PR) (V : List Int) (w : World) (hS : SIn w x c1 S) (hQ : EIn w y Q) (hW : IIn w z W) (hP : DIn w t P) (hV : IIn w u V) (M : List (List Int)) (hM : eM Q = M) (R : List RV) (hR : pM P = R) :
    Calls Try.prog 72 #[.slice x S.length c1, .slice y Q.length c2, .slice z W.length c3, .slice t P.length c4, .slice u V.length c5] w fun e w' => e = .returned (.tuple #[.int .i64 (nIf (neB S M W R V) (ndI (ndO M W R V))), .bool (neB S M W R V)]) ∧ Below w.heap.size w w' := by subst hM; subst hR; exact sND_x x y z t u c1 c2 c3 c4 c5 S Q W P V w hS hQ hW hP hV
theorem iND_m (x y z t u : Option Addr) (c1 c2 c3 c4 c5 : Nat) (S : List (ByteArray × Int)) (Q : List PR) (W : List Int) (P : List PR) (V : List Int) (w : World) (hS : SIn w x c1 S) (hQ : EIn w y Q) (hW : IIn w z W) (hP : DIn w t P) (hV : IIn w u V) (M : List (List Int)) (hM : eM Q = M) (R : List RV) (hR : pM P = R) :
    Calls Try.prog 73 #[.slice x S.length c1, .slice y Q.length c2, .slice z W.length c3, .slice t P.length c4, .slice u V.length c5] w fun e w' => e = .returned (.tuple #[.int .i64 (nIf (neB S M W R V) (ndI (ndO M W R V))), .bool (neB S M W R V)]) ∧ Below w.heap.size w w' := by subst hM; subst hR; exact iND_x x y z t u c1 c2 c3 c4 c5 S Q W P V w hS hQ hW hP hV
end Go.Proofs.Ytnmpigedhpdenab

namespace Go.Proofs.Ytnmpigedhpdenab
open Go.ChangeShapes Go.RowKit
section
variable {H : Type} {enc : TypeId × Value → H} {P : Program} {w : World} {base : Nat} {spare : Nat → Bool} {held : Bool}
theorem trodAll_five {t t' t'' t3 t4 : TypeId} {args : Array Value} {ds : List (DataW H)} {ps : List MemPlace} (h : DataW.TrodAll enc P w base spare held [t, t', t'', t3, t4] args.toList ds ps) :
    ∃ v v' v'' v3 v4 d d' d'' d3 d4 p p' p'' p3 p4, args = #[v, v', v'', v3, v4] ∧ ds = [d, d', d'', d3, d4] ∧ ps = p ++ p' ++ p'' ++ p3 ++ p4 ∧ DataW.Trod enc P w base spare held t v d p ∧ DataW.Trod enc P w base spare held t' v' d' p' ∧ DataW.Trod enc P w base spare held t'' v'' d'' p'' ∧ DataW.Trod enc P w base spare held t3 v3 d3 p3 ∧ DataW.Trod enc P w base spare held t4 v4 d4 p4 := by
  obtain ⟨v, vs, d, ds', p, q, hargs, rfl, rfl, hd, hrest⟩ := trodAll_cons h
  obtain ⟨v', vs', d', ds'', p', q', rfl, rfl, rfl, hd', hrest'⟩ := trodAll_cons hrest
  obtain ⟨v'', vs'', d'', ds''', p'', q'', rfl, rfl, rfl, hd'', hrest''⟩ := trodAll_cons hrest'
  obtain ⟨v3, vs3, d3, ds3, p3, q3, rfl, rfl, rfl, hd3, hrest3⟩ := trodAll_cons hrest''
  obtain ⟨v4, vs4, d4, ds4, p4, q4, rfl, rfl, rfl, hd4, hrest4⟩ := trodAll_cons hrest3
  obtain ⟨rfl, rfl, rfl⟩ := trodAll_nil hrest4
  exact ⟨v, v', v'', v3, v4, d, d', d'', d3, d4, p, p', p'', p3, p4, by cases args; simp_all, rfl, by simp, hd, hd', hd'', hd3, hd4⟩
end
end Go.Proofs.Ytnmpigedhpdenab

namespace Go.Proofs.Ytnmpigedhpdenab
open Go.RowKit
set_option maxRecDepth 100000

/-- The edits that are marked from k on. -/
def mE (k : Int) : List PR → List PR
  | [] => []
  | q :: r => ⟨q.a, q.h, q.x, q.c, mkL k q.L.length⟩ :: mE (k + q.L.length) r
theorem mE_len : ∀ (k : Int) (Q : List PR), (mE k Q).length = Q.length
  | _, [] => rfl
  | k, q :: r => by simp [mE, mE_len _ r]
theorem mE_app : ∀ (k : Int) (Q T : List PR), mE k (Q ++ T) = mE k Q ++ mE (k + tot Q) T
  | k, [], T => by simp [mE, tot]
  | k, q :: r, T => by
    simp only [List.cons_append, mE, mE_app _ r T]
    congr 3
    unfold tot
    simp only [List.map_cons, List.sum_cons]
    omega
theorem mE_step (k : Int) {Q : List PR} {i : Nat} {q : PR} (h : Q[i]? = some q) (hi : i < Q.length) :
    mE k (Q.take (i + 1)) ++ Q.drop (i + 1) = (mE k (Q.take i) ++ Q.drop i).set i ⟨q.a, q.h, q.x, q.c, mkL (k + tot (Q.take i)) q.L.length⟩ := by
  have hl : (mE k (Q.take i)).length = i := by rw [mE_len, List.length_take]; omega
  have hd : Q.drop i = q :: Q.drop (i + 1) := by
    rw [List.drop_eq_getElem_cons hi]
    rw [List.getElem?_eq_getElem hi] at h
    injection h with h
    rw [h]
  rw [List.set_append_right _ _ (by omega), hl, Nat.sub_self, hd, List.set_cons_zero, take_snoc h, mE_app, List.append_assoc]
  rfl
theorem mE_at (k : Int) {Q : List PR} {i : Nat} {q : PR} (h : Q[i]? = some q) (hi : i < Q.length) :
    (mE k Q)[i]? = some ⟨q.a, q.h, q.x, q.c, mkL (k + tot (Q.take i)) q.L.length⟩ := by
  have hl : (mE k (Q.take i)).length = i := by rw [mE_len, List.length_take]; omega
  have e : mE k Q = mE k (Q.take (i + 1)) ++ mE (k + tot (Q.take (i + 1))) (Q.drop (i + 1)) := by rw [← mE_app, List.take_append_drop]
  rw [e, List.getElem?_append_left (by rw [mE_len, List.length_take]; omega), take_snoc h, mE_app, List.getElem?_append_right (by omega), hl, Nat.sub_self]
  rfl
theorem eC_setL : ∀ (Q : List PR) (i : Nat) (q : PR) (M : List Int), Q[i]? = some q → M.length = q.L.length → eC (Q.set i ⟨q.a, q.h, q.x, q.c, M⟩) = eC Q
  | [], i, q, M, h, _ => by simp at h
  | p :: r, 0, q, M, h, hl => by simp at h; subst h; simp [eC, PR.v, hl]
  | p :: r, i + 1, q, M, h, hl => by
    simp only [List.getElem?_cons_succ] at h
    have := eC_setL r i q M h hl
    unfold eC at this ⊢
    simp only [List.set_cons_succ, List.map_cons, this]
section
variable {w w1 : World} {lo hi : Nat} {te ti : TypeId} {Q : List PR} {i g c : Nat} {q : PR}
/-- The row of edit i is written. -/
theorem OwE.turn {M : List Int} (h : OwE w lo hi te ti (.slice (some ⟨g, 0, none⟩) Q.length c) Q) (hq : Q[i]? = some q) (hl : M.length = q.L.length) (hr : w1.ownsRow lo ti 1 q.v q.L.length (iC M)) (hg : w.grownBy w1 q.v.ownBlock) :
    OwE w1 lo hi te ti (.slice (some ⟨g, 0, none⟩) (Q.set i ⟨q.a, q.h, q.x, q.c, M⟩).length c) (Q.set i ⟨q.a, q.h, q.x, q.c, M⟩) := by
  obtain ⟨h1, h2, h3⟩ := h
  have hmem := List.mem_of_getElem? hq
  have hpv : (PR.mk q.a q.h q.x q.c M).v = q.v := by unfold PR.v; rw [hl]
  refine ⟨⟨?_, fun k hk => h1.2 k hk⟩, ⟨fun r hr2 => ?_, ?_⟩, fun r hr2 k hk => ?_⟩
  · rw [List.length_set, eC_setL Q i q M hq hl]
    refine h1.1.kept hg (Or.inr fun e => h3 q hmem g rfl ?_)
    rw [← e]; rfl
  · rcases mem_set_cases hr2 with rfl | ⟨j, hji, hj⟩
    · rw [hpv]; exact ⟨by rw [hl]; exact hr, (h2.1 q hmem).2⟩
    · have hrm := List.mem_of_getElem? hj
      refine ⟨(h2.1 r hrm).1.kept hg ?_, (h2.1 r hrm).2⟩
      cases hb : r.v.ownBlock with
      | none => exact Or.inl rfl
      | some k => exact Or.inr fun e => blk_ne h2.2 hq hj hji e.symm hb
  · rw [blk_set hq (by rw [hpv])]; exact h2.2
  · rcases mem_set_cases hr2 with rfl | ⟨j, _, hj⟩
    · rw [hpv]; exact h3 q hmem k hk
    · exact h3 r (List.mem_of_getElem? hj) k hk
end
set_option maxHeartbeats 4000000 in
theorem markEditS_any (x : Option Addr) (cap : Nat) (k : Int) (lo hi : Nat) (Q : List PR) (w : World) (hk : 0 ≤ k) (hk2 : k ≤ 1000000000) (hn : Q.length ≤ 1048576) (ht : tot Q ≤ 1048576) (hown : OwE w lo hi 153 3 (.slice x Q.length cap) Q) :
    Calls Try.prog 66 #[.slice x Q.length cap, .int .i64 k] w fun e w' => e = .returned (.int .i64 (k + tot Q)) ∧ OwE w' lo hi 153 3 (.slice x Q.length cap) (mE k Q) ∧ Off lo hi w w' := by
  by_cases h0 : Q.length = 0
  · obtain rfl : Q = [] := List.eq_nil_of_length_eq_zero h0
    have hown := Lib.hid hown
    go_enter Try.func66, Try.ntmps66
    go_wp2
    refine wp_loop_rounds 1 ?_
    rw [rounds_succ]
    go_wp2
    go_ret
    exact ⟨ret_int (by simp [tot]), hown.out, Off.refl _ _ _⟩
  obtain ⟨g, cap', he⟩ := own_some hown.1.1 (by omega)
  injection he with hx _ hc
  subst hx hc
  have hown0 := Lib.hid hown
  clear hown
  go_enter Try.func66, Try.ntmps66
  go_wp2
  go_loopw [1, 5] (fun q c wr => ∃ i : Nat, i ≤ Q.length ∧ c = .int .i64 i ∧ q = .int .i64 (k + tot (Q.take i)) ∧ Hid (OwE wr lo hi 153 3 (.slice (some ⟨g, 0, none⟩) (mE k (Q.take i) ++ Q.drop i).length cap) (mE k (Q.take i) ++ Q.drop i)) ∧ Off lo hi w wr) (fun _ c _ => Q.length - (intOf c).toNat)
  case atStart => exact ⟨0, by omega, rfl, (by rw [tot0]; go_num), (by unfold Hid; simpa [mE] using hown0.out), Off.refl _ _ _⟩
  case round =>
    clear hown0
    obtain ⟨i, hil, rfl, rfl, hown, hb⟩ := hrel
    have hzl : (mE k (Q.take i) ++ Q.drop i).length = Q.length := by rw [List.length_append, mE_len, List.length_take, List.length_drop]; omega
    by_cases hlt : i < Q.length
    · obtain ⟨q, hq⟩ : ∃ q, Q[i]? = some q := ⟨Q[i], List.getElem?_eq_getElem hlt⟩
      have hZ : (mE k (Q.take i) ++ Q.drop i)[i]? = some q := by
        rw [List.getElem?_append_right (by rw [mE_len, List.length_take]; omega), mE_len, List.length_take, Nat.min_eq_left (by omega), Nat.sub_self, List.getElem?_drop, Nat.add_zero, hq]
      have hstep := Lib.hid (mE_step k hq hlt)
      have htt := tot_take hq
      have htl : tot (Q.take (i + 1)) ≤ tot Q := by
        conv => rhs; rw [← List.take_append_drop (i + 1) Q]
        unfold tot
        rw [List.map_append, List.sum_append]
        omega
      generalize hZe : mE k (Q.take i) ++ Q.drop i = Z at hown hZ hzl hstep
      have hti : tot (Q.take i) ≤ 1048576 := by omega
      generalize htie : tot (Q.take i) = t at *
      have hql : q.L.length ≤ 1048576 := by omega
      have ho0 := hown.out.1.1
      rw [hzl] at ho0
      obtain ⟨u0, hu0, k0⟩ := own_cell ho0 (j := i) (by omega)
      have e2 : u0 = .slice q.x q.L.length q.c := Option.some.inj (hu0.symm.trans (eC_at hZ))
      subst e2
      have k4 := (own_lt ho0).2
      have hin := Lib.hid (hown.out.1.2 g rfl)
      clear hu0 ho0
      replace hZ := Lib.hid hZ
      replace hq := Lib.hid hq
      have hlt' : (i : Int) < (Q.length : Int) := by omega
      go_wp2_with fail
      refine (markIntS_any _ _ _ _ lo _ _ (by omega) (by omega) hql (hown.out.2.1.1 _ (List.mem_of_getElem? hZ.out)).1).mono ?_
      rintro e w2 ⟨rfl, hm2, hg2⟩
      have P2 := Lib.hid (hown.out.turn hZ.out (by rw [mkL_len]) hm2 hg2)
      have hbl := Lib.hid ((hown.out.2.1.1 _ (List.mem_of_getElem? hZ.out)).2)
      go_wp2
      go_roundw
      case rel =>
        refine ⟨i + 1, by omega, by go_num, ?_, ?_, ?_⟩
        · rw [htt]
          congr 1
          push_cast
          omega
        · rw [hstep.out]
          exact P2.out
        · exact hb.trans (Off.of_grown hg2 (fun k hk => hbl.out k hk))
      case measure => simp [intOf]; omega
    · have hij : i = Q.length := by omega
      subst hij
      have hown := Lib.hid (show OwE wr lo hi 153 3 (.slice (some ⟨g, 0, none⟩) Q.length cap) (mE k Q) from by simpa [mE_len] using hown.out)
      rw [List.take_length]
      clear hzl
      go_wp2
      go_ret
      exact ⟨rfl, hown.out, hb⟩

set_option maxHeartbeats 4000000 in
theorem heldEditS_any (x : Option Addr) (cap : Nat) (k : Int) (Q : List PR) (w : World) (hk : 0 ≤ k) (hk2 : k ≤ 1000000000) (hn : Q.length ≤ 1048576) (ht : tot Q ≤ 1048576) (hx : Rd w x (eC (mE k Q))) (hxi : ∀ q ∈ mE k Q, Rd w q.x (iC q.L)) :
    Calls Try.prog 69 #[.slice x Q.length cap, .int .i64 k] w fun e w' => e = .returned (.int .i64 (k + tot Q)) ∧ Below w.heap.size w w' := by
  have hxh := Lib.hid hx
  have hih := Lib.hid hxi
  clear hx hxi
  go_enter Try.func69, Try.ntmps69
  go_wp2
  go_loopw [1, 5] (fun q c wr => ∃ i : Nat, i ≤ Q.length ∧ c = .int .i64 i ∧ q = .int .i64 (k + tot (Q.take i)) ∧ Below w.heap.size w wr) (fun _ c _ => Q.length - (intOf c).toNat)
  case atStart => exact ⟨0, by omega, rfl, (by rw [tot0]; go_num), Below.refl _ _⟩
  case round =>
    obtain ⟨i, hi, rfl, rfl, hb⟩ := hrel
    by_cases hlt : i < Q.length
    · obtain ⟨q, hq⟩ : ∃ q, Q[i]? = some q := ⟨Q[i], List.getElem?_eq_getElem hlt⟩
      have htt := tot_take hq
      have htl : tot (Q.take (i + 1)) ≤ tot Q := by
        conv => rhs; rw [← List.take_append_drop (i + 1) Q]
        unfold tot
        rw [List.map_append, List.sum_append]
        omega
      have hma := mE_at k hq hlt
      generalize htie : tot (Q.take i) = t at *
      obtain ⟨bl, off, p, hbx, hbl, hSi, hc0⟩ := (hxh.out.below hb).ed (i := i) (by rw [mE_len]; exact hlt)
      have hrd := Lib.hid ((hih.out p (List.mem_of_getElem? hSi)).below hb)
      obtain rfl := Option.some.inj (hSi.symm.trans hma)
      simp only [mkL_len] at hc0 hrd
      subst hbx
      clear hSi hma
      replace hq := Lib.hid hq
      have hql : q.L.length ≤ 1048576 := by omega
      have hlt' : (i : Int) < (Q.length : Int) := by omega
      have hi0 : (0 : Int) ≤ (i : Int) := by omega
      have hkk : ¬ (k + (t : Int) + (q.L.length : Int) < 0) := by omega
      go_wp2_with fail
      refine (heldIntS_any _ _ _ _ _ (by omega) (by omega) hql (hrd.out.below (by exact (by repeat (first | exact Below.refl _ _ | assumption | refine Below.drew ?_ | refine below_drewN ?_ _ | refine Below.alloc' ?_ _ | (refine Below.setCell ?_ (by first | omega | (simp; done) | (simp; omega) | exact Below.size (by assumption) | exact Nat.le_trans (Below.size (by assumption)) (by simp)) _) | (refine Below.via' ?_ (by assumption)) | (refine Below.alloc ?_ (by first | omega | (simp; done) | (simp; omega) | exact Below.size (by assumption) | exact Nat.le_trans (Below.size (by assumption)) (by simp)) _) | (refine Below.via ?_ (by assumption) (by first | omega | (simp; done) | (simp; omega) | exact Below.size (by assumption) | exact Nat.le_trans (Below.size (by assumption)) (by simp)))))))).mono ?_
      rintro e w2 ⟨rfl, rfl⟩
      go_wp2
      go_roundw
      case rel =>
        refine ⟨i + 1, by omega, by go_num, ?_, (by repeat (first | exact Below.refl _ _ | assumption | refine Below.drew ?_ | refine below_drewN ?_ _ | refine Below.alloc' ?_ _ | (refine Below.setCell ?_ (by first | omega | (simp; done) | (simp; omega) | exact Below.size (by assumption) | exact Nat.le_trans (Below.size (by assumption)) (by simp)) _) | (refine Below.via' ?_ (by assumption)) | (refine Below.alloc ?_ (by first | omega | (simp; done) | (simp; omega) | exact Below.size (by assumption) | exact Nat.le_trans (Below.size (by assumption)) (by simp)) _) | (refine Below.via ?_ (by assumption) (by first | omega | (simp; done) | (simp; omega) | exact Below.size (by assumption) | exact Nat.le_trans (Below.size (by assumption)) (by simp)))))⟩
        rw [htt]
        congr 1
        push_cast
        omega
      case measure => simp [intOf]; omega
    · have hij : i = Q.length := by omega
      subst hij
      rw [List.take_length]
      go_wp2
      go_ret
      exact ⟨rfl, hb⟩
end Go.Proofs.Ytnmpigedhpdenab

namespace Go.Proofs.Ytnmpigedhpdenab
open Go.ChangeShapes Go.WideShapes Go.ChangeAt Go.RowKit
open Go.Joins
set_option maxRecDepth 100000

instance : Inhabited PR := ⟨⟨0, 0, none, 0, []⟩⟩
theorem cellsR : Try.prog.cellsOf 138 = 3 := by kernel_rfl
/-- A record that comes in. -/
theorem open_rec {H : Type} {enc : TypeId × Value → H} {W : World} {base : Nat} {v : Value} {d : DataW H} {p : List MemPlace} (hv : Value.okWide Try.prog W .any base 138 v)
    (h : DataW.Trod enc Try.prog W 0 (fun _ => true) true 138 v d p) : ∃ a h x cap L, v = .agg #[.int .i64 a, .int .i64 h, .slice x L.length cap] ∧ L.length ≤ 9223372036854775807 ∧ IsI64 a ∧ IsI64 h ∧ Hid (∀ n ∈ L, IsI64 n) ∧ Hid (Rd W x (iC L)) := by
  obtain ⟨c0, c1, c2, y0, y1, y2, m, rfl, rfl, rfl, hy0, hy1, hy2⟩ := open_agg3 Try.underlying138 (by kernel_rfl) cellsR hv h
  obtain ⟨a, e0, rfl, wa⟩ := DataW.trod_int Try.underlying3 hy0
  obtain ⟨b, e1, rfl, wb⟩ := DataW.trod_int Try.underlying3 hy1
  obtain ⟨x, cap, L, hcs, hl, hn, hr⟩ := open_intC hy2
  simp at e0 e1 hcs
  subst e0 e1 hcs
  exact ⟨a, b, x, cap, L, rfl, hl, isI64_of_wf wa, isI64_of_wf wb, hn, hr⟩

/-- A record out of its three cells. -/
theorem open_recC {H : Type} {enc : TypeId × Value → H} {W : World} {fuel : Nat} {cs : List Value} {z : DataW H × List MemPlace} (hl : cs.length = 3)
    (hf : DataW.trod enc Try.prog W 0 (fun _ => true) true fuel 138 cs = some z) : ∃ q : PR, cs = q.cs ∧ ROk0 W q := by
  obtain ⟨y0, y1, y2, n, rfl, hlen, h0, h1, h2⟩ := Deep.trod_struct3 Try.underlying138 hf
  match cs, hl with
  | [v0, v1, v2], _ =>
    simp only [show Try.prog.cellsOf 3 = 1 from cInt, show Try.prog.cellsOf 23 = 1 from by kernel_rfl, List.drop_zero, List.drop_succ_cons, List.take_succ_cons, List.take_zero] at h0 h1 h2
    obtain ⟨a, e0, _, wa⟩ := DataW.trod_int Try.underlying3 h0
    obtain ⟨b, e1, _, wb⟩ := DataW.trod_int Try.underlying3 h1
    obtain ⟨x, cap, L, hcs, hl, hn, hr⟩ := open_intC h2
    simp at e0 e1 hcs
    subst e0 e1 hcs
    exact ⟨⟨a, b, x, cap, L⟩, rfl, hl, isI64_of_wf wa, isI64_of_wf wb, hn.out, hr.out⟩

/-- A list of records that comes in. -/
theorem open_recs {H : Type} {enc : TypeId × Value → H} {W : World} {base : Nat} {v : Value} {d : DataW H} {p : List MemPlace} (hv : Value.okWide Try.prog W .any base 69 v)
    (h : DataW.Trod enc Try.prog W 0 (fun _ => true) true 69 v d p) : ∃ x cap Q, v = .slice x Q.length cap ∧ Hid (DIn0 W x Q) ∧ Q.length ≤ 9223372036854775807 := by
  obtain ⟨a0, len, cap, rfl⟩ := okWide_slice Try.underlying69 hv
  obtain ⟨fuel, hf⟩ := h
  rcases Deep.open_slice Try.underlying69 hf with ⟨hcs, _⟩ | ⟨a, len', cap', m, n, D, P0, hcs, _, hl, hm, hmm, _, hi⟩
  · simp [Value.cells] at hcs
    obtain ⟨rfl, rfl, rfl⟩ := hcs
    exact ⟨none, 0, [], rfl, (show DIn0 W none [] from ⟨by simp, fun q hq => (by cases hq), Or.inl rfl⟩), by simp⟩
  · simp [Value.cells] at hcs
    obtain ⟨rfl, rfl, rfl⟩ := hcs
    simp only [if_true] at hmm
    subst hmm
    have each : ∀ i, i < m → ∃ q : PR, W.cell? (a.add (i * 3)) = some (.int .i64 q.a) ∧ W.cell? (a.add (i * 3 + 1)) = some (.int .i64 q.h) ∧ W.cell? (a.add (i * 3 + 2)) = some q.v ∧ ROk0 W q := by
      intro i him
      obtain ⟨cs, h1, h2⟩ := hi i him
      rw [cellsR] at h1
      obtain ⟨_, hlen, hcell⟩ := World.cells?_some h1
      obtain ⟨q, rfl, hq⟩ := open_recC hlen h2
      have e0 := hcell 0 (by omega)
      have e1 := hcell 1 (by omega)
      have e2 := hcell 2 (by omega)
      rw [Deep.add_add] at e0 e1 e2
      exact ⟨q, by simpa [PR.cs] using e0, by simpa [PR.cs] using e1, by simpa [PR.cs] using e2, hq⟩
    obtain ⟨q, hq⟩ := Deep.choose_lt each
    have hlen : ((List.range len).map q).length = len := by simp
    refine ⟨some a, m, (List.range len).map q, by rw [hlen], (show DIn0 W (some a) _ from ⟨by rw [hlen]; unfold maxLen at hm; omega, fun r hr => ?_, ?_⟩), by rw [hlen]; unfold maxLen at hm; omega⟩
    · obtain ⟨i, hi1, rfl⟩ := List.mem_map.1 hr
      exact (hq i (by have := List.mem_range.1 hi1; omega)).2.2.2
    by_cases h0 : len = 0
    · subst h0
      exact Or.inl (by simp [pC])
    obtain ⟨b, off, spot⟩ := a
    have hc0 := (hq 0 (by omega)).1
    have hspot : spot = none := by simpa [Addr.add] using World.cell?_spot hc0
    subst hspot
    have hblk : b < W.heap.size := World.block_lt_of_cell? W _ (by simpa [Addr.add] using hc0)
    refine Or.inr ⟨b, off, rfl, hblk, fun j u hj => ?_⟩
    have hjl : j < len * 3 := by
      have := (List.getElem?_eq_some_iff.1 hj).1
      rw [pC_len, hlen] at this
      exact this
    have hat : ∀ i, i < len → ((List.range len).map q)[i]? = some (q i) := by
      intro i hil
      rw [List.getElem?_map, List.getElem?_range hil]
      rfl
    obtain ⟨k0, k1, k2, _⟩ := hq (j / 3) (by omega)
    rw [addr_add] at k0 k1 k2
    rcases (by omega : j = (j / 3) * 3 ∨ j = (j / 3) * 3 + 1 ∨ j = (j / 3) * 3 + 2) with e | e | e
    · have := pC_at0 (hat (j / 3) (by omega))
      rw [← e, hj] at this
      cases this
      rw [← e] at k0
      exact k0
    · have := pC_at1 (hat (j / 3) (by omega))
      rw [← e, hj] at this
      cases this
      rw [← e] at k1
      exact k1
    · have := pC_at2 (hat (j / 3) (by omega))
      rw [← e, hj] at this
      cases this
      rw [← e] at k2
      exact k2

/-- The record that the law has copied can be read as one. -/
theorem IIn.of_owR {w : World} {lo hi : Nat} {ti : TypeId} {x : Option Addr} {c : Nat} {L : List Int} (h : OwR w lo hi ti 1 (.slice x L.length c) L.length (iC L)) (hl : L.length ≤ 1048576) (hn : ∀ n ∈ L, IsI64 n) : IIn w x L := ⟨hl, hn, h.rd⟩
/-- The records that the law has copied can be read as data: their numbers are those that came in. -/
theorem DIn.of_owD {w W : World} {lo hi : Nat} {tr ti : TypeId} {x y : Option Addr} {c : Nat} {T Q : List PR} (h : OwD w lo hi tr ti (.slice x T.length c) T) (hT : pM T = pM Q) (hQ : DIn0 W y Q) (hl : Q.length ≤ 1048576) (ht : tot Q ≤ 1048576) : DIn w x T := by
  refine ⟨by rw [pM_length hT]; exact hl, fun t hm => ?_, h.1.rd⟩
  obtain ⟨i, hi, e⟩ := List.getElem_of_mem hm
  have hTi : T[i]? = some t := by rw [List.getElem?_eq_getElem hi, e]
  have hQl : i < Q.length := by rw [← pM_length hT]; exact hi
  have hQi : Q[i]? = some Q[i] := List.getElem?_eq_getElem hQl
  obtain ⟨e1, e2, e3⟩ := pM_get hT hQi hTi
  obtain ⟨_, g1, g2, g3, _⟩ := hQ.2.1 Q[i] (List.getElem_mem hQl)
  have := tot_mem (List.getElem_mem hQl)
  refine ⟨by rw [e1]; exact g1, by rw [e2]; exact g2, by rw [e3]; omega, by rw [e3]; exact g3, (h.2.1.1 t hm).rd⟩
theorem DIn.inn {w : World} {x : Option Addr} {Q : List PR} (h : DIn w x Q) : ∀ q ∈ Q, Rd w q.x (iC q.L) := fun q hq => (h.2.1 q hq).2.2.2.2
theorem DIn.len {w : World} {x : Option Addr} {Q : List PR} (h : DIn w x Q) : Q.length ≤ 9223372036854775807 ∧ ∀ q ∈ Q, q.L.length ≤ 9223372036854775807 := ⟨by have := h.1; omega, fun q hq => by have := (h.2.1 q hq).2.2.1; omega⟩
end Go.Proofs.Ytnmpigedhpdenab

namespace Go.Proofs.Ytnmpigedhpdenab
open Go.RowKit
set_option maxRecDepth 100000

/-- Data and a bool that the program's function gives: its own memory. -/
def DsI (b : Bool) (R : List RV) (w : World) (e : Ending) (w' : World) : Prop :=
  ∃ v T, e = .returned (.tuple #[v, .bool b]) ∧ pM T = R ∧ OwD w' w.heap.size w'.heap.size 140 3 v T ∧ Below w.heap.size w w'
/-- Data and a bool that the model's function gives. -/
def DsS (b : Bool) (R : List RV) (w : World) (e : Ending) (w' : World) : Prop :=
  ∃ x c T, e = .returned (.tuple #[.slice x (List.length (α := PR) T) c, .bool b]) ∧ pM T = R ∧ DRd w' w.heap.size w'.heap.size x T ∧ Below w.heap.size w w'
def rsL (b : Bool) (R : List RV) : List RV := if b then R else []
theorem OwD.nil (w : World) (lo hi : Nat) (tr ti : TypeId) : OwD w lo hi tr ti (.slice none 0 0) [] :=
  ⟨⟨World.ownsRow_nil _ _ _ _, fun k hk => (by cases hk)⟩, ⟨fun q hq => (by cases hq), by simp⟩, fun q hq => (by cases hq)⟩
theorem DRd.nil (w : World) (lo hi : Nat) : DRd w lo hi none [] := ⟨Or.inl rfl, fun b off e => by (cases e), fun q hq => by (cases hq)⟩
theorem DsI.no {b : Bool} {R : List RV} {w w' : World} (hb : b = false) (hw : Below w.heap.size w w') : DsI b (rsL b R) w (.returned (.tuple #[.slice none 0 0, .bool false])) w' := by
  subst hb
  exact ⟨_, [], rfl, rfl, OwD.nil _ _ _ _ _, hw⟩
theorem DsS.no {b : Bool} {R : List RV} {w w' : World} (hb : b = false) (hw : Below w.heap.size w w') : DsS b (rsL b R) w (.returned (.tuple #[.slice none 0 0, .bool false])) w' := by
  subst hb
  exact ⟨none, 0, [], rfl, rfl, DRd.nil _ _ _, hw⟩
theorem DsI.yes {b : Bool} {R : List RV} {w w' : World} {v : Value} {T : List PR} (hb : b = true) (hT : pM T = R) (ho : OwD w' w.heap.size w'.heap.size 140 3 v T) (hw : Below w.heap.size w w') : DsI b (rsL b R) w (.returned (.tuple #[v, .bool true])) w' := by
  subst hb
  exact ⟨v, T, rfl, hT, ho, hw⟩
theorem DsS.yes {b : Bool} {R : List RV} {w w' : World} {x : Option Addr} {c : Nat} {T : List PR} (hb : b = true) (hT : pM T = R) (ho : DRd w' w.heap.size w'.heap.size x T) (hw : Below w.heap.size w w') : DsS b (rsL b R) w (.returned (.tuple #[.slice x T.length c, .bool true])) w' := by
  subst hb
  exact ⟨x, c, T, rfl, hT, ho, hw⟩

/-- How many values all records have, without their places. -/
def totR (R : List RV) : Nat := (R.map fun q => q.2.2.length).sum
theorem tot_pM (Q : List PR) : tot Q = totR (pM Q) := by unfold tot totR pM; rw [List.map_map]; rfl
theorem tot_eq {T Q : List PR} (h : pM T = pM Q) : tot T = tot Q := by rw [tot_pM, tot_pM, h]
theorem totR_le {R : List RV} {n : Nat} (h : ∀ q ∈ R, q.2.2.length ≤ n) : totR R ≤ R.length * n := by
  unfold totR
  induction R with
  | nil => simp
  | cons q r ih =>
    have h1 := h q (by simp)
    have h2 := ih (fun p hp => h p (List.mem_cons_of_mem _ hp))
    rw [List.map_cons, List.sum_cons, List.length_cons, Nat.add_mul]
    omega
theorem rsL_small {b : Bool} {R : List RV} (h : b = true → R.length ≤ 40 ∧ ∀ q ∈ R, q.2.2.length ≤ 6) : (rsL b R).length ≤ 40 ∧ totR (rsL b R) ≤ 240 := by
  unfold rsL
  cases b with
  | false => simp [totR]
  | true =>
    obtain ⟨h1, h2⟩ := h rfl
    have h3 := totR_le h2
    simp only [if_true]
    exact ⟨h1, by omega⟩
theorem dok_small {S : List (ByteArray × Int)} {R : List RV} (h : idB S R = true) : R.length ≤ 40 ∧ ∀ q ∈ R, q.2.2.length ≤ 6 := by
  unfold idB at h
  rw [Bool.and_eq_true] at h
  refine ⟨dokB_len h.2, fun q hq => ?_⟩
  have := fit_len (rokB_get (dokB_mem h.2 hq)).2.2.2.2
  have := (schB_len h.1).2
  omega
theorem DRd.inn {w : World} {lo hi : Nat} {x : Option Addr} {Q : List PR} (h : DRd w lo hi x Q) : ∀ q ∈ Q, Rd w q.x (iC q.L) := fun q hq => (h.2.2 q hq).1
theorem OwD.rd {w : World} {lo hi : Nat} {tr ti : TypeId} {x : Option Addr} {c : Nat} {Q : List PR} (h : OwD w lo hi tr ti (.slice x Q.length c) Q) : Rd w x (pC Q) := h.1.rd
theorem OwD.inn {w : World} {lo hi : Nat} {tr ti : TypeId} {v : Value} {Q : List PR} (h : OwD w lo hi tr ti v Q) : ∀ q ∈ Q, Rd w q.x (iC q.L) := fun q hq => (h.2.1.1 q hq).rd
theorem tot_all {Q : List PR} (h : tot Q ≤ 1048576) : ∀ q ∈ Q, q.L.length ≤ 9223372036854775807 := fun q hq => by have := tot_mem hq; omega
end Go.Proofs.Ytnmpigedhpdenab
