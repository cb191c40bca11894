/-
  Chapter 7: mended values: the mathematics and the walks, the model's and the program's.
-/
import Derived.Test.YtmcibcechffppaaImN
import Derived.Test.YtmcibcechffppaaHas
import Derived.Test.YtmcibcechffppaaDfv
import Derived.Deep.DeepCutAuto
import Derived.Test.YtmcibcechffppaaEdP
import Derived.Test.YtmcibcechffppaaEdX
namespace Go.Proofs.Ytmcibcechffppaa
open Go.RowKit
set_option maxRecDepth 100000

/-- Two lists differ in no variable outside of a set. -/
def doB (I V X : List Int) : Bool := (dvL V X).all fun v => I.contains v
theorem do_hit {I V X : List Int} {i : Nat} {v : Int} (h : (dvL V X)[i]? = some v) (hn : I.contains v = false) : doB I V X = false := by
  unfold doB
  rw [List.all_eq_false]
  exact ⟨v, List.mem_of_getElem? h, by rw [hn]; exact Bool.false_ne_true⟩
theorem do_all {I V X : List Int} (h : ∀ (j : Nat) (v : Int), (dvL V X)[j]? = some v → I.contains v = true) : doB I V X = true := by
  unfold doB
  rw [List.all_eq_true]
  intro v hv
  obtain ⟨j, hj, e⟩ := List.getElem_of_mem hv
  exact h j v (by rw [List.getElem?_eq_getElem hj, e])
theorem pk_has {p : Nat → Bool} {n i : Nat} (hi : i < n) (hp : p i = true) : (i : Int) ∈ pkUp p n := by
  unfold pkUp
  exact List.mem_map.2 ⟨i, List.mem_filter.2 ⟨List.mem_range.2 hi, hp⟩, rfl⟩
theorem dv_mem {V X : List Int} {i : Nat} {a d : Int} (h1 : V[i]? = some a) (h2 : X[i]? = some d) : ((i : Int) ∈ dvL V X) ↔ a ≠ d := by
  have hb : dvB V X i = !decide (a = d) := by
    unfold dvB
    rw [h1, h2]
    simp
  constructor
  · intro hm hne
    obtain ⟨k, e, hk, hp⟩ := pkUp_mem hm
    have : k = i := by omega
    subst this
    rw [hb, hne] at hp
    simp at hp
  · intro hne
    have hi := (List.getElem?_eq_some_iff.1 h1).1
    refine pk_has hi ?_
    rw [hb]
    simp [hne]
theorem do_one {I V X : List Int} {i : Nat} {a d : Int} (h1 : V[i]? = some a) (h2 : X[i]? = some d) (hne : a ≠ d) (hn : I.contains (i : Int) = false) : doB I V X = false := by
  obtain ⟨j, hj, e⟩ := List.getElem_of_mem ((dv_mem h1 h2).2 hne)
  exact do_hit (i := j) (by rw [List.getElem?_eq_getElem hj, e]) hn
theorem do_none {I V X : List Int} (hl : V.length = X.length) (h : ∀ (i : Nat) (a d : Int), V[i]? = some a → X[i]? = some d → a = d ∨ I.contains (i : Int) = true) : doB I V X = true := by
  refine do_all fun j v hv => ?_
  obtain ⟨k, rfl, hk, hp⟩ := pkUp_mem (List.mem_of_getElem? hv)
  have h1 : V[k]? = some V[k] := List.getElem?_eq_getElem hk
  have h2 : X[k]? = some X[k] := List.getElem?_eq_getElem (by omega)
  rcases h k _ _ h1 h2 with he | hc
  · unfold dvB at hp
    rw [h1, h2, he] at hp
    simp at hp
  · exact hc
/-- Do the mended values do? -/
def mdA (S : List (ByteArray × Int)) (M : List (List Int)) (I V X : List Int) : Bool := fitB S X && !faB M X && doB I V X
def mdB (S : List (ByteArray × Int)) (M : List (List Int)) (I V X : List Int) : Bool := cgG S M I V && mdA S M I V X
theorem md_no {S : List (ByteArray × Int)} {M : List (List Int)} {I V X : List Int} (h : cgG S M I V = false) : mdB S M I V X = false := by unfold mdB; rw [h]; rfl
theorem md_ok {S : List (ByteArray × Int)} {M : List (List Int)} {I V X : List Int} {b : Bool} (h : cgG S M I V = true) (k : mdA S M I V X = b) : mdB S M I V X = b := by unfold mdB; rw [h, k]; rfl
theorem ma_no1 {S : List (ByteArray × Int)} {M : List (List Int)} {I V X : List Int} (h : fitB S X = false) : mdA S M I V X = false := by unfold mdA; rw [h]; rfl
theorem ma_no2 {S : List (ByteArray × Int)} {M : List (List Int)} {I V X : List Int} (h : faB M X = true) : mdA S M I V X = false := by unfold mdA; rw [h]; simp
theorem ma_eq {S : List (ByteArray × Int)} {M : List (List Int)} {I V X : List Int} (h : fitB S X = true) (k : faB M X = false) : mdA S M I V X = doB I V X := by unfold mdA; rw [h, k]; simp
theorem ret_two {a b c d : Bool} (h : a = c) (k : b = d) : Ending.returned (.tuple #[.bool a, .bool b]) = .returned (.tuple #[.bool c, .bool d]) := by rw [h, k]

set_option maxHeartbeats 1000000 in
theorem differOnly_any (x y z : Option Addr) (c0 c1 c2 : Nat) (I V X : List Int) (w : World) (hl : V.length = X.length) (h6 : V.length ≤ 1000) (hI : IIn w x I) (hV : IIn w y V) (hX : IIn w z X) :
    Calls Try.prog 73 #[.slice x I.length c0, .slice y V.length c1, .slice z X.length c2] w fun e w' => e = .returned (.bool (doB I V X)) ∧ Below w.heap.size w w' := by
  have hIh := Lib.hid hI
  have hVh := Lib.hid hV
  have hXh := Lib.hid hX
  have hlh := Lib.hid hl
  clear hI hV hX hl
  go_enter Try.func73, Try.ntmps73
  go_wp2_with fail
  refine (differing_any _ _ _ _ V X _ hlh.out h6 (hVh.out.below (by exact (by repeat (first | exact Below.refl _ _ | assumption | refine Below.drew ?_ | refine below_drewN ?_ _ | refine Below.alloc' ?_ _ | (refine Below.setCell ?_ (by first | omega | (simp; done) | (simp; omega) | exact Below.size (by assumption) | exact Nat.le_trans (Below.size (by assumption)) (by simp)) _) | (refine Below.via' ?_ (by assumption)) | (refine Below.alloc ?_ (by first | omega | (simp; done) | (simp; omega) | exact Below.size (by assumption) | exact Nat.le_trans (Below.size (by assumption)) (by simp)) _) | (refine Below.via ?_ (by assumption) (by first | omega | (simp; done) | (simp; omega) | exact Below.size (by assumption) | exact Nat.le_trans (Below.size (by assumption)) (by simp))))))) (hXh.out.below (by exact (by repeat (first | exact Below.refl _ _ | assumption | refine Below.drew ?_ | refine below_drewN ?_ _ | refine Below.alloc' ?_ _ | (refine Below.setCell ?_ (by first | omega | (simp; done) | (simp; omega) | exact Below.size (by assumption) | exact Nat.le_trans (Below.size (by assumption)) (by simp)) _) | (refine Below.via' ?_ (by assumption)) | (refine Below.alloc ?_ (by first | omega | (simp; done) | (simp; omega) | exact Below.size (by assumption) | exact Nat.le_trans (Below.size (by assumption)) (by simp)) _) | (refine Below.via ?_ (by assumption) (by first | omega | (simp; done) | (simp; omega) | exact Below.size (by assumption) | exact Nat.le_trans (Below.size (by assumption)) (by simp)))))))).mono ?_
  rintro e w1 ⟨u1, rfl, ho1, hb1⟩
  obtain ⟨x1, n1, rfl, -, -⟩ := (OwR.of ho1).form
  have hd1 := Lib.hid (pk_iin h6 (Rd.of_own ho1))
  have hdl := dvL_len V X
  clear ho1
  go_wp2
  go_loopw [13] (fun c wr => ∃ i : Nat, i ≤ (dvL V X).length ∧ c = .int .i64 i ∧ Hid (∀ j, j < i → ∀ v, (dvL V X)[j]? = some v → I.contains v = true) ∧ w1 = wr) (fun c _ => (dvL V X).length - (intOf c).toNat)
  case atStart => exact ⟨0, by omega, rfl, (fun j hj => absurd hj (by omega)), rfl⟩
  case round =>
    obtain ⟨i, hi, rfl, hall, rfl⟩ := hrel
    by_cases hlt : i < (dvL V X).length
    · obtain ⟨bl, off, v, rfl, hbl, hLi, hc0⟩ := hd1.out.2.2.int hlt
      have hLih : Hid ((dvL V X)[i]? = some v) := hLi
      have hlt' : (i : Int) < ((dvL V X).length : Int) := by omega
      have hi0 : (0 : Int) ≤ (i : Int) := by omega
      clear hLi
      go_wp2_with fail
      refine (contains_any _ _ I v _ (hIh.out.below (by exact (by repeat (first | exact Below.refl _ _ | assumption | refine Below.drew ?_ | refine below_drewN ?_ _ | refine Below.alloc' ?_ _ | (refine Below.setCell ?_ (by first | omega | (simp; done) | (simp; omega) | exact Below.size (by assumption) | exact Nat.le_trans (Below.size (by assumption)) (by simp)) _) | (refine Below.via' ?_ (by assumption)) | (refine Below.alloc ?_ (by first | omega | (simp; done) | (simp; omega) | exact Below.size (by assumption) | exact Nat.le_trans (Below.size (by assumption)) (by simp)) _) | (refine Below.via ?_ (by assumption) (by first | omega | (simp; done) | (simp; omega) | exact Below.size (by assumption) | exact Nat.le_trans (Below.size (by assumption)) (by simp)))))))).mono ?_
      rintro e w2 ⟨rfl, rfl⟩
      cases hc : I.contains v
      · have hv := Lib.hid (do_hit hLih.out hc)
        replace hc := Lib.hid hc
        go_wp2
        go_ret
        exact ⟨ret_bool hv.out.symm, (by repeat (first | exact Below.refl _ _ | assumption | refine Below.drew ?_ | refine below_drewN ?_ _ | refine Below.alloc' ?_ _ | (refine Below.setCell ?_ (by first | omega | (simp; done) | (simp; omega) | exact Below.size (by assumption) | exact Nat.le_trans (Below.size (by assumption)) (by simp)) _) | (refine Below.via' ?_ (by assumption)) | (refine Below.alloc ?_ (by first | omega | (simp; done) | (simp; omega) | exact Below.size (by assumption) | exact Nat.le_trans (Below.size (by assumption)) (by simp)) _) | (refine Below.via ?_ (by assumption) (by first | omega | (simp; done) | (simp; omega) | exact Below.size (by assumption) | exact Nat.le_trans (Below.size (by assumption)) (by simp)))))⟩
      · have hch := Lib.hid hc
        clear hc
        go_wp2
        go_roundw
        case rel =>
          refine ⟨i + 1, by omega, by go_num, fun j hj u hu => ?_, by first | rfl | trivial⟩
          rcases Nat.lt_or_ge j i with hj2 | hj2
          · exact hall.out j hj2 u hu
          · obtain rfl : j = i := by omega
            rw [hLih.out] at hu
            cases hu
            exact hch.out
        case measure => simp [intOf]; omega
    · have hij : i = (dvL V X).length := by omega
      have hv : Hid (doB I V X = true) := do_all fun j v hv => hall.out j (by have := (List.getElem?_eq_some_iff.1 hv).1; omega) v hv
      subst hij
      clear hall
      go_wp2
      go_ret
      exact ⟨ret_bool hv.out.symm, (by repeat (first | exact Below.refl _ _ | assumption | refine Below.drew ?_ | refine below_drewN ?_ _ | refine Below.alloc' ?_ _ | (refine Below.setCell ?_ (by first | omega | (simp; done) | (simp; omega) | exact Below.size (by assumption) | exact Nat.le_trans (Below.size (by assumption)) (by simp)) _) | (refine Below.via' ?_ (by assumption)) | (refine Below.alloc ?_ (by first | omega | (simp; done) | (simp; omega) | exact Below.size (by assumption) | exact Nat.le_trans (Below.size (by assumption)) (by simp)) _) | (refine Below.via ?_ (by assumption) (by first | omega | (simp; done) | (simp; omega) | exact Below.size (by assumption) | exact Nat.le_trans (Below.size (by assumption)) (by simp)))))⟩
set_option maxHeartbeats 1000000 in
theorem iIMd_x (x y f z u : Option Addr) (c1 c2 c3 c4 c5 : Nat) (S : List (ByteArray × Int)) (Q : List PR) (I V X : List Int) (w : World) (hS : SIn w x c1 S) (hQ : EIn w y Q) (hI : IIn w f I) (hV : IIn w z V) (hX : IIn w u X) :
    Calls Try.prog 33 #[.slice x S.length c1, .slice y Q.length c2, .slice f I.length c3, .slice z V.length c4, .slice u X.length c5] w fun e w' => e = .returned (.tuple #[.bool (mdB S (eM Q) I V X), .bool (cgG S (eM Q) I V)]) ∧ Below w.heap.size w w' := by
  have hSh := Lib.hid hS
  have hQh := Lib.hid hQ
  have hIh := Lib.hid hI
  have hVh := Lib.hid hV
  have hXh := Lib.hid hX
  have hm := hS.1
  clear hS hQ hI hV hX
  go_enter Try.func33, Try.ntmps33
  go_wp2_with fail
  refine (isSmall_any _ _ _ _ (hSh.out.below (by exact (by repeat (first | exact Below.refl _ _ | assumption | refine Below.drew ?_ | refine below_drewN ?_ _ | refine Below.alloc' ?_ _ | (refine Below.setCell ?_ (by first | omega | (simp; done) | (simp; omega) | exact Below.size (by assumption) | exact Nat.le_trans (Below.size (by assumption)) (by simp)) _) | (refine Below.via' ?_ (by assumption)) | (refine Below.alloc ?_ (by first | omega | (simp; done) | (simp; omega) | exact Below.size (by assumption) | exact Nat.le_trans (Below.size (by assumption)) (by simp)) _) | (refine Below.via ?_ (by assumption) (by first | omega | (simp; done) | (simp; omega) | exact Below.size (by assumption) | exact Nat.le_trans (Below.size (by assumption)) (by simp)))))))).mono ?_
  rintro e w0 ⟨rfl, hb0⟩
  cases hs : smS S
  · have hv := Lib.hid (cg_no1 (F := I) (V := V) (sm_no3 (M := eM Q) hs))
    have hv2 := Lib.hid (md_no (X := X) hv.out)
    go_wp2
    go_ret2
    exact ⟨ret_two hv2.out.symm hv.out.symm, (by repeat (first | exact Below.refl _ _ | assumption | refine Below.drew ?_ | refine below_drewN ?_ _ | refine Below.alloc' ?_ _ | (refine Below.setCell ?_ (by first | omega | (simp; done) | (simp; omega) | exact Below.size (by assumption) | exact Nat.le_trans (Below.size (by assumption)) (by simp)) _) | (refine Below.via' ?_ (by assumption)) | (refine Below.alloc ?_ (by first | omega | (simp; done) | (simp; omega) | exact Below.size (by assumption) | exact Nat.le_trans (Below.size (by assumption)) (by simp)) _) | (refine Below.via ?_ (by assumption) (by first | omega | (simp; done) | (simp; omega) | exact Below.size (by assumption) | exact Nat.le_trans (Below.size (by assumption)) (by simp)))))⟩
  have hsh := Lib.hid (smS_get hs).1
  have hcn := Lib.hid (smS_get hs).2
  clear hs
  go_wp2_with fail
  refine (areEditsFor_any _ _ _ _ S Q _ hsh.out hm (hSh.out.rd.below (by exact (by repeat (first | exact Below.refl _ _ | assumption | refine Below.drew ?_ | refine below_drewN ?_ _ | refine Below.alloc' ?_ _ | (refine Below.setCell ?_ (by first | omega | (simp; done) | (simp; omega) | exact Below.size (by assumption) | exact Nat.le_trans (Below.size (by assumption)) (by simp)) _) | (refine Below.via' ?_ (by assumption)) | (refine Below.alloc ?_ (by first | omega | (simp; done) | (simp; omega) | exact Below.size (by assumption) | exact Nat.le_trans (Below.size (by assumption)) (by simp)) _) | (refine Below.via ?_ (by assumption) (by first | omega | (simp; done) | (simp; omega) | exact Below.size (by assumption) | exact Nat.le_trans (Below.size (by assumption)) (by simp))))))) (hQh.out.below (by exact (by repeat (first | exact Below.refl _ _ | assumption | refine Below.drew ?_ | refine below_drewN ?_ _ | refine Below.alloc' ?_ _ | (refine Below.setCell ?_ (by first | omega | (simp; done) | (simp; omega) | exact Below.size (by assumption) | exact Nat.le_trans (Below.size (by assumption)) (by simp)) _) | (refine Below.via' ?_ (by assumption)) | (refine Below.alloc ?_ (by first | omega | (simp; done) | (simp; omega) | exact Below.size (by assumption) | exact Nat.le_trans (Below.size (by assumption)) (by simp)) _) | (refine Below.via ?_ (by assumption) (by first | omega | (simp; done) | (simp; omega) | exact Below.size (by assumption) | exact Nat.le_trans (Below.size (by assumption)) (by simp)))))))).mono ?_
  rintro e w1 ⟨rfl, hb1⟩
  cases he : elB S (eM Q)
  · have hv := Lib.hid (cg_no1 (F := I) (V := V) (sm_no1 he))
    have hv2 := Lib.hid (md_no (X := X) hv.out)
    go_wp2
    go_ret2
    exact ⟨ret_two hv2.out.symm hv.out.symm, (by repeat (first | exact Below.refl _ _ | assumption | refine Below.drew ?_ | refine below_drewN ?_ _ | refine Below.alloc' ?_ _ | (refine Below.setCell ?_ (by first | omega | (simp; done) | (simp; omega) | exact Below.size (by assumption) | exact Nat.le_trans (Below.size (by assumption)) (by simp)) _) | (refine Below.via' ?_ (by assumption)) | (refine Below.alloc ?_ (by first | omega | (simp; done) | (simp; omega) | exact Below.size (by assumption) | exact Nat.le_trans (Below.size (by assumption)) (by simp)) _) | (refine Below.via ?_ (by assumption) (by first | omega | (simp; done) | (simp; omega) | exact Below.size (by assumption) | exact Nat.le_trans (Below.size (by assumption)) (by simp)))))⟩
  have hsmh := Lib.hid (sm_yes he hcn.out)
  obtain ⟨-, g2, g3⟩ := el_get he
  have hedh := Lib.hid g3
  clear he g2 g3
  go_wp2_with fail
  refine (areVariablesOf_any _ _ _ _ S I _ hm (hIh.out.below (by exact (by repeat (first | exact Below.refl _ _ | assumption | refine Below.drew ?_ | refine below_drewN ?_ _ | refine Below.alloc' ?_ _ | (refine Below.setCell ?_ (by first | omega | (simp; done) | (simp; omega) | exact Below.size (by assumption) | exact Nat.le_trans (Below.size (by assumption)) (by simp)) _) | (refine Below.via' ?_ (by assumption)) | (refine Below.alloc ?_ (by first | omega | (simp; done) | (simp; omega) | exact Below.size (by assumption) | exact Nat.le_trans (Below.size (by assumption)) (by simp)) _) | (refine Below.via ?_ (by assumption) (by first | omega | (simp; done) | (simp; omega) | exact Below.size (by assumption) | exact Nat.le_trans (Below.size (by assumption)) (by simp)))))))).mono ?_
  rintro e w2 ⟨rfl, rfl⟩
  cases hr : rsB S I
  · have hv := Lib.hid (cg_no2 (M := eM Q) (V := V) hr)
    have hv2 := Lib.hid (md_no (X := X) hv.out)
    go_wp2
    go_ret2
    exact ⟨ret_two hv2.out.symm hv.out.symm, (by repeat (first | exact Below.refl _ _ | assumption | refine Below.drew ?_ | refine below_drewN ?_ _ | refine Below.alloc' ?_ _ | (refine Below.setCell ?_ (by first | omega | (simp; done) | (simp; omega) | exact Below.size (by assumption) | exact Nat.le_trans (Below.size (by assumption)) (by simp)) _) | (refine Below.via' ?_ (by assumption)) | (refine Below.alloc ?_ (by first | omega | (simp; done) | (simp; omega) | exact Below.size (by assumption) | exact Nat.le_trans (Below.size (by assumption)) (by simp)) _) | (refine Below.via ?_ (by assumption) (by first | omega | (simp; done) | (simp; omega) | exact Below.size (by assumption) | exact Nat.le_trans (Below.size (by assumption)) (by simp)))))⟩
  have hrh := Lib.hid hr
  clear hr
  go_wp2_with fail
  refine (areValues_any _ _ _ _ S V _ hsh.out hm (hSh.out.rd.below (by exact (by repeat (first | exact Below.refl _ _ | assumption | refine Below.drew ?_ | refine below_drewN ?_ _ | refine Below.alloc' ?_ _ | (refine Below.setCell ?_ (by first | omega | (simp; done) | (simp; omega) | exact Below.size (by assumption) | exact Nat.le_trans (Below.size (by assumption)) (by simp)) _) | (refine Below.via' ?_ (by assumption)) | (refine Below.alloc ?_ (by first | omega | (simp; done) | (simp; omega) | exact Below.size (by assumption) | exact Nat.le_trans (Below.size (by assumption)) (by simp)) _) | (refine Below.via ?_ (by assumption) (by first | omega | (simp; done) | (simp; omega) | exact Below.size (by assumption) | exact Nat.le_trans (Below.size (by assumption)) (by simp))))))) (hVh.out.below (by exact (by repeat (first | exact Below.refl _ _ | assumption | refine Below.drew ?_ | refine below_drewN ?_ _ | refine Below.alloc' ?_ _ | (refine Below.setCell ?_ (by first | omega | (simp; done) | (simp; omega) | exact Below.size (by assumption) | exact Nat.le_trans (Below.size (by assumption)) (by simp)) _) | (refine Below.via' ?_ (by assumption)) | (refine Below.alloc ?_ (by first | omega | (simp; done) | (simp; omega) | exact Below.size (by assumption) | exact Nat.le_trans (Below.size (by assumption)) (by simp)) _) | (refine Below.via ?_ (by assumption) (by first | omega | (simp; done) | (simp; omega) | exact Below.size (by assumption) | exact Nat.le_trans (Below.size (by assumption)) (by simp)))))))).mono ?_
  rintro e w3 ⟨rfl, hb3⟩
  cases hf : fitB S V
  · have hv := Lib.hid (cg_no3 (M := eM Q) (F := I) hf)
    have hv2 := Lib.hid (md_no (X := X) hv.out)
    go_wp2
    go_ret2
    exact ⟨ret_two hv2.out.symm hv.out.symm, (by repeat (first | exact Below.refl _ _ | assumption | refine Below.drew ?_ | refine below_drewN ?_ _ | refine Below.alloc' ?_ _ | (refine Below.setCell ?_ (by first | omega | (simp; done) | (simp; omega) | exact Below.size (by assumption) | exact Nat.le_trans (Below.size (by assumption)) (by simp)) _) | (refine Below.via' ?_ (by assumption)) | (refine Below.alloc ?_ (by first | omega | (simp; done) | (simp; omega) | exact Below.size (by assumption) | exact Nat.le_trans (Below.size (by assumption)) (by simp)) _) | (refine Below.via ?_ (by assumption) (by first | omega | (simp; done) | (simp; omega) | exact Below.size (by assumption) | exact Nat.le_trans (Below.size (by assumption)) (by simp)))))⟩
  have hv := Lib.hid (cg_yes hsmh.out hrh.out hf)
  have hlV := Lib.hid (fit_len hf)
  clear hf
  go_wp2_with fail
  refine (areValues_any _ _ _ _ S X _ hsh.out hm (hSh.out.rd.below (by exact (by repeat (first | exact Below.refl _ _ | assumption | refine Below.drew ?_ | refine below_drewN ?_ _ | refine Below.alloc' ?_ _ | (refine Below.setCell ?_ (by first | omega | (simp; done) | (simp; omega) | exact Below.size (by assumption) | exact Nat.le_trans (Below.size (by assumption)) (by simp)) _) | (refine Below.via' ?_ (by assumption)) | (refine Below.alloc ?_ (by first | omega | (simp; done) | (simp; omega) | exact Below.size (by assumption) | exact Nat.le_trans (Below.size (by assumption)) (by simp)) _) | (refine Below.via ?_ (by assumption) (by first | omega | (simp; done) | (simp; omega) | exact Below.size (by assumption) | exact Nat.le_trans (Below.size (by assumption)) (by simp))))))) (hXh.out.below (by exact (by repeat (first | exact Below.refl _ _ | assumption | refine Below.drew ?_ | refine below_drewN ?_ _ | refine Below.alloc' ?_ _ | (refine Below.setCell ?_ (by first | omega | (simp; done) | (simp; omega) | exact Below.size (by assumption) | exact Nat.le_trans (Below.size (by assumption)) (by simp)) _) | (refine Below.via' ?_ (by assumption)) | (refine Below.alloc ?_ (by first | omega | (simp; done) | (simp; omega) | exact Below.size (by assumption) | exact Nat.le_trans (Below.size (by assumption)) (by simp)) _) | (refine Below.via ?_ (by assumption) (by first | omega | (simp; done) | (simp; omega) | exact Below.size (by assumption) | exact Nat.le_trans (Below.size (by assumption)) (by simp)))))))).mono ?_
  rintro e w4 ⟨rfl, hb4⟩
  cases hf : fitB S X
  · have hv2 := Lib.hid (md_ok (M := eM Q) (I := I) (V := V) hv.out (ma_no1 hf))
    go_wp2
    go_ret2
    exact ⟨ret_two hv2.out.symm hv.out.symm, (by repeat (first | exact Below.refl _ _ | assumption | refine Below.drew ?_ | refine below_drewN ?_ _ | refine Below.alloc' ?_ _ | (refine Below.setCell ?_ (by first | omega | (simp; done) | (simp; omega) | exact Below.size (by assumption) | exact Nat.le_trans (Below.size (by assumption)) (by simp)) _) | (refine Below.via' ?_ (by assumption)) | (refine Below.alloc ?_ (by first | omega | (simp; done) | (simp; omega) | exact Below.size (by assumption) | exact Nat.le_trans (Below.size (by assumption)) (by simp)) _) | (refine Below.via ?_ (by assumption) (by first | omega | (simp; done) | (simp; omega) | exact Below.size (by assumption) | exact Nat.le_trans (Below.size (by assumption)) (by simp)))))⟩
  have hfh := Lib.hid hf
  have hlX := Lib.hid (fit_len hf)
  clear hf
  have hfi := Lib.hid (fun E hE => fine_of hsh.out (hedh.out E hE) hfh.out)
  go_wp2_with fail
  refine (failsAny_any _ _ _ _ Q X _ hfi.out (hQh.out.below (by exact (by repeat (first | exact Below.refl _ _ | assumption | refine Below.drew ?_ | refine below_drewN ?_ _ | refine Below.alloc' ?_ _ | (refine Below.setCell ?_ (by first | omega | (simp; done) | (simp; omega) | exact Below.size (by assumption) | exact Nat.le_trans (Below.size (by assumption)) (by simp)) _) | (refine Below.via' ?_ (by assumption)) | (refine Below.alloc ?_ (by first | omega | (simp; done) | (simp; omega) | exact Below.size (by assumption) | exact Nat.le_trans (Below.size (by assumption)) (by simp)) _) | (refine Below.via ?_ (by assumption) (by first | omega | (simp; done) | (simp; omega) | exact Below.size (by assumption) | exact Nat.le_trans (Below.size (by assumption)) (by simp))))))) (hXh.out.below (by exact (by repeat (first | exact Below.refl _ _ | assumption | refine Below.drew ?_ | refine below_drewN ?_ _ | refine Below.alloc' ?_ _ | (refine Below.setCell ?_ (by first | omega | (simp; done) | (simp; omega) | exact Below.size (by assumption) | exact Nat.le_trans (Below.size (by assumption)) (by simp)) _) | (refine Below.via' ?_ (by assumption)) | (refine Below.alloc ?_ (by first | omega | (simp; done) | (simp; omega) | exact Below.size (by assumption) | exact Nat.le_trans (Below.size (by assumption)) (by simp)) _) | (refine Below.via ?_ (by assumption) (by first | omega | (simp; done) | (simp; omega) | exact Below.size (by assumption) | exact Nat.le_trans (Below.size (by assumption)) (by simp)))))))).mono ?_
  rintro e w5 ⟨rfl, hb5⟩
  cases hh : faB (eM Q) X
  · have hme := Lib.hid (md_ok hv.out (ma_eq (I := I) (V := V) hfh.out hh))
    clear hh
    go_wp2_with fail
    refine (differOnly_any _ _ _ _ _ _ I V X _ (by rw [hlV.out, hlX.out]) (by rw [hlV.out]; have := (schB_len hsh.out).2; omega) (hIh.out.below (by exact (by repeat (first | exact Below.refl _ _ | assumption | refine Below.drew ?_ | refine below_drewN ?_ _ | refine Below.alloc' ?_ _ | (refine Below.setCell ?_ (by first | omega | (simp; done) | (simp; omega) | exact Below.size (by assumption) | exact Nat.le_trans (Below.size (by assumption)) (by simp)) _) | (refine Below.via' ?_ (by assumption)) | (refine Below.alloc ?_ (by first | omega | (simp; done) | (simp; omega) | exact Below.size (by assumption) | exact Nat.le_trans (Below.size (by assumption)) (by simp)) _) | (refine Below.via ?_ (by assumption) (by first | omega | (simp; done) | (simp; omega) | exact Below.size (by assumption) | exact Nat.le_trans (Below.size (by assumption)) (by simp))))))) (hVh.out.below (by exact (by repeat (first | exact Below.refl _ _ | assumption | refine Below.drew ?_ | refine below_drewN ?_ _ | refine Below.alloc' ?_ _ | (refine Below.setCell ?_ (by first | omega | (simp; done) | (simp; omega) | exact Below.size (by assumption) | exact Nat.le_trans (Below.size (by assumption)) (by simp)) _) | (refine Below.via' ?_ (by assumption)) | (refine Below.alloc ?_ (by first | omega | (simp; done) | (simp; omega) | exact Below.size (by assumption) | exact Nat.le_trans (Below.size (by assumption)) (by simp)) _) | (refine Below.via ?_ (by assumption) (by first | omega | (simp; done) | (simp; omega) | exact Below.size (by assumption) | exact Nat.le_trans (Below.size (by assumption)) (by simp))))))) (hXh.out.below (by exact (by repeat (first | exact Below.refl _ _ | assumption | refine Below.drew ?_ | refine below_drewN ?_ _ | refine Below.alloc' ?_ _ | (refine Below.setCell ?_ (by first | omega | (simp; done) | (simp; omega) | exact Below.size (by assumption) | exact Nat.le_trans (Below.size (by assumption)) (by simp)) _) | (refine Below.via' ?_ (by assumption)) | (refine Below.alloc ?_ (by first | omega | (simp; done) | (simp; omega) | exact Below.size (by assumption) | exact Nat.le_trans (Below.size (by assumption)) (by simp)) _) | (refine Below.via ?_ (by assumption) (by first | omega | (simp; done) | (simp; omega) | exact Below.size (by assumption) | exact Nat.le_trans (Below.size (by assumption)) (by simp)))))))).mono ?_
    rintro e w6 ⟨rfl, hb6⟩
    go_wp2
    go_ret2
    exact ⟨ret_two hme.out.symm hv.out.symm, (by repeat (first | exact Below.refl _ _ | assumption | refine Below.drew ?_ | refine below_drewN ?_ _ | refine Below.alloc' ?_ _ | (refine Below.setCell ?_ (by first | omega | (simp; done) | (simp; omega) | exact Below.size (by assumption) | exact Nat.le_trans (Below.size (by assumption)) (by simp)) _) | (refine Below.via' ?_ (by assumption)) | (refine Below.alloc ?_ (by first | omega | (simp; done) | (simp; omega) | exact Below.size (by assumption) | exact Nat.le_trans (Below.size (by assumption)) (by simp)) _) | (refine Below.via ?_ (by assumption) (by first | omega | (simp; done) | (simp; omega) | exact Below.size (by assumption) | exact Nat.le_trans (Below.size (by assumption)) (by simp)))))⟩
  · have hv2 := Lib.hid (md_ok hv.out (ma_no2 (S := S) (I := I) (V := V) hh))
    clear hh
    go_wp2
    go_ret2
    exact ⟨ret_two hv2.out.symm hv.out.symm, (by repeat (first | exact Below.refl _ _ | assumption | refine Below.drew ?_ | refine below_drewN ?_ _ | refine Below.alloc' ?_ _ | (refine Below.setCell ?_ (by first | omega | (simp; done) | (simp; omega) | exact Below.size (by assumption) | exact Nat.le_trans (Below.size (by assumption)) (by simp)) _) | (refine Below.via' ?_ (by assumption)) | (refine Below.alloc ?_ (by first | omega | (simp; done) | (simp; omega) | exact Below.size (by assumption) | exact Nat.le_trans (Below.size (by assumption)) (by simp)) _) | (refine Below.via ?_ (by assumption) (by first | omega | (simp; done) | (simp; omega) | exact Below.size (by assumption) | exact Nat.le_trans (Below.size (by assumption)) (by simp)))))⟩
set_option maxHeartbeats 2000000 in
theorem sIMd_x (x y f z u : Option Addr) (c1 c2 c3 c4 c5 : Nat) (S : List (ByteArray × Int)) (Q : List PR) (I V X : List Int) (w : World) (hS : SIn w x c1 S) (hQ : EIn w y Q) (hI : IIn w f I) (hV : IIn w z V) (hX : IIn w u X) :
    Calls Try.prog 32 #[.slice x S.length c1, .slice y Q.length c2, .slice f I.length c3, .slice z V.length c4, .slice u X.length c5] w fun e w' => e = .returned (.tuple #[.bool (mdB S (eM Q) I V X), .bool (cgG S (eM Q) I V)]) ∧ Below w.heap.size w w' := by
  have hSh := Lib.hid hS
  have hQh := Lib.hid hQ
  have hIh := Lib.hid hI
  have hVh := Lib.hid hV
  have hXh := Lib.hid hX
  have hm := hS.1
  have hel := Lib.hid (eM_len Q)
  clear hS hQ hI hV hX
  go_enter Try.func32, Try.ntmps32
  go_wp2_with fail
  refine (eSmall_any _ _ _ _ S Q _ (hSh.out.below (by exact (by repeat (first | exact Below.refl _ _ | assumption | refine Below.drew ?_ | refine below_drewN ?_ _ | refine Below.alloc' ?_ _ | (refine Below.setCell ?_ (by first | omega | (simp; done) | (simp; omega) | exact Below.size (by assumption) | exact Nat.le_trans (Below.size (by assumption)) (by simp)) _) | (refine Below.via' ?_ (by assumption)) | (refine Below.alloc ?_ (by first | omega | (simp; done) | (simp; omega) | exact Below.size (by assumption) | exact Nat.le_trans (Below.size (by assumption)) (by simp)) _) | (refine Below.via ?_ (by assumption) (by first | omega | (simp; done) | (simp; omega) | exact Below.size (by assumption) | exact Nat.le_trans (Below.size (by assumption)) (by simp))))))) (hQh.out.below (by exact (by repeat (first | exact Below.refl _ _ | assumption | refine Below.drew ?_ | refine below_drewN ?_ _ | refine Below.alloc' ?_ _ | (refine Below.setCell ?_ (by first | omega | (simp; done) | (simp; omega) | exact Below.size (by assumption) | exact Nat.le_trans (Below.size (by assumption)) (by simp)) _) | (refine Below.via' ?_ (by assumption)) | (refine Below.alloc ?_ (by first | omega | (simp; done) | (simp; omega) | exact Below.size (by assumption) | exact Nat.le_trans (Below.size (by assumption)) (by simp)) _) | (refine Below.via ?_ (by assumption) (by first | omega | (simp; done) | (simp; omega) | exact Below.size (by assumption) | exact Nat.le_trans (Below.size (by assumption)) (by simp)))))))).mono ?_
  rintro e w1 ⟨rfl, hb1⟩
  cases he : smB S (eM Q)
  · have hv := Lib.hid (cg_no1 (F := I) (V := V) he)
    have hv2 := Lib.hid (md_no (X := X) hv.out)
    go_wp2
    go_ret2
    exact ⟨ret_two hv2.out.symm hv.out.symm, (by repeat (first | exact Below.refl _ _ | assumption | refine Below.drew ?_ | refine below_drewN ?_ _ | refine Below.alloc' ?_ _ | (refine Below.setCell ?_ (by first | omega | (simp; done) | (simp; omega) | exact Below.size (by assumption) | exact Nat.le_trans (Below.size (by assumption)) (by simp)) _) | (refine Below.via' ?_ (by assumption)) | (refine Below.alloc ?_ (by first | omega | (simp; done) | (simp; omega) | exact Below.size (by assumption) | exact Nat.le_trans (Below.size (by assumption)) (by simp)) _) | (refine Below.via ?_ (by assumption) (by first | omega | (simp; done) | (simp; omega) | exact Below.size (by assumption) | exact Nat.le_trans (Below.size (by assumption)) (by simp)))))⟩
  have hsmh := Lib.hid he
  obtain ⟨g1, g2, g3⟩ := el_get (sm_get he).1
  have hsh := Lib.hid g1
  have hl40 : Q.length ≤ 40 := by have := hel.out; omega
  have hedh := Lib.hid g3
  clear he g1 g2 g3
  go_wp2_with fail
  refine (sFits_any _ _ _ _ S V _ hsh.out hm (hSh.out.rd.below (by exact (by repeat (first | exact Below.refl _ _ | assumption | refine Below.drew ?_ | refine below_drewN ?_ _ | refine Below.alloc' ?_ _ | (refine Below.setCell ?_ (by first | omega | (simp; done) | (simp; omega) | exact Below.size (by assumption) | exact Nat.le_trans (Below.size (by assumption)) (by simp)) _) | (refine Below.via' ?_ (by assumption)) | (refine Below.alloc ?_ (by first | omega | (simp; done) | (simp; omega) | exact Below.size (by assumption) | exact Nat.le_trans (Below.size (by assumption)) (by simp)) _) | (refine Below.via ?_ (by assumption) (by first | omega | (simp; done) | (simp; omega) | exact Below.size (by assumption) | exact Nat.le_trans (Below.size (by assumption)) (by simp))))))) (hVh.out.below (by exact (by repeat (first | exact Below.refl _ _ | assumption | refine Below.drew ?_ | refine below_drewN ?_ _ | refine Below.alloc' ?_ _ | (refine Below.setCell ?_ (by first | omega | (simp; done) | (simp; omega) | exact Below.size (by assumption) | exact Nat.le_trans (Below.size (by assumption)) (by simp)) _) | (refine Below.via' ?_ (by assumption)) | (refine Below.alloc ?_ (by first | omega | (simp; done) | (simp; omega) | exact Below.size (by assumption) | exact Nat.le_trans (Below.size (by assumption)) (by simp)) _) | (refine Below.via ?_ (by assumption) (by first | omega | (simp; done) | (simp; omega) | exact Below.size (by assumption) | exact Nat.le_trans (Below.size (by assumption)) (by simp)))))))).mono ?_
  rintro e w3 ⟨rfl, hb3⟩
  cases hf : fitB S V
  · have hv := Lib.hid (cg_no3 (M := eM Q) (F := I) hf)
    have hv2 := Lib.hid (md_no (X := X) hv.out)
    go_wp2
    go_ret2
    exact ⟨ret_two hv2.out.symm hv.out.symm, (by repeat (first | exact Below.refl _ _ | assumption | refine Below.drew ?_ | refine below_drewN ?_ _ | refine Below.alloc' ?_ _ | (refine Below.setCell ?_ (by first | omega | (simp; done) | (simp; omega) | exact Below.size (by assumption) | exact Nat.le_trans (Below.size (by assumption)) (by simp)) _) | (refine Below.via' ?_ (by assumption)) | (refine Below.alloc ?_ (by first | omega | (simp; done) | (simp; omega) | exact Below.size (by assumption) | exact Nat.le_trans (Below.size (by assumption)) (by simp)) _) | (refine Below.via ?_ (by assumption) (by first | omega | (simp; done) | (simp; omega) | exact Below.size (by assumption) | exact Nat.le_trans (Below.size (by assumption)) (by simp)))))⟩
  have hfv := Lib.hid hf
  have hlV := Lib.hid (fit_len hf)
  clear hf
  go_wp2_with fail
  refine (l1Rising_any _ _ S I _ hm (hIh.out.below (by exact (by repeat (first | exact Below.refl _ _ | assumption | refine Below.drew ?_ | refine below_drewN ?_ _ | refine Below.alloc' ?_ _ | (refine Below.setCell ?_ (by first | omega | (simp; done) | (simp; omega) | exact Below.size (by assumption) | exact Nat.le_trans (Below.size (by assumption)) (by simp)) _) | (refine Below.via' ?_ (by assumption)) | (refine Below.alloc ?_ (by first | omega | (simp; done) | (simp; omega) | exact Below.size (by assumption) | exact Nat.le_trans (Below.size (by assumption)) (by simp)) _) | (refine Below.via ?_ (by assumption) (by first | omega | (simp; done) | (simp; omega) | exact Below.size (by assumption) | exact Nat.le_trans (Below.size (by assumption)) (by simp)))))))).mono ?_
  rintro e w2 ⟨rfl, hb2⟩
  cases hr : rsB S I
  · have hv := Lib.hid (cg_no2 (M := eM Q) (V := V) hr)
    have hv2 := Lib.hid (md_no (X := X) hv.out)
    go_wp2
    go_ret2
    exact ⟨ret_two hv2.out.symm hv.out.symm, (by repeat (first | exact Below.refl _ _ | assumption | refine Below.drew ?_ | refine below_drewN ?_ _ | refine Below.alloc' ?_ _ | (refine Below.setCell ?_ (by first | omega | (simp; done) | (simp; omega) | exact Below.size (by assumption) | exact Nat.le_trans (Below.size (by assumption)) (by simp)) _) | (refine Below.via' ?_ (by assumption)) | (refine Below.alloc ?_ (by first | omega | (simp; done) | (simp; omega) | exact Below.size (by assumption) | exact Nat.le_trans (Below.size (by assumption)) (by simp)) _) | (refine Below.via ?_ (by assumption) (by first | omega | (simp; done) | (simp; omega) | exact Below.size (by assumption) | exact Nat.le_trans (Below.size (by assumption)) (by simp)))))⟩
  have hv := Lib.hid (cg_yes hsmh.out hr hfv.out)
  clear hr
  go_wp2_with fail
  refine (sFits_any _ _ _ _ S X _ hsh.out hm (hSh.out.rd.below (by exact (by repeat (first | exact Below.refl _ _ | assumption | refine Below.drew ?_ | refine below_drewN ?_ _ | refine Below.alloc' ?_ _ | (refine Below.setCell ?_ (by first | omega | (simp; done) | (simp; omega) | exact Below.size (by assumption) | exact Nat.le_trans (Below.size (by assumption)) (by simp)) _) | (refine Below.via' ?_ (by assumption)) | (refine Below.alloc ?_ (by first | omega | (simp; done) | (simp; omega) | exact Below.size (by assumption) | exact Nat.le_trans (Below.size (by assumption)) (by simp)) _) | (refine Below.via ?_ (by assumption) (by first | omega | (simp; done) | (simp; omega) | exact Below.size (by assumption) | exact Nat.le_trans (Below.size (by assumption)) (by simp))))))) (hXh.out.below (by exact (by repeat (first | exact Below.refl _ _ | assumption | refine Below.drew ?_ | refine below_drewN ?_ _ | refine Below.alloc' ?_ _ | (refine Below.setCell ?_ (by first | omega | (simp; done) | (simp; omega) | exact Below.size (by assumption) | exact Nat.le_trans (Below.size (by assumption)) (by simp)) _) | (refine Below.via' ?_ (by assumption)) | (refine Below.alloc ?_ (by first | omega | (simp; done) | (simp; omega) | exact Below.size (by assumption) | exact Nat.le_trans (Below.size (by assumption)) (by simp)) _) | (refine Below.via ?_ (by assumption) (by first | omega | (simp; done) | (simp; omega) | exact Below.size (by assumption) | exact Nat.le_trans (Below.size (by assumption)) (by simp)))))))).mono ?_
  rintro e w4 ⟨rfl, hb4⟩
  cases hf : fitB S X
  · have hv2 := Lib.hid (md_ok (M := eM Q) (I := I) (V := V) hv.out (ma_no1 hf))
    go_wp2
    go_ret2
    exact ⟨ret_two hv2.out.symm hv.out.symm, (by repeat (first | exact Below.refl _ _ | assumption | refine Below.drew ?_ | refine below_drewN ?_ _ | refine Below.alloc' ?_ _ | (refine Below.setCell ?_ (by first | omega | (simp; done) | (simp; omega) | exact Below.size (by assumption) | exact Nat.le_trans (Below.size (by assumption)) (by simp)) _) | (refine Below.via' ?_ (by assumption)) | (refine Below.alloc ?_ (by first | omega | (simp; done) | (simp; omega) | exact Below.size (by assumption) | exact Nat.le_trans (Below.size (by assumption)) (by simp)) _) | (refine Below.via ?_ (by assumption) (by first | omega | (simp; done) | (simp; omega) | exact Below.size (by assumption) | exact Nat.le_trans (Below.size (by assumption)) (by simp)))))⟩
  have hfh := Lib.hid hf
  have hlX := Lib.hid (fit_len hf)
  clear hf
  have hfi := Lib.hid (fun E hE => fine_of hsh.out (hedh.out E hE) hfh.out)
  have hfn := fe_none (M := eM Q) (V := X)
  cases hh : faB (eM Q) X
  · have hz0 := hfn.2 hh
    have hme := Lib.hid (md_ok hv.out (ma_eq (I := I) (V := V) hfh.out hh))
    replace hz0 := Lib.hid hz0
    clear hfn hh
    go_wp2_with fail
    refine (eFailed_any _ _ _ _ Q X _ hl40 hfi.out (hQh.out.below (by exact (by repeat (first | exact Below.refl _ _ | assumption | refine Below.drew ?_ | refine below_drewN ?_ _ | refine Below.alloc' ?_ _ | (refine Below.setCell ?_ (by first | omega | (simp; done) | (simp; omega) | exact Below.size (by assumption) | exact Nat.le_trans (Below.size (by assumption)) (by simp)) _) | (refine Below.via' ?_ (by assumption)) | (refine Below.alloc ?_ (by first | omega | (simp; done) | (simp; omega) | exact Below.size (by assumption) | exact Nat.le_trans (Below.size (by assumption)) (by simp)) _) | (refine Below.via ?_ (by assumption) (by first | omega | (simp; done) | (simp; omega) | exact Below.size (by assumption) | exact Nat.le_trans (Below.size (by assumption)) (by simp))))))) (hXh.out.below (by exact (by repeat (first | exact Below.refl _ _ | assumption | refine Below.drew ?_ | refine below_drewN ?_ _ | refine Below.alloc' ?_ _ | (refine Below.setCell ?_ (by first | omega | (simp; done) | (simp; omega) | exact Below.size (by assumption) | exact Nat.le_trans (Below.size (by assumption)) (by simp)) _) | (refine Below.via' ?_ (by assumption)) | (refine Below.alloc ?_ (by first | omega | (simp; done) | (simp; omega) | exact Below.size (by assumption) | exact Nat.le_trans (Below.size (by assumption)) (by simp)) _) | (refine Below.via ?_ (by assumption) (by first | omega | (simp; done) | (simp; omega) | exact Below.size (by assumption) | exact Nat.le_trans (Below.size (by assumption)) (by simp)))))))).mono ?_
    rintro e w5 ⟨u3, rfl, ho3, hb5⟩
    obtain ⟨x3, n3, rfl, -, -⟩ := (OwR.of ho3).form
    clear ho3
    rw [hz0.out]
    have hB5 : Below w.heap.size w w5 := (by repeat (first | exact Below.refl _ _ | assumption | refine Below.drew ?_ | refine below_drewN ?_ _ | refine Below.alloc' ?_ _ | (refine Below.setCell ?_ (by first | omega | (simp; done) | (simp; omega) | exact Below.size (by assumption) | exact Nat.le_trans (Below.size (by assumption)) (by simp)) _) | (refine Below.via' ?_ (by assumption)) | (refine Below.alloc ?_ (by first | omega | (simp; done) | (simp; omega) | exact Below.size (by assumption) | exact Nat.le_trans (Below.size (by assumption)) (by simp)) _) | (refine Below.via ?_ (by assumption) (by first | omega | (simp; done) | (simp; omega) | exact Below.size (by assumption) | exact Nat.le_trans (Below.size (by assumption)) (by simp)))))
    have hlX6 : X.length ≤ 6 := by rw [hlX.out]; exact (schB_len hsh.out).2
    clear hb1 hb2 hb3 hb4 hb5
    go_wp2
    go_loopw [44] (fun c wr => ∃ i : Nat, i ≤ X.length ∧ c = .int .i64 i ∧ Hid (∀ j, j < i → ∀ a d, V[j]? = some a → X[j]? = some d → a = d ∨ I.contains (j : Int) = true) ∧ Below w.heap.size w wr) (fun c _ => X.length - (intOf c).toNat)
    case atStart => exact ⟨0, by omega, rfl, (fun j hj => absurd hj (by omega)), hB5⟩
    case round =>
      obtain ⟨i, hi, rfl, hall, hBr⟩ := hrel
      by_cases hlt : i < X.length
      · obtain ⟨bl, off, a, rfl, hbl, hVi, hc0⟩ := (hVh.out.below hBr).2.2.int (i := i) (by have := hlX.out; have := hlV.out; omega)
        obtain ⟨bl2, off2, d, rfl, hbl2, hXi, hc1⟩ := (hXh.out.below hBr).2.2.int hlt
        have hIr := Lib.hid (hIh.out.below hBr)
        have hlt' : (i : Int) < (X.length : Int) := by omega
        have hlt2 : (i : Int) < (V.length : Int) := by have := hlX.out; have := hlV.out; omega
        have hi0 : (0 : Int) ≤ (i : Int) := by omega
        have hVh2 := Lib.hid hVi
        have hXh2 := Lib.hid hXi
        clear hVi hXi hB5
        go_wp2
        go_upto_region 8 with fail
        go_cut [61] (fun s61 wx => s61 = .bool (!decide (a = d) && !I.contains (i : Int)) ∧ Below w.heap.size w wx)
        case first =>
          by_cases heq : a = d
          · have heb : (d == a) = true := by rw [beq_iff_eq]; exact heq.symm
            have hnb : (d != a) = false := by rw [bne, heb]; rfl
            have hdd : decide (d = a) = true := decide_eq_true heq.symm
            have hres : Hid ((!decide (a = d) && !I.contains (i : Int)) = false) := by unfold Hid; simp [heq]
            replace heq := Lib.hid heq
            go_region
            all_goals
              go_wp2_with fail
              go_meet
              exact ⟨by first | (rw [hres.out]; done) | (rw [hres.out]; simp; done), (by repeat (first | exact Below.refl _ _ | assumption | refine Below.drew ?_ | refine below_drewN ?_ _ | refine Below.alloc' ?_ _ | (refine Below.setCell ?_ (by first | omega | (simp; done) | (simp; omega) | exact Below.size (by assumption) | exact Nat.le_trans (Below.size (by assumption)) (by simp)) _) | (refine Below.via' ?_ (by assumption)) | (refine Below.alloc ?_ (by first | omega | (simp; done) | (simp; omega) | exact Below.size (by assumption) | exact Nat.le_trans (Below.size (by assumption)) (by simp)) _) | (refine Below.via ?_ (by assumption) (by first | omega | (simp; done) | (simp; omega) | exact Below.size (by assumption) | exact Nat.le_trans (Below.size (by assumption)) (by simp)))))⟩
          · have heb : (d == a) = false := by rw [beq_eq_false_iff_ne]; exact fun h => heq h.symm
            have hnb : (d != a) = true := by rw [bne, heb]; rfl
            have hdd : decide (d = a) = false := decide_eq_false (fun h => heq h.symm)
            have hres : Hid ((!decide (a = d) && !I.contains (i : Int)) = !I.contains (i : Int)) := by unfold Hid; simp [heq]
            replace heq := Lib.hid heq
            first | go_region_with (go_at_call 59; refine (l1Has_any _ _ I (i : Int) _ (hIr.out.below (by exact (by repeat (first | exact Below.refl _ _ | assumption | refine Below.drew ?_ | refine below_drewN ?_ _ | refine Below.alloc' ?_ _ | (refine Below.setCell ?_ (by first | omega | (simp; done) | (simp; omega) | exact Below.size (by assumption) | exact Nat.le_trans (Below.size (by assumption)) (by simp)) _) | (refine Below.via' ?_ (by assumption)) | (refine Below.alloc ?_ (by first | omega | (simp; done) | (simp; omega) | exact Below.size (by assumption) | exact Nat.le_trans (Below.size (by assumption)) (by simp)) _) | (refine Below.via ?_ (by assumption) (by first | omega | (simp; done) | (simp; omega) | exact Below.size (by assumption) | exact Nat.le_trans (Below.size (by assumption)) (by simp)))))))).mono ?_; rintro e wz ⟨rfl, rfl⟩) | fail
            all_goals
              go_wp2_with fail
              go_meet
              exact ⟨by first | (rw [hres.out]; done) | (rw [hres.out]; simp; done), (by repeat (first | exact Below.refl _ _ | assumption | refine Below.drew ?_ | refine below_drewN ?_ _ | refine Below.alloc' ?_ _ | (refine Below.setCell ?_ (by first | omega | (simp; done) | (simp; omega) | exact Below.size (by assumption) | exact Nat.le_trans (Below.size (by assumption)) (by simp)) _) | (refine Below.via' ?_ (by assumption)) | (refine Below.alloc ?_ (by first | omega | (simp; done) | (simp; omega) | exact Below.size (by assumption) | exact Nat.le_trans (Below.size (by assumption)) (by simp)) _) | (refine Below.via ?_ (by assumption) (by first | omega | (simp; done) | (simp; omega) | exact Below.size (by assumption) | exact Nat.le_trans (Below.size (by assumption)) (by simp)))))⟩
        obtain ⟨rfl, hBx⟩ := hcut
        obtain ⟨wx, rfl⟩ : ∃ x : World, x = wc := ⟨_, rfl⟩
        clear hc0 hc1 hbl hbl2 hBr
        cases hcv : (!decide (a = d) && !I.contains (i : Int))
        · have hst : Hid (a = d ∨ I.contains (i : Int) = true) := by
            unfold Hid
            by_cases heq : a = d
            · exact .inl heq
            · right
              cases hc : I.contains (i : Int)
              · rw [hc, decide_eq_false heq] at hcv
                cases hcv
              · rfl
          replace hcv := Lib.hid hcv
          go_wp2
          go_roundw
          case rel =>
            refine ⟨i + 1, by omega, by go_num, fun j hj a2 d2 h1 h2 => ?_, (by repeat (first | exact Below.refl _ _ | assumption | refine Below.drew ?_ | refine below_drewN ?_ _ | refine Below.alloc' ?_ _ | (refine Below.setCell ?_ (by first | omega | (simp; done) | (simp; omega) | exact Below.size (by assumption) | exact Nat.le_trans (Below.size (by assumption)) (by simp)) _) | (refine Below.via' ?_ (by assumption)) | (refine Below.alloc ?_ (by first | omega | (simp; done) | (simp; omega) | exact Below.size (by assumption) | exact Nat.le_trans (Below.size (by assumption)) (by simp)) _) | (refine Below.via ?_ (by assumption) (by first | omega | (simp; done) | (simp; omega) | exact Below.size (by assumption) | exact Nat.le_trans (Below.size (by assumption)) (by simp)))))⟩
            rcases Nat.lt_or_ge j i with hj2 | hj2
            · exact hall.out j hj2 a2 d2 h1 h2
            · obtain rfl : j = i := by omega
              rw [hVh2.out] at h1
              rw [hXh2.out] at h2
              cases h1
              cases h2
              exact hst.out
          case measure => simp [intOf]; omega
        · have hv2 : Hid (mdB S (eM Q) I V X = false) := by
            unfold Hid
            rw [hme.out]
            rw [Bool.and_eq_true] at hcv
            exact do_one hVh2.out hXh2.out (by simpa using hcv.1) (by simpa using hcv.2)
          replace hcv := Lib.hid hcv
          go_wp2
          go_ret2
          exact ⟨ret_two hv2.out.symm hv.out.symm, (by repeat (first | exact Below.refl _ _ | assumption | refine Below.drew ?_ | refine below_drewN ?_ _ | refine Below.alloc' ?_ _ | (refine Below.setCell ?_ (by first | omega | (simp; done) | (simp; omega) | exact Below.size (by assumption) | exact Nat.le_trans (Below.size (by assumption)) (by simp)) _) | (refine Below.via' ?_ (by assumption)) | (refine Below.alloc ?_ (by first | omega | (simp; done) | (simp; omega) | exact Below.size (by assumption) | exact Nat.le_trans (Below.size (by assumption)) (by simp)) _) | (refine Below.via ?_ (by assumption) (by first | omega | (simp; done) | (simp; omega) | exact Below.size (by assumption) | exact Nat.le_trans (Below.size (by assumption)) (by simp)))))⟩
      · have hij : i = X.length := by omega
        have hv2 : Hid (mdB S (eM Q) I V X = true) := by
          unfold Hid
          rw [hme.out]
          exact do_none (by rw [hlV.out, hlX.out]) fun j a d h1 h2 => hall.out j (by have := (List.getElem?_eq_some_iff.1 h2).1; omega) a d h1 h2
        subst hij
        clear hall
        go_wp2
        go_ret2
        exact ⟨ret_two hv2.out.symm hv.out.symm, (by repeat (first | exact Below.refl _ _ | assumption | refine Below.drew ?_ | refine below_drewN ?_ _ | refine Below.alloc' ?_ _ | (refine Below.setCell ?_ (by first | omega | (simp; done) | (simp; omega) | exact Below.size (by assumption) | exact Nat.le_trans (Below.size (by assumption)) (by simp)) _) | (refine Below.via' ?_ (by assumption)) | (refine Below.alloc ?_ (by first | omega | (simp; done) | (simp; omega) | exact Below.size (by assumption) | exact Nat.le_trans (Below.size (by assumption)) (by simp)) _) | (refine Below.via ?_ (by assumption) (by first | omega | (simp; done) | (simp; omega) | exact Below.size (by assumption) | exact Nat.le_trans (Below.size (by assumption)) (by simp)))))⟩
  · have hv2 := Lib.hid (md_ok hv.out (ma_no2 (S := S) (I := I) (V := V) hh))
    have hz : (0 : Int) < ((feL (eM Q) X).length : Int) := by
      rcases Nat.eq_zero_or_pos (feL (eM Q) X).length with h0 | h0
      · rw [hfn.1 h0] at hh; cases hh
      · omega
    clear hfn hh
    go_wp2_with fail
    refine (eFailed_any _ _ _ _ Q X _ hl40 hfi.out (hQh.out.below (by exact (by repeat (first | exact Below.refl _ _ | assumption | refine Below.drew ?_ | refine below_drewN ?_ _ | refine Below.alloc' ?_ _ | (refine Below.setCell ?_ (by first | omega | (simp; done) | (simp; omega) | exact Below.size (by assumption) | exact Nat.le_trans (Below.size (by assumption)) (by simp)) _) | (refine Below.via' ?_ (by assumption)) | (refine Below.alloc ?_ (by first | omega | (simp; done) | (simp; omega) | exact Below.size (by assumption) | exact Nat.le_trans (Below.size (by assumption)) (by simp)) _) | (refine Below.via ?_ (by assumption) (by first | omega | (simp; done) | (simp; omega) | exact Below.size (by assumption) | exact Nat.le_trans (Below.size (by assumption)) (by simp))))))) (hXh.out.below (by exact (by repeat (first | exact Below.refl _ _ | assumption | refine Below.drew ?_ | refine below_drewN ?_ _ | refine Below.alloc' ?_ _ | (refine Below.setCell ?_ (by first | omega | (simp; done) | (simp; omega) | exact Below.size (by assumption) | exact Nat.le_trans (Below.size (by assumption)) (by simp)) _) | (refine Below.via' ?_ (by assumption)) | (refine Below.alloc ?_ (by first | omega | (simp; done) | (simp; omega) | exact Below.size (by assumption) | exact Nat.le_trans (Below.size (by assumption)) (by simp)) _) | (refine Below.via ?_ (by assumption) (by first | omega | (simp; done) | (simp; omega) | exact Below.size (by assumption) | exact Nat.le_trans (Below.size (by assumption)) (by simp)))))))).mono ?_
    rintro e w5 ⟨u3, rfl, ho3, hb5⟩
    obtain ⟨x3, n3, rfl, -, -⟩ := (OwR.of ho3).form
    clear ho3
    go_wp2
    go_ret2
    exact ⟨ret_two hv2.out.symm hv.out.symm, (by repeat (first | exact Below.refl _ _ | assumption | refine Below.drew ?_ | refine below_drewN ?_ _ | refine Below.alloc' ?_ _ | (refine Below.setCell ?_ (by first | omega | (simp; done) | (simp; omega) | exact Below.size (by assumption) | exact Nat.le_trans (Below.size (by assumption)) (by simp)) _) | (refine Below.via' ?_ (by assumption)) | (refine Below.alloc ?_ (by first | omega | (simp; done) | (simp; omega) | exact Below.size (by assumption) | exact Nat.le_trans (Below.size (by assumption)) (by simp)) _) | (refine Below.via ?_ (by assumption) (by first | omega | (simp; done) | (simp; omega) | exact Below.size (by assumption) | exact Nat.le_trans (Below.size (by assumption)) (by simp)))))⟩
theorem sIMd_m (x y f z u : Option Addr) (c1 c2 c3 c4 c5 : Nat) (S : List (ByteArray × Int)) (Q : List PR) (I V X : List Int) (w : World) (hS : SIn w x c1 S) (hQ : EIn w y Q) (hI : IIn w f I) (hV : IIn w z V) (hX : IIn w u X) (M : List (List Int)) (hM : eM Q = M) :
    Calls Try.prog 32 #[.slice x S.length c1, .slice y Q.length c2, .slice f I.length c3, .slice z V.length c4, .slice u X.length c5] w fun e w' => e = .returned (.tuple #[.bool (mdB S M I V X), .bool (cgG S M I V)]) ∧ Below w.heap.size w w' := by subst hM; exact sIMd_x x y f z u c1 c2 c3 c4 c5 S Q I V X w hS hQ hI hV hX
theorem iIMd_m (x y f z u : Option Addr) (c1 c2 c3 c4 c5 : Nat) (S : List (ByteArray × Int)) (Q : List PR) (I V X : List Int) (w : World) (hS : SIn w x c1 S) (hQ : EIn w y Q) (hI : IIn w f I) (hV : IIn w z V) (hX : IIn w u X) (M : List (List Int)) (hM : eM Q = M) :
    Calls Try.prog 33 #[.slice x S.length c1, .slice y Q.length c2, .slice f I.length c3, .slice z V.length c4, .slice u X.length c5] w fun e w' => e = .returned (.tuple #[.bool (mdB S M I V X), .bool (cgG S M I V)]) ∧ Below w.heap.size w w' := by subst hM; exact iIMd_x x y f z u c1 c2 c3 c4 c5 S Q I V X w hS hQ hI hV hX
end Go.Proofs.Ytmcibcechffppaa
