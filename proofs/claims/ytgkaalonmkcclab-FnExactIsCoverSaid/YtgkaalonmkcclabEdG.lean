/-
  The walks of chapter 5: lists of edits; levels of a set; do values fail an edit; is an edit a part of another; the program's and the model's.
-/
import Derived.Test.YtgkaalonmkcclabEdF
import Derived.Test.YtgkaalonmkcclabEdS
namespace Go.Proofs.Ytgkaalonmkcclab
open Go.RowKit
set_option maxRecDepth 100000

/-- A schema and a list of edits for it. -/
def elB (S : List (ByteArray × Int)) (M : List (List Int)) : Bool := schB S && (decide (M.length ≤ 40) && M.all (edB S))
theorem el_no1 {S : List (ByteArray × Int)} {M : List (List Int)} (h : schB S = false) : elB S M = false := by unfold elB; rw [h]; rfl
theorem el_no2 {S : List (ByteArray × Int)} {M : List (List Int)} (h : ¬ M.length ≤ 40) : elB S M = false := by unfold elB; rw [decide_eq_false h]; simp
theorem el_bad {S : List (ByteArray × Int)} {M : List (List Int)} {i : Nat} {E : List Int} (h : M[i]? = some E) (k : edB S E = false) : elB S M = false := by
  unfold elB
  have : M.all (edB S) = false := by rw [List.all_eq_false]; exact ⟨E, List.mem_of_getElem? h, by rw [k]; exact Bool.false_ne_true⟩
  rw [this]
  simp
theorem el_yes {S : List (ByteArray × Int)} {M : List (List Int)} (h : schB S = true) (h1 : M.length ≤ 40) (k : ∀ j, j < M.length → ∃ E, M[j]? = some E ∧ edB S E = true) : elB S M = true := by
  unfold elB
  rw [h, decide_eq_true h1, Bool.true_and, Bool.true_and, List.all_eq_true]
  intro E hE
  obtain ⟨j, hj, e⟩ := List.getElem_of_mem hE
  obtain ⟨F, h2, h3⟩ := k j hj
  rw [List.getElem?_eq_getElem hj, e] at h2
  cases h2
  exact h3
theorem el_get {S : List (ByteArray × Int)} {M : List (List Int)} (h : elB S M = true) : schB S = true ∧ M.length ≤ 40 ∧ ∀ E ∈ M, edB S E = true := by
  unfold elB at h
  simp only [Bool.and_eq_true, decide_eq_true_eq, List.all_eq_true] at h
  exact ⟨h.1, h.2.1, h.2.2⟩
theorem el_one (S : List (ByteArray × Int)) (E : List Int) : elB S [E] = seB S E := by unfold elB seB; simp
theorem el_two (S : List (ByteArray × Int)) (E F : List Int) : elB S [E, F] = (seB S E && edB S F) := by unfold elB seB; simp [Bool.and_assoc]

set_option maxHeartbeats 2000000 in
theorem eList_any (x y : Option Addr) (c1 c2 : Nat) (S : List (ByteArray × Int)) (Q : List PR) (w : World) (hS : SIn w x c1 S) (hQ : EIn w y Q) :
    Calls Try.prog 111 #[.slice x S.length c1, .slice y Q.length c2] w fun e w' => e = .returned (.bool (elB S (eM Q))) ∧ Below w.heap.size w w' := by
  have hSh := Lib.hid hS
  have hm := hS.1
  have hQl := hQ.1
  have hQi := Lib.hid hQ.2.1
  have hQr := Lib.hid hQ.2.2
  clear hS hQ
  have hel : (eM Q).length = Q.length := eM_len Q
  cases hs : schB S
  · have hv := Lib.hid (el_no1 (M := eM Q) hs)
    replace hel := Lib.hid hel
    go_enter Try.func111, Try.ntmps111
    go_wp2_with fail
    refine (sGood_x _ _ _ _ (hSh.out.below (by exact (by repeat (first | exact Below.refl _ _ | assumption | refine Below.drew ?_ | refine below_drewN ?_ _ | refine Below.alloc' ?_ _ | (refine Below.setCell ?_ (by first | omega | (simp; done) | (simp; omega) | exact Below.size (by assumption) | exact Nat.le_trans (Below.size (by assumption)) (by simp)) _) | (refine Below.via' ?_ (by assumption)) | (refine Below.alloc ?_ (by first | omega | (simp; done) | (simp; omega) | exact Below.size (by assumption) | exact Nat.le_trans (Below.size (by assumption)) (by simp)) _) | (refine Below.via ?_ (by assumption) (by first | omega | (simp; done) | (simp; omega) | exact Below.size (by assumption) | exact Nat.le_trans (Below.size (by assumption)) (by simp)))))))).mono ?_
    rintro e w1 ⟨rfl, hb1⟩
    rw [hs]
    go_wp2
    go_ret
    exact ⟨ret_bool hv.out.symm, (by repeat (first | exact Below.refl _ _ | assumption | refine Below.drew ?_ | refine below_drewN ?_ _ | refine Below.alloc' ?_ _ | (refine Below.setCell ?_ (by first | omega | (simp; done) | (simp; omega) | exact Below.size (by assumption) | exact Nat.le_trans (Below.size (by assumption)) (by simp)) _) | (refine Below.via' ?_ (by assumption)) | (refine Below.alloc ?_ (by first | omega | (simp; done) | (simp; omega) | exact Below.size (by assumption) | exact Nat.le_trans (Below.size (by assumption)) (by simp)) _) | (refine Below.via ?_ (by assumption) (by first | omega | (simp; done) | (simp; omega) | exact Below.size (by assumption) | exact Nat.le_trans (Below.size (by assumption)) (by simp)))))⟩
  have hsh := Lib.hid hs
  by_cases h40 : 40 < Q.length
  · have hv := Lib.hid (el_no2 (S := S) (M := eM Q) (by omega))
    have h40' : (40 : Int) < (Q.length : Int) := by omega
    replace hel := Lib.hid hel
    go_enter Try.func111, Try.ntmps111
    go_wp2_with fail
    refine (sGood_x _ _ _ _ (hSh.out.below (by exact (by repeat (first | exact Below.refl _ _ | assumption | refine Below.drew ?_ | refine below_drewN ?_ _ | refine Below.alloc' ?_ _ | (refine Below.setCell ?_ (by first | omega | (simp; done) | (simp; omega) | exact Below.size (by assumption) | exact Nat.le_trans (Below.size (by assumption)) (by simp)) _) | (refine Below.via' ?_ (by assumption)) | (refine Below.alloc ?_ (by first | omega | (simp; done) | (simp; omega) | exact Below.size (by assumption) | exact Nat.le_trans (Below.size (by assumption)) (by simp)) _) | (refine Below.via ?_ (by assumption) (by first | omega | (simp; done) | (simp; omega) | exact Below.size (by assumption) | exact Nat.le_trans (Below.size (by assumption)) (by simp)))))))).mono ?_
    rintro e w1 ⟨rfl, hb1⟩
    rw [hsh.out]
    go_wp2
    go_ret
    exact ⟨ret_bool hv.out.symm, (by repeat (first | exact Below.refl _ _ | assumption | refine Below.drew ?_ | refine below_drewN ?_ _ | refine Below.alloc' ?_ _ | (refine Below.setCell ?_ (by first | omega | (simp; done) | (simp; omega) | exact Below.size (by assumption) | exact Nat.le_trans (Below.size (by assumption)) (by simp)) _) | (refine Below.via' ?_ (by assumption)) | (refine Below.alloc ?_ (by first | omega | (simp; done) | (simp; omega) | exact Below.size (by assumption) | exact Nat.le_trans (Below.size (by assumption)) (by simp)) _) | (refine Below.via ?_ (by assumption) (by first | omega | (simp; done) | (simp; omega) | exact Below.size (by assumption) | exact Nat.le_trans (Below.size (by assumption)) (by simp)))))⟩
  have h40' : ¬ (40 : Int) < (Q.length : Int) := by omega
  replace hel := Lib.hid hel
  go_enter Try.func111, Try.ntmps111
  go_wp2_with fail
  refine (sGood_x _ _ _ _ (hSh.out.below (by exact (by repeat (first | exact Below.refl _ _ | assumption | refine Below.drew ?_ | refine below_drewN ?_ _ | refine Below.alloc' ?_ _ | (refine Below.setCell ?_ (by first | omega | (simp; done) | (simp; omega) | exact Below.size (by assumption) | exact Nat.le_trans (Below.size (by assumption)) (by simp)) _) | (refine Below.via' ?_ (by assumption)) | (refine Below.alloc ?_ (by first | omega | (simp; done) | (simp; omega) | exact Below.size (by assumption) | exact Nat.le_trans (Below.size (by assumption)) (by simp)) _) | (refine Below.via ?_ (by assumption) (by first | omega | (simp; done) | (simp; omega) | exact Below.size (by assumption) | exact Nat.le_trans (Below.size (by assumption)) (by simp)))))))).mono ?_
  rintro e w1 ⟨rfl, hb1⟩
  rw [hsh.out]
  go_wp2
  clear hs
  go_loopw [17] (fun c wr => ∃ i : Nat, i ≤ Q.length ∧ c = .int .i64 i ∧ Hid (∀ j, j < i → ∃ E, (eM Q)[j]? = some E ∧ edB S E = true) ∧ Below w.heap.size w wr) (fun c _ => Q.length - (intOf c).toNat)
  case atStart => exact ⟨0, by omega, rfl, (fun j hj => absurd hj (by omega)), (by repeat (first | exact Below.refl _ _ | assumption | refine Below.drew ?_ | refine below_drewN ?_ _ | refine Below.alloc' ?_ _ | (refine Below.setCell ?_ (by first | omega | (simp; done) | (simp; omega) | exact Below.size (by assumption) | exact Nat.le_trans (Below.size (by assumption)) (by simp)) _) | (refine Below.via' ?_ (by assumption)) | (refine Below.alloc ?_ (by first | omega | (simp; done) | (simp; omega) | exact Below.size (by assumption) | exact Nat.le_trans (Below.size (by assumption)) (by simp)) _) | (refine Below.via ?_ (by assumption) (by first | omega | (simp; done) | (simp; omega) | exact Below.size (by assumption) | exact Nat.le_trans (Below.size (by assumption)) (by simp)))))⟩
  case round =>
    clear hb1
    obtain ⟨i, hi, rfl, hall, hb⟩ := hrel
    by_cases hlt : i < Q.length
    · obtain ⟨bl, off, q, rfl, hbl, hQq, hc0⟩ := (hQr.out.below hb).ed hlt
      have hE := Lib.hid ((hQi.out q (List.mem_of_getElem? hQq)).below hb)
      have hqe := Lib.hid (eM_at hQq)
      have hlt' : (i : Int) < (Q.length : Int) := by omega
      clear hQq
      cases hg : edB S q.L
      · have hv := Lib.hid (el_bad hqe.out hg)
        go_wp2_with fail
        refine (eGood_any _ _ _ _ S q.L _ hsh.out hm (hSh.out.rd.below (by exact (by repeat (first | exact Below.refl _ _ | assumption | refine Below.drew ?_ | refine below_drewN ?_ _ | refine Below.alloc' ?_ _ | (refine Below.setCell ?_ (by first | omega | (simp; done) | (simp; omega) | exact Below.size (by assumption) | exact Nat.le_trans (Below.size (by assumption)) (by simp)) _) | (refine Below.via' ?_ (by assumption)) | (refine Below.alloc ?_ (by first | omega | (simp; done) | (simp; omega) | exact Below.size (by assumption) | exact Nat.le_trans (Below.size (by assumption)) (by simp)) _) | (refine Below.via ?_ (by assumption) (by first | omega | (simp; done) | (simp; omega) | exact Below.size (by assumption) | exact Nat.le_trans (Below.size (by assumption)) (by simp))))))) (hE.out.below (by exact (by repeat (first | exact Below.refl _ _ | assumption | refine Below.drew ?_ | refine below_drewN ?_ _ | refine Below.alloc' ?_ _ | (refine Below.setCell ?_ (by first | omega | (simp; done) | (simp; omega) | exact Below.size (by assumption) | exact Nat.le_trans (Below.size (by assumption)) (by simp)) _) | (refine Below.via' ?_ (by assumption)) | (refine Below.alloc ?_ (by first | omega | (simp; done) | (simp; omega) | exact Below.size (by assumption) | exact Nat.le_trans (Below.size (by assumption)) (by simp)) _) | (refine Below.via ?_ (by assumption) (by first | omega | (simp; done) | (simp; omega) | exact Below.size (by assumption) | exact Nat.le_trans (Below.size (by assumption)) (by simp)))))))).mono ?_
        rintro e w2 ⟨rfl, hb2⟩
        rw [hg]
        go_wp2
        go_ret
        exact ⟨ret_bool hv.out.symm, (by repeat (first | exact Below.refl _ _ | assumption | refine Below.drew ?_ | refine below_drewN ?_ _ | refine Below.alloc' ?_ _ | (refine Below.setCell ?_ (by first | omega | (simp; done) | (simp; omega) | exact Below.size (by assumption) | exact Nat.le_trans (Below.size (by assumption)) (by simp)) _) | (refine Below.via' ?_ (by assumption)) | (refine Below.alloc ?_ (by first | omega | (simp; done) | (simp; omega) | exact Below.size (by assumption) | exact Nat.le_trans (Below.size (by assumption)) (by simp)) _) | (refine Below.via ?_ (by assumption) (by first | omega | (simp; done) | (simp; omega) | exact Below.size (by assumption) | exact Nat.le_trans (Below.size (by assumption)) (by simp)))))⟩
      · have hgh := Lib.hid hg
        clear hg
        go_wp2_with fail
        refine (eGood_any _ _ _ _ S q.L _ hsh.out hm (hSh.out.rd.below (by exact (by repeat (first | exact Below.refl _ _ | assumption | refine Below.drew ?_ | refine below_drewN ?_ _ | refine Below.alloc' ?_ _ | (refine Below.setCell ?_ (by first | omega | (simp; done) | (simp; omega) | exact Below.size (by assumption) | exact Nat.le_trans (Below.size (by assumption)) (by simp)) _) | (refine Below.via' ?_ (by assumption)) | (refine Below.alloc ?_ (by first | omega | (simp; done) | (simp; omega) | exact Below.size (by assumption) | exact Nat.le_trans (Below.size (by assumption)) (by simp)) _) | (refine Below.via ?_ (by assumption) (by first | omega | (simp; done) | (simp; omega) | exact Below.size (by assumption) | exact Nat.le_trans (Below.size (by assumption)) (by simp))))))) (hE.out.below (by exact (by repeat (first | exact Below.refl _ _ | assumption | refine Below.drew ?_ | refine below_drewN ?_ _ | refine Below.alloc' ?_ _ | (refine Below.setCell ?_ (by first | omega | (simp; done) | (simp; omega) | exact Below.size (by assumption) | exact Nat.le_trans (Below.size (by assumption)) (by simp)) _) | (refine Below.via' ?_ (by assumption)) | (refine Below.alloc ?_ (by first | omega | (simp; done) | (simp; omega) | exact Below.size (by assumption) | exact Nat.le_trans (Below.size (by assumption)) (by simp)) _) | (refine Below.via ?_ (by assumption) (by first | omega | (simp; done) | (simp; omega) | exact Below.size (by assumption) | exact Nat.le_trans (Below.size (by assumption)) (by simp)))))))).mono ?_
        rintro e w2 ⟨rfl, hb2⟩
        rw [hgh.out]
        go_wp2
        go_roundw
        case rel =>
          refine ⟨i + 1, by omega, by go_num, fun j hj => ?_, (by repeat (first | exact Below.refl _ _ | assumption | refine Below.drew ?_ | refine below_drewN ?_ _ | refine Below.alloc' ?_ _ | (refine Below.setCell ?_ (by first | omega | (simp; done) | (simp; omega) | exact Below.size (by assumption) | exact Nat.le_trans (Below.size (by assumption)) (by simp)) _) | (refine Below.via' ?_ (by assumption)) | (refine Below.alloc ?_ (by first | omega | (simp; done) | (simp; omega) | exact Below.size (by assumption) | exact Nat.le_trans (Below.size (by assumption)) (by simp)) _) | (refine Below.via ?_ (by assumption) (by first | omega | (simp; done) | (simp; omega) | exact Below.size (by assumption) | exact Nat.le_trans (Below.size (by assumption)) (by simp)))))⟩
          rcases Nat.lt_or_ge j i with hj2 | hj2
          · exact hall.out j hj2
          · obtain rfl : j = i := by omega
            exact ⟨_, hqe.out, hgh.out⟩
        case measure => simp [intOf]; omega
    · have hij : i = Q.length := by omega
      subst hij
      have hv := Lib.hid (el_yes hsh.out (by rw [hel.out]; omega) (fun j hj => hall.out j (by rw [hel.out] at hj; exact hj)))
      clear hall
      go_wp2
      go_ret
      exact ⟨ret_bool hv.out.symm, hb⟩

set_option maxHeartbeats 2000000 in
theorem areEditsFor_any (x y : Option Addr) (c1 c2 : Nat) (S : List (ByteArray × Int)) (Q : List PR) (w : World) (hs : schB S = true) (hm : S.length ≤ 1048576) (hS : Rd w x (vC S)) (hQ : EIn w y Q) :
    Calls Try.prog 56 #[.slice x S.length c1, .slice y Q.length c2] w fun e w' => e = .returned (.bool (elB S (eM Q))) ∧ Below w.heap.size w w' := by
  have hSh := Lib.hid hS
  have hQl := hQ.1
  have hQi := Lib.hid hQ.2.1
  have hQr := Lib.hid hQ.2.2
  clear hS hQ
  have hel : (eM Q).length = Q.length := eM_len Q
  have hsh := Lib.hid hs
  clear hs
  by_cases h40 : 40 < Q.length
  · have hv := Lib.hid (el_no2 (S := S) (M := eM Q) (by omega))
    have h40' : (40 : Int) < (Q.length : Int) := by omega
    replace hel := Lib.hid hel
    go_enter Try.func56, Try.ntmps56
    go_wp2
    go_ret
    exact ⟨ret_bool hv.out.symm, (by repeat (first | exact Below.refl _ _ | assumption | refine Below.drew ?_ | refine below_drewN ?_ _ | refine Below.alloc' ?_ _ | (refine Below.setCell ?_ (by first | omega | (simp; done) | (simp; omega) | exact Below.size (by assumption) | exact Nat.le_trans (Below.size (by assumption)) (by simp)) _) | (refine Below.via' ?_ (by assumption)) | (refine Below.alloc ?_ (by first | omega | (simp; done) | (simp; omega) | exact Below.size (by assumption) | exact Nat.le_trans (Below.size (by assumption)) (by simp)) _) | (refine Below.via ?_ (by assumption) (by first | omega | (simp; done) | (simp; omega) | exact Below.size (by assumption) | exact Nat.le_trans (Below.size (by assumption)) (by simp)))))⟩
  have h40' : ¬ (40 : Int) < (Q.length : Int) := by omega
  replace hel := Lib.hid hel
  go_enter Try.func56, Try.ntmps56
  go_wp2
  go_loopw [12] (fun c wr => ∃ i : Nat, i ≤ Q.length ∧ c = .int .i64 i ∧ Hid (∀ j, j < i → ∃ E, (eM Q)[j]? = some E ∧ edB S E = true) ∧ Below w.heap.size w wr) (fun c _ => Q.length - (intOf c).toNat)
  case atStart => exact ⟨0, by omega, rfl, (fun j hj => absurd hj (by omega)), (by repeat (first | exact Below.refl _ _ | assumption | refine Below.drew ?_ | refine below_drewN ?_ _ | refine Below.alloc' ?_ _ | (refine Below.setCell ?_ (by first | omega | (simp; done) | (simp; omega) | exact Below.size (by assumption) | exact Nat.le_trans (Below.size (by assumption)) (by simp)) _) | (refine Below.via' ?_ (by assumption)) | (refine Below.alloc ?_ (by first | omega | (simp; done) | (simp; omega) | exact Below.size (by assumption) | exact Nat.le_trans (Below.size (by assumption)) (by simp)) _) | (refine Below.via ?_ (by assumption) (by first | omega | (simp; done) | (simp; omega) | exact Below.size (by assumption) | exact Nat.le_trans (Below.size (by assumption)) (by simp)))))⟩
  case round =>
    obtain ⟨i, hi, rfl, hall, hb⟩ := hrel
    by_cases hlt : i < Q.length
    · obtain ⟨bl, off, q, rfl, hbl, hQq, hc0⟩ := (hQr.out.below hb).ed hlt
      have hE := Lib.hid ((hQi.out q (List.mem_of_getElem? hQq)).below hb)
      have hqe := Lib.hid (eM_at hQq)
      have hlt' : (i : Int) < (Q.length : Int) := by omega
      clear hQq
      cases hg : edB S q.L
      · have hv := Lib.hid (el_bad hqe.out hg)
        go_wp2_with fail
        refine (isEditFor_any _ _ _ _ S q.L _ hsh.out hm (hSh.out.below (by exact (by repeat (first | exact Below.refl _ _ | assumption | refine Below.drew ?_ | refine below_drewN ?_ _ | refine Below.alloc' ?_ _ | (refine Below.setCell ?_ (by first | omega | (simp; done) | (simp; omega) | exact Below.size (by assumption) | exact Nat.le_trans (Below.size (by assumption)) (by simp)) _) | (refine Below.via' ?_ (by assumption)) | (refine Below.alloc ?_ (by first | omega | (simp; done) | (simp; omega) | exact Below.size (by assumption) | exact Nat.le_trans (Below.size (by assumption)) (by simp)) _) | (refine Below.via ?_ (by assumption) (by first | omega | (simp; done) | (simp; omega) | exact Below.size (by assumption) | exact Nat.le_trans (Below.size (by assumption)) (by simp))))))) (hE.out.below (by exact (by repeat (first | exact Below.refl _ _ | assumption | refine Below.drew ?_ | refine below_drewN ?_ _ | refine Below.alloc' ?_ _ | (refine Below.setCell ?_ (by first | omega | (simp; done) | (simp; omega) | exact Below.size (by assumption) | exact Nat.le_trans (Below.size (by assumption)) (by simp)) _) | (refine Below.via' ?_ (by assumption)) | (refine Below.alloc ?_ (by first | omega | (simp; done) | (simp; omega) | exact Below.size (by assumption) | exact Nat.le_trans (Below.size (by assumption)) (by simp)) _) | (refine Below.via ?_ (by assumption) (by first | omega | (simp; done) | (simp; omega) | exact Below.size (by assumption) | exact Nat.le_trans (Below.size (by assumption)) (by simp)))))))).mono ?_
        rintro e w2 ⟨rfl, hb2⟩
        rw [hg]
        go_wp2
        go_ret
        exact ⟨ret_bool hv.out.symm, (by repeat (first | exact Below.refl _ _ | assumption | refine Below.drew ?_ | refine below_drewN ?_ _ | refine Below.alloc' ?_ _ | (refine Below.setCell ?_ (by first | omega | (simp; done) | (simp; omega) | exact Below.size (by assumption) | exact Nat.le_trans (Below.size (by assumption)) (by simp)) _) | (refine Below.via' ?_ (by assumption)) | (refine Below.alloc ?_ (by first | omega | (simp; done) | (simp; omega) | exact Below.size (by assumption) | exact Nat.le_trans (Below.size (by assumption)) (by simp)) _) | (refine Below.via ?_ (by assumption) (by first | omega | (simp; done) | (simp; omega) | exact Below.size (by assumption) | exact Nat.le_trans (Below.size (by assumption)) (by simp)))))⟩
      · have hgh := Lib.hid hg
        clear hg
        go_wp2_with fail
        refine (isEditFor_any _ _ _ _ S q.L _ hsh.out hm (hSh.out.below (by exact (by repeat (first | exact Below.refl _ _ | assumption | refine Below.drew ?_ | refine below_drewN ?_ _ | refine Below.alloc' ?_ _ | (refine Below.setCell ?_ (by first | omega | (simp; done) | (simp; omega) | exact Below.size (by assumption) | exact Nat.le_trans (Below.size (by assumption)) (by simp)) _) | (refine Below.via' ?_ (by assumption)) | (refine Below.alloc ?_ (by first | omega | (simp; done) | (simp; omega) | exact Below.size (by assumption) | exact Nat.le_trans (Below.size (by assumption)) (by simp)) _) | (refine Below.via ?_ (by assumption) (by first | omega | (simp; done) | (simp; omega) | exact Below.size (by assumption) | exact Nat.le_trans (Below.size (by assumption)) (by simp))))))) (hE.out.below (by exact (by repeat (first | exact Below.refl _ _ | assumption | refine Below.drew ?_ | refine below_drewN ?_ _ | refine Below.alloc' ?_ _ | (refine Below.setCell ?_ (by first | omega | (simp; done) | (simp; omega) | exact Below.size (by assumption) | exact Nat.le_trans (Below.size (by assumption)) (by simp)) _) | (refine Below.via' ?_ (by assumption)) | (refine Below.alloc ?_ (by first | omega | (simp; done) | (simp; omega) | exact Below.size (by assumption) | exact Nat.le_trans (Below.size (by assumption)) (by simp)) _) | (refine Below.via ?_ (by assumption) (by first | omega | (simp; done) | (simp; omega) | exact Below.size (by assumption) | exact Nat.le_trans (Below.size (by assumption)) (by simp)))))))).mono ?_
        rintro e w2 ⟨rfl, hb2⟩
        rw [hgh.out]
        go_wp2
        go_roundw
        case rel =>
          refine ⟨i + 1, by omega, by go_num, fun j hj => ?_, (by repeat (first | exact Below.refl _ _ | assumption | refine Below.drew ?_ | refine below_drewN ?_ _ | refine Below.alloc' ?_ _ | (refine Below.setCell ?_ (by first | omega | (simp; done) | (simp; omega) | exact Below.size (by assumption) | exact Nat.le_trans (Below.size (by assumption)) (by simp)) _) | (refine Below.via' ?_ (by assumption)) | (refine Below.alloc ?_ (by first | omega | (simp; done) | (simp; omega) | exact Below.size (by assumption) | exact Nat.le_trans (Below.size (by assumption)) (by simp)) _) | (refine Below.via ?_ (by assumption) (by first | omega | (simp; done) | (simp; omega) | exact Below.size (by assumption) | exact Nat.le_trans (Below.size (by assumption)) (by simp)))))⟩
          rcases Nat.lt_or_ge j i with hj2 | hj2
          · exact hall.out j hj2
          · obtain rfl : j = i := by omega
            exact ⟨_, hqe.out, hgh.out⟩
        case measure => simp [intOf]; omega
    · have hij : i = Q.length := by omega
      subst hij
      have hv := Lib.hid (el_yes hsh.out (by rw [hel.out]; omega) (fun j hj => hall.out j (by rw [hel.out] at hj; exact hj)))
      clear hall
      go_wp2
      go_ret
      exact ⟨ret_bool hv.out.symm, hb⟩

/-- One edit, two edits, laid into a list. -/
theorem eIn_one {w : World} {y : Option Addr} {c : Nat} {E : List Int} (t : TypeId) (hE : IIn w y E) : EIn (w.alloc (.cells #[.slice y E.length c] t)) (some ⟨w.heap.size, 0, none⟩) [⟨0, 0, y, c, E⟩] := by
  have hb : Below w.heap.size w (w.alloc (.cells #[.slice y E.length c] t)) := (Below.refl _ _).alloc (Nat.le_refl _) _
  refine ⟨by simp, fun q hq => ?_, Or.inr ⟨w.heap.size, 0, rfl, by simp, fun j u hj => ?_⟩⟩
  · rw [List.mem_singleton] at hq
    subst hq
    exact hE.below hb
  · rw [Nat.zero_add, World.cell?_alloc_at _ _ _ _ rfl, ← hj, ← Array.getElem?_toList]
    rfl
theorem eIn_two {w : World} {y z : Option Addr} {c d : Nat} {E F : List Int} (t : TypeId) (hE : IIn w y E) (hF : IIn w z F) : EIn (w.alloc (.cells #[.slice y E.length c, .slice z F.length d] t)) (some ⟨w.heap.size, 0, none⟩) [⟨0, 0, y, c, E⟩, ⟨0, 0, z, d, F⟩] := by
  have hb : Below w.heap.size w (w.alloc (.cells #[.slice y E.length c, .slice z F.length d] t)) := (Below.refl _ _).alloc (Nat.le_refl _) _
  refine ⟨by simp, fun q hq => ?_, Or.inr ⟨w.heap.size, 0, rfl, by simp, fun j u hj => ?_⟩⟩
  · rcases List.mem_cons.1 hq with rfl | hq
    · exact hE.below hb
    · rw [List.mem_singleton] at hq
      subst hq
      exact hF.below hb
  · rw [Nat.zero_add, World.cell?_alloc_at _ _ _ _ rfl, ← hj, ← Array.getElem?_toList]
    rfl

theorem hs_val {x l : Int} (h0 : 0 ≤ x) (h1 : x ≤ 255) (h2 : 0 ≤ l) (h3 : l ≤ 8) : bits .and .i64 x (wrap64 (2 ^ l.toNat)) = if hsB x l then 2 ^ l.toNat else 0 := by
  obtain ⟨k, rfl⟩ := Int.eq_ofNat_of_zero_le h2
  have hk : k ≤ 8 := by omega
  have hp : (2 : Int) ^ k ≤ 256 ∧ 0 < (2 : Int) ^ k := by
    have : k = 0 ∨ k = 1 ∨ k = 2 ∨ k = 3 ∨ k = 4 ∨ k = 5 ∨ k = 6 ∨ k = 7 ∨ k = 8 := by omega
    rcases this with rfl | rfl | rfl | rfl | rfl | rfl | rfl | rfl | rfl <;> decide
  rw [Int.toNat_natCast, IntWalk.wrap64_in _ (by omega), and_bit h0 (by omega) k (by omega)]
theorem hs_pos (l : Int) : (2 : Int) ^ l.toNat ≠ 0 := by
  have : (0 : Int) < 2 ^ l.toNat := Int.pow_pos (by decide)
  omega
set_option maxHeartbeats 1000000 in
theorem hasLevel_any (x l : Int) (w : World) (h0 : 0 ≤ x) (h1 : x ≤ 255) (h2 : 0 ≤ l) (h3 : l ≤ 8) :
    Calls Try.prog 159 #[.int .i64 x, .int .i64 l] w fun e w' => e = .returned (.bool (hsB x l)) ∧ w = w' := by
  have hv := hs_val h0 h1 h2 h3
  have hp := hs_pos l
  cases hh : hsB x l
  · rw [hh] at hv
    have hz : (bits .and .i64 x (wrap64 (2 ^ l.toNat)) == 0) = true := by rw [beq_iff_eq, hv]; rfl
    replace hv := Lib.hid hv
    go_enter Try.func159, Try.ntmps159
    go_wp2
    go_ret
    exact ⟨ret_bool (by simp [hz, bne]), rfl⟩
  · rw [hh] at hv
    have hz : (bits .and .i64 x (wrap64 (2 ^ l.toNat)) == 0) = false := by rw [beq_eq_false_iff_ne, hv]; exact hp
    replace hv := Lib.hid hv
    go_enter Try.func159, Try.ntmps159
    go_wp2
    go_ret
    exact ⟨ret_bool (by simp [hz, bne]), rfl⟩
end Go.Proofs.Ytgkaalonmkcclab
