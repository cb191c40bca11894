/-
  Equality of lists of integers: slices.Equal, l1Same.
-/
import Derived.Test.YtnmpigedhpdenaaRd
import Derived.Test.YtnmpigedhpdenaaVec
import Derived.Test.YtnmpigedhpdenaaSchN
namespace Go.Proofs.Ytnmpigedhpdenaa
open Go.RowKit
set_option maxRecDepth 100000

def sqB (A B : List Int) : Bool := decide (A = B)
theorem sq_len {A B : List Int} (h : A.length ≠ B.length) : sqB A B = false := decide_eq_false (fun e => h (by rw [e]))
theorem sq_at {A B : List Int} {j : Nat} {a b : Int} (h1 : A[j]? = some a) (h2 : B[j]? = some b) (h : a ≠ b) : sqB A B = false := decide_eq_false (fun e => h (by rw [e, h2] at h1; exact (Option.some.inj h1).symm))
theorem sq_all {A B : List Int} (h : A.length = B.length) (k : ∀ j, j < A.length → A[j]? = B[j]?) : sqB A B = true := by
  apply decide_eq_true
  apply List.ext_getElem?
  intro j
  rcases Nat.lt_or_ge j A.length with hj | hj
  · exact k j hj
  · rw [List.getElem?_eq_none hj, List.getElem?_eq_none (by omega)]
theorem ret_sq {a b : Bool} (h : a = b) : Ending.returned (.bool a) = .returned (.bool b) := by rw [h]
set_option maxHeartbeats 1000000 in
theorem equalI_any (x y : Option Addr) (c1 c2 : Nat) (A B : List Int) (w : World) (hm : A.length ≤ 1048576) (hA : Rd w x (iC A)) (hB : Rd w y (iC B)) :
    Calls Try.prog 87 #[.slice x A.length c1, .slice y B.length c2] w fun e w' => e = .returned (.bool (sqB A B)) ∧ Below w.heap.size w w' := by
  have hAh := Lib.hid hA
  have hBh := Lib.hid hB
  clear hA hB
  by_cases hl : A.length = B.length
  · have e2 : ((A.length : Int) != (B.length : Int)) = false := by simp [hl]
    go_enter Try.func87, Try.ntmps87
    go_wp2
    clear e2
    go_loopw [13] (fun c wr => ∃ j : Nat, j ≤ A.length ∧ c = .int .i64 j ∧ Hid (∀ k, k < j → A[k]? = B[k]?) ∧ Below w.heap.size w wr) (fun c _ => A.length - (intOf c).toNat)
    case atStart => exact ⟨0, by omega, rfl, (fun k hk => absurd hk (by omega)), Below.refl _ _⟩
    case round =>
      obtain ⟨j, hj, rfl, hall, hbb⟩ := hrel
      by_cases hlt : j < A.length
      · obtain ⟨b1, o1, a, rfl, hb1, ha, ka⟩ := (hAh.out.below hbb).int hlt
        obtain ⟨b2, o2, b, rfl, hb2, hb, kb⟩ := (hBh.out.below hbb).int (i := j) (by omega)
        have hlt' : (j : Int) < (A.length : Int) := by omega
        have hltB : (j : Int) < (B.length : Int) := by omega
        have hj0 : (0 : Int) ≤ (j : Int) := by omega
        by_cases hab : a = b
        · have e3 : (a != b) = false := by simp [hab]
          have hn := Lib.hid (show ∀ k, k < j + 1 → A[k]? = B[k]? by
            intro k hk
            rcases Nat.lt_or_ge k j with h | h
            · exact hall.out k h
            · obtain rfl : k = j := by omega
              rw [ha, hb, hab])
          replace ha := Lib.hid ha
          replace hb := Lib.hid hb
          replace hab := Lib.hid hab
          go_wp2
          go_region
          all_goals
            go_wp2
            go_roundw
            case rel => exact ⟨j + 1, by omega, by go_num, hn.out, (by repeat (first | exact Below.refl _ _ | assumption | refine Below.drew ?_ | refine below_drewN ?_ _ | refine Below.alloc' ?_ _ | (refine Below.setCell ?_ (by first | omega | (simp; done) | (simp; omega) | exact Below.size (by assumption) | exact Nat.le_trans (Below.size (by assumption)) (by simp)) _) | (refine Below.via' ?_ (by assumption)) | (refine Below.alloc ?_ (by first | omega | (simp; done) | (simp; omega) | exact Below.size (by assumption) | exact Nat.le_trans (Below.size (by assumption)) (by simp)) _) | (refine Below.via ?_ (by assumption) (by first | omega | (simp; done) | (simp; omega) | exact Below.size (by assumption) | exact Nat.le_trans (Below.size (by assumption)) (by simp)))))⟩
            case measure => simp [intOf]; omega
        · have e3 : (a != b) = true := by simp [hab]
          have hv := Lib.hid (sq_at ha hb hab)
          replace ha := Lib.hid ha
          replace hb := Lib.hid hb
          replace hab := Lib.hid hab
          go_wp2
          go_region
          all_goals
            go_wp2
            go_ret
            exact ⟨ret_sq hv.out.symm, (by repeat (first | exact Below.refl _ _ | assumption | refine Below.drew ?_ | refine below_drewN ?_ _ | refine Below.alloc' ?_ _ | (refine Below.setCell ?_ (by first | omega | (simp; done) | (simp; omega) | exact Below.size (by assumption) | exact Nat.le_trans (Below.size (by assumption)) (by simp)) _) | (refine Below.via' ?_ (by assumption)) | (refine Below.alloc ?_ (by first | omega | (simp; done) | (simp; omega) | exact Below.size (by assumption) | exact Nat.le_trans (Below.size (by assumption)) (by simp)) _) | (refine Below.via ?_ (by assumption) (by first | omega | (simp; done) | (simp; omega) | exact Below.size (by assumption) | exact Nat.le_trans (Below.size (by assumption)) (by simp)))))⟩
      · have hij : j = A.length := by omega
        subst hij
        have hv := Lib.hid (sq_all hl hall.out)
        go_wp2
        go_ret
        exact ⟨ret_sq hv.out.symm, (by repeat (first | exact Below.refl _ _ | assumption | refine Below.drew ?_ | refine below_drewN ?_ _ | refine Below.alloc' ?_ _ | (refine Below.setCell ?_ (by first | omega | (simp; done) | (simp; omega) | exact Below.size (by assumption) | exact Nat.le_trans (Below.size (by assumption)) (by simp)) _) | (refine Below.via' ?_ (by assumption)) | (refine Below.alloc ?_ (by first | omega | (simp; done) | (simp; omega) | exact Below.size (by assumption) | exact Nat.le_trans (Below.size (by assumption)) (by simp)) _) | (refine Below.via ?_ (by assumption) (by first | omega | (simp; done) | (simp; omega) | exact Below.size (by assumption) | exact Nat.le_trans (Below.size (by assumption)) (by simp)))))⟩
  · have e2 : ((A.length : Int) != (B.length : Int)) = true := by simp; omega
    have hv := Lib.hid (sq_len hl)
    go_enter Try.func87, Try.ntmps87
    go_wp2
    go_ret
    exact ⟨ret_sq hv.out.symm, (by repeat (first | exact Below.refl _ _ | assumption | refine Below.drew ?_ | refine below_drewN ?_ _ | refine Below.alloc' ?_ _ | (refine Below.setCell ?_ (by first | omega | (simp; done) | (simp; omega) | exact Below.size (by assumption) | exact Nat.le_trans (Below.size (by assumption)) (by simp)) _) | (refine Below.via' ?_ (by assumption)) | (refine Below.alloc ?_ (by first | omega | (simp; done) | (simp; omega) | exact Below.size (by assumption) | exact Nat.le_trans (Below.size (by assumption)) (by simp)) _) | (refine Below.via ?_ (by assumption) (by first | omega | (simp; done) | (simp; omega) | exact Below.size (by assumption) | exact Nat.le_trans (Below.size (by assumption)) (by simp)))))⟩
set_option maxHeartbeats 1000000 in
theorem sameI_any (x y : Option Addr) (c1 c2 : Nat) (A B : List Int) (w : World) (hm : A.length ≤ 1048576) (hA : Rd w x (iC A)) (hB : Rd w y (iC B)) :
    Calls Try.prog 86 #[.slice x A.length c1, .slice y B.length c2] w fun e w' => e = .returned (.bool (sqB A B)) ∧ Below w.heap.size w w' := by
  have hAh := Lib.hid hA
  have hBh := Lib.hid hB
  clear hA hB
  by_cases hl : A.length = B.length
  · have e2 : ((A.length : Int) != (B.length : Int)) = false := by simp [hl]
    go_enter Try.func86, Try.ntmps86
    go_wp2
    clear e2
    go_loopw [13] (fun c wr => ∃ j : Nat, j ≤ A.length ∧ c = .int .i64 j ∧ Hid (∀ k, k < j → A[k]? = B[k]?) ∧ Below w.heap.size w wr) (fun c _ => A.length - (intOf c).toNat)
    case atStart => exact ⟨0, by omega, rfl, (fun k hk => absurd hk (by omega)), Below.refl _ _⟩
    case round =>
      obtain ⟨j, hj, rfl, hall, hbb⟩ := hrel
      by_cases hlt : j < A.length
      · obtain ⟨b1, o1, a, rfl, hb1, ha, ka⟩ := (hAh.out.below hbb).int hlt
        obtain ⟨b2, o2, b, rfl, hb2, hb, kb⟩ := (hBh.out.below hbb).int (i := j) (by omega)
        have hlt' : (j : Int) < (A.length : Int) := by omega
        have hltB : (j : Int) < (B.length : Int) := by omega
        have hj0 : (0 : Int) ≤ (j : Int) := by omega
        by_cases hab : a = b
        · have e3 : (a != b) = false := by simp [hab]
          have hn := Lib.hid (show ∀ k, k < j + 1 → A[k]? = B[k]? by
            intro k hk
            rcases Nat.lt_or_ge k j with h | h
            · exact hall.out k h
            · obtain rfl : k = j := by omega
              rw [ha, hb, hab])
          replace ha := Lib.hid ha
          replace hb := Lib.hid hb
          replace hab := Lib.hid hab
          go_wp2
          go_region
          all_goals
            go_wp2
            go_roundw
            case rel => exact ⟨j + 1, by omega, by go_num, hn.out, (by repeat (first | exact Below.refl _ _ | assumption | refine Below.drew ?_ | refine below_drewN ?_ _ | refine Below.alloc' ?_ _ | (refine Below.setCell ?_ (by first | omega | (simp; done) | (simp; omega) | exact Below.size (by assumption) | exact Nat.le_trans (Below.size (by assumption)) (by simp)) _) | (refine Below.via' ?_ (by assumption)) | (refine Below.alloc ?_ (by first | omega | (simp; done) | (simp; omega) | exact Below.size (by assumption) | exact Nat.le_trans (Below.size (by assumption)) (by simp)) _) | (refine Below.via ?_ (by assumption) (by first | omega | (simp; done) | (simp; omega) | exact Below.size (by assumption) | exact Nat.le_trans (Below.size (by assumption)) (by simp)))))⟩
            case measure => simp [intOf]; omega
        · have e3 : (a != b) = true := by simp [hab]
          have hv := Lib.hid (sq_at ha hb hab)
          replace ha := Lib.hid ha
          replace hb := Lib.hid hb
          replace hab := Lib.hid hab
          go_wp2
          go_region
          all_goals
            go_wp2
            go_ret
            exact ⟨ret_sq hv.out.symm, (by repeat (first | exact Below.refl _ _ | assumption | refine Below.drew ?_ | refine below_drewN ?_ _ | refine Below.alloc' ?_ _ | (refine Below.setCell ?_ (by first | omega | (simp; done) | (simp; omega) | exact Below.size (by assumption) | exact Nat.le_trans (Below.size (by assumption)) (by simp)) _) | (refine Below.via' ?_ (by assumption)) | (refine Below.alloc ?_ (by first | omega | (simp; done) | (simp; omega) | exact Below.size (by assumption) | exact Nat.le_trans (Below.size (by assumption)) (by simp)) _) | (refine Below.via ?_ (by assumption) (by first | omega | (simp; done) | (simp; omega) | exact Below.size (by assumption) | exact Nat.le_trans (Below.size (by assumption)) (by simp)))))⟩
      · have hij : j = A.length := by omega
        subst hij
        have hv := Lib.hid (sq_all hl hall.out)
        go_wp2
        go_ret
        exact ⟨ret_sq hv.out.symm, (by repeat (first | exact Below.refl _ _ | assumption | refine Below.drew ?_ | refine below_drewN ?_ _ | refine Below.alloc' ?_ _ | (refine Below.setCell ?_ (by first | omega | (simp; done) | (simp; omega) | exact Below.size (by assumption) | exact Nat.le_trans (Below.size (by assumption)) (by simp)) _) | (refine Below.via' ?_ (by assumption)) | (refine Below.alloc ?_ (by first | omega | (simp; done) | (simp; omega) | exact Below.size (by assumption) | exact Nat.le_trans (Below.size (by assumption)) (by simp)) _) | (refine Below.via ?_ (by assumption) (by first | omega | (simp; done) | (simp; omega) | exact Below.size (by assumption) | exact Nat.le_trans (Below.size (by assumption)) (by simp)))))⟩
  · have e2 : ((A.length : Int) != (B.length : Int)) = true := by simp; omega
    have hv := Lib.hid (sq_len hl)
    go_enter Try.func86, Try.ntmps86
    go_wp2
    go_ret
    exact ⟨ret_sq hv.out.symm, (by repeat (first | exact Below.refl _ _ | assumption | refine Below.drew ?_ | refine below_drewN ?_ _ | refine Below.alloc' ?_ _ | (refine Below.setCell ?_ (by first | omega | (simp; done) | (simp; omega) | exact Below.size (by assumption) | exact Nat.le_trans (Below.size (by assumption)) (by simp)) _) | (refine Below.via' ?_ (by assumption)) | (refine Below.alloc ?_ (by first | omega | (simp; done) | (simp; omega) | exact Below.size (by assumption) | exact Nat.le_trans (Below.size (by assumption)) (by simp)) _) | (refine Below.via ?_ (by assumption) (by first | omega | (simp; done) | (simp; omega) | exact Below.size (by assumption) | exact Nat.le_trans (Below.size (by assumption)) (by simp)))))⟩
end Go.Proofs.Ytnmpigedhpdenaa
