/-
  The walks of chapter 4: valid geographies; the program's and the model's.
-/
import Derived.Test.YtmefkknkahmihaaGeo
import Derived.Test.YtmefkknkahmihaaGeoL
namespace Go.Proofs.Ytmefkknkahmihaa
open Go.RowKit
set_option maxRecDepth 100000

set_option maxHeartbeats 2000000 in
theorem iGeo_any (x : Option Addr) (c : Nat) (P : List Int) (w : World) (h : IIn w x P) :
    Calls Try.prog 17 #[.agg #[.slice x P.length c]] w fun e w' => e = .returned (.bool (geB P)) ∧ Below w.heap.size w w' := by
  have hr := Lib.hid h.2.2
  have hm := h.1
  clear h
  by_cases h0 : P.length = 0
  · have hv := Lib.hid (ge_short (Or.inl h0))
    have h0' : ((P.length : Int) == 0) = true := by rw [beq_iff_eq]; omega
    replace h0 := Lib.hid h0
    go_enter Try.func17, Try.ntmps17
    go_wp2
    go_ret
    exact ⟨ret_bool hv.out.symm, (by repeat (first | exact Below.refl _ _ | assumption | refine Below.drew ?_ | refine below_drewN ?_ _ | refine Below.alloc' ?_ _ | (refine Below.setCell ?_ (by first | omega | (simp; done) | (simp; omega) | exact Below.size (by assumption) | exact Nat.le_trans (Below.size (by assumption)) (by simp)) _) | (refine Below.via' ?_ (by assumption)) | (refine Below.alloc ?_ (by first | omega | (simp; done) | (simp; omega) | exact Below.size (by assumption) | exact Nat.le_trans (Below.size (by assumption)) (by simp)) _) | (refine Below.via ?_ (by assumption) (by first | omega | (simp; done) | (simp; omega) | exact Below.size (by assumption) | exact Nat.le_trans (Below.size (by assumption)) (by simp)))))⟩
  have h0' : ((P.length : Int) == 0) = false := by rw [beq_eq_false_iff_ne]; omega
  by_cases h1 : (30 : Int) < P.length
  · have hv := Lib.hid (ge_short (P := P) (Or.inr (by omega)))
    go_enter Try.func17, Try.ntmps17
    go_wp2
    go_ret
    exact ⟨ret_bool hv.out.symm, (by repeat (first | exact Below.refl _ _ | assumption | refine Below.drew ?_ | refine below_drewN ?_ _ | refine Below.alloc' ?_ _ | (refine Below.setCell ?_ (by first | omega | (simp; done) | (simp; omega) | exact Below.size (by assumption) | exact Nat.le_trans (Below.size (by assumption)) (by simp)) _) | (refine Below.via' ?_ (by assumption)) | (refine Below.alloc ?_ (by first | omega | (simp; done) | (simp; omega) | exact Below.size (by assumption) | exact Nat.le_trans (Below.size (by assumption)) (by simp)) _) | (refine Below.via ?_ (by assumption) (by first | omega | (simp; done) | (simp; omega) | exact Below.size (by assumption) | exact Nat.le_trans (Below.size (by assumption)) (by simp)))))⟩
  obtain ⟨b, off, v, rfl, hbl, hP0, hc0⟩ := hr.out.int (i := 0) (by omega)
  have hpos : (0 : Int) < (P.length : Int) := by omega
  have hposN : 0 < P.length := by omega
  by_cases hv0 : v = -1
  · subst hv0
    rw [Nat.add_zero] at hc0
    replace hP0 := Lib.hid hP0
    go_enter Try.func17, Try.ntmps17
    go_wp2
    clear h0' hc0
    go_loop [3] (fun q => ∃ i : Nat, 1 ≤ i ∧ i ≤ P.length ∧ q = .int .i64 i ∧ Hid (∀ j, 1 ≤ j → j < i → ∃ v, P[j]? = some v ∧ 0 ≤ v ∧ v < j)) (fun q => P.length - (intOf q).toNat)
    case atStart => exact ⟨1, by omega, by omega, by go_num, fun j h1 h2 => absurd h2 (by omega)⟩
    case round =>
      obtain ⟨i, hi1, hi, rfl, hall⟩ := hrel
      by_cases hlt : i < P.length
      · obtain ⟨b2, off2, u, hx2, hbl2, hPi, hci⟩ := hr.out.int (i := i) hlt
        injection hx2 with hx2
        injection hx2 with e1 e2
        subst e1 e2
        have hlt' : (i : Int) < (P.length : Int) := by omega
        have hi0 : (0 : Int) ≤ (i : Int) := by omega
        by_cases hu0 : u < 0
        · have hv := Lib.hid (ge_bad hi1 hPi (by omega))
          replace hPi := Lib.hid hPi
          go_wp2
          go_ret
          exact ⟨ret_bool hv.out.symm, (by repeat (first | exact Below.refl _ _ | assumption | refine Below.drew ?_ | refine below_drewN ?_ _ | refine Below.alloc' ?_ _ | (refine Below.setCell ?_ (by first | omega | (simp; done) | (simp; omega) | exact Below.size (by assumption) | exact Nat.le_trans (Below.size (by assumption)) (by simp)) _) | (refine Below.via' ?_ (by assumption)) | (refine Below.alloc ?_ (by first | omega | (simp; done) | (simp; omega) | exact Below.size (by assumption) | exact Nat.le_trans (Below.size (by assumption)) (by simp)) _) | (refine Below.via ?_ (by assumption) (by first | omega | (simp; done) | (simp; omega) | exact Below.size (by assumption) | exact Nat.le_trans (Below.size (by assumption)) (by simp)))))⟩
        by_cases hu1 : (i : Int) ≤ u
        · have hv := Lib.hid (ge_bad hi1 hPi (by omega))
          replace hPi := Lib.hid hPi
          go_wp2
          go_ret
          exact ⟨ret_bool hv.out.symm, (by repeat (first | exact Below.refl _ _ | assumption | refine Below.drew ?_ | refine below_drewN ?_ _ | refine Below.alloc' ?_ _ | (refine Below.setCell ?_ (by first | omega | (simp; done) | (simp; omega) | exact Below.size (by assumption) | exact Nat.le_trans (Below.size (by assumption)) (by simp)) _) | (refine Below.via' ?_ (by assumption)) | (refine Below.alloc ?_ (by first | omega | (simp; done) | (simp; omega) | exact Below.size (by assumption) | exact Nat.le_trans (Below.size (by assumption)) (by simp)) _) | (refine Below.via ?_ (by assumption) (by first | omega | (simp; done) | (simp; omega) | exact Below.size (by assumption) | exact Nat.le_trans (Below.size (by assumption)) (by simp)))))⟩
        replace hPi := Lib.hid hPi
        go_wp2
        go_round
        case rel =>
          refine ⟨i + 1, by omega, by omega, by go_num, fun j h1 h2 => ?_⟩
          rcases Nat.lt_or_ge j i with h3 | h3
          · exact hall.out j h1 h3
          · obtain rfl : j = i := by omega
            exact ⟨u, hPi.out, by omega, by omega⟩
        case measure => simp [intOf]; omega
      · have hij : i = P.length := by omega
        subst hij
        have hv := Lib.hid (ge_ok (by omega) (by omega) hP0.out hall.out)
        clear hall
        go_wp2
        go_ret
        exact ⟨ret_bool hv.out.symm, (by repeat (first | exact Below.refl _ _ | assumption | refine Below.drew ?_ | refine below_drewN ?_ _ | refine Below.alloc' ?_ _ | (refine Below.setCell ?_ (by first | omega | (simp; done) | (simp; omega) | exact Below.size (by assumption) | exact Nat.le_trans (Below.size (by assumption)) (by simp)) _) | (refine Below.via' ?_ (by assumption)) | (refine Below.alloc ?_ (by first | omega | (simp; done) | (simp; omega) | exact Below.size (by assumption) | exact Nat.le_trans (Below.size (by assumption)) (by simp)) _) | (refine Below.via ?_ (by assumption) (by first | omega | (simp; done) | (simp; omega) | exact Below.size (by assumption) | exact Nat.le_trans (Below.size (by assumption)) (by simp)))))⟩
  · have hv := Lib.hid (ge_root (P := P) (by rw [hP0]; simpa using hv0))
    have h2 : (v == -1) = false := by rw [beq_eq_false_iff_ne]; exact hv0
    have h2' : (v != -1) = true := by show (!(v == -1)) = true; rw [h2]; rfl
    rw [Nat.add_zero] at hc0
    replace hP0 := Lib.hid hP0
    replace hv0 := Lib.hid hv0
    go_enter Try.func17, Try.ntmps17
    go_wp2
    go_ret
    exact ⟨ret_bool hv.out.symm, (by repeat (first | exact Below.refl _ _ | assumption | refine Below.drew ?_ | refine below_drewN ?_ _ | refine Below.alloc' ?_ _ | (refine Below.setCell ?_ (by first | omega | (simp; done) | (simp; omega) | exact Below.size (by assumption) | exact Nat.le_trans (Below.size (by assumption)) (by simp)) _) | (refine Below.via' ?_ (by assumption)) | (refine Below.alloc ?_ (by first | omega | (simp; done) | (simp; omega) | exact Below.size (by assumption) | exact Nat.le_trans (Below.size (by assumption)) (by simp)) _) | (refine Below.via ?_ (by assumption) (by first | omega | (simp; done) | (simp; omega) | exact Below.size (by assumption) | exact Nat.le_trans (Below.size (by assumption)) (by simp)))))⟩

set_option maxHeartbeats 2000000 in
theorem gGood_any (x : Option Addr) (c : Nat) (P : List Int) (w : World) (h : IIn w x P) :
    Calls Try.prog 26 #[.agg #[.slice x P.length c]] w fun e w' => e = .returned (.bool (geB P)) ∧ Below w.heap.size w w' := by
  have hr := Lib.hid h.2.2
  have hm := h.1
  clear h
  by_cases h1 : inB P.length 1 30 = false
  · have hv := Lib.hid (ge_short (P := P) (by rw [inB_no] at h1; omega))
    go_enter Try.func26, Try.ntmps26
    go_wp2_with (go_at_call 29; refine (l1In_any _ _ _ _).mono ?_; rintro e w1 ⟨rfl, rfl⟩)
    go_ret
    exact ⟨ret_bool hv.out.symm, (by repeat (first | exact Below.refl _ _ | assumption | refine Below.drew ?_ | refine below_drewN ?_ _ | refine Below.alloc' ?_ _ | (refine Below.setCell ?_ (by first | omega | (simp; done) | (simp; omega) | exact Below.size (by assumption) | exact Nat.le_trans (Below.size (by assumption)) (by simp)) _) | (refine Below.via' ?_ (by assumption)) | (refine Below.alloc ?_ (by first | omega | (simp; done) | (simp; omega) | exact Below.size (by assumption) | exact Nat.le_trans (Below.size (by assumption)) (by simp)) _) | (refine Below.via ?_ (by assumption) (by first | omega | (simp; done) | (simp; omega) | exact Below.size (by assumption) | exact Nat.le_trans (Below.size (by assumption)) (by simp)))))⟩
  have h1 : inB P.length 1 30 = true := by simpa using h1
  have hlen := (inB_iff _ _ _).1 h1
  obtain ⟨b, off, v, rfl, hbl, hP0, hc0⟩ := hr.out.int (i := 0) (by omega)
  have hpos : (0 : Int) < (P.length : Int) := by omega
  have hposN : 0 < P.length := by omega
  rw [Nat.add_zero] at hc0
  by_cases hv0 : v = -1
  · subst hv0
    replace hP0 := Lib.hid hP0
    go_enter Try.func26, Try.ntmps26
    go_wp2_with (go_at_call 29; refine (l1In_any _ _ _ _).mono ?_; rintro e w1 ⟨rfl, rfl⟩)
    clear h1 hc0
    go_loop [20] (fun q => ∃ i : Nat, i ≤ P.length ∧ q = .int .i64 i ∧ Hid (∀ j, 1 ≤ j → j < i → ∃ v, P[j]? = some v ∧ 0 ≤ v ∧ v < j)) (fun q => P.length - (intOf q).toNat)
    case atStart => exact ⟨0, by omega, by go_num, fun j h1 h2 => absurd h2 (by omega)⟩
    case round =>
      obtain ⟨i, hi, rfl, hall⟩ := hrel
      by_cases hlt : i < P.length
      · obtain ⟨b2, off2, u, hx2, hbl2, hPi, hci⟩ := hr.out.int (i := i) hlt
        injection hx2 with hx2
        injection hx2 with e1 e2
        subst e1 e2
        have hlt' : (i : Int) < (P.length : Int) := by omega
        have hi0 : (0 : Int) ≤ (i : Int) := by omega
        by_cases hi1 : (0 : Int) < (i : Int)
        · cases hin : inB u 0 ((i : Int) - 1)
          · have hv := Lib.hid (ge_bad (P := P) (by omega) hPi (by rw [inB_no] at hin; omega))
            replace hPi := Lib.hid hPi
            go_wp2_with (go_at_call 29; refine (l1In_any _ _ _ _).mono ?_; rintro e w1 ⟨rfl, rfl⟩)
            go_ret
            exact ⟨ret_bool hv.out.symm, (by repeat (first | exact Below.refl _ _ | assumption | refine Below.drew ?_ | refine below_drewN ?_ _ | refine Below.alloc' ?_ _ | (refine Below.setCell ?_ (by first | omega | (simp; done) | (simp; omega) | exact Below.size (by assumption) | exact Nat.le_trans (Below.size (by assumption)) (by simp)) _) | (refine Below.via' ?_ (by assumption)) | (refine Below.alloc ?_ (by first | omega | (simp; done) | (simp; omega) | exact Below.size (by assumption) | exact Nat.le_trans (Below.size (by assumption)) (by simp)) _) | (refine Below.via ?_ (by assumption) (by first | omega | (simp; done) | (simp; omega) | exact Below.size (by assumption) | exact Nat.le_trans (Below.size (by assumption)) (by simp)))))⟩
          · have hub := (inB_iff _ _ _).1 hin
            replace hPi := Lib.hid hPi
            go_wp2_with (go_at_call 29; refine (l1In_any _ _ _ _).mono ?_; rintro e w1 ⟨rfl, rfl⟩)
            go_round
            case rel =>
              refine ⟨i + 1, by omega, by go_num, fun j h1 h2 => ?_⟩
              rcases Nat.lt_or_ge j i with h3 | h3
              · exact hall.out j h1 h3
              · obtain rfl : j = i := by omega
                exact ⟨u, hPi.out, by omega, by omega⟩
            case measure => simp [intOf]; omega
        · replace hPi := Lib.hid hPi
          go_wp2
          go_round
          case rel =>
            refine ⟨i + 1, by omega, by go_num, fun j h1 h2 => ?_⟩
            omega
          case measure => simp [intOf]; omega
      · have hij : i = P.length := by omega
        subst hij
        have hv := Lib.hid (ge_ok (by omega) (by omega) hP0.out hall.out)
        clear hall
        go_wp2
        go_ret
        exact ⟨ret_bool hv.out.symm, (by repeat (first | exact Below.refl _ _ | assumption | refine Below.drew ?_ | refine below_drewN ?_ _ | refine Below.alloc' ?_ _ | (refine Below.setCell ?_ (by first | omega | (simp; done) | (simp; omega) | exact Below.size (by assumption) | exact Nat.le_trans (Below.size (by assumption)) (by simp)) _) | (refine Below.via' ?_ (by assumption)) | (refine Below.alloc ?_ (by first | omega | (simp; done) | (simp; omega) | exact Below.size (by assumption) | exact Nat.le_trans (Below.size (by assumption)) (by simp)) _) | (refine Below.via ?_ (by assumption) (by first | omega | (simp; done) | (simp; omega) | exact Below.size (by assumption) | exact Nat.le_trans (Below.size (by assumption)) (by simp)))))⟩
  · have hv := Lib.hid (ge_root (P := P) (by rw [hP0]; simpa using hv0))
    have h2 : (v == -1) = false := by rw [beq_eq_false_iff_ne]; exact hv0
    have h2' : (v != -1) = true := by show (!(v == -1)) = true; rw [h2]; rfl
    replace hP0 := Lib.hid hP0
    replace hv0 := Lib.hid hv0
    go_enter Try.func26, Try.ntmps26
    go_wp2_with (go_at_call 29; refine (l1In_any _ _ _ _).mono ?_; rintro e w1 ⟨rfl, rfl⟩)
    go_ret
    exact ⟨ret_bool hv.out.symm, (by repeat (first | exact Below.refl _ _ | assumption | refine Below.drew ?_ | refine below_drewN ?_ _ | refine Below.alloc' ?_ _ | (refine Below.setCell ?_ (by first | omega | (simp; done) | (simp; omega) | exact Below.size (by assumption) | exact Nat.le_trans (Below.size (by assumption)) (by simp)) _) | (refine Below.via' ?_ (by assumption)) | (refine Below.alloc ?_ (by first | omega | (simp; done) | (simp; omega) | exact Below.size (by assumption) | exact Nat.le_trans (Below.size (by assumption)) (by simp)) _) | (refine Below.via ?_ (by assumption) (by first | omega | (simp; done) | (simp; omega) | exact Below.size (by assumption) | exact Nat.le_trans (Below.size (by assumption)) (by simp)))))⟩
end Go.Proofs.Ytmefkknkahmihaa
