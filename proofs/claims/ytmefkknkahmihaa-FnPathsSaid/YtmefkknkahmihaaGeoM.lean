/-
  The walks of chapter 4: meeting areas; the program's and the model's.
-/
import Derived.Test.YtmefkknkahmihaaGeoF
import Derived.Deep.RegionLaw
namespace Go.Proofs.Ytmefkknkahmihaa
open Go.RowKit
set_option maxRecDepth 100000

theorem ret_ibM {a b : Int} {p q : Bool} (h : a = b) (k : p = q) : Ending.returned (.tuple #[.int .i64 a, .bool p]) = .returned (.tuple #[.int .i64 b, .bool q]) := by rw [h, k]
/-- What MeetOf gives. -/
def mtB (P : List Int) (i k : Int) : Bool := gaB P i && gaB P k
def mtR (P : List Int) (i k : Int) : Int := if mtB P i k then mtZ P i.toNat k.toNat else 0
theorem mt_no1 {P : List Int} {i k : Int} (h : gaB P i = false) : mtB P i k = false ∧ mtR P i k = 0 := by
  have e : mtB P i k = false := by unfold mtB; rw [h]; rfl
  exact ⟨e, by unfold mtR; rw [e]; rfl⟩
theorem mt_no2 {P : List Int} {i k : Int} (h : gaB P k = false) : mtB P i k = false ∧ mtR P i k = 0 := by
  have e : mtB P i k = false := by unfold mtB; rw [h, Bool.and_false]
  exact ⟨e, by unfold mtR; rw [e]; rfl⟩
theorem mt_yes {P : List Int} {i k : Nat} (h : gaB P i = true) (k2 : gaB P k = true) : mtB P i k = true ∧ mtR P i k = mtZ P i k := by
  have e : mtB P i k = true := by unfold mtB; rw [h, k2]; rfl
  exact ⟨e, by unfold mtR; rw [e, Int.toNat_natCast, Int.toNat_natCast]; rfl⟩
theorem ga_nat {P : List Int} {k : Nat} (hg : geB P = true) (hk : k < P.length) : gaB P k = true := ga_yes hg ((inB_iff _ _ _).2 ⟨by omega, by omega⟩)

set_option maxHeartbeats 4000000 in
theorem iMT_x (x : Option Addr) (c : Nat) (P : List Int) (i k : Int) (w : World) (h : IIn w x P) :
    Calls Try.prog 12 #[.agg #[.slice x P.length c], .int .i64 i, .int .i64 k] w fun e w' => e = .returned (.tuple #[.int .i64 (mtR P i k), .bool (mtB P i k)]) ∧ Below w.heap.size w w' := by
  have hm := h.1
  have hh := Lib.hid h
  have hq := Lib.hid (QB.new w x P.length c 26)
  clear h
  cases hg : geB P
  · have hv := Lib.hid (mt_no1 (k := k) (ga_no1 (i := i) hg))
    go_enter Try.func12, Try.ntmps12
    go_wp2_with fail
    refine (iGeo_any _ _ _ _ (hh.out.below (by exact (by repeat (first | exact Below.refl _ _ | assumption | refine Below.drew ?_ | refine below_drewN ?_ _ | refine Below.alloc' ?_ _ | (refine Below.setCell ?_ (by first | omega | (simp; done) | (simp; omega) | exact Below.size (by assumption) | exact Nat.le_trans (Below.size (by assumption)) (by simp)) _) | (refine Below.via' ?_ (by assumption)) | (refine Below.alloc ?_ (by first | omega | (simp; done) | (simp; omega) | exact Below.size (by assumption) | exact Nat.le_trans (Below.size (by assumption)) (by simp)) _) | (refine Below.via ?_ (by assumption) (by first | omega | (simp; done) | (simp; omega) | exact Below.size (by assumption) | exact Nat.le_trans (Below.size (by assumption)) (by simp)))))))).mono ?_
    rintro e w1 ⟨rfl, hb1⟩
    rw [hg]
    go_wp2
    go_ret2
    exact ⟨ret_ibM hv.out.2.symm hv.out.1.symm, (by repeat (first | exact Below.refl _ _ | assumption | refine Below.drew ?_ | refine below_drewN ?_ _ | refine Below.alloc' ?_ _ | (refine Below.setCell ?_ (by first | omega | (simp; done) | (simp; omega) | exact Below.size (by assumption) | exact Nat.le_trans (Below.size (by assumption)) (by simp)) _) | (refine Below.via' ?_ (by assumption)) | (refine Below.alloc ?_ (by first | omega | (simp; done) | (simp; omega) | exact Below.size (by assumption) | exact Nat.le_trans (Below.size (by assumption)) (by simp)) _) | (refine Below.via ?_ (by assumption) (by first | omega | (simp; done) | (simp; omega) | exact Below.size (by assumption) | exact Nat.le_trans (Below.size (by assumption)) (by simp)))))⟩
  cases ha : inB i 0 ((P.length : Int) - 1)
  · have hv := Lib.hid (mt_no1 (k := k) (ga_no2 (i := i) ha))
    go_enter Try.func12, Try.ntmps12
    go_wp2_with fail
    refine (iGeo_any _ _ _ _ (hh.out.below (by exact (by repeat (first | exact Below.refl _ _ | assumption | refine Below.drew ?_ | refine below_drewN ?_ _ | refine Below.alloc' ?_ _ | (refine Below.setCell ?_ (by first | omega | (simp; done) | (simp; omega) | exact Below.size (by assumption) | exact Nat.le_trans (Below.size (by assumption)) (by simp)) _) | (refine Below.via' ?_ (by assumption)) | (refine Below.alloc ?_ (by first | omega | (simp; done) | (simp; omega) | exact Below.size (by assumption) | exact Nat.le_trans (Below.size (by assumption)) (by simp)) _) | (refine Below.via ?_ (by assumption) (by first | omega | (simp; done) | (simp; omega) | exact Below.size (by assumption) | exact Nat.le_trans (Below.size (by assumption)) (by simp)))))))).mono ?_
    rintro e w1 ⟨rfl, hb1⟩
    obtain ⟨ka, kb, kc⟩ := hq.out.below hb1
    rw [hg]
    go_wp2_with fail
    refine (isArea_any _ _ _ _ _).mono ?_
    rintro e w2 ⟨rfl, hb2⟩
    rw [ha]
    go_wp2
    go_ret2
    exact ⟨ret_ibM hv.out.2.symm hv.out.1.symm, (by repeat (first | exact Below.refl _ _ | assumption | refine Below.drew ?_ | refine below_drewN ?_ _ | refine Below.alloc' ?_ _ | (refine Below.setCell ?_ (by first | omega | (simp; done) | (simp; omega) | exact Below.size (by assumption) | exact Nat.le_trans (Below.size (by assumption)) (by simp)) _) | (refine Below.via' ?_ (by assumption)) | (refine Below.alloc ?_ (by first | omega | (simp; done) | (simp; omega) | exact Below.size (by assumption) | exact Nat.le_trans (Below.size (by assumption)) (by simp)) _) | (refine Below.via ?_ (by assumption) (by first | omega | (simp; done) | (simp; omega) | exact Below.size (by assumption) | exact Nat.le_trans (Below.size (by assumption)) (by simp)))))⟩
  cases ha2 : inB k 0 ((P.length : Int) - 1)
  · have hv := Lib.hid (mt_no2 (i := i) (ga_no2 (i := k) ha2))
    go_enter Try.func12, Try.ntmps12
    go_wp2_with fail
    refine (iGeo_any _ _ _ _ (hh.out.below (by exact (by repeat (first | exact Below.refl _ _ | assumption | refine Below.drew ?_ | refine below_drewN ?_ _ | refine Below.alloc' ?_ _ | (refine Below.setCell ?_ (by first | omega | (simp; done) | (simp; omega) | exact Below.size (by assumption) | exact Nat.le_trans (Below.size (by assumption)) (by simp)) _) | (refine Below.via' ?_ (by assumption)) | (refine Below.alloc ?_ (by first | omega | (simp; done) | (simp; omega) | exact Below.size (by assumption) | exact Nat.le_trans (Below.size (by assumption)) (by simp)) _) | (refine Below.via ?_ (by assumption) (by first | omega | (simp; done) | (simp; omega) | exact Below.size (by assumption) | exact Nat.le_trans (Below.size (by assumption)) (by simp)))))))).mono ?_
    rintro e w1 ⟨rfl, hb1⟩
    obtain ⟨ka, kb, kc⟩ := hq.out.below hb1
    rw [hg]
    go_wp2_with fail
    refine (isArea_any _ _ _ _ _).mono ?_
    rintro e w2 ⟨rfl, hb2⟩
    obtain ⟨ka2, kb2, kc2⟩ := (hq.out.below hb1).below hb2
    rw [ha]
    go_wp2_with fail
    refine (isArea_any _ _ _ _ _).mono ?_
    rintro e w3 ⟨rfl, hb3⟩
    rw [ha2]
    go_wp2
    go_ret2
    exact ⟨ret_ibM hv.out.2.symm hv.out.1.symm, (by repeat (first | exact Below.refl _ _ | assumption | refine Below.drew ?_ | refine below_drewN ?_ _ | refine Below.alloc' ?_ _ | (refine Below.setCell ?_ (by first | omega | (simp; done) | (simp; omega) | exact Below.size (by assumption) | exact Nat.le_trans (Below.size (by assumption)) (by simp)) _) | (refine Below.via' ?_ (by assumption)) | (refine Below.alloc ?_ (by first | omega | (simp; done) | (simp; omega) | exact Below.size (by assumption) | exact Nat.le_trans (Below.size (by assumption)) (by simp)) _) | (refine Below.via ?_ (by assumption) (by first | omega | (simp; done) | (simp; omega) | exact Below.size (by assumption) | exact Nat.le_trans (Below.size (by assumption)) (by simp)))))⟩
  have hgi := ga_yes hg ha
  have hgk := ga_yes hg ha2
  obtain ⟨-, i, rfl, hi⟩ := ga_get hgi
  obtain ⟨-, k, rfl, hk⟩ := ga_get hgk
  have hv := Lib.hid (mt_yes hgi hgk)
  have hgh := Lib.hid hg
  have hlen := ge_len hg
  replace hgi := Lib.hid hgi
  replace hgk := Lib.hid hgk
  go_enter Try.func12, Try.ntmps12
  go_wp2_with fail
  refine (iGeo_any _ _ _ _ (hh.out.below (by exact (by repeat (first | exact Below.refl _ _ | assumption | refine Below.drew ?_ | refine below_drewN ?_ _ | refine Below.alloc' ?_ _ | (refine Below.setCell ?_ (by first | omega | (simp; done) | (simp; omega) | exact Below.size (by assumption) | exact Nat.le_trans (Below.size (by assumption)) (by simp)) _) | (refine Below.via' ?_ (by assumption)) | (refine Below.alloc ?_ (by first | omega | (simp; done) | (simp; omega) | exact Below.size (by assumption) | exact Nat.le_trans (Below.size (by assumption)) (by simp)) _) | (refine Below.via ?_ (by assumption) (by first | omega | (simp; done) | (simp; omega) | exact Below.size (by assumption) | exact Nat.le_trans (Below.size (by assumption)) (by simp)))))))).mono ?_
  rintro e w1 ⟨rfl, hb1⟩
  obtain ⟨ka, kb, kc⟩ := hq.out.below hb1
  rw [hg]
  go_wp2_with fail
  refine (isArea_any _ _ _ _ _).mono ?_
  rintro e w2 ⟨rfl, hb2⟩
  obtain ⟨ka2, kb2, kc2⟩ := (hq.out.below hb1).below hb2
  rw [ha]
  go_wp2_with fail
  refine (isArea_any _ _ _ _ _).mono ?_
  rintro e w3 ⟨rfl, hb3⟩
  obtain ⟨ka3, kb3, kc3⟩ := ((hq.out.below hb1).below hb2).below hb3
  rw [ha2]
  have B3 : Below w.heap.size w w3 := (by repeat (first | exact Below.refl _ _ | assumption | refine Below.drew ?_ | refine below_drewN ?_ _ | refine Below.alloc' ?_ _ | (refine Below.setCell ?_ (by first | omega | (simp; done) | (simp; omega) | exact Below.size (by assumption) | exact Nat.le_trans (Below.size (by assumption)) (by simp)) _) | (refine Below.via' ?_ (by assumption)) | (refine Below.alloc ?_ (by first | omega | (simp; done) | (simp; omega) | exact Below.size (by assumption) | exact Nat.le_trans (Below.size (by assumption)) (by simp)) _) | (refine Below.via ?_ (by assumption) (by first | omega | (simp; done) | (simp; omega) | exact Below.size (by assumption) | exact Nat.le_trans (Below.size (by assumption)) (by simp)))))
  clear ka kb kc ka2 kb2 kc2 hb1 hb2 hb3 hq hg ha ha2
  go_wp2
  go_loop [1, 2] (fun a b => ∃ p q : Nat, a = .int .i64 p ∧ b = .int .i64 q ∧ p < P.length ∧ q < P.length ∧ Hid (mtZ P p q = mtZ P i k)) (fun a b => (intOf a).toNat + (intOf b).toNat)
  case atStart => exact ⟨i, k, rfl, rfl, hi, hk, rfl⟩
  case round =>
    obtain ⟨p, q, rfl, rfl, hp, hq, hme⟩ := hrel
    have hp0 : (0 : Int) ≤ (p : Int) := by omega
    have hq0 : (0 : Int) ≤ (q : Int) := by omega
    have hp1 : (p : Int) < (P.length : Int) := by omega
    have hq1 : (q : Int) < (P.length : Int) := by omega
    by_cases he : p = q
    · subst he
      have hr : Hid ((p : Int) = mtR P (i : Int) (k : Int)) := by
        unfold Hid
        rw [hv.out.2, ← hme.out, mt_same]
      clear hme
      go_wp2
      go_ret2
      exact ⟨ret_ibM hr.out hv.out.1.symm, B3⟩
    have hne : ((p : Int) == (q : Int)) = false := by rw [beq_eq_false_iff_ne]; omega
    have hne' : ((p : Int) != (q : Int)) = true := by show (!((p : Int) == (q : Int))) = true; rw [hne]; rfl
    by_cases hlt : q < p
    · have hlt' : (q : Int) < (p : Int) := by omega
      obtain ⟨r, hr, hrl⟩ := ge_par hgh.out (i := p) (by omega) hp
      obtain ⟨b, off, v, rfl, hbl, hPp, hc0⟩ := (hh.out.2.2.below B3).int (i := p) hp
      obtain rfl : v = r := Option.some.inj (hPp.symm.trans hr)
      have hme2 : Hid (mtZ P r q = mtZ P i k) := by unfold Hid; rw [← mt_up hgh.out hr hrl hq hlt]; exact hme.out
      replace hPp := Lib.hid hPp
      replace hr := Lib.hid hr
      replace he := Lib.hid he
      clear hme
      go_wp2
      go_round
      case rel => exact ⟨r, q, rfl, rfl, by omega, hq, hme2⟩
      case measure => simp [intOf]; omega
    · have hlt' : ¬ (q : Int) < (p : Int) := by omega
      obtain ⟨r, hr, hrl⟩ := ge_par hgh.out (i := q) (by omega) hq
      obtain ⟨b, off, v, rfl, hbl, hPq, hc0⟩ := (hh.out.2.2.below B3).int (i := q) hq
      obtain rfl : v = r := Option.some.inj (hPq.symm.trans hr)
      have hme2 : Hid (mtZ P p r = mtZ P i k) := by unfold Hid; rw [mt_comm, ← mt_up hgh.out hr hrl hp (by omega), mt_comm]; exact hme.out
      replace hPq := Lib.hid hPq
      replace hr := Lib.hid hr
      replace he := Lib.hid he
      clear hme
      go_wp2
      go_round
      case rel => exact ⟨p, r, rfl, rfl, hp, by omega, hme2⟩
      case measure => simp [intOf]; omega

theorem cp_len : ∀ (a b : List Int), (cpL a b).length ≤ a.length
  | [], _ => Nat.le_refl _
  | _ :: _, [] => Nat.zero_le _
  | a :: r, b :: s => by
    unfold cpL
    split
    · simp only [List.length_cons]; have := cp_len r s; omega
    · exact Nat.zero_le _
/-- The first n elements of two lists are the same; the last of them. -/
def Cmn (A B : List Int) (n : Nat) (z : Int) : Prop := n = (cpL (A.take n) (B.take n)).length ∧ z = (cpL (A.take n) (B.take n)).getLastD 0
theorem cmn_zero (A B : List Int) : Cmn A B 0 0 := ⟨by simp [cpL], by simp [cpL]⟩
theorem cmn_step {A B : List Int} {n : Nat} {z v : Int} (h : Cmn A B n z) (ha : A[n]? = some v) (hb : B[n]? = some v) : Cmn A B (n + 1) v := by
  have e := cp_take A B n v h.1 ha hb
  refine ⟨?_, ?_⟩
  · rw [e, List.length_append, ← h.1]; rfl
  · rw [e]; simp
theorem cmn_end {A B : List Int} {n : Nat} {z : Int} (h : Cmn A B n z) (hk : n = A.length ∨ n = B.length ∨ ∃ x y, A[n]? = some x ∧ B[n]? = some y ∧ x ≠ y) : z = (cpL A B).getLastD 0 := by
  rw [cp_end A B n h.1 hk]
  exact h.2

set_option maxHeartbeats 8000000 in
theorem sMT_x (x : Option Addr) (c : Nat) (P : List Int) (i k : Int) (w : World) (h : IIn w x P) :
    Calls Try.prog 13 #[.agg #[.slice x P.length c], .int .i64 i, .int .i64 k] w fun e w' => e = .returned (.tuple #[.int .i64 (mtR P i k), .bool (mtB P i k)]) ∧ Below w.heap.size w w' := by
  have hm := h.1
  have hh := Lib.hid h
  have hq := Lib.hid (QB.new w x P.length c 26)
  clear h
  cases hgi : gaB P i
  · have hv := Lib.hid (mt_no1 (k := k) hgi)
    go_enter Try.func13, Try.ntmps13
    go_wp2_with fail
    refine (gArea_any _ _ _ _ _ (hh.out.below (by exact (by repeat (first | exact Below.refl _ _ | assumption | refine Below.drew ?_ | refine below_drewN ?_ _ | refine Below.alloc' ?_ _ | (refine Below.setCell ?_ (by first | omega | (simp; done) | (simp; omega) | exact Below.size (by assumption) | exact Nat.le_trans (Below.size (by assumption)) (by simp)) _) | (refine Below.via' ?_ (by assumption)) | (refine Below.alloc ?_ (by first | omega | (simp; done) | (simp; omega) | exact Below.size (by assumption) | exact Nat.le_trans (Below.size (by assumption)) (by simp)) _) | (refine Below.via ?_ (by assumption) (by first | omega | (simp; done) | (simp; omega) | exact Below.size (by assumption) | exact Nat.le_trans (Below.size (by assumption)) (by simp)))))))).mono ?_
    rintro e w1 ⟨rfl, hb1⟩
    rw [hgi]
    go_wp2
    go_ret2
    exact ⟨ret_ibM hv.out.2.symm hv.out.1.symm, (by repeat (first | exact Below.refl _ _ | assumption | refine Below.drew ?_ | refine below_drewN ?_ _ | refine Below.alloc' ?_ _ | (refine Below.setCell ?_ (by first | omega | (simp; done) | (simp; omega) | exact Below.size (by assumption) | exact Nat.le_trans (Below.size (by assumption)) (by simp)) _) | (refine Below.via' ?_ (by assumption)) | (refine Below.alloc ?_ (by first | omega | (simp; done) | (simp; omega) | exact Below.size (by assumption) | exact Nat.le_trans (Below.size (by assumption)) (by simp)) _) | (refine Below.via ?_ (by assumption) (by first | omega | (simp; done) | (simp; omega) | exact Below.size (by assumption) | exact Nat.le_trans (Below.size (by assumption)) (by simp)))))⟩
  cases hgk : gaB P k
  · have hv := Lib.hid (mt_no2 (i := i) hgk)
    go_enter Try.func13, Try.ntmps13
    go_wp2_with fail
    refine (gArea_any _ _ _ _ _ (hh.out.below (by exact (by repeat (first | exact Below.refl _ _ | assumption | refine Below.drew ?_ | refine below_drewN ?_ _ | refine Below.alloc' ?_ _ | (refine Below.setCell ?_ (by first | omega | (simp; done) | (simp; omega) | exact Below.size (by assumption) | exact Nat.le_trans (Below.size (by assumption)) (by simp)) _) | (refine Below.via' ?_ (by assumption)) | (refine Below.alloc ?_ (by first | omega | (simp; done) | (simp; omega) | exact Below.size (by assumption) | exact Nat.le_trans (Below.size (by assumption)) (by simp)) _) | (refine Below.via ?_ (by assumption) (by first | omega | (simp; done) | (simp; omega) | exact Below.size (by assumption) | exact Nat.le_trans (Below.size (by assumption)) (by simp)))))))).mono ?_
    rintro e w1 ⟨rfl, hb1⟩
    obtain ⟨ka, kb, kc⟩ := hq.out.below hb1
    rw [hgi]
    go_wp2_with fail
    refine (gArea_any _ _ _ _ _ (hh.out.below (by exact (by repeat (first | exact Below.refl _ _ | assumption | refine Below.drew ?_ | refine below_drewN ?_ _ | refine Below.alloc' ?_ _ | (refine Below.setCell ?_ (by first | omega | (simp; done) | (simp; omega) | exact Below.size (by assumption) | exact Nat.le_trans (Below.size (by assumption)) (by simp)) _) | (refine Below.via' ?_ (by assumption)) | (refine Below.alloc ?_ (by first | omega | (simp; done) | (simp; omega) | exact Below.size (by assumption) | exact Nat.le_trans (Below.size (by assumption)) (by simp)) _) | (refine Below.via ?_ (by assumption) (by first | omega | (simp; done) | (simp; omega) | exact Below.size (by assumption) | exact Nat.le_trans (Below.size (by assumption)) (by simp)))))))).mono ?_
    rintro e w2 ⟨rfl, hb2⟩
    rw [hgk]
    go_wp2
    go_ret2
    exact ⟨ret_ibM hv.out.2.symm hv.out.1.symm, (by repeat (first | exact Below.refl _ _ | assumption | refine Below.drew ?_ | refine below_drewN ?_ _ | refine Below.alloc' ?_ _ | (refine Below.setCell ?_ (by first | omega | (simp; done) | (simp; omega) | exact Below.size (by assumption) | exact Nat.le_trans (Below.size (by assumption)) (by simp)) _) | (refine Below.via' ?_ (by assumption)) | (refine Below.alloc ?_ (by first | omega | (simp; done) | (simp; omega) | exact Below.size (by assumption) | exact Nat.le_trans (Below.size (by assumption)) (by simp)) _) | (refine Below.via ?_ (by assumption) (by first | omega | (simp; done) | (simp; omega) | exact Below.size (by assumption) | exact Nat.le_trans (Below.size (by assumption)) (by simp)))))⟩
  obtain ⟨hg, i, rfl, hi⟩ := ga_get hgi
  obtain ⟨-, k, rfl, hk⟩ := ga_get hgk
  have hv := Lib.hid (mt_yes hgi hgk)
  have hgh := Lib.hid hg
  have hlen := ge_len hg
  have hli := pt_len P i
  have hlk := pt_len P k
  have hdi := dp_le hg hi
  have hdk := dp_le hg hk
  have hli30 : (ptL P i).length ≤ 30 := by omega
  have hlk30 : (ptL P k).length ≤ 30 := by omega
  clear hg hli hlk hdi hdk
  go_enter Try.func13, Try.ntmps13
  go_wp2_with fail
  refine (gArea_any _ _ _ _ _ (hh.out.below (by exact (by repeat (first | exact Below.refl _ _ | assumption | refine Below.drew ?_ | refine below_drewN ?_ _ | refine Below.alloc' ?_ _ | (refine Below.setCell ?_ (by first | omega | (simp; done) | (simp; omega) | exact Below.size (by assumption) | exact Nat.le_trans (Below.size (by assumption)) (by simp)) _) | (refine Below.via' ?_ (by assumption)) | (refine Below.alloc ?_ (by first | omega | (simp; done) | (simp; omega) | exact Below.size (by assumption) | exact Nat.le_trans (Below.size (by assumption)) (by simp)) _) | (refine Below.via ?_ (by assumption) (by first | omega | (simp; done) | (simp; omega) | exact Below.size (by assumption) | exact Nat.le_trans (Below.size (by assumption)) (by simp)))))))).mono ?_
  rintro e w1 ⟨rfl, hb1⟩
  have hq1 := Lib.hid (hq.out.below hb1)
  obtain ⟨ka, kb, kc⟩ := hq1.out
  rw [hgi]
  go_wp2_with fail
  refine (gArea_any _ _ _ _ _ (hh.out.below (by exact (by repeat (first | exact Below.refl _ _ | assumption | refine Below.drew ?_ | refine below_drewN ?_ _ | refine Below.alloc' ?_ _ | (refine Below.setCell ?_ (by first | omega | (simp; done) | (simp; omega) | exact Below.size (by assumption) | exact Nat.le_trans (Below.size (by assumption)) (by simp)) _) | (refine Below.via' ?_ (by assumption)) | (refine Below.alloc ?_ (by first | omega | (simp; done) | (simp; omega) | exact Below.size (by assumption) | exact Nat.le_trans (Below.size (by assumption)) (by simp)) _) | (refine Below.via ?_ (by assumption) (by first | omega | (simp; done) | (simp; omega) | exact Below.size (by assumption) | exact Nat.le_trans (Below.size (by assumption)) (by simp)))))))).mono ?_
  rintro e w2 ⟨rfl, hb2⟩
  have hq2 := Lib.hid (hq1.out.below hb2)
  have B2 : Below w.heap.size w w2 := (by repeat (first | exact Below.refl _ _ | assumption | refine Below.drew ?_ | refine below_drewN ?_ _ | refine Below.alloc' ?_ _ | (refine Below.setCell ?_ (by first | omega | (simp; done) | (simp; omega) | exact Below.size (by assumption) | exact Nat.le_trans (Below.size (by assumption)) (by simp)) _) | (refine Below.via' ?_ (by assumption)) | (refine Below.alloc ?_ (by first | omega | (simp; done) | (simp; omega) | exact Below.size (by assumption) | exact Nat.le_trans (Below.size (by assumption)) (by simp)) _) | (refine Below.via ?_ (by assumption) (by first | omega | (simp; done) | (simp; omega) | exact Below.size (by assumption) | exact Nat.le_trans (Below.size (by assumption)) (by simp)))))
  have H2 := Lib.hid (hh.out.below B2)
  rw [hgk]
  clear ka kb kc hb1 hb2 hq hq1 hgi hgk
  obtain ⟨ka, kb, kc⟩ := hq2.out
  go_wp2_with fail
  go_region_law (first
    | (go_simp; go_at_call 21; (with_reducible show Calls _ _ #[_, .int .i64 (i : Int)] _ _); refine (gPath_any _ _ P i _ hgh.out hi (H2.out.below (by exact (by repeat (first | exact Below.refl _ _ | assumption | refine Below.drew ?_ | refine below_drewN ?_ _ | refine Below.alloc' ?_ _ | (refine Below.setCell ?_ (by first | omega | (simp; done) | (simp; omega) | exact Below.size (by assumption) | exact Nat.le_trans (Below.size (by assumption)) (by simp)) _) | (refine Below.via' ?_ (by assumption)) | (refine Below.alloc ?_ (by first | omega | (simp; done) | (simp; omega) | exact Below.size (by assumption) | exact Nat.le_trans (Below.size (by assumption)) (by simp)) _) | (refine Below.via ?_ (by assumption) (by first | omega | (simp; done) | (simp; omega) | exact Below.size (by assumption) | exact Nat.le_trans (Below.size (by assumption)) (by simp)))))))).mono ?_; rintro e w5 ⟨u5, rfl, ho5, hb5⟩; (obtain ⟨ka5, kb5, kc5⟩ := hq2.out.below (show Below w2.heap.size w2 w5 from (by repeat (first | exact Below.refl _ _ | assumption | refine Below.drew ?_ | refine below_drewN ?_ _ | refine Below.alloc' ?_ _ | (refine Below.setCell ?_ (by first | omega | (simp; done) | (simp; omega) | exact Below.size (by assumption) | exact Nat.le_trans (Below.size (by assumption)) (by simp)) _) | (refine Below.via' ?_ (by assumption)) | (refine Below.alloc ?_ (by first | omega | (simp; done) | (simp; omega) | exact Below.size (by assumption) | exact Nat.le_trans (Below.size (by assumption)) (by simp)) _) | (refine Below.via ?_ (by assumption) (by first | omega | (simp; done) | (simp; omega) | exact Below.size (by assumption) | exact Nat.le_trans (Below.size (by assumption)) (by simp))))))))
    | (go_simp; go_at_call 21; (with_reducible show Calls _ _ #[_, .int .i64 (k : Int)] _ _); refine (gPath_any _ _ P k _ hgh.out hk (H2.out.below (by exact (by repeat (first | exact Below.refl _ _ | assumption | refine Below.drew ?_ | refine below_drewN ?_ _ | refine Below.alloc' ?_ _ | (refine Below.setCell ?_ (by first | omega | (simp; done) | (simp; omega) | exact Below.size (by assumption) | exact Nat.le_trans (Below.size (by assumption)) (by simp)) _) | (refine Below.via' ?_ (by assumption)) | (refine Below.alloc ?_ (by first | omega | (simp; done) | (simp; omega) | exact Below.size (by assumption) | exact Nat.le_trans (Below.size (by assumption)) (by simp)) _) | (refine Below.via ?_ (by assumption) (by first | omega | (simp; done) | (simp; omega) | exact Below.size (by assumption) | exact Nat.le_trans (Below.size (by assumption)) (by simp)))))))).mono ?_; rintro e w6 ⟨u6, rfl, ho6, hb6⟩; (obtain ⟨ka6, kb6, kc6⟩ := hq2.out.below (show Below w2.heap.size w2 w6 from (by repeat (first | exact Below.refl _ _ | assumption | refine Below.drew ?_ | refine below_drewN ?_ _ | refine Below.alloc' ?_ _ | (refine Below.setCell ?_ (by first | omega | (simp; done) | (simp; omega) | exact Below.size (by assumption) | exact Nat.le_trans (Below.size (by assumption)) (by simp)) _) | (refine Below.via' ?_ (by assumption)) | (refine Below.alloc ?_ (by first | omega | (simp; done) | (simp; omega) | exact Below.size (by assumption) | exact Nat.le_trans (Below.size (by assumption)) (by simp)) _) | (refine Below.via ?_ (by assumption) (by first | omega | (simp; done) | (simp; omega) | exact Below.size (by assumption) | exact Nat.le_trans (Below.size (by assumption)) (by simp)))))))))
  all_goals
    obtain ⟨x5, c5, rfl, -, -⟩ := OwR.form (OwR.of ho5)
    obtain ⟨x6, c6, rfl, -, -⟩ := OwR.form (OwR.of ho6)
    have A5 := Lib.hid ((Rd.of_own ho5).below hb6)
    have A6 := Lib.hid (Rd.of_own ho6)
    have B6 : Below w.heap.size w w6 := (by repeat (first | exact Below.refl _ _ | assumption | refine Below.drew ?_ | refine below_drewN ?_ _ | refine Below.alloc' ?_ _ | (refine Below.setCell ?_ (by first | omega | (simp; done) | (simp; omega) | exact Below.size (by assumption) | exact Nat.le_trans (Below.size (by assumption)) (by simp)) _) | (refine Below.via' ?_ (by assumption)) | (refine Below.alloc ?_ (by first | omega | (simp; done) | (simp; omega) | exact Below.size (by assumption) | exact Nat.le_trans (Below.size (by assumption)) (by simp)) _) | (refine Below.via ?_ (by assumption) (by first | omega | (simp; done) | (simp; omega) | exact Below.size (by assumption) | exact Nat.le_trans (Below.size (by assumption)) (by simp)))))
    clear ho5 ho6 hb5 hb6 ka5 kb5 kc5 ka6 kb6 kc6 ka kb kc
    go_wp2
    go_loopw [10, 11] (fun a q wr => ∃ (n : Nat) (z : Int), a = .int .i64 z ∧ q = .int .i64 n ∧ n ≤ (ptL P i).length ∧ n ≤ (ptL P k).length ∧ Hid (Cmn (ptL P i) (ptL P k) n z) ∧ Below (w6).heap.size (w6) wr) (fun _ q _ => (ptL P i).length - (intOf q).toNat)
    case atStart => exact ⟨0, 0, by go_num, by go_num, by omega, by omega, cmn_zero _ _, (by repeat (first | exact Below.refl _ _ | assumption | refine Below.drew ?_ | refine below_drewN ?_ _ | refine Below.alloc' ?_ _ | (refine Below.setCell ?_ (by first | omega | (simp; done) | (simp; omega) | exact Below.size (by assumption) | exact Nat.le_trans (Below.size (by assumption)) (by simp)) _) | (refine Below.via' ?_ (by assumption)) | (refine Below.alloc ?_ (by first | omega | (simp; done) | (simp; omega) | exact Below.size (by assumption) | exact Nat.le_trans (Below.size (by assumption)) (by simp)) _) | (refine Below.via ?_ (by assumption) (by first | omega | (simp; done) | (simp; omega) | exact Below.size (by assumption) | exact Nat.le_trans (Below.size (by assumption)) (by simp)))))⟩
    case round =>
      obtain ⟨n, z, rfl, rfl, hn1, hn2, hcm, hb⟩ := hrel
      have hn0 : (0 : Int) ≤ (n : Int) := by omega
      by_cases h1 : n < (ptL P i).length
      · have h1' : (n : Int) < ((ptL P i).length : Int) := by omega
        by_cases h2 : n < (ptL P k).length
        · have h2' : (n : Int) < ((ptL P k).length : Int) := by omega
          obtain ⟨b1, o1, v1, rfl, hbl1, hA1, hc1⟩ := (A5.out.below hb).int h1
          obtain ⟨b2, o2, v2, rfl, hbl2, hA2, hc2⟩ := (A6.out.below hb).int h2
          by_cases he : v1 = v2
          · subst he
            have hcm2 := Lib.hid (cmn_step hcm.out hA1 hA2)
            replace hA1 := Lib.hid hA1
            replace hA2 := Lib.hid hA2
            clear hcm
            go_wp2
            go_quiet (fail)
            go_wp2
            go_roundw
            case rel => exact ⟨n + 1, v1, rfl, by go_num, by omega, by omega, hcm2, (by repeat (first | exact Below.refl _ _ | assumption | refine Below.drew ?_ | refine below_drewN ?_ _ | refine Below.alloc' ?_ _ | (refine Below.setCell ?_ (by first | omega | (simp; done) | (simp; omega) | exact Below.size (by assumption) | exact Nat.le_trans (Below.size (by assumption)) (by simp)) _) | (refine Below.via' ?_ (by assumption)) | (refine Below.alloc ?_ (by first | omega | (simp; done) | (simp; omega) | exact Below.size (by assumption) | exact Nat.le_trans (Below.size (by assumption)) (by simp)) _) | (refine Below.via ?_ (by assumption) (by first | omega | (simp; done) | (simp; omega) | exact Below.size (by assumption) | exact Nat.le_trans (Below.size (by assumption)) (by simp)))))⟩
            case measure => simp [intOf]; omega
          · have hne : (v1 == v2) = false := by rw [beq_eq_false_iff_ne]; exact he
            have hz : Hid (z = mtR P (i : Int) (k : Int)) := by
              unfold Hid
              rw [hv.out.2]
              exact cmn_end hcm.out (Or.inr (Or.inr ⟨v1, v2, hA1, hA2, he⟩))
            replace hA1 := Lib.hid hA1
            replace hA2 := Lib.hid hA2
            replace he := Lib.hid he
            clear hcm
            go_wp2
            go_quiet (fail)
            go_wp2
            go_ret2
            exact ⟨ret_ibM hz.out hv.out.1.symm, (by repeat (first | exact Below.refl _ _ | assumption | refine Below.drew ?_ | refine below_drewN ?_ _ | refine Below.alloc' ?_ _ | (refine Below.setCell ?_ (by first | omega | (simp; done) | (simp; omega) | exact Below.size (by assumption) | exact Nat.le_trans (Below.size (by assumption)) (by simp)) _) | (refine Below.via' ?_ (by assumption)) | (refine Below.alloc ?_ (by first | omega | (simp; done) | (simp; omega) | exact Below.size (by assumption) | exact Nat.le_trans (Below.size (by assumption)) (by simp)) _) | (refine Below.via ?_ (by assumption) (by first | omega | (simp; done) | (simp; omega) | exact Below.size (by assumption) | exact Nat.le_trans (Below.size (by assumption)) (by simp)))))⟩
        · have h2' : ¬ (n : Int) < ((ptL P k).length : Int) := by omega
          have hz : Hid (z = mtR P (i : Int) (k : Int)) := by
            unfold Hid
            rw [hv.out.2]
            exact cmn_end hcm.out (Or.inr (Or.inl (by omega)))
          clear hcm
          go_wp2
          go_quiet (fail)
          go_wp2
          go_ret2
          exact ⟨ret_ibM hz.out hv.out.1.symm, (by repeat (first | exact Below.refl _ _ | assumption | refine Below.drew ?_ | refine below_drewN ?_ _ | refine Below.alloc' ?_ _ | (refine Below.setCell ?_ (by first | omega | (simp; done) | (simp; omega) | exact Below.size (by assumption) | exact Nat.le_trans (Below.size (by assumption)) (by simp)) _) | (refine Below.via' ?_ (by assumption)) | (refine Below.alloc ?_ (by first | omega | (simp; done) | (simp; omega) | exact Below.size (by assumption) | exact Nat.le_trans (Below.size (by assumption)) (by simp)) _) | (refine Below.via ?_ (by assumption) (by first | omega | (simp; done) | (simp; omega) | exact Below.size (by assumption) | exact Nat.le_trans (Below.size (by assumption)) (by simp)))))⟩
      · have h1' : ¬ (n : Int) < ((ptL P i).length : Int) := by omega
        have hz : Hid (z = mtR P (i : Int) (k : Int)) := by
          unfold Hid
          rw [hv.out.2]
          exact cmn_end hcm.out (Or.inl (by omega))
        clear hcm
        go_wp2
        go_quiet (fail)
        go_wp2
        go_ret2
        exact ⟨ret_ibM hz.out hv.out.1.symm, (by repeat (first | exact Below.refl _ _ | assumption | refine Below.drew ?_ | refine below_drewN ?_ _ | refine Below.alloc' ?_ _ | (refine Below.setCell ?_ (by first | omega | (simp; done) | (simp; omega) | exact Below.size (by assumption) | exact Nat.le_trans (Below.size (by assumption)) (by simp)) _) | (refine Below.via' ?_ (by assumption)) | (refine Below.alloc ?_ (by first | omega | (simp; done) | (simp; omega) | exact Below.size (by assumption) | exact Nat.le_trans (Below.size (by assumption)) (by simp)) _) | (refine Below.via ?_ (by assumption) (by first | omega | (simp; done) | (simp; omega) | exact Below.size (by assumption) | exact Nat.le_trans (Below.size (by assumption)) (by simp)))))⟩
end Go.Proofs.Ytmefkknkahmihaa
