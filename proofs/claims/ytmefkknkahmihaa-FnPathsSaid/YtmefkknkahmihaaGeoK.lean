/-
  The walks of chapter 4: the exported functions AncestorAt; the program's and the model's.
-/
import Derived.Test.YtmefkknkahmihaaGeoH
namespace Go.Proofs.Ytmefkknkahmihaa
open Go.RowKit
set_option maxRecDepth 100000

set_option maxHeartbeats 2000000 in
theorem iAA_x (x : Option Addr) (c : Nat) (P : List Int) (i l : Int) (w : World) (h : IIn w x P) :
    Calls Try.prog 9 #[.agg #[.slice x P.length c], .int .i64 i, .int .i64 l] w fun e w' => e = .returned (.tuple #[.int .i64 (aaZ P i l), .bool (aaB P i l)]) ∧ Below w.heap.size w w' := by
  have hm := h.1
  have hh := Lib.hid h
  have hq := Lib.hid (QB.new w x P.length c 26)
  clear h
  cases hg : geB P
  · have hv := Lib.hid (aa_no1 (l := l) (ga_no1 (i := i) hg))
    go_enter Try.func9, Try.ntmps9
    go_wp2_with fail
    refine (iGeo_any _ _ _ _ (hh.out.below (by exact (by repeat (first | exact Below.refl _ _ | assumption | refine Below.drew ?_ | refine below_drewN ?_ _ | refine Below.alloc' ?_ _ | (refine Below.setCell ?_ (by first | omega | (simp; done) | (simp; omega) | exact Below.size (by assumption) | exact Nat.le_trans (Below.size (by assumption)) (by simp)) _) | (refine Below.via' ?_ (by assumption)) | (refine Below.alloc ?_ (by first | omega | (simp; done) | (simp; omega) | exact Below.size (by assumption) | exact Nat.le_trans (Below.size (by assumption)) (by simp)) _) | (refine Below.via ?_ (by assumption) (by first | omega | (simp; done) | (simp; omega) | exact Below.size (by assumption) | exact Nat.le_trans (Below.size (by assumption)) (by simp)))))))).mono ?_
    rintro e w1 ⟨rfl, hb1⟩
    obtain ⟨ka, kb, kc⟩ := hq.out.below hb1
    rw [hg]
    go_wp2
    go_ret2
    exact ⟨ret_ibG hv.out.2.symm hv.out.1.symm, (by repeat (first | exact Below.refl _ _ | assumption | refine Below.drew ?_ | refine below_drewN ?_ _ | refine Below.alloc' ?_ _ | (refine Below.setCell ?_ (by first | omega | (simp; done) | (simp; omega) | exact Below.size (by assumption) | exact Nat.le_trans (Below.size (by assumption)) (by simp)) _) | (refine Below.via' ?_ (by assumption)) | (refine Below.alloc ?_ (by first | omega | (simp; done) | (simp; omega) | exact Below.size (by assumption) | exact Nat.le_trans (Below.size (by assumption)) (by simp)) _) | (refine Below.via ?_ (by assumption) (by first | omega | (simp; done) | (simp; omega) | exact Below.size (by assumption) | exact Nat.le_trans (Below.size (by assumption)) (by simp)))))⟩
  cases ha : inB i 0 ((P.length : Int) - 1)
  · have hv := Lib.hid (aa_no1 (l := l) (ga_no2 (i := i) ha))
    go_enter Try.func9, Try.ntmps9
    go_wp2_with fail
    refine (iGeo_any _ _ _ _ (hh.out.below (by exact (by repeat (first | exact Below.refl _ _ | assumption | refine Below.drew ?_ | refine below_drewN ?_ _ | refine Below.alloc' ?_ _ | (refine Below.setCell ?_ (by first | omega | (simp; done) | (simp; omega) | exact Below.size (by assumption) | exact Nat.le_trans (Below.size (by assumption)) (by simp)) _) | (refine Below.via' ?_ (by assumption)) | (refine Below.alloc ?_ (by first | omega | (simp; done) | (simp; omega) | exact Below.size (by assumption) | exact Nat.le_trans (Below.size (by assumption)) (by simp)) _) | (refine Below.via ?_ (by assumption) (by first | omega | (simp; done) | (simp; omega) | exact Below.size (by assumption) | exact Nat.le_trans (Below.size (by assumption)) (by simp)))))))).mono ?_
    rintro e w1 ⟨rfl, hb1⟩
    obtain ⟨ka1, kb1, kc1⟩ := hq.out.below hb1
    rw [hg]
    go_wp2_with fail
    refine (isArea_any _ _ _ _ _).mono ?_
    rintro e w2 ⟨rfl, hb2⟩
    obtain ⟨ka, kb, kc⟩ := (hq.out.below hb1).below hb2
    clear ka1 kb1 kc1
    rw [ha]
    go_wp2
    go_ret2
    exact ⟨ret_ibG hv.out.2.symm hv.out.1.symm, (by repeat (first | exact Below.refl _ _ | assumption | refine Below.drew ?_ | refine below_drewN ?_ _ | refine Below.alloc' ?_ _ | (refine Below.setCell ?_ (by first | omega | (simp; done) | (simp; omega) | exact Below.size (by assumption) | exact Nat.le_trans (Below.size (by assumption)) (by simp)) _) | (refine Below.via' ?_ (by assumption)) | (refine Below.alloc ?_ (by first | omega | (simp; done) | (simp; omega) | exact Below.size (by assumption) | exact Nat.le_trans (Below.size (by assumption)) (by simp)) _) | (refine Below.via ?_ (by assumption) (by first | omega | (simp; done) | (simp; omega) | exact Below.size (by assumption) | exact Nat.le_trans (Below.size (by assumption)) (by simp)))))⟩
  have hga := ga_yes hg ha
  obtain ⟨-, k, rfl, hk⟩ := ga_get hga
  have hgh := Lib.hid hg
  have hpl := pt_len P k
  have hpd := dp_le hg hk
  have hlen := ge_len hg
  by_cases hl : 0 ≤ l ∧ l ≤ dpN P k
  · have hv := Lib.hid (aa_yes hga hl.1 hl.2)
    obtain ⟨n, rfl⟩ := Int.eq_ofNat_of_zero_le hl.1
    have hnl : n < (ptL P k).length := by omega
    have hat : (ptL P k)[n]? = some ((ptL P k)[n]) := List.getElem?_eq_getElem hnl
    have han := an_at hat
    obtain ⟨z, hz⟩ : ∃ z, z = (ptL P k)[n] := ⟨_, rfl⟩
    rw [← hz] at hat han
    replace hz := Lib.hid hz
    have hat := Lib.hid hat
    have han := Lib.hid han
    have h0' : (0 : Int) ≤ (n : Int) := hl.1
    have h1' : (n : Int) < ((ptL P k).length : Int) := by omega
    have hga := Lib.hid hga
    clear hl hpl
    go_enter Try.func9, Try.ntmps9
    go_wp2_with fail
    refine (iGeo_any _ _ _ _ (hh.out.below (by exact (by repeat (first | exact Below.refl _ _ | assumption | refine Below.drew ?_ | refine below_drewN ?_ _ | refine Below.alloc' ?_ _ | (refine Below.setCell ?_ (by first | omega | (simp; done) | (simp; omega) | exact Below.size (by assumption) | exact Nat.le_trans (Below.size (by assumption)) (by simp)) _) | (refine Below.via' ?_ (by assumption)) | (refine Below.alloc ?_ (by first | omega | (simp; done) | (simp; omega) | exact Below.size (by assumption) | exact Nat.le_trans (Below.size (by assumption)) (by simp)) _) | (refine Below.via ?_ (by assumption) (by first | omega | (simp; done) | (simp; omega) | exact Below.size (by assumption) | exact Nat.le_trans (Below.size (by assumption)) (by simp)))))))).mono ?_
    rintro e w1 ⟨rfl, hb1⟩
    obtain ⟨ka1, kb1, kc1⟩ := hq.out.below hb1
    rw [hg]
    go_wp2_with fail
    refine (isArea_any _ _ _ _ _).mono ?_
    rintro e w2 ⟨rfl, hb2⟩
    obtain ⟨ka, kb, kc⟩ := (hq.out.below hb1).below hb2
    clear ka1 kb1 kc1
    rw [ha]
    go_wp2_with fail
    refine (pathTo_any _ _ P k _ hgh.out hk (hh.out.below (by exact (by repeat (first | exact Below.refl _ _ | assumption | refine Below.drew ?_ | refine below_drewN ?_ _ | refine Below.alloc' ?_ _ | (refine Below.setCell ?_ (by first | omega | (simp; done) | (simp; omega) | exact Below.size (by assumption) | exact Nat.le_trans (Below.size (by assumption)) (by simp)) _) | (refine Below.via' ?_ (by assumption)) | (refine Below.alloc ?_ (by first | omega | (simp; done) | (simp; omega) | exact Below.size (by assumption) | exact Nat.le_trans (Below.size (by assumption)) (by simp)) _) | (refine Below.via ?_ (by assumption) (by first | omega | (simp; done) | (simp; omega) | exact Below.size (by assumption) | exact Nat.le_trans (Below.size (by assumption)) (by simp)))))))).mono ?_
    rintro e w5 ⟨v5, rfl, ho5, hb5⟩
    obtain ⟨g5, c5, rfl⟩ := own_someV ho5 (by omega)
    obtain ⟨u, hu, k0⟩ := own_cell ho5 (j := n) (by omega)
    obtain rfl : u = .int .i64 z := Option.some.inj (hu.symm.trans (iC_at hat.out))
    have hu := Lib.hid hu
    clear ho5
    go_wp2
    go_ret2
    exact ⟨ret_ibG (by rw [hv.out.2, han.out]) hv.out.1.symm, (by repeat (first | exact Below.refl _ _ | assumption | refine Below.drew ?_ | refine below_drewN ?_ _ | refine Below.alloc' ?_ _ | (refine Below.setCell ?_ (by first | omega | (simp; done) | (simp; omega) | exact Below.size (by assumption) | exact Nat.le_trans (Below.size (by assumption)) (by simp)) _) | (refine Below.via' ?_ (by assumption)) | (refine Below.alloc ?_ (by first | omega | (simp; done) | (simp; omega) | exact Below.size (by assumption) | exact Nat.le_trans (Below.size (by assumption)) (by simp)) _) | (refine Below.via ?_ (by assumption) (by first | omega | (simp; done) | (simp; omega) | exact Below.size (by assumption) | exact Nat.le_trans (Below.size (by assumption)) (by simp)))))⟩
  have hv := Lib.hid (aa_no2 hl)
  have hga := Lib.hid hga
  have hlm : ((ptL P k).length : Int) = (dpN P k : Int) + 1 := by omega
  by_cases hn : l < 0
  · clear hl hpl hlm
    go_enter Try.func9, Try.ntmps9
    go_wp2_with fail
    refine (iGeo_any _ _ _ _ (hh.out.below (by exact (by repeat (first | exact Below.refl _ _ | assumption | refine Below.drew ?_ | refine below_drewN ?_ _ | refine Below.alloc' ?_ _ | (refine Below.setCell ?_ (by first | omega | (simp; done) | (simp; omega) | exact Below.size (by assumption) | exact Nat.le_trans (Below.size (by assumption)) (by simp)) _) | (refine Below.via' ?_ (by assumption)) | (refine Below.alloc ?_ (by first | omega | (simp; done) | (simp; omega) | exact Below.size (by assumption) | exact Nat.le_trans (Below.size (by assumption)) (by simp)) _) | (refine Below.via ?_ (by assumption) (by first | omega | (simp; done) | (simp; omega) | exact Below.size (by assumption) | exact Nat.le_trans (Below.size (by assumption)) (by simp)))))))).mono ?_
    rintro e w1 ⟨rfl, hb1⟩
    obtain ⟨ka1, kb1, kc1⟩ := hq.out.below hb1
    rw [hg]
    go_wp2_with fail
    refine (isArea_any _ _ _ _ _).mono ?_
    rintro e w2 ⟨rfl, hb2⟩
    obtain ⟨ka, kb, kc⟩ := (hq.out.below hb1).below hb2
    clear ka1 kb1 kc1
    rw [ha]
    go_wp2_with fail
    refine (pathTo_any _ _ P k _ hgh.out hk (hh.out.below (by exact (by repeat (first | exact Below.refl _ _ | assumption | refine Below.drew ?_ | refine below_drewN ?_ _ | refine Below.alloc' ?_ _ | (refine Below.setCell ?_ (by first | omega | (simp; done) | (simp; omega) | exact Below.size (by assumption) | exact Nat.le_trans (Below.size (by assumption)) (by simp)) _) | (refine Below.via' ?_ (by assumption)) | (refine Below.alloc ?_ (by first | omega | (simp; done) | (simp; omega) | exact Below.size (by assumption) | exact Nat.le_trans (Below.size (by assumption)) (by simp)) _) | (refine Below.via ?_ (by assumption) (by first | omega | (simp; done) | (simp; omega) | exact Below.size (by assumption) | exact Nat.le_trans (Below.size (by assumption)) (by simp)))))))).mono ?_
    rintro e w5 ⟨v5, rfl, ho5, hb5⟩
    clear ho5
    go_wp2
    go_ret2
    exact ⟨ret_ibG hv.out.2.symm hv.out.1.symm, (by repeat (first | exact Below.refl _ _ | assumption | refine Below.drew ?_ | refine below_drewN ?_ _ | refine Below.alloc' ?_ _ | (refine Below.setCell ?_ (by first | omega | (simp; done) | (simp; omega) | exact Below.size (by assumption) | exact Nat.le_trans (Below.size (by assumption)) (by simp)) _) | (refine Below.via' ?_ (by assumption)) | (refine Below.alloc ?_ (by first | omega | (simp; done) | (simp; omega) | exact Below.size (by assumption) | exact Nat.le_trans (Below.size (by assumption)) (by simp)) _) | (refine Below.via ?_ (by assumption) (by first | omega | (simp; done) | (simp; omega) | exact Below.size (by assumption) | exact Nat.le_trans (Below.size (by assumption)) (by simp)))))⟩
  · have hge : ((ptL P k).length : Int) ≤ l := by omega
    have hpn : 0 < (ptL P k).length := by omega
    clear hl hpl hlm
    go_enter Try.func9, Try.ntmps9
    go_wp2_with fail
    refine (iGeo_any _ _ _ _ (hh.out.below (by exact (by repeat (first | exact Below.refl _ _ | assumption | refine Below.drew ?_ | refine below_drewN ?_ _ | refine Below.alloc' ?_ _ | (refine Below.setCell ?_ (by first | omega | (simp; done) | (simp; omega) | exact Below.size (by assumption) | exact Nat.le_trans (Below.size (by assumption)) (by simp)) _) | (refine Below.via' ?_ (by assumption)) | (refine Below.alloc ?_ (by first | omega | (simp; done) | (simp; omega) | exact Below.size (by assumption) | exact Nat.le_trans (Below.size (by assumption)) (by simp)) _) | (refine Below.via ?_ (by assumption) (by first | omega | (simp; done) | (simp; omega) | exact Below.size (by assumption) | exact Nat.le_trans (Below.size (by assumption)) (by simp)))))))).mono ?_
    rintro e w1 ⟨rfl, hb1⟩
    obtain ⟨ka1, kb1, kc1⟩ := hq.out.below hb1
    rw [hg]
    go_wp2_with fail
    refine (isArea_any _ _ _ _ _).mono ?_
    rintro e w2 ⟨rfl, hb2⟩
    obtain ⟨ka, kb, kc⟩ := (hq.out.below hb1).below hb2
    clear ka1 kb1 kc1
    rw [ha]
    go_wp2_with fail
    refine (pathTo_any _ _ P k _ hgh.out hk (hh.out.below (by exact (by repeat (first | exact Below.refl _ _ | assumption | refine Below.drew ?_ | refine below_drewN ?_ _ | refine Below.alloc' ?_ _ | (refine Below.setCell ?_ (by first | omega | (simp; done) | (simp; omega) | exact Below.size (by assumption) | exact Nat.le_trans (Below.size (by assumption)) (by simp)) _) | (refine Below.via' ?_ (by assumption)) | (refine Below.alloc ?_ (by first | omega | (simp; done) | (simp; omega) | exact Below.size (by assumption) | exact Nat.le_trans (Below.size (by assumption)) (by simp)) _) | (refine Below.via ?_ (by assumption) (by first | omega | (simp; done) | (simp; omega) | exact Below.size (by assumption) | exact Nat.le_trans (Below.size (by assumption)) (by simp)))))))).mono ?_
    rintro e w5 ⟨v5, rfl, ho5, hb5⟩
    obtain ⟨g5, c5, rfl⟩ := own_someV ho5 hpn
    clear ho5
    go_wp2
    go_ret2
    exact ⟨ret_ibG hv.out.2.symm hv.out.1.symm, (by repeat (first | exact Below.refl _ _ | assumption | refine Below.drew ?_ | refine below_drewN ?_ _ | refine Below.alloc' ?_ _ | (refine Below.setCell ?_ (by first | omega | (simp; done) | (simp; omega) | exact Below.size (by assumption) | exact Nat.le_trans (Below.size (by assumption)) (by simp)) _) | (refine Below.via' ?_ (by assumption)) | (refine Below.alloc ?_ (by first | omega | (simp; done) | (simp; omega) | exact Below.size (by assumption) | exact Nat.le_trans (Below.size (by assumption)) (by simp)) _) | (refine Below.via ?_ (by assumption) (by first | omega | (simp; done) | (simp; omega) | exact Below.size (by assumption) | exact Nat.le_trans (Below.size (by assumption)) (by simp)))))⟩
end Go.Proofs.Ytmefkknkahmihaa
