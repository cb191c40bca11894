/- The walk of the law of DifferenceOf: for every struct of two slices of integers, every struct of two slices of integers, the program's DifferenceOf answers as the model's, its answer owns its memory, nothing that was there is written, and the arguments read as before. No condition. -/
import Derived.Test.YtnmpigedhpdenaaCdS
namespace Go.Proofs.Ytnmpigedhpdenaa
open Go.ChangeShapes Go.WideShapes Go.ChangeAt Go.RowKit
set_option maxRecDepth 100000

set_option maxHeartbeats 100000000 in
theorem fnExactDifferenceOf_any (xU zU : Option Addr) (cU dU : Nat) (UF UW : List Int) (xY zY : Option Addr) (cY dY : Nat) (YF YW : List Int) (w : World) (hlUF : UF.length ≤ 9223372036854775807) (hnUF : Hid (∀ n ∈ UF, IsI64 n)) (hUF : Hid (Rd w xU (iC UF))) (hlUW : UW.length ≤ 9223372036854775807) (hnUW : Hid (∀ n ∈ UW, IsI64 n)) (hUW : Hid (Rd w zU (iC UW))) (hlYF : YF.length ≤ 9223372036854775807) (hnYF : Hid (∀ n ∈ YF, IsI64 n)) (hYF : Hid (Rd w xY (iC YF))) (hlYW : YW.length ≤ 9223372036854775807) (hnYW : Hid (∀ n ∈ YW, IsI64 n)) (hYW : Hid (Rd w zY (iC YW))) :
    Calls Try.prog 11 #[.agg #[.slice xU UF.length cU, .slice zU UW.length dU], .agg #[.slice xY YF.length cY, .slice zY YW.length dY]] w fun e w' => e = .returned (.bool true) ∧ Below w.heap.size w w' := by
  go_enter Try.func11, Try.ntmps11
  go_wp2_with fail
  refine (szCube_x _ _ _ _ _ _ _ _ (by omega) (by omega) hlUF hlUW).mono ?_
  rintro e w1 ⟨r1, rfl, hra1, hrb1, hrc1, hb1⟩
  by_cases hr1 : r1 < 0
  · clear hrc1
    go_wp2
    go_ret
    exact ⟨rfl, (by repeat (first | exact Below.refl _ _ | assumption | refine Below.drew ?_ | refine below_drewN ?_ _ | refine Below.alloc' ?_ _ | (refine Below.setCell ?_ (by first | omega | (simp; done) | (simp; omega) | exact Below.size (by assumption) | exact Nat.le_trans (Below.size (by assumption)) (by simp)) _) | (refine Below.via' ?_ (by assumption)) | (refine Below.alloc ?_ (by first | omega | (simp; done) | (simp; omega) | exact Below.size (by assumption) | exact Nat.le_trans (Below.size (by assumption)) (by simp)) _) | (refine Below.via ?_ (by assumption) (by first | omega | (simp; done) | (simp; omega) | exact Below.size (by assumption) | exact Nat.le_trans (Below.size (by assumption)) (by simp)))))⟩
  have hrd1 := hrc1 (by omega)
  have hmUF : UF.length ≤ 1048576 := by omega
  have hmUW : UW.length ≤ 1048576 := by omega
  clear hrc1
  have hkU_1 := Lib.hid (((CQ.new w xU UF.length cU zU UW.length dU 24).below (show Below (w.alloc (.cells #[.slice xU UF.length cU, .slice zU UW.length dU] 24)).heap.size (w.alloc (.cells #[.slice xU UF.length cU, .slice zU UW.length dU] 24)) ((w.alloc (.cells #[.slice xU UF.length cU, .slice zU UW.length dU] 24)).alloc (.cells #[.slice xY YF.length cY, .slice zY YW.length dY] 24)) from (by repeat (first | exact Below.refl _ _ | assumption | refine Below.drew ?_ | refine below_drewN ?_ _ | refine Below.alloc' ?_ _ | (refine Below.setCell ?_ (by first | omega | (simp; done) | (simp; omega) | exact Below.size (by assumption) | exact Nat.le_trans (Below.size (by assumption)) (by simp)) _) | (refine Below.via' ?_ (by assumption)) | (refine Below.alloc ?_ (by first | omega | (simp; done) | (simp; omega) | exact Below.size (by assumption) | exact Nat.le_trans (Below.size (by assumption)) (by simp)) _) | (refine Below.via ?_ (by assumption) (by first | omega | (simp; done) | (simp; omega) | exact Below.size (by assumption) | exact Nat.le_trans (Below.size (by assumption)) (by simp))))))).below hb1)
  obtain ⟨hkUa1, hkUb1, hkUc1⟩ := hkU_1.out
  have hkY_1 : Hid (CQ w1 (w.heap.size + 1) xY YF.length cY zY YW.length dY) := by have h0 := (CQ.new (w.alloc (.cells #[.slice xU UF.length cU, .slice zU UW.length dU] 24)) xY YF.length cY zY YW.length dY 24).below hb1; simpa [Hid] using h0
  obtain ⟨hkYa1, hkYb1, hkYc1⟩ := hkY_1.out
  have ccE : w.heap.size + 2 ≤ w1.heap.size := by have h0 := hb1.size; (try simp at h0); omega
  go_wp2_with fail
  refine (szCube_x _ _ _ _ _ _ _ _ (by omega) (by omega) hlYF hlYW).mono ?_
  rintro e w2 ⟨r2, rfl, hra2, hrb2, hrc2, hb2⟩
  by_cases hr2 : r2 < 0
  · clear hrc2
    go_wp2
    go_ret
    exact ⟨rfl, (by repeat (first | exact Below.refl _ _ | assumption | refine Below.drew ?_ | refine below_drewN ?_ _ | refine Below.alloc' ?_ _ | (refine Below.setCell ?_ (by first | omega | (simp; done) | (simp; omega) | exact Below.size (by assumption) | exact Nat.le_trans (Below.size (by assumption)) (by simp)) _) | (refine Below.via' ?_ (by assumption)) | (refine Below.alloc ?_ (by first | omega | (simp; done) | (simp; omega) | exact Below.size (by assumption) | exact Nat.le_trans (Below.size (by assumption)) (by simp)) _) | (refine Below.via ?_ (by assumption) (by first | omega | (simp; done) | (simp; omega) | exact Below.size (by assumption) | exact Nat.le_trans (Below.size (by assumption)) (by simp)))))⟩
  have hrd2 := hrc2 (by omega)
  have hmYF : YF.length ≤ 1048576 := by omega
  have hmYW : YW.length ≤ 1048576 := by omega
  clear hrc2
  have hkU_2 := Lib.hid (hkU_1.out.below (show Below w1.heap.size w1 w2 from (by repeat (first | exact Below.refl _ _ | assumption | refine Below.drew ?_ | refine below_drewN ?_ _ | refine Below.alloc' ?_ _ | (refine Below.setCell ?_ (by first | omega | (simp; done) | (simp; omega) | exact Below.size (by assumption) | exact Nat.le_trans (Below.size (by assumption)) (by simp)) _) | (refine Below.via' ?_ (by assumption)) | (refine Below.alloc ?_ (by first | omega | (simp; done) | (simp; omega) | exact Below.size (by assumption) | exact Nat.le_trans (Below.size (by assumption)) (by simp)) _) | (refine Below.via ?_ (by assumption) (by first | omega | (simp; done) | (simp; omega) | exact Below.size (by assumption) | exact Nat.le_trans (Below.size (by assumption)) (by simp)))))))
  obtain ⟨hkUa2, hkUb2, hkUc2⟩ := hkU_2.out
  try clear hkUa1 hkUb1 hkUc1
  have hkY_2 := Lib.hid (hkY_1.out.below (show Below w1.heap.size w1 w2 from (by repeat (first | exact Below.refl _ _ | assumption | refine Below.drew ?_ | refine below_drewN ?_ _ | refine Below.alloc' ?_ _ | (refine Below.setCell ?_ (by first | omega | (simp; done) | (simp; omega) | exact Below.size (by assumption) | exact Nat.le_trans (Below.size (by assumption)) (by simp)) _) | (refine Below.via' ?_ (by assumption)) | (refine Below.alloc ?_ (by first | omega | (simp; done) | (simp; omega) | exact Below.size (by assumption) | exact Nat.le_trans (Below.size (by assumption)) (by simp)) _) | (refine Below.via ?_ (by assumption) (by first | omega | (simp; done) | (simp; omega) | exact Below.size (by assumption) | exact Nat.le_trans (Below.size (by assumption)) (by simp)))))))
  obtain ⟨hkYa2, hkYb2, hkYc2⟩ := hkY_2.out
  try clear hkYa1 hkYb1 hkYc1
  have cz2 : w1.heap.size ≤ w2.heap.size := hb2.size
  obtain ⟨RR, hRR⟩ : ∃ RR, RR = dqR UF UW YF YW := ⟨_, rfl⟩
  have hRF : RR.1.length ≤ 1048576 := by rw [hRR]; exact dqR_l1 (by omega)
  have hRW : RR.2.length ≤ 1048576 := by rw [hRR]; exact dqR_l2 (by omega)
  replace hRR := Lib.hid hRR
  go_upto_region 8 with fail
  go_cut [6, 7] (fun s6 s7 wx => CuAt s6 RR w2.heap.size wx ∧ s7 = .bool (dqB UF UW YF YW) ∧ Below w2.heap.size w2 wx)
  case first =>
    have hB0 : Below w.heap.size w w2 := (by repeat (first | exact Below.refl _ _ | assumption | refine Below.drew ?_ | refine below_drewN ?_ _ | refine Below.alloc' ?_ _ | (refine Below.setCell ?_ (by first | omega | (simp; done) | (simp; omega) | exact Below.size (by assumption) | exact Nat.le_trans (Below.size (by assumption)) (by simp)) _) | (refine Below.via' ?_ (by assumption)) | (refine Below.alloc ?_ (by first | omega | (simp; done) | (simp; omega) | exact Below.size (by assumption) | exact Nat.le_trans (Below.size (by assumption)) (by simp)) _) | (refine Below.via ?_ (by assumption) (by first | omega | (simp; done) | (simp; omega) | exact Below.size (by assumption) | exact Nat.le_trans (Below.size (by assumption)) (by simp)))))
    refine wp_region_held_drew (S := fun X => Below w2.heap.size w2 X) (by kernel_rfl) (Below.drew (Below.refl _ _)) (fun hH => ?_)
    refine wpAnyH_take (i := 0) (v := ?_) rfl (by kernel_rfl) (by kernel_rfl) (by kernel_rfl) (fun _ _ _ h => h) (Or.inl ⟨by rfl, ?_⟩) (by assumption) ?_; rotate_left; · (intro wz hz; (have f0 := (hz.cell (p := ⟨w.heap.size, 0, none⟩) hkUc2).trans hkUa2; have f1 := (hz.cell (p := ⟨w.heap.size, 1, none⟩) hkUc2).trans hkUb2); clear hz; go_simp; try with_reducible rfl); (try simp only [Act.put, List.getElem_toArray, List.getElem_cons_succ, List.getElem_cons_zero, List.setIfInBounds_toArray, List.set_cons_zero, List.set_cons_succ])
    refine wpAnyH_take (i := 2) (v := ?_) rfl (by kernel_rfl) (by kernel_rfl) (by kernel_rfl) (fun _ _ _ h => h) (Or.inl ⟨by rfl, ?_⟩) (by assumption) ?_; rotate_left; · (intro wz hz; (have f0 := (hz.cell (p := ⟨w.heap.size + 1, 0, none⟩) hkYc2).trans hkYa2; have f1 := (hz.cell (p := ⟨w.heap.size + 1, 1, none⟩) hkYc2).trans hkYb2); clear hz; go_simp; try with_reducible rfl); (try simp only [Act.put, List.getElem_toArray, List.getElem_cons_succ, List.getElem_cons_zero, List.setIfInBounds_toArray, List.set_cons_zero, List.set_cons_succ])
    replace hH := Lib.hid hH
    refine wpAnyH_ready (rs := [1, 8]) (by kernel_rfl) (by simp) (AllReadyH.cons rfl (fun K hK => ?_) (AllReadyH.cons rfl (fun K hK => ?_) AllReadyH.nil))
    go_simp
    refine (toCube_any xU zU cU dU UF UW _ hmUF hmUW (hUF.out.below (Below.via' hB0 hH.out)) (hUW.out.below (Below.via' hB0 hH.out))).mono ?_
    rintro e w3 ⟨g3, f3, rfl, ho3, hb3⟩
    have hi3 : Hid (CIn w3 (some ⟨g3, 0, none⟩) (some ⟨f3, 0, none⟩) UF UW) := Lib.hid (CIn.of_owC ho3 hmUF hmUW hnUF.out hnUW.out)
    have hq3 := Lib.hid (Below.via' hH.out hb3)
    refine hK.out _ _ hq3.out (fun hSs => ?_)
    clear hK K hSs
    (try simp only [Act.put, List.getElem_toArray, List.getElem_cons_succ, List.getElem_cons_zero, List.setIfInBounds_toArray, List.set_cons_zero, List.set_cons_succ])
    refine wpAnyH_ready (rs := [3, 8]) (by kernel_rfl) (by simp) (AllReadyH.cons rfl (fun K hK => ?_) (AllReadyH.cons rfl (fun K hK => ?_) AllReadyH.nil))
    go_simp
    refine (toCube_any xY zY cY dY YF YW _ hmYF hmYW (hYF.out.below (Below.via' hB0 hq3.out)) (hYW.out.below (Below.via' hB0 hq3.out))).mono ?_
    rintro e w4 ⟨g4, f4, rfl, ho4, hb4⟩
    have hi4 : Hid (CIn w4 (some ⟨g4, 0, none⟩) (some ⟨f4, 0, none⟩) YF YW) := Lib.hid (CIn.of_owC ho4 hmYF hmYW hnYF.out hnYW.out)
    have hq4 := Lib.hid (Below.via' hq3.out hb4)
    refine hK.out _ _ hq4.out (fun hSs => ?_)
    clear hK K hSs
    (try simp only [Act.put, List.getElem_toArray, List.getElem_cons_succ, List.getElem_cons_zero, List.setIfInBounds_toArray, List.set_cons_zero, List.set_cons_succ])
    refine wpAnyH_ready (rs := [4, 8]) (by kernel_rfl) (by simp) (AllReadyH.cons rfl (fun K hK => ?_) (AllReadyH.cons rfl (fun K hK => ?_) AllReadyH.nil))
    go_simp
    refine (sDi_any _ _ _ _ _ _ _ _ UF UW YF YW _ (hi3.out.below (Below.via' (Below.refl _ _) hb4)) (hi4.out.below (Below.refl _ _)) (Nat.le_refl _) (fun h => by cases h) (Nat.le_refl _) (fun h => by cases h)).mono ?_
    rintro e w5 ⟨x5, c5, z5, d5, rfl, ho5, hb5⟩
    rw [← hRR.out] at ho5 ⊢
    have hq5 := Lib.hid (Below.via' hq4.out hb5)
    have la0 : w2.heap.size ≤ (w4).heap.size := (hq4.out).size
    refine hK.out _ _ hq5.out (fun hSs => ?_)
    clear hK K
    (try simp only [Act.put, List.getElem_toArray, List.getElem_cons_succ, List.getElem_cons_zero, List.setIfInBounds_toArray, List.set_cons_zero, List.set_cons_succ])
    refine wpAnyH_take (i := 5) (v := ?_) rfl (by kernel_rfl) (by kernel_rfl) (by kernel_rfl) (fun _ _ _ h => h) (Or.inl ⟨by rfl, ?_⟩) (by assumption) ?_; rotate_left; · (intro wz hz; (skip); clear hz; go_simp; try with_reducible rfl); (try simp only [Act.put, List.getElem_toArray, List.getElem_cons_succ, List.getElem_cons_zero, List.setIfInBounds_toArray, List.set_cons_zero, List.set_cons_succ])
    refine wpAnyH_take (i := 6) (v := ?_) rfl (by kernel_rfl) (by kernel_rfl) (by kernel_rfl) (fun _ _ _ h => h) (Or.inl ⟨by rfl, ?_⟩) (by assumption) ?_; rotate_left; · (intro wz hz; (skip); clear hz; go_simp; try with_reducible rfl); (try simp only [Act.put, List.getElem_toArray, List.getElem_cons_succ, List.getElem_cons_zero, List.setIfInBounds_toArray, List.set_cons_zero, List.set_cons_succ])
    refine wpAnyH_take (i := 7) (v := ?_) rfl (by kernel_rfl) (by kernel_rfl) (by kernel_rfl) (fun _ _ _ h => h) (Or.inl ⟨by rfl, ?_⟩) (by assumption) ?_; rotate_left; · (intro wz hz; (skip); clear hz; go_simp; try with_reducible rfl); (try simp only [Act.put, List.getElem_toArray, List.getElem_cons_succ, List.getElem_cons_zero, List.setIfInBounds_toArray, List.set_cons_zero, List.set_cons_succ])
    replace hSs := Lib.hid hSs
    refine wpAnyH_ready (rs := [8]) (by kernel_rfl) (by simp) (AllReadyH.cons rfl (fun K hK => ?_) AllReadyH.nil); go_simp
    have bx := Lib.hid (show Wb (w5.alloc (.cells #[.slice none 0 0, .slice none 0 0] 27)) w5.heap.size 27 #[.slice none 0 0, .slice none 0 0] from Wb.new w5 _ _)
    have hal := Lib.hid (Below.alloc' hq5.out (.cells #[.slice none 0 0, .slice none 0 0] 27))
    have ga0 : w2.heap.size ≤ w5.heap.size := hq5.out.size
    refine hK.out _ _ hal.out (fun hSs => ?_)
    clear hK K hSs
    (try simp only [Act.put, List.getElem_toArray, List.getElem_cons_succ, List.getElem_cons_zero, List.setIfInBounds_toArray, List.set_cons_zero, List.set_cons_succ])
    have hoA := (ho5.below (show Below w5.heap.size w5 (w5.alloc (.cells #[.slice none 0 0, .slice none 0 0] 27)) from (by repeat (first | exact Below.refl _ _ | assumption | refine Below.drew ?_ | refine below_drewN ?_ _ | refine Below.alloc' ?_ _ | (refine Below.setCell ?_ (by first | omega | (simp; done) | (simp; omega) | exact Below.size (by assumption) | exact Nat.le_trans (Below.size (by assumption)) (by simp)) _) | (refine Below.via' ?_ (by assumption)) | (refine Below.alloc ?_ (by first | omega | (simp; done) | (simp; omega) | exact Below.size (by assumption) | exact Nat.le_trans (Below.size (by assumption)) (by simp)) _) | (refine Below.via ?_ (by assumption) (by first | omega | (simp; done) | (simp; omega) | exact Below.size (by assumption) | exact Nat.le_trans (Below.size (by assumption)) (by simp)))))))
    replace hoA := Lib.hid hoA
    have ya := (bx.out.read 0).trans rfl
    have yb := (bx.out.read 1).trans rfl
    have ye := bx.out.free 0
    have yf := bx.out.free 1
    have yin := bx.out.inside
    refine wpAnyH_ready (rs := [9]) (by kernel_rfl) (by simp) (AllReadyH.cons rfl (fun K hK => ?_) AllReadyH.nil); go_simp
    have hst := Below.alloc' hq5.out (.cells #[.slice x5 RR.1.length c5, .slice z5 RR.2.length d5] 27)
    have hat := cuAt_new (lo := w2.heap.size) ho5 (hq5.out).size la0 (Nat.le_refl _)
    replace hat := Lib.hid hat
    refine hK.out _ _ hst (fun hSs => ?_)
    clear hK K hSs ya yb ye yf
    (try simp only [Act.put, List.getElem_toArray, List.getElem_cons_succ, List.getElem_cons_zero, List.setIfInBounds_toArray, List.set_cons_zero, List.set_cons_succ])
    refine wpAnyH_ready (rs := [10]) (by kernel_rfl) (by simp) (AllReadyH.cons rfl (fun K hK => ?_) AllReadyH.nil); go_simp
    refine hK.out _ _ hst (fun _ => ?_)
    clear hK K
    (try simp only [Act.put, List.getElem_toArray, List.getElem_cons_succ, List.getElem_cons_zero, List.setIfInBounds_toArray, List.set_cons_zero, List.set_cons_succ])
    refine wpAnyH_done (by kernel_rfl) ?_ _
    go_wp2_with fail
    go_meet
    exact ⟨hat.out, rfl, hst⟩
    go_simp
    have bx := Lib.hid (show Wb (w4.alloc (.cells #[.slice none 0 0, .slice none 0 0] 27)) w4.heap.size 27 #[.slice none 0 0, .slice none 0 0] from Wb.new w4 _ _)
    have hal := Lib.hid (Below.alloc' hq4.out (.cells #[.slice none 0 0, .slice none 0 0] 27))
    have ga0 : w2.heap.size ≤ w4.heap.size := hq4.out.size
    refine hK.out _ _ hal.out (fun hSs => ?_)
    clear hK K hSs
    (try simp only [Act.put, List.getElem_toArray, List.getElem_cons_succ, List.getElem_cons_zero, List.setIfInBounds_toArray, List.set_cons_zero, List.set_cons_succ])
    refine wpAnyH_ready (rs := [4]) (by kernel_rfl) (by simp) (AllReadyH.cons rfl (fun K hK => ?_) AllReadyH.nil); go_simp
    refine (sDi_any _ _ _ _ _ _ _ _ UF UW YF YW _ (hi3.out.below (Below.alloc' (Below.via' (Below.refl _ _) hb4) _)) (hi4.out.below (Below.alloc' (Below.refl _ _) _)) (Nat.le_refl _) (fun h => by cases h) (Nat.le_refl _) (fun h => by cases h)).mono ?_
    rintro e w5 ⟨x5, c5, z5, d5, rfl, ho5, hb5⟩
    rw [← hRR.out] at ho5 ⊢
    have hq5 := Lib.hid (Below.via' hal.out hb5)
    have la0 : w2.heap.size ≤ ((w4.alloc (.cells #[.slice none 0 0, .slice none 0 0] 27))).heap.size := (hal.out).size
    have gin := bx.out.inside
    replace bx := Lib.hid (bx.out.kept hb5)
    refine hK.out _ _ hq5.out (fun hSs => ?_)
    clear hK K
    (try simp only [Act.put, List.getElem_toArray, List.getElem_cons_succ, List.getElem_cons_zero, List.setIfInBounds_toArray, List.set_cons_zero, List.set_cons_succ])
    refine wpAnyH_take (i := 5) (v := ?_) rfl (by kernel_rfl) (by kernel_rfl) (by kernel_rfl) (fun _ _ _ h => h) (Or.inl ⟨by rfl, ?_⟩) (by assumption) ?_; rotate_left; · (intro wz hz; (skip); clear hz; go_simp; try with_reducible rfl); (try simp only [Act.put, List.getElem_toArray, List.getElem_cons_succ, List.getElem_cons_zero, List.setIfInBounds_toArray, List.set_cons_zero, List.set_cons_succ])
    refine wpAnyH_take (i := 6) (v := ?_) rfl (by kernel_rfl) (by kernel_rfl) (by kernel_rfl) (fun _ _ _ h => h) (Or.inl ⟨by rfl, ?_⟩) (by assumption) ?_; rotate_left; · (intro wz hz; (skip); clear hz; go_simp; try with_reducible rfl); (try simp only [Act.put, List.getElem_toArray, List.getElem_cons_succ, List.getElem_cons_zero, List.setIfInBounds_toArray, List.set_cons_zero, List.set_cons_succ])
    refine wpAnyH_take (i := 7) (v := ?_) rfl (by kernel_rfl) (by kernel_rfl) (by kernel_rfl) (fun _ _ _ h => h) (Or.inl ⟨by rfl, ?_⟩) (by assumption) ?_; rotate_left; · (intro wz hz; (skip); clear hz; go_simp; try with_reducible rfl); (try simp only [Act.put, List.getElem_toArray, List.getElem_cons_succ, List.getElem_cons_zero, List.setIfInBounds_toArray, List.set_cons_zero, List.set_cons_succ])
    replace hSs := Lib.hid hSs
    have hoA := ho5
    replace hoA := Lib.hid hoA
    have ya := (bx.out.read 0).trans rfl
    have yb := (bx.out.read 1).trans rfl
    have ye := bx.out.free 0
    have yf := bx.out.free 1
    have yin := bx.out.inside
    refine wpAnyH_ready (rs := [9]) (by kernel_rfl) (by simp) (AllReadyH.cons rfl (fun K hK => ?_) AllReadyH.nil); go_simp
    have hst : Below w2.heap.size w2 ((w5).setCell ⟨w4.heap.size, 0, none⟩ (.slice x5 RR.1.length c5) |>.setCell ⟨w4.heap.size, 1, none⟩ (.slice z5 RR.2.length d5)) := below_set2 hq5.out ga0
    have hat := cuAt_of (lo := w2.heap.size) bx.out hoA.out ga0 la0 (Nat.le_refl _) (Or.inl gin)
    replace hat := Lib.hid hat
    refine hK.out _ _ hst (fun hSs => ?_)
    clear hK K hSs ya yb ye yf
    (try simp only [Act.put, List.getElem_toArray, List.getElem_cons_succ, List.getElem_cons_zero, List.setIfInBounds_toArray, List.set_cons_zero, List.set_cons_succ])
    refine wpAnyH_ready (rs := [10]) (by kernel_rfl) (by simp) (AllReadyH.cons rfl (fun K hK => ?_) AllReadyH.nil); go_simp
    refine hK.out _ _ hst (fun _ => ?_)
    clear hK K
    (try simp only [Act.put, List.getElem_toArray, List.getElem_cons_succ, List.getElem_cons_zero, List.setIfInBounds_toArray, List.set_cons_zero, List.set_cons_succ])
    refine wpAnyH_done (by kernel_rfl) ?_ _
    go_wp2_with fail
    go_meet
    exact ⟨hat.out, rfl, hst⟩
    go_simp
    have bx := Lib.hid (show Wb (w3.alloc (.cells #[.slice none 0 0, .slice none 0 0] 27)) w3.heap.size 27 #[.slice none 0 0, .slice none 0 0] from Wb.new w3 _ _)
    have hal := Lib.hid (Below.alloc' hq3.out (.cells #[.slice none 0 0, .slice none 0 0] 27))
    have ga0 : w2.heap.size ≤ w3.heap.size := hq3.out.size
    refine hK.out _ _ hal.out (fun hSs => ?_)
    clear hK K hSs
    (try simp only [Act.put, List.getElem_toArray, List.getElem_cons_succ, List.getElem_cons_zero, List.setIfInBounds_toArray, List.set_cons_zero, List.set_cons_succ])
    refine wpAnyH_ready (rs := [3]) (by kernel_rfl) (by simp) (AllReadyH.cons rfl (fun K hK => ?_) AllReadyH.nil); go_simp
    refine (toCube_any xY zY cY dY YF YW _ hmYF hmYW (hYF.out.below (Below.via' hB0 hal.out)) (hYW.out.below (Below.via' hB0 hal.out))).mono ?_
    rintro e w4 ⟨g4, f4, rfl, ho4, hb4⟩
    have hi4 : Hid (CIn w4 (some ⟨g4, 0, none⟩) (some ⟨f4, 0, none⟩) YF YW) := Lib.hid (CIn.of_owC ho4 hmYF hmYW hnYF.out hnYW.out)
    have hq4 := Lib.hid (Below.via' hal.out hb4)
    replace bx := Lib.hid (bx.out.kept hb4)
    refine hK.out _ _ hq4.out (fun hSs => ?_)
    clear hK K hSs
    (try simp only [Act.put, List.getElem_toArray, List.getElem_cons_succ, List.getElem_cons_zero, List.setIfInBounds_toArray, List.set_cons_zero, List.set_cons_succ])
    refine wpAnyH_ready (rs := [4]) (by kernel_rfl) (by simp) (AllReadyH.cons rfl (fun K hK => ?_) AllReadyH.nil); go_simp
    refine (sDi_any _ _ _ _ _ _ _ _ UF UW YF YW _ (hi3.out.below (Below.via' (Below.alloc' (Below.refl _ _) _) hb4)) (hi4.out.below (Below.refl _ _)) (Nat.le_refl _) (fun h => by cases h) (Nat.le_refl _) (fun h => by cases h)).mono ?_
    rintro e w5 ⟨x5, c5, z5, d5, rfl, ho5, hb5⟩
    rw [← hRR.out] at ho5 ⊢
    have hq5 := Lib.hid (Below.via' hq4.out hb5)
    have la0 : w2.heap.size ≤ (w4).heap.size := (hq4.out).size
    have gin := bx.out.inside
    replace bx := Lib.hid (bx.out.kept hb5)
    refine hK.out _ _ hq5.out (fun hSs => ?_)
    clear hK K
    (try simp only [Act.put, List.getElem_toArray, List.getElem_cons_succ, List.getElem_cons_zero, List.setIfInBounds_toArray, List.set_cons_zero, List.set_cons_succ])
    refine wpAnyH_take (i := 5) (v := ?_) rfl (by kernel_rfl) (by kernel_rfl) (by kernel_rfl) (fun _ _ _ h => h) (Or.inl ⟨by rfl, ?_⟩) (by assumption) ?_; rotate_left; · (intro wz hz; (skip); clear hz; go_simp; try with_reducible rfl); (try simp only [Act.put, List.getElem_toArray, List.getElem_cons_succ, List.getElem_cons_zero, List.setIfInBounds_toArray, List.set_cons_zero, List.set_cons_succ])
    refine wpAnyH_take (i := 6) (v := ?_) rfl (by kernel_rfl) (by kernel_rfl) (by kernel_rfl) (fun _ _ _ h => h) (Or.inl ⟨by rfl, ?_⟩) (by assumption) ?_; rotate_left; · (intro wz hz; (skip); clear hz; go_simp; try with_reducible rfl); (try simp only [Act.put, List.getElem_toArray, List.getElem_cons_succ, List.getElem_cons_zero, List.setIfInBounds_toArray, List.set_cons_zero, List.set_cons_succ])
    refine wpAnyH_take (i := 7) (v := ?_) rfl (by kernel_rfl) (by kernel_rfl) (by kernel_rfl) (fun _ _ _ h => h) (Or.inl ⟨by rfl, ?_⟩) (by assumption) ?_; rotate_left; · (intro wz hz; (skip); clear hz; go_simp; try with_reducible rfl); (try simp only [Act.put, List.getElem_toArray, List.getElem_cons_succ, List.getElem_cons_zero, List.setIfInBounds_toArray, List.set_cons_zero, List.set_cons_succ])
    replace hSs := Lib.hid hSs
    have hoA := ho5
    replace hoA := Lib.hid hoA
    have ya := (bx.out.read 0).trans rfl
    have yb := (bx.out.read 1).trans rfl
    have ye := bx.out.free 0
    have yf := bx.out.free 1
    have yin := bx.out.inside
    refine wpAnyH_ready (rs := [9]) (by kernel_rfl) (by simp) (AllReadyH.cons rfl (fun K hK => ?_) AllReadyH.nil); go_simp
    have hst : Below w2.heap.size w2 ((w5).setCell ⟨w3.heap.size, 0, none⟩ (.slice x5 RR.1.length c5) |>.setCell ⟨w3.heap.size, 1, none⟩ (.slice z5 RR.2.length d5)) := below_set2 hq5.out ga0
    have hat := cuAt_of (lo := w2.heap.size) bx.out hoA.out ga0 la0 (Nat.le_refl _) (Or.inl gin)
    replace hat := Lib.hid hat
    refine hK.out _ _ hst (fun hSs => ?_)
    clear hK K hSs ya yb ye yf
    (try simp only [Act.put, List.getElem_toArray, List.getElem_cons_succ, List.getElem_cons_zero, List.setIfInBounds_toArray, List.set_cons_zero, List.set_cons_succ])
    refine wpAnyH_ready (rs := [10]) (by kernel_rfl) (by simp) (AllReadyH.cons rfl (fun K hK => ?_) AllReadyH.nil); go_simp
    refine hK.out _ _ hst (fun _ => ?_)
    clear hK K
    (try simp only [Act.put, List.getElem_toArray, List.getElem_cons_succ, List.getElem_cons_zero, List.setIfInBounds_toArray, List.set_cons_zero, List.set_cons_succ])
    refine wpAnyH_done (by kernel_rfl) ?_ _
    go_wp2_with fail
    go_meet
    exact ⟨hat.out, rfl, hst⟩
    go_simp
    have bx := Lib.hid (show Wb (w2.drew.alloc (.cells #[.slice none 0 0, .slice none 0 0] 27)) w2.heap.size 27 #[.slice none 0 0, .slice none 0 0] from Wb.new w2.drew _ _)
    have hal := Lib.hid (Below.alloc' hH.out (.cells #[.slice none 0 0, .slice none 0 0] 27))
    have ga0 : w2.heap.size ≤ w2.heap.size := hH.out.size
    refine hK.out _ _ hal.out (fun hSs => ?_)
    clear hK K hSs
    (try simp only [Act.put, List.getElem_toArray, List.getElem_cons_succ, List.getElem_cons_zero, List.setIfInBounds_toArray, List.set_cons_zero, List.set_cons_succ])
    refine wpAnyH_ready (rs := [1]) (by kernel_rfl) (by simp) (AllReadyH.cons rfl (fun K hK => ?_) AllReadyH.nil); go_simp
    refine (toCube_any xU zU cU dU UF UW _ hmUF hmUW (hUF.out.below (Below.via' hB0 hal.out)) (hUW.out.below (Below.via' hB0 hal.out))).mono ?_
    rintro e w3 ⟨g3, f3, rfl, ho3, hb3⟩
    have hi3 : Hid (CIn w3 (some ⟨g3, 0, none⟩) (some ⟨f3, 0, none⟩) UF UW) := Lib.hid (CIn.of_owC ho3 hmUF hmUW hnUF.out hnUW.out)
    have hq3 := Lib.hid (Below.via' hal.out hb3)
    replace bx := Lib.hid (bx.out.kept hb3)
    refine hK.out _ _ hq3.out (fun hSs => ?_)
    clear hK K hSs
    (try simp only [Act.put, List.getElem_toArray, List.getElem_cons_succ, List.getElem_cons_zero, List.setIfInBounds_toArray, List.set_cons_zero, List.set_cons_succ])
    refine wpAnyH_ready (rs := [3]) (by kernel_rfl) (by simp) (AllReadyH.cons rfl (fun K hK => ?_) AllReadyH.nil); go_simp
    refine (toCube_any xY zY cY dY YF YW _ hmYF hmYW (hYF.out.below (Below.via' hB0 hq3.out)) (hYW.out.below (Below.via' hB0 hq3.out))).mono ?_
    rintro e w4 ⟨g4, f4, rfl, ho4, hb4⟩
    have hi4 : Hid (CIn w4 (some ⟨g4, 0, none⟩) (some ⟨f4, 0, none⟩) YF YW) := Lib.hid (CIn.of_owC ho4 hmYF hmYW hnYF.out hnYW.out)
    have hq4 := Lib.hid (Below.via' hq3.out hb4)
    replace bx := Lib.hid (bx.out.kept hb4)
    refine hK.out _ _ hq4.out (fun hSs => ?_)
    clear hK K hSs
    (try simp only [Act.put, List.getElem_toArray, List.getElem_cons_succ, List.getElem_cons_zero, List.setIfInBounds_toArray, List.set_cons_zero, List.set_cons_succ])
    refine wpAnyH_ready (rs := [4]) (by kernel_rfl) (by simp) (AllReadyH.cons rfl (fun K hK => ?_) AllReadyH.nil); go_simp
    refine (sDi_any _ _ _ _ _ _ _ _ UF UW YF YW _ (hi3.out.below (Below.via' (Below.refl _ _) hb4)) (hi4.out.below (Below.refl _ _)) (Nat.le_refl _) (fun h => by cases h) (Nat.le_refl _) (fun h => by cases h)).mono ?_
    rintro e w5 ⟨x5, c5, z5, d5, rfl, ho5, hb5⟩
    rw [← hRR.out] at ho5 ⊢
    have hq5 := Lib.hid (Below.via' hq4.out hb5)
    have la0 : w2.heap.size ≤ (w4).heap.size := (hq4.out).size
    have gin := bx.out.inside
    replace bx := Lib.hid (bx.out.kept hb5)
    refine hK.out _ _ hq5.out (fun hSs => ?_)
    clear hK K
    (try simp only [Act.put, List.getElem_toArray, List.getElem_cons_succ, List.getElem_cons_zero, List.setIfInBounds_toArray, List.set_cons_zero, List.set_cons_succ])
    refine wpAnyH_take (i := 5) (v := ?_) rfl (by kernel_rfl) (by kernel_rfl) (by kernel_rfl) (fun _ _ _ h => h) (Or.inl ⟨by rfl, ?_⟩) (by assumption) ?_; rotate_left; · (intro wz hz; (skip); clear hz; go_simp; try with_reducible rfl); (try simp only [Act.put, List.getElem_toArray, List.getElem_cons_succ, List.getElem_cons_zero, List.setIfInBounds_toArray, List.set_cons_zero, List.set_cons_succ])
    refine wpAnyH_take (i := 6) (v := ?_) rfl (by kernel_rfl) (by kernel_rfl) (by kernel_rfl) (fun _ _ _ h => h) (Or.inl ⟨by rfl, ?_⟩) (by assumption) ?_; rotate_left; · (intro wz hz; (skip); clear hz; go_simp; try with_reducible rfl); (try simp only [Act.put, List.getElem_toArray, List.getElem_cons_succ, List.getElem_cons_zero, List.setIfInBounds_toArray, List.set_cons_zero, List.set_cons_succ])
    refine wpAnyH_take (i := 7) (v := ?_) rfl (by kernel_rfl) (by kernel_rfl) (by kernel_rfl) (fun _ _ _ h => h) (Or.inl ⟨by rfl, ?_⟩) (by assumption) ?_; rotate_left; · (intro wz hz; (skip); clear hz; go_simp; try with_reducible rfl); (try simp only [Act.put, List.getElem_toArray, List.getElem_cons_succ, List.getElem_cons_zero, List.setIfInBounds_toArray, List.set_cons_zero, List.set_cons_succ])
    replace hSs := Lib.hid hSs
    have hoA := ho5
    replace hoA := Lib.hid hoA
    have ya := (bx.out.read 0).trans rfl
    have yb := (bx.out.read 1).trans rfl
    have ye := bx.out.free 0
    have yf := bx.out.free 1
    have yin := bx.out.inside
    refine wpAnyH_ready (rs := [9]) (by kernel_rfl) (by simp) (AllReadyH.cons rfl (fun K hK => ?_) AllReadyH.nil); go_simp
    have hst : Below w2.heap.size w2 ((w5).setCell ⟨w2.heap.size, 0, none⟩ (.slice x5 RR.1.length c5) |>.setCell ⟨w2.heap.size, 1, none⟩ (.slice z5 RR.2.length d5)) := below_set2 hq5.out ga0
    have hat := cuAt_of (lo := w2.heap.size) bx.out hoA.out ga0 la0 (Nat.le_refl _) (Or.inl gin)
    replace hat := Lib.hid hat
    refine hK.out _ _ hst (fun hSs => ?_)
    clear hK K hSs ya yb ye yf
    (try simp only [Act.put, List.getElem_toArray, List.getElem_cons_succ, List.getElem_cons_zero, List.setIfInBounds_toArray, List.set_cons_zero, List.set_cons_succ])
    refine wpAnyH_ready (rs := [10]) (by kernel_rfl) (by simp) (AllReadyH.cons rfl (fun K hK => ?_) AllReadyH.nil); go_simp
    refine hK.out _ _ hst (fun _ => ?_)
    clear hK K
    (try simp only [Act.put, List.getElem_toArray, List.getElem_cons_succ, List.getElem_cons_zero, List.setIfInBounds_toArray, List.set_cons_zero, List.set_cons_succ])
    refine wpAnyH_done (by kernel_rfl) ?_ _
    go_wp2_with fail
    go_meet
    exact ⟨hat.out, rfl, hst⟩
  obtain ⟨⟨gA5, xA5, cA5, zA5, dA5, la5, lb5, rfl, hA5, hgA5, hla5, hlb5, hgl5, hoA5⟩, rfl, hb5⟩ := hcut
  obtain ⟨w5, rfl⟩ : ∃ u : World, u = wc := ⟨_, rfl⟩
  have hgB5 : gA5 < w5.heap.size := hA5.2.2
  replace hA5 := Lib.hid hA5
  have hkU_5 := Lib.hid (hkU_2.out.below (show Below w2.heap.size w2 w5 from (by repeat (first | exact Below.refl _ _ | assumption | refine Below.drew ?_ | refine below_drewN ?_ _ | refine Below.alloc' ?_ _ | (refine Below.setCell ?_ (by first | omega | (simp; done) | (simp; omega) | exact Below.size (by assumption) | exact Nat.le_trans (Below.size (by assumption)) (by simp)) _) | (refine Below.via' ?_ (by assumption)) | (refine Below.alloc ?_ (by first | omega | (simp; done) | (simp; omega) | exact Below.size (by assumption) | exact Nat.le_trans (Below.size (by assumption)) (by simp)) _) | (refine Below.via ?_ (by assumption) (by first | omega | (simp; done) | (simp; omega) | exact Below.size (by assumption) | exact Nat.le_trans (Below.size (by assumption)) (by simp)))))))
  obtain ⟨hkUa5, hkUb5, hkUc5⟩ := hkU_5.out
  try clear hkUa2 hkUb2 hkUc2
  have hkY_5 := Lib.hid (hkY_2.out.below (show Below w2.heap.size w2 w5 from (by repeat (first | exact Below.refl _ _ | assumption | refine Below.drew ?_ | refine below_drewN ?_ _ | refine Below.alloc' ?_ _ | (refine Below.setCell ?_ (by first | omega | (simp; done) | (simp; omega) | exact Below.size (by assumption) | exact Nat.le_trans (Below.size (by assumption)) (by simp)) _) | (refine Below.via' ?_ (by assumption)) | (refine Below.alloc ?_ (by first | omega | (simp; done) | (simp; omega) | exact Below.size (by assumption) | exact Nat.le_trans (Below.size (by assumption)) (by simp)) _) | (refine Below.via ?_ (by assumption) (by first | omega | (simp; done) | (simp; omega) | exact Below.size (by assumption) | exact Nat.le_trans (Below.size (by assumption)) (by simp)))))))
  obtain ⟨hkYa5, hkYb5, hkYc5⟩ := hkY_5.out
  try clear hkYa2 hkYb2 hkYc2
  have hW_5 := hA5
  obtain ⟨hWa5, hWb5, hWc5⟩ := hW_5.out
  go_wp2_with fail
  refine (toCube_any xU zU cU dU UF UW _ hmUF hmUW (hUF.out.below (by exact (by repeat (first | exact Below.refl _ _ | assumption | refine Below.drew ?_ | refine below_drewN ?_ _ | refine Below.alloc' ?_ _ | (refine Below.setCell ?_ (by first | omega | (simp; done) | (simp; omega) | exact Below.size (by assumption) | exact Nat.le_trans (Below.size (by assumption)) (by simp)) _) | (refine Below.via' ?_ (by assumption)) | (refine Below.alloc ?_ (by first | omega | (simp; done) | (simp; omega) | exact Below.size (by assumption) | exact Nat.le_trans (Below.size (by assumption)) (by simp)) _) | (refine Below.via ?_ (by assumption) (by first | omega | (simp; done) | (simp; omega) | exact Below.size (by assumption) | exact Nat.le_trans (Below.size (by assumption)) (by simp))))))) (hUW.out.below (by exact (by repeat (first | exact Below.refl _ _ | assumption | refine Below.drew ?_ | refine below_drewN ?_ _ | refine Below.alloc' ?_ _ | (refine Below.setCell ?_ (by first | omega | (simp; done) | (simp; omega) | exact Below.size (by assumption) | exact Nat.le_trans (Below.size (by assumption)) (by simp)) _) | (refine Below.via' ?_ (by assumption)) | (refine Below.alloc ?_ (by first | omega | (simp; done) | (simp; omega) | exact Below.size (by assumption) | exact Nat.le_trans (Below.size (by assumption)) (by simp)) _) | (refine Below.via ?_ (by assumption) (by first | omega | (simp; done) | (simp; omega) | exact Below.size (by assumption) | exact Nat.le_trans (Below.size (by assumption)) (by simp)))))))).mono ?_
  rintro e w6 ⟨g6, f6, rfl, ho6, hb6⟩
  have hi6 : Hid (CIn w6 (some ⟨g6, 0, none⟩) (some ⟨f6, 0, none⟩) UF UW) := Lib.hid (CIn.of_owC ho6 hmUF hmUW hnUF.out hnUW.out)
  have hz6 := hb6.size; (try simp at hz6); (try (have hly6 := Nat.lt_of_succ_le hz6)); (try (have hlx6 := Nat.lt_of_succ_lt hly6)); (try (have hlw6 := Nat.lt_of_succ_lt hlx6)); (try (have hle6 := Nat.le_of_lt hly6))
  have hkU_6 := Lib.hid (hkU_5.out.below (show Below w5.heap.size w5 w6 from (by repeat (first | exact Below.refl _ _ | assumption | refine Below.drew ?_ | refine below_drewN ?_ _ | refine Below.alloc' ?_ _ | (refine Below.setCell ?_ (by first | omega | (simp; done) | (simp; omega) | exact Below.size (by assumption) | exact Nat.le_trans (Below.size (by assumption)) (by simp)) _) | (refine Below.via' ?_ (by assumption)) | (refine Below.alloc ?_ (by first | omega | (simp; done) | (simp; omega) | exact Below.size (by assumption) | exact Nat.le_trans (Below.size (by assumption)) (by simp)) _) | (refine Below.via ?_ (by assumption) (by first | omega | (simp; done) | (simp; omega) | exact Below.size (by assumption) | exact Nat.le_trans (Below.size (by assumption)) (by simp)))))))
  obtain ⟨hkUa6, hkUb6, hkUc6⟩ := hkU_6.out
  try clear hkUa5 hkUb5 hkUc5
  have hkY_6 := Lib.hid (hkY_5.out.below (show Below w5.heap.size w5 w6 from (by repeat (first | exact Below.refl _ _ | assumption | refine Below.drew ?_ | refine below_drewN ?_ _ | refine Below.alloc' ?_ _ | (refine Below.setCell ?_ (by first | omega | (simp; done) | (simp; omega) | exact Below.size (by assumption) | exact Nat.le_trans (Below.size (by assumption)) (by simp)) _) | (refine Below.via' ?_ (by assumption)) | (refine Below.alloc ?_ (by first | omega | (simp; done) | (simp; omega) | exact Below.size (by assumption) | exact Nat.le_trans (Below.size (by assumption)) (by simp)) _) | (refine Below.via ?_ (by assumption) (by first | omega | (simp; done) | (simp; omega) | exact Below.size (by assumption) | exact Nat.le_trans (Below.size (by assumption)) (by simp)))))))
  obtain ⟨hkYa6, hkYb6, hkYc6⟩ := hkY_6.out
  try clear hkYa5 hkYb5 hkYc5
  have hW_6 := Lib.hid (hW_5.out.below (show Below w5.heap.size w5 w6 from (by repeat (first | exact Below.refl _ _ | assumption | refine Below.drew ?_ | refine below_drewN ?_ _ | refine Below.alloc' ?_ _ | (refine Below.setCell ?_ (by first | omega | (simp; done) | (simp; omega) | exact Below.size (by assumption) | exact Nat.le_trans (Below.size (by assumption)) (by simp)) _) | (refine Below.via' ?_ (by assumption)) | (refine Below.alloc ?_ (by first | omega | (simp; done) | (simp; omega) | exact Below.size (by assumption) | exact Nat.le_trans (Below.size (by assumption)) (by simp)) _) | (refine Below.via ?_ (by assumption) (by first | omega | (simp; done) | (simp; omega) | exact Below.size (by assumption) | exact Nat.le_trans (Below.size (by assumption)) (by simp)))))))
  obtain ⟨hWa6, hWb6, hWc6⟩ := hW_6.out
  try clear hWa5 hWb5 hWc5
  have hxU_6 := Lib.hid (CQ.new w6 (some ⟨g6, 0, none⟩) UF.length UF.length (some ⟨f6, 0, none⟩) UW.length UW.length 27)
  go_wp2_with fail
  refine (toCube_any xY zY cY dY YF YW _ hmYF hmYW (hYF.out.below (by exact (by repeat (first | exact Below.refl _ _ | assumption | refine Below.drew ?_ | refine below_drewN ?_ _ | refine Below.alloc' ?_ _ | (refine Below.setCell ?_ (by first | omega | (simp; done) | (simp; omega) | exact Below.size (by assumption) | exact Nat.le_trans (Below.size (by assumption)) (by simp)) _) | (refine Below.via' ?_ (by assumption)) | (refine Below.alloc ?_ (by first | omega | (simp; done) | (simp; omega) | exact Below.size (by assumption) | exact Nat.le_trans (Below.size (by assumption)) (by simp)) _) | (refine Below.via ?_ (by assumption) (by first | omega | (simp; done) | (simp; omega) | exact Below.size (by assumption) | exact Nat.le_trans (Below.size (by assumption)) (by simp))))))) (hYW.out.below (by exact (by repeat (first | exact Below.refl _ _ | assumption | refine Below.drew ?_ | refine below_drewN ?_ _ | refine Below.alloc' ?_ _ | (refine Below.setCell ?_ (by first | omega | (simp; done) | (simp; omega) | exact Below.size (by assumption) | exact Nat.le_trans (Below.size (by assumption)) (by simp)) _) | (refine Below.via' ?_ (by assumption)) | (refine Below.alloc ?_ (by first | omega | (simp; done) | (simp; omega) | exact Below.size (by assumption) | exact Nat.le_trans (Below.size (by assumption)) (by simp)) _) | (refine Below.via ?_ (by assumption) (by first | omega | (simp; done) | (simp; omega) | exact Below.size (by assumption) | exact Nat.le_trans (Below.size (by assumption)) (by simp)))))))).mono ?_
  rintro e w7 ⟨g7, f7, rfl, ho7, hb7⟩
  simp only [World.size_alloc] at ho7
  have hi7 : Hid (CIn w7 (some ⟨g7, 0, none⟩) (some ⟨f7, 0, none⟩) YF YW) := Lib.hid (CIn.of_owC ho7 hmYF hmYW hnYF.out hnYW.out)
  have hz7 := hb7.size; (try simp at hz7); (try (have hly7 := Nat.lt_of_succ_le hz7)); (try (have hlx7 := Nat.lt_of_succ_lt hly7)); (try (have hlw7 := Nat.lt_of_succ_lt hlx7)); (try (have hle7 := Nat.le_of_lt hly7))
  have hkU_7 := Lib.hid (hkU_6.out.below (show Below w6.heap.size w6 w7 from (by repeat (first | exact Below.refl _ _ | assumption | refine Below.drew ?_ | refine below_drewN ?_ _ | refine Below.alloc' ?_ _ | (refine Below.setCell ?_ (by first | omega | (simp; done) | (simp; omega) | exact Below.size (by assumption) | exact Nat.le_trans (Below.size (by assumption)) (by simp)) _) | (refine Below.via' ?_ (by assumption)) | (refine Below.alloc ?_ (by first | omega | (simp; done) | (simp; omega) | exact Below.size (by assumption) | exact Nat.le_trans (Below.size (by assumption)) (by simp)) _) | (refine Below.via ?_ (by assumption) (by first | omega | (simp; done) | (simp; omega) | exact Below.size (by assumption) | exact Nat.le_trans (Below.size (by assumption)) (by simp)))))))
  obtain ⟨hkUa7, hkUb7, hkUc7⟩ := hkU_7.out
  try clear hkUa6 hkUb6 hkUc6
  have hkY_7 := Lib.hid (hkY_6.out.below (show Below w6.heap.size w6 w7 from (by repeat (first | exact Below.refl _ _ | assumption | refine Below.drew ?_ | refine below_drewN ?_ _ | refine Below.alloc' ?_ _ | (refine Below.setCell ?_ (by first | omega | (simp; done) | (simp; omega) | exact Below.size (by assumption) | exact Nat.le_trans (Below.size (by assumption)) (by simp)) _) | (refine Below.via' ?_ (by assumption)) | (refine Below.alloc ?_ (by first | omega | (simp; done) | (simp; omega) | exact Below.size (by assumption) | exact Nat.le_trans (Below.size (by assumption)) (by simp)) _) | (refine Below.via ?_ (by assumption) (by first | omega | (simp; done) | (simp; omega) | exact Below.size (by assumption) | exact Nat.le_trans (Below.size (by assumption)) (by simp)))))))
  obtain ⟨hkYa7, hkYb7, hkYc7⟩ := hkY_7.out
  try clear hkYa6 hkYb6 hkYc6
  have hW_7 := Lib.hid (hW_6.out.below (show Below w6.heap.size w6 w7 from (by repeat (first | exact Below.refl _ _ | assumption | refine Below.drew ?_ | refine below_drewN ?_ _ | refine Below.alloc' ?_ _ | (refine Below.setCell ?_ (by first | omega | (simp; done) | (simp; omega) | exact Below.size (by assumption) | exact Nat.le_trans (Below.size (by assumption)) (by simp)) _) | (refine Below.via' ?_ (by assumption)) | (refine Below.alloc ?_ (by first | omega | (simp; done) | (simp; omega) | exact Below.size (by assumption) | exact Nat.le_trans (Below.size (by assumption)) (by simp)) _) | (refine Below.via ?_ (by assumption) (by first | omega | (simp; done) | (simp; omega) | exact Below.size (by assumption) | exact Nat.le_trans (Below.size (by assumption)) (by simp)))))))
  obtain ⟨hWa7, hWb7, hWc7⟩ := hW_7.out
  try clear hWa6 hWb6 hWc6
  have hxU_7 := Lib.hid (hxU_6.out.below hb7)
  obtain ⟨hxUa7, hxUb7, hxUc7⟩ := hxU_7.out
  have hxY_7 := Lib.hid (CQ.new w7 (some ⟨g7, 0, none⟩) YF.length YF.length (some ⟨f7, 0, none⟩) YW.length YW.length 27)
  go_wp2_with fail
  refine (iDi_any _ _ _ _ _ _ _ _ UF UW YF YW _ (hi6.out.below (by exact (by repeat (first | exact Below.refl _ _ | assumption | refine Below.drew ?_ | refine below_drewN ?_ _ | refine Below.alloc' ?_ _ | (refine Below.setCell ?_ (by first | omega | (simp; done) | (simp; omega) | exact Below.size (by assumption) | exact Nat.le_trans (Below.size (by assumption)) (by simp)) _) | (refine Below.via' ?_ (by assumption)) | (refine Below.alloc ?_ (by first | omega | (simp; done) | (simp; omega) | exact Below.size (by assumption) | exact Nat.le_trans (Below.size (by assumption)) (by simp)) _) | (refine Below.via ?_ (by assumption) (by first | omega | (simp; done) | (simp; omega) | exact Below.size (by assumption) | exact Nat.le_trans (Below.size (by assumption)) (by simp))))))) (hi7.out.below (by exact (by repeat (first | exact Below.refl _ _ | assumption | refine Below.drew ?_ | refine below_drewN ?_ _ | refine Below.alloc' ?_ _ | (refine Below.setCell ?_ (by first | omega | (simp; done) | (simp; omega) | exact Below.size (by assumption) | exact Nat.le_trans (Below.size (by assumption)) (by simp)) _) | (refine Below.via' ?_ (by assumption)) | (refine Below.alloc ?_ (by first | omega | (simp; done) | (simp; omega) | exact Below.size (by assumption) | exact Nat.le_trans (Below.size (by assumption)) (by simp)) _) | (refine Below.via ?_ (by assumption) (by first | omega | (simp; done) | (simp; omega) | exact Below.size (by assumption) | exact Nat.le_trans (Below.size (by assumption)) (by simp))))))) (Nat.le_refl _) (fun h => by cases h) (Nat.le_refl _) (fun h => by cases h)).mono ?_
  rintro e w8 ⟨x8, c8, z8, d8, rfl, ho8, hb8⟩
  rw [← hRR.out] at ho8 ⊢
  replace ho8 := ho8.more (show w7.heap.size ≤ _ by simp) (Nat.le_refl _)
  have hz8 := hb8.size; (try simp at hz8); (try (have hly8 := Nat.lt_of_succ_le hz8)); (try (have hlx8 := Nat.lt_of_succ_lt hly8)); (try (have hlw8 := Nat.lt_of_succ_lt hlx8)); (try (have hle8 := Nat.le_of_lt hly8))
  have hkU_8 := Lib.hid (hkU_7.out.below (show Below w7.heap.size w7 w8 from (by repeat (first | exact Below.refl _ _ | assumption | refine Below.drew ?_ | refine below_drewN ?_ _ | refine Below.alloc' ?_ _ | (refine Below.setCell ?_ (by first | omega | (simp; done) | (simp; omega) | exact Below.size (by assumption) | exact Nat.le_trans (Below.size (by assumption)) (by simp)) _) | (refine Below.via' ?_ (by assumption)) | (refine Below.alloc ?_ (by first | omega | (simp; done) | (simp; omega) | exact Below.size (by assumption) | exact Nat.le_trans (Below.size (by assumption)) (by simp)) _) | (refine Below.via ?_ (by assumption) (by first | omega | (simp; done) | (simp; omega) | exact Below.size (by assumption) | exact Nat.le_trans (Below.size (by assumption)) (by simp)))))))
  obtain ⟨hkUa8, hkUb8, hkUc8⟩ := hkU_8.out
  try clear hkUa7 hkUb7 hkUc7
  have hkY_8 := Lib.hid (hkY_7.out.below (show Below w7.heap.size w7 w8 from (by repeat (first | exact Below.refl _ _ | assumption | refine Below.drew ?_ | refine below_drewN ?_ _ | refine Below.alloc' ?_ _ | (refine Below.setCell ?_ (by first | omega | (simp; done) | (simp; omega) | exact Below.size (by assumption) | exact Nat.le_trans (Below.size (by assumption)) (by simp)) _) | (refine Below.via' ?_ (by assumption)) | (refine Below.alloc ?_ (by first | omega | (simp; done) | (simp; omega) | exact Below.size (by assumption) | exact Nat.le_trans (Below.size (by assumption)) (by simp)) _) | (refine Below.via ?_ (by assumption) (by first | omega | (simp; done) | (simp; omega) | exact Below.size (by assumption) | exact Nat.le_trans (Below.size (by assumption)) (by simp)))))))
  obtain ⟨hkYa8, hkYb8, hkYc8⟩ := hkY_8.out
  try clear hkYa7 hkYb7 hkYc7
  have hW_8 := Lib.hid (hW_7.out.below (show Below w7.heap.size w7 w8 from (by repeat (first | exact Below.refl _ _ | assumption | refine Below.drew ?_ | refine below_drewN ?_ _ | refine Below.alloc' ?_ _ | (refine Below.setCell ?_ (by first | omega | (simp; done) | (simp; omega) | exact Below.size (by assumption) | exact Nat.le_trans (Below.size (by assumption)) (by simp)) _) | (refine Below.via' ?_ (by assumption)) | (refine Below.alloc ?_ (by first | omega | (simp; done) | (simp; omega) | exact Below.size (by assumption) | exact Nat.le_trans (Below.size (by assumption)) (by simp)) _) | (refine Below.via ?_ (by assumption) (by first | omega | (simp; done) | (simp; omega) | exact Below.size (by assumption) | exact Nat.le_trans (Below.size (by assumption)) (by simp)))))))
  obtain ⟨hWa8, hWb8, hWc8⟩ := hW_8.out
  try clear hWa7 hWb7 hWc7
  have hxU_8 := Lib.hid (hxU_7.out.below (show Below w7.heap.size w7 w8 from (by repeat (first | exact Below.refl _ _ | assumption | refine Below.drew ?_ | refine below_drewN ?_ _ | refine Below.alloc' ?_ _ | (refine Below.setCell ?_ (by first | omega | (simp; done) | (simp; omega) | exact Below.size (by assumption) | exact Nat.le_trans (Below.size (by assumption)) (by simp)) _) | (refine Below.via' ?_ (by assumption)) | (refine Below.alloc ?_ (by first | omega | (simp; done) | (simp; omega) | exact Below.size (by assumption) | exact Nat.le_trans (Below.size (by assumption)) (by simp)) _) | (refine Below.via ?_ (by assumption) (by first | omega | (simp; done) | (simp; omega) | exact Below.size (by assumption) | exact Nat.le_trans (Below.size (by assumption)) (by simp)))))))
  obtain ⟨hxUa8, hxUb8, hxUc8⟩ := hxU_8.out
  try clear hxUa7 hxUb7 hxUc7
  have hxY_8 := Lib.hid (hxY_7.out.below hb8)
  obtain ⟨hxYa8, hxYb8, hxYc8⟩ := hxY_8.out
  have hG_8 := Lib.hid (CQ.new w8 x8 RR.1.length c8 z8 RR.2.length d8 27)
  have RO8 := Lib.hid ho8
  clear ho8
  go_wp2_with fail
  refine (eqCube_any _ _ _ _ RR.1 RR.2 _ (by omega) (by omega) ((RO8.out.below (by exact (by repeat (first | exact Below.refl _ _ | assumption | refine Below.drew ?_ | refine below_drewN ?_ _ | refine Below.alloc' ?_ _ | (refine Below.setCell ?_ (by first | omega | (simp; done) | (simp; omega) | exact Below.size (by assumption) | exact Nat.le_trans (Below.size (by assumption)) (by simp)) _) | (refine Below.via' ?_ (by assumption)) | (refine Below.alloc ?_ (by first | omega | (simp; done) | (simp; omega) | exact Below.size (by assumption) | exact Nat.le_trans (Below.size (by assumption)) (by simp)) _) | (refine Below.via ?_ (by assumption) (by first | omega | (simp; done) | (simp; omega) | exact Below.size (by assumption) | exact Nat.le_trans (Below.size (by assumption)) (by simp))))))).rd) ((hoA5.below (show Below w5.heap.size w5 _ from (by repeat (first | exact Below.refl _ _ | assumption | refine Below.drew ?_ | refine below_drewN ?_ _ | refine Below.alloc' ?_ _ | (refine Below.setCell ?_ (by first | omega | (simp; done) | (simp; omega) | exact Below.size (by assumption) | exact Nat.le_trans (Below.size (by assumption)) (by simp)) _) | (refine Below.via' ?_ (by assumption)) | (refine Below.alloc ?_ (by first | omega | (simp; done) | (simp; omega) | exact Below.size (by assumption) | exact Nat.le_trans (Below.size (by assumption)) (by simp)) _) | (refine Below.via ?_ (by assumption) (by first | omega | (simp; done) | (simp; omega) | exact Below.size (by assumption) | exact Nat.le_trans (Below.size (by assumption)) (by simp))))))).rd)).mono ?_
  rintro e w9 ⟨rfl, hb9⟩
  have hkU_9 := Lib.hid (hkU_8.out.below (show Below w8.heap.size w8 w9 from (by repeat (first | exact Below.refl _ _ | assumption | refine Below.drew ?_ | refine below_drewN ?_ _ | refine Below.alloc' ?_ _ | (refine Below.setCell ?_ (by first | omega | (simp; done) | (simp; omega) | exact Below.size (by assumption) | exact Nat.le_trans (Below.size (by assumption)) (by simp)) _) | (refine Below.via' ?_ (by assumption)) | (refine Below.alloc ?_ (by first | omega | (simp; done) | (simp; omega) | exact Below.size (by assumption) | exact Nat.le_trans (Below.size (by assumption)) (by simp)) _) | (refine Below.via ?_ (by assumption) (by first | omega | (simp; done) | (simp; omega) | exact Below.size (by assumption) | exact Nat.le_trans (Below.size (by assumption)) (by simp)))))))
  obtain ⟨hkUa9, hkUb9, hkUc9⟩ := hkU_9.out
  try clear hkUa8 hkUb8 hkUc8
  have hkY_9 := Lib.hid (hkY_8.out.below (show Below w8.heap.size w8 w9 from (by repeat (first | exact Below.refl _ _ | assumption | refine Below.drew ?_ | refine below_drewN ?_ _ | refine Below.alloc' ?_ _ | (refine Below.setCell ?_ (by first | omega | (simp; done) | (simp; omega) | exact Below.size (by assumption) | exact Nat.le_trans (Below.size (by assumption)) (by simp)) _) | (refine Below.via' ?_ (by assumption)) | (refine Below.alloc ?_ (by first | omega | (simp; done) | (simp; omega) | exact Below.size (by assumption) | exact Nat.le_trans (Below.size (by assumption)) (by simp)) _) | (refine Below.via ?_ (by assumption) (by first | omega | (simp; done) | (simp; omega) | exact Below.size (by assumption) | exact Nat.le_trans (Below.size (by assumption)) (by simp)))))))
  obtain ⟨hkYa9, hkYb9, hkYc9⟩ := hkY_9.out
  try clear hkYa8 hkYb8 hkYc8
  have hW_9 := Lib.hid (hW_8.out.below (show Below w8.heap.size w8 w9 from (by repeat (first | exact Below.refl _ _ | assumption | refine Below.drew ?_ | refine below_drewN ?_ _ | refine Below.alloc' ?_ _ | (refine Below.setCell ?_ (by first | omega | (simp; done) | (simp; omega) | exact Below.size (by assumption) | exact Nat.le_trans (Below.size (by assumption)) (by simp)) _) | (refine Below.via' ?_ (by assumption)) | (refine Below.alloc ?_ (by first | omega | (simp; done) | (simp; omega) | exact Below.size (by assumption) | exact Nat.le_trans (Below.size (by assumption)) (by simp)) _) | (refine Below.via ?_ (by assumption) (by first | omega | (simp; done) | (simp; omega) | exact Below.size (by assumption) | exact Nat.le_trans (Below.size (by assumption)) (by simp)))))))
  obtain ⟨hWa9, hWb9, hWc9⟩ := hW_9.out
  try clear hWa8 hWb8 hWc8
  have hxU_9 := Lib.hid (hxU_8.out.below (show Below w8.heap.size w8 w9 from (by repeat (first | exact Below.refl _ _ | assumption | refine Below.drew ?_ | refine below_drewN ?_ _ | refine Below.alloc' ?_ _ | (refine Below.setCell ?_ (by first | omega | (simp; done) | (simp; omega) | exact Below.size (by assumption) | exact Nat.le_trans (Below.size (by assumption)) (by simp)) _) | (refine Below.via' ?_ (by assumption)) | (refine Below.alloc ?_ (by first | omega | (simp; done) | (simp; omega) | exact Below.size (by assumption) | exact Nat.le_trans (Below.size (by assumption)) (by simp)) _) | (refine Below.via ?_ (by assumption) (by first | omega | (simp; done) | (simp; omega) | exact Below.size (by assumption) | exact Nat.le_trans (Below.size (by assumption)) (by simp)))))))
  obtain ⟨hxUa9, hxUb9, hxUc9⟩ := hxU_9.out
  try clear hxUa8 hxUb8 hxUc8
  have hxY_9 := Lib.hid (hxY_8.out.below (show Below w8.heap.size w8 w9 from (by repeat (first | exact Below.refl _ _ | assumption | refine Below.drew ?_ | refine below_drewN ?_ _ | refine Below.alloc' ?_ _ | (refine Below.setCell ?_ (by first | omega | (simp; done) | (simp; omega) | exact Below.size (by assumption) | exact Nat.le_trans (Below.size (by assumption)) (by simp)) _) | (refine Below.via' ?_ (by assumption)) | (refine Below.alloc ?_ (by first | omega | (simp; done) | (simp; omega) | exact Below.size (by assumption) | exact Nat.le_trans (Below.size (by assumption)) (by simp)) _) | (refine Below.via ?_ (by assumption) (by first | omega | (simp; done) | (simp; omega) | exact Below.size (by assumption) | exact Nat.le_trans (Below.size (by assumption)) (by simp)))))))
  obtain ⟨hxYa9, hxYb9, hxYc9⟩ := hxY_9.out
  try clear hxYa8 hxYb8 hxYc8
  have hG_9 := Lib.hid (hG_8.out.below hb9)
  obtain ⟨hGa9, hGb9, hGc9⟩ := hG_9.out
  go_wp2_with fail
  go_region_held3 (fun w' => Below (w9).heap.size (w9) w' ∧ (∀ b o, b < (w9).heap.size → w'.cell? ⟨b, o, none⟩ = (w9).cell? ⟨b, o, none⟩)) (first | exact keep_of (Below.refl _ _) | ((try go_split_ands); exact keep_of (by repeat (first | exact Below.refl _ _ | assumption | refine Below.drew ?_ | refine below_drewN ?_ _ | refine Below.alloc' ?_ _ | (refine Below.setCell ?_ (by first | omega | (simp; done) | (simp; omega) | exact Below.size (by assumption) | exact Nat.le_trans (Below.size (by assumption)) (by simp)) _) | (refine Below.via' ?_ (by assumption)) | (refine Below.alloc ?_ (by first | omega | (simp; done) | (simp; omega) | exact Below.size (by assumption) | exact Nat.le_trans (Below.size (by assumption)) (by simp)) _) | (refine Below.via ?_ (by assumption) (by first | omega | (simp; done) | (simp; omega) | exact Below.size (by assumption) | exact Nat.le_trans (Below.size (by assumption)) (by simp))))))) (first | (go_at_call 16; refine (toCube_any xU zU cU dU UF UW _ hmUF hmUW (hUF.out.below (by exact (by repeat (first | exact Below.refl _ _ | assumption | refine Below.drew ?_ | refine below_drewN ?_ _ | refine Below.alloc' ?_ _ | (refine Below.setCell ?_ (by first | omega | (simp; done) | (simp; omega) | exact Below.size (by assumption) | exact Nat.le_trans (Below.size (by assumption)) (by simp)) _) | (refine Below.via' ?_ (by assumption)) | (refine Below.alloc ?_ (by first | omega | (simp; done) | (simp; omega) | exact Below.size (by assumption) | exact Nat.le_trans (Below.size (by assumption)) (by simp)) _) | (refine Below.via ?_ (by assumption) (by first | omega | (simp; done) | (simp; omega) | exact Below.size (by assumption) | exact Nat.le_trans (Below.size (by assumption)) (by simp))))))) (hUW.out.below (by exact (by repeat (first | exact Below.refl _ _ | assumption | refine Below.drew ?_ | refine below_drewN ?_ _ | refine Below.alloc' ?_ _ | (refine Below.setCell ?_ (by first | omega | (simp; done) | (simp; omega) | exact Below.size (by assumption) | exact Nat.le_trans (Below.size (by assumption)) (by simp)) _) | (refine Below.via' ?_ (by assumption)) | (refine Below.alloc ?_ (by first | omega | (simp; done) | (simp; omega) | exact Below.size (by assumption) | exact Nat.le_trans (Below.size (by assumption)) (by simp)) _) | (refine Below.via ?_ (by assumption) (by first | omega | (simp; done) | (simp; omega) | exact Below.size (by assumption) | exact Nat.le_trans (Below.size (by assumption)) (by simp)))))))).mono ?_; rintro e w10 ⟨g10, f10, rfl, ho10, hb10⟩; (have hi10 : Hid (CIn w10 (some ⟨g10, 0, none⟩) (some ⟨f10, 0, none⟩) UF UW) := Lib.hid (CIn.of_owC ho10 hmUF hmUW hnUF.out hnUW.out))) | (go_at_call 18; refine (eqCube_any _ _ _ _ UF UW _ hlUF hlUW ((hi6.out.below (by exact (by repeat (first | exact Below.refl _ _ | assumption | refine Below.drew ?_ | refine below_drewN ?_ _ | refine Below.alloc' ?_ _ | (refine Below.setCell ?_ (by first | omega | (simp; done) | (simp; omega) | exact Below.size (by assumption) | exact Nat.le_trans (Below.size (by assumption)) (by simp)) _) | (refine Below.via' ?_ (by assumption)) | (refine Below.alloc ?_ (by first | omega | (simp; done) | (simp; omega) | exact Below.size (by assumption) | exact Nat.le_trans (Below.size (by assumption)) (by simp)) _) | (refine Below.via ?_ (by assumption) (by first | omega | (simp; done) | (simp; omega) | exact Below.size (by assumption) | exact Nat.le_trans (Below.size (by assumption)) (by simp))))))).rds) ((hi10.out.below (by exact (by repeat (first | exact Below.refl _ _ | assumption | refine Below.drew ?_ | refine below_drewN ?_ _ | refine Below.alloc' ?_ _ | (refine Below.setCell ?_ (by first | omega | (simp; done) | (simp; omega) | exact Below.size (by assumption) | exact Nat.le_trans (Below.size (by assumption)) (by simp)) _) | (refine Below.via' ?_ (by assumption)) | (refine Below.alloc ?_ (by first | omega | (simp; done) | (simp; omega) | exact Below.size (by assumption) | exact Nat.le_trans (Below.size (by assumption)) (by simp)) _) | (refine Below.via ?_ (by assumption) (by first | omega | (simp; done) | (simp; omega) | exact Below.size (by assumption) | exact Nat.le_trans (Below.size (by assumption)) (by simp))))))).rds)).mono ?_; rintro e w11 ⟨rfl, hb11⟩)); rename_i hH; obtain ⟨hb11, hcl11⟩ := hH; have hz11 := hb11.size; (try simp at hz11); (try (have hly11 := Nat.lt_of_succ_le hz11)); (try (have hlx11 := Nat.lt_of_succ_lt hly11)); (try (have hlw11 := Nat.lt_of_succ_lt hlx11)); (try (have hle11 := Nat.le_of_lt hly11)); (try (have hya11 : w.heap.size < w11.heap.size := by omega)); (try (have hyb11 : w.heap.size + 1 < w11.heap.size := by omega)); (try (have hyc11 : w.heap.size + 1 + 1 < w11.heap.size := by omega)); (try (have hyd11 : wa.heap.size < w11.heap.size := by omega))
  have hkU_11 := Lib.hid (hkU_9.out.below (show Below w9.heap.size w9 w11 from (by repeat (first | exact Below.refl _ _ | assumption | refine Below.drew ?_ | refine below_drewN ?_ _ | refine Below.alloc' ?_ _ | (refine Below.setCell ?_ (by first | omega | (simp; done) | (simp; omega) | exact Below.size (by assumption) | exact Nat.le_trans (Below.size (by assumption)) (by simp)) _) | (refine Below.via' ?_ (by assumption)) | (refine Below.alloc ?_ (by first | omega | (simp; done) | (simp; omega) | exact Below.size (by assumption) | exact Nat.le_trans (Below.size (by assumption)) (by simp)) _) | (refine Below.via ?_ (by assumption) (by first | omega | (simp; done) | (simp; omega) | exact Below.size (by assumption) | exact Nat.le_trans (Below.size (by assumption)) (by simp)))))))
  obtain ⟨hkUa11, hkUb11, hkUc11⟩ := hkU_11.out
  try clear hkUa9 hkUb9 hkUc9
  have hkY_11 := Lib.hid (hkY_9.out.below (show Below w9.heap.size w9 w11 from (by repeat (first | exact Below.refl _ _ | assumption | refine Below.drew ?_ | refine below_drewN ?_ _ | refine Below.alloc' ?_ _ | (refine Below.setCell ?_ (by first | omega | (simp; done) | (simp; omega) | exact Below.size (by assumption) | exact Nat.le_trans (Below.size (by assumption)) (by simp)) _) | (refine Below.via' ?_ (by assumption)) | (refine Below.alloc ?_ (by first | omega | (simp; done) | (simp; omega) | exact Below.size (by assumption) | exact Nat.le_trans (Below.size (by assumption)) (by simp)) _) | (refine Below.via ?_ (by assumption) (by first | omega | (simp; done) | (simp; omega) | exact Below.size (by assumption) | exact Nat.le_trans (Below.size (by assumption)) (by simp)))))))
  obtain ⟨hkYa11, hkYb11, hkYc11⟩ := hkY_11.out
  try clear hkYa9 hkYb9 hkYc9
  have hW_11 := Lib.hid (hW_9.out.below (show Below w9.heap.size w9 w11 from (by repeat (first | exact Below.refl _ _ | assumption | refine Below.drew ?_ | refine below_drewN ?_ _ | refine Below.alloc' ?_ _ | (refine Below.setCell ?_ (by first | omega | (simp; done) | (simp; omega) | exact Below.size (by assumption) | exact Nat.le_trans (Below.size (by assumption)) (by simp)) _) | (refine Below.via' ?_ (by assumption)) | (refine Below.alloc ?_ (by first | omega | (simp; done) | (simp; omega) | exact Below.size (by assumption) | exact Nat.le_trans (Below.size (by assumption)) (by simp)) _) | (refine Below.via ?_ (by assumption) (by first | omega | (simp; done) | (simp; omega) | exact Below.size (by assumption) | exact Nat.le_trans (Below.size (by assumption)) (by simp)))))))
  obtain ⟨hWa11, hWb11, hWc11⟩ := hW_11.out
  try clear hWa9 hWb9 hWc9
  have hxU_11 := Lib.hid (hxU_9.out.below (show Below w9.heap.size w9 w11 from (by repeat (first | exact Below.refl _ _ | assumption | refine Below.drew ?_ | refine below_drewN ?_ _ | refine Below.alloc' ?_ _ | (refine Below.setCell ?_ (by first | omega | (simp; done) | (simp; omega) | exact Below.size (by assumption) | exact Nat.le_trans (Below.size (by assumption)) (by simp)) _) | (refine Below.via' ?_ (by assumption)) | (refine Below.alloc ?_ (by first | omega | (simp; done) | (simp; omega) | exact Below.size (by assumption) | exact Nat.le_trans (Below.size (by assumption)) (by simp)) _) | (refine Below.via ?_ (by assumption) (by first | omega | (simp; done) | (simp; omega) | exact Below.size (by assumption) | exact Nat.le_trans (Below.size (by assumption)) (by simp)))))))
  obtain ⟨hxUa11, hxUb11, hxUc11⟩ := hxU_11.out
  try clear hxUa9 hxUb9 hxUc9
  have hxY_11 := Lib.hid (hxY_9.out.below (show Below w9.heap.size w9 w11 from (by repeat (first | exact Below.refl _ _ | assumption | refine Below.drew ?_ | refine below_drewN ?_ _ | refine Below.alloc' ?_ _ | (refine Below.setCell ?_ (by first | omega | (simp; done) | (simp; omega) | exact Below.size (by assumption) | exact Nat.le_trans (Below.size (by assumption)) (by simp)) _) | (refine Below.via' ?_ (by assumption)) | (refine Below.alloc ?_ (by first | omega | (simp; done) | (simp; omega) | exact Below.size (by assumption) | exact Nat.le_trans (Below.size (by assumption)) (by simp)) _) | (refine Below.via ?_ (by assumption) (by first | omega | (simp; done) | (simp; omega) | exact Below.size (by assumption) | exact Nat.le_trans (Below.size (by assumption)) (by simp)))))))
  obtain ⟨hxYa11, hxYb11, hxYc11⟩ := hxY_11.out
  try clear hxYa9 hxYb9 hxYc9
  have hG_11 := Lib.hid (hG_9.out.below (show Below w9.heap.size w9 w11 from (by repeat (first | exact Below.refl _ _ | assumption | refine Below.drew ?_ | refine below_drewN ?_ _ | refine Below.alloc' ?_ _ | (refine Below.setCell ?_ (by first | omega | (simp; done) | (simp; omega) | exact Below.size (by assumption) | exact Nat.le_trans (Below.size (by assumption)) (by simp)) _) | (refine Below.via' ?_ (by assumption)) | (refine Below.alloc ?_ (by first | omega | (simp; done) | (simp; omega) | exact Below.size (by assumption) | exact Nat.le_trans (Below.size (by assumption)) (by simp)) _) | (refine Below.via ?_ (by assumption) (by first | omega | (simp; done) | (simp; omega) | exact Below.size (by assumption) | exact Nat.le_trans (Below.size (by assumption)) (by simp)))))))
  obtain ⟨hGa11, hGb11, hGc11⟩ := hG_11.out
  try clear hGa9 hGb9 hGc9
  go_wp2_with fail
  go_region_held3 (fun w' => Below (w11).heap.size (w11) w' ∧ (∀ b o, b < (w11).heap.size → w'.cell? ⟨b, o, none⟩ = (w11).cell? ⟨b, o, none⟩)) (first | exact keep_of (Below.refl _ _) | ((try go_split_ands); exact keep_of (by repeat (first | exact Below.refl _ _ | assumption | refine Below.drew ?_ | refine below_drewN ?_ _ | refine Below.alloc' ?_ _ | (refine Below.setCell ?_ (by first | omega | (simp; done) | (simp; omega) | exact Below.size (by assumption) | exact Nat.le_trans (Below.size (by assumption)) (by simp)) _) | (refine Below.via' ?_ (by assumption)) | (refine Below.alloc ?_ (by first | omega | (simp; done) | (simp; omega) | exact Below.size (by assumption) | exact Nat.le_trans (Below.size (by assumption)) (by simp)) _) | (refine Below.via ?_ (by assumption) (by first | omega | (simp; done) | (simp; omega) | exact Below.size (by assumption) | exact Nat.le_trans (Below.size (by assumption)) (by simp))))))) (first | (go_at_call 16; refine (toCube_any xY zY cY dY YF YW _ hmYF hmYW (hYF.out.below (by exact (by repeat (first | exact Below.refl _ _ | assumption | refine Below.drew ?_ | refine below_drewN ?_ _ | refine Below.alloc' ?_ _ | (refine Below.setCell ?_ (by first | omega | (simp; done) | (simp; omega) | exact Below.size (by assumption) | exact Nat.le_trans (Below.size (by assumption)) (by simp)) _) | (refine Below.via' ?_ (by assumption)) | (refine Below.alloc ?_ (by first | omega | (simp; done) | (simp; omega) | exact Below.size (by assumption) | exact Nat.le_trans (Below.size (by assumption)) (by simp)) _) | (refine Below.via ?_ (by assumption) (by first | omega | (simp; done) | (simp; omega) | exact Below.size (by assumption) | exact Nat.le_trans (Below.size (by assumption)) (by simp))))))) (hYW.out.below (by exact (by repeat (first | exact Below.refl _ _ | assumption | refine Below.drew ?_ | refine below_drewN ?_ _ | refine Below.alloc' ?_ _ | (refine Below.setCell ?_ (by first | omega | (simp; done) | (simp; omega) | exact Below.size (by assumption) | exact Nat.le_trans (Below.size (by assumption)) (by simp)) _) | (refine Below.via' ?_ (by assumption)) | (refine Below.alloc ?_ (by first | omega | (simp; done) | (simp; omega) | exact Below.size (by assumption) | exact Nat.le_trans (Below.size (by assumption)) (by simp)) _) | (refine Below.via ?_ (by assumption) (by first | omega | (simp; done) | (simp; omega) | exact Below.size (by assumption) | exact Nat.le_trans (Below.size (by assumption)) (by simp)))))))).mono ?_; rintro e w12 ⟨g12, f12, rfl, ho12, hb12⟩; (have hi12 : Hid (CIn w12 (some ⟨g12, 0, none⟩) (some ⟨f12, 0, none⟩) YF YW) := Lib.hid (CIn.of_owC ho12 hmYF hmYW hnYF.out hnYW.out))) | (go_at_call 18; refine (eqCube_any _ _ _ _ YF YW _ hlYF hlYW ((hi7.out.below (by exact (by repeat (first | exact Below.refl _ _ | assumption | refine Below.drew ?_ | refine below_drewN ?_ _ | refine Below.alloc' ?_ _ | (refine Below.setCell ?_ (by first | omega | (simp; done) | (simp; omega) | exact Below.size (by assumption) | exact Nat.le_trans (Below.size (by assumption)) (by simp)) _) | (refine Below.via' ?_ (by assumption)) | (refine Below.alloc ?_ (by first | omega | (simp; done) | (simp; omega) | exact Below.size (by assumption) | exact Nat.le_trans (Below.size (by assumption)) (by simp)) _) | (refine Below.via ?_ (by assumption) (by first | omega | (simp; done) | (simp; omega) | exact Below.size (by assumption) | exact Nat.le_trans (Below.size (by assumption)) (by simp))))))).rds) ((hi12.out.below (by exact (by repeat (first | exact Below.refl _ _ | assumption | refine Below.drew ?_ | refine below_drewN ?_ _ | refine Below.alloc' ?_ _ | (refine Below.setCell ?_ (by first | omega | (simp; done) | (simp; omega) | exact Below.size (by assumption) | exact Nat.le_trans (Below.size (by assumption)) (by simp)) _) | (refine Below.via' ?_ (by assumption)) | (refine Below.alloc ?_ (by first | omega | (simp; done) | (simp; omega) | exact Below.size (by assumption) | exact Nat.le_trans (Below.size (by assumption)) (by simp)) _) | (refine Below.via ?_ (by assumption) (by first | omega | (simp; done) | (simp; omega) | exact Below.size (by assumption) | exact Nat.le_trans (Below.size (by assumption)) (by simp))))))).rds)).mono ?_; rintro e w13 ⟨rfl, hb13⟩)); rename_i hH; obtain ⟨hb13, hcl13⟩ := hH; have hz13 := hb13.size; (try simp at hz13); (try (have hly13 := Nat.lt_of_succ_le hz13)); (try (have hlx13 := Nat.lt_of_succ_lt hly13)); (try (have hlw13 := Nat.lt_of_succ_lt hlx13)); (try (have hle13 := Nat.le_of_lt hly13)); (try (have hya13 : w.heap.size < w13.heap.size := by omega)); (try (have hyb13 : w.heap.size + 1 < w13.heap.size := by omega)); (try (have hyc13 : w.heap.size + 1 + 1 < w13.heap.size := by omega)); (try (have hyd13 : wa.heap.size < w13.heap.size := by omega))
  have hkU_13 := Lib.hid (hkU_11.out.below (show Below w11.heap.size w11 w13 from (by repeat (first | exact Below.refl _ _ | assumption | refine Below.drew ?_ | refine below_drewN ?_ _ | refine Below.alloc' ?_ _ | (refine Below.setCell ?_ (by first | omega | (simp; done) | (simp; omega) | exact Below.size (by assumption) | exact Nat.le_trans (Below.size (by assumption)) (by simp)) _) | (refine Below.via' ?_ (by assumption)) | (refine Below.alloc ?_ (by first | omega | (simp; done) | (simp; omega) | exact Below.size (by assumption) | exact Nat.le_trans (Below.size (by assumption)) (by simp)) _) | (refine Below.via ?_ (by assumption) (by first | omega | (simp; done) | (simp; omega) | exact Below.size (by assumption) | exact Nat.le_trans (Below.size (by assumption)) (by simp)))))))
  obtain ⟨hkUa13, hkUb13, hkUc13⟩ := hkU_13.out
  try clear hkUa11 hkUb11 hkUc11
  have hkY_13 := Lib.hid (hkY_11.out.below (show Below w11.heap.size w11 w13 from (by repeat (first | exact Below.refl _ _ | assumption | refine Below.drew ?_ | refine below_drewN ?_ _ | refine Below.alloc' ?_ _ | (refine Below.setCell ?_ (by first | omega | (simp; done) | (simp; omega) | exact Below.size (by assumption) | exact Nat.le_trans (Below.size (by assumption)) (by simp)) _) | (refine Below.via' ?_ (by assumption)) | (refine Below.alloc ?_ (by first | omega | (simp; done) | (simp; omega) | exact Below.size (by assumption) | exact Nat.le_trans (Below.size (by assumption)) (by simp)) _) | (refine Below.via ?_ (by assumption) (by first | omega | (simp; done) | (simp; omega) | exact Below.size (by assumption) | exact Nat.le_trans (Below.size (by assumption)) (by simp)))))))
  obtain ⟨hkYa13, hkYb13, hkYc13⟩ := hkY_13.out
  try clear hkYa11 hkYb11 hkYc11
  have hW_13 := Lib.hid (hW_11.out.below (show Below w11.heap.size w11 w13 from (by repeat (first | exact Below.refl _ _ | assumption | refine Below.drew ?_ | refine below_drewN ?_ _ | refine Below.alloc' ?_ _ | (refine Below.setCell ?_ (by first | omega | (simp; done) | (simp; omega) | exact Below.size (by assumption) | exact Nat.le_trans (Below.size (by assumption)) (by simp)) _) | (refine Below.via' ?_ (by assumption)) | (refine Below.alloc ?_ (by first | omega | (simp; done) | (simp; omega) | exact Below.size (by assumption) | exact Nat.le_trans (Below.size (by assumption)) (by simp)) _) | (refine Below.via ?_ (by assumption) (by first | omega | (simp; done) | (simp; omega) | exact Below.size (by assumption) | exact Nat.le_trans (Below.size (by assumption)) (by simp)))))))
  obtain ⟨hWa13, hWb13, hWc13⟩ := hW_13.out
  try clear hWa11 hWb11 hWc11
  have hxU_13 := Lib.hid (hxU_11.out.below (show Below w11.heap.size w11 w13 from (by repeat (first | exact Below.refl _ _ | assumption | refine Below.drew ?_ | refine below_drewN ?_ _ | refine Below.alloc' ?_ _ | (refine Below.setCell ?_ (by first | omega | (simp; done) | (simp; omega) | exact Below.size (by assumption) | exact Nat.le_trans (Below.size (by assumption)) (by simp)) _) | (refine Below.via' ?_ (by assumption)) | (refine Below.alloc ?_ (by first | omega | (simp; done) | (simp; omega) | exact Below.size (by assumption) | exact Nat.le_trans (Below.size (by assumption)) (by simp)) _) | (refine Below.via ?_ (by assumption) (by first | omega | (simp; done) | (simp; omega) | exact Below.size (by assumption) | exact Nat.le_trans (Below.size (by assumption)) (by simp)))))))
  obtain ⟨hxUa13, hxUb13, hxUc13⟩ := hxU_13.out
  try clear hxUa11 hxUb11 hxUc11
  have hxY_13 := Lib.hid (hxY_11.out.below (show Below w11.heap.size w11 w13 from (by repeat (first | exact Below.refl _ _ | assumption | refine Below.drew ?_ | refine below_drewN ?_ _ | refine Below.alloc' ?_ _ | (refine Below.setCell ?_ (by first | omega | (simp; done) | (simp; omega) | exact Below.size (by assumption) | exact Nat.le_trans (Below.size (by assumption)) (by simp)) _) | (refine Below.via' ?_ (by assumption)) | (refine Below.alloc ?_ (by first | omega | (simp; done) | (simp; omega) | exact Below.size (by assumption) | exact Nat.le_trans (Below.size (by assumption)) (by simp)) _) | (refine Below.via ?_ (by assumption) (by first | omega | (simp; done) | (simp; omega) | exact Below.size (by assumption) | exact Nat.le_trans (Below.size (by assumption)) (by simp)))))))
  obtain ⟨hxYa13, hxYb13, hxYc13⟩ := hxY_13.out
  try clear hxYa11 hxYb11 hxYc11
  have hG_13 := Lib.hid (hG_11.out.below (show Below w11.heap.size w11 w13 from (by repeat (first | exact Below.refl _ _ | assumption | refine Below.drew ?_ | refine below_drewN ?_ _ | refine Below.alloc' ?_ _ | (refine Below.setCell ?_ (by first | omega | (simp; done) | (simp; omega) | exact Below.size (by assumption) | exact Nat.le_trans (Below.size (by assumption)) (by simp)) _) | (refine Below.via' ?_ (by assumption)) | (refine Below.alloc ?_ (by first | omega | (simp; done) | (simp; omega) | exact Below.size (by assumption) | exact Nat.le_trans (Below.size (by assumption)) (by simp)) _) | (refine Below.via ?_ (by assumption) (by first | omega | (simp; done) | (simp; omega) | exact Below.size (by assumption) | exact Nat.le_trans (Below.size (by assumption)) (by simp)))))))
  obtain ⟨hGa13, hGb13, hGc13⟩ := hG_13.out
  try clear hGa11 hGb11 hGc11
  have cc0 : w.heap.size ≤ w5.heap.size := (show Below w.heap.size w w5 from (by repeat (first | exact Below.refl _ _ | assumption | refine Below.drew ?_ | refine below_drewN ?_ _ | refine Below.alloc' ?_ _ | (refine Below.setCell ?_ (by first | omega | (simp; done) | (simp; omega) | exact Below.size (by assumption) | exact Nat.le_trans (Below.size (by assumption)) (by simp)) _) | (refine Below.via' ?_ (by assumption)) | (refine Below.alloc ?_ (by first | omega | (simp; done) | (simp; omega) | exact Below.size (by assumption) | exact Nat.le_trans (Below.size (by assumption)) (by simp)) _) | (refine Below.via ?_ (by assumption) (by first | omega | (simp; done) | (simp; omega) | exact Below.size (by assumption) | exact Nat.le_trans (Below.size (by assumption)) (by simp)))))).size
  have cck : w2.heap.size ≤ w5.heap.size := hb5.size
  have cc1 : w5.heap.size ≤ w6.heap.size := (show Below w5.heap.size w5 w6 from (by repeat (first | exact Below.refl _ _ | assumption | refine Below.drew ?_ | refine below_drewN ?_ _ | refine Below.alloc' ?_ _ | (refine Below.setCell ?_ (by first | omega | (simp; done) | (simp; omega) | exact Below.size (by assumption) | exact Nat.le_trans (Below.size (by assumption)) (by simp)) _) | (refine Below.via' ?_ (by assumption)) | (refine Below.alloc ?_ (by first | omega | (simp; done) | (simp; omega) | exact Below.size (by assumption) | exact Nat.le_trans (Below.size (by assumption)) (by simp)) _) | (refine Below.via ?_ (by assumption) (by first | omega | (simp; done) | (simp; omega) | exact Below.size (by assumption) | exact Nat.le_trans (Below.size (by assumption)) (by simp)))))).size
  have cc2 : w6.heap.size ≤ w7.heap.size := (show Below w6.heap.size w6 w7 from (by repeat (first | exact Below.refl _ _ | assumption | refine Below.drew ?_ | refine below_drewN ?_ _ | refine Below.alloc' ?_ _ | (refine Below.setCell ?_ (by first | omega | (simp; done) | (simp; omega) | exact Below.size (by assumption) | exact Nat.le_trans (Below.size (by assumption)) (by simp)) _) | (refine Below.via' ?_ (by assumption)) | (refine Below.alloc ?_ (by first | omega | (simp; done) | (simp; omega) | exact Below.size (by assumption) | exact Nat.le_trans (Below.size (by assumption)) (by simp)) _) | (refine Below.via ?_ (by assumption) (by first | omega | (simp; done) | (simp; omega) | exact Below.size (by assumption) | exact Nat.le_trans (Below.size (by assumption)) (by simp)))))).size
  have cc3 : w7.heap.size ≤ w8.heap.size := (show Below w7.heap.size w7 w8 from (by repeat (first | exact Below.refl _ _ | assumption | refine Below.drew ?_ | refine below_drewN ?_ _ | refine Below.alloc' ?_ _ | (refine Below.setCell ?_ (by first | omega | (simp; done) | (simp; omega) | exact Below.size (by assumption) | exact Nat.le_trans (Below.size (by assumption)) (by simp)) _) | (refine Below.via' ?_ (by assumption)) | (refine Below.alloc ?_ (by first | omega | (simp; done) | (simp; omega) | exact Below.size (by assumption) | exact Nat.le_trans (Below.size (by assumption)) (by simp)) _) | (refine Below.via ?_ (by assumption) (by first | omega | (simp; done) | (simp; omega) | exact Below.size (by assumption) | exact Nat.le_trans (Below.size (by assumption)) (by simp)))))).size
  have cc4 : w8.heap.size ≤ w13.heap.size := (show Below w8.heap.size w8 w13 from (by repeat (first | exact Below.refl _ _ | assumption | refine Below.drew ?_ | refine below_drewN ?_ _ | refine Below.alloc' ?_ _ | (refine Below.setCell ?_ (by first | omega | (simp; done) | (simp; omega) | exact Below.size (by assumption) | exact Nat.le_trans (Below.size (by assumption)) (by simp)) _) | (refine Below.via' ?_ (by assumption)) | (refine Below.alloc ?_ (by first | omega | (simp; done) | (simp; omega) | exact Below.size (by assumption) | exact Nat.le_trans (Below.size (by assumption)) (by simp)) _) | (refine Below.via ?_ (by assumption) (by first | omega | (simp; done) | (simp; omega) | exact Below.size (by assumption) | exact Nat.le_trans (Below.size (by assumption)) (by simp)))))).size
  have XU_13 := ho6.below (show Below w6.heap.size w6 w13 from (by repeat (first | exact Below.refl _ _ | assumption | refine Below.drew ?_ | refine below_drewN ?_ _ | refine Below.alloc' ?_ _ | (refine Below.setCell ?_ (by first | omega | (simp; done) | (simp; omega) | exact Below.size (by assumption) | exact Nat.le_trans (Below.size (by assumption)) (by simp)) _) | (refine Below.via' ?_ (by assumption)) | (refine Below.alloc ?_ (by first | omega | (simp; done) | (simp; omega) | exact Below.size (by assumption) | exact Nat.le_trans (Below.size (by assumption)) (by simp)) _) | (refine Below.via ?_ (by assumption) (by first | omega | (simp; done) | (simp; omega) | exact Below.size (by assumption) | exact Nat.le_trans (Below.size (by assumption)) (by simp))))))
  have XY_13 := ho7.below (show Below w7.heap.size w7 w13 from (by repeat (first | exact Below.refl _ _ | assumption | refine Below.drew ?_ | refine below_drewN ?_ _ | refine Below.alloc' ?_ _ | (refine Below.setCell ?_ (by first | omega | (simp; done) | (simp; omega) | exact Below.size (by assumption) | exact Nat.le_trans (Below.size (by assumption)) (by simp)) _) | (refine Below.via' ?_ (by assumption)) | (refine Below.alloc ?_ (by first | omega | (simp; done) | (simp; omega) | exact Below.size (by assumption) | exact Nat.le_trans (Below.size (by assumption)) (by simp)) _) | (refine Below.via ?_ (by assumption) (by first | omega | (simp; done) | (simp; omega) | exact Below.size (by assumption) | exact Nat.le_trans (Below.size (by assumption)) (by simp))))))
  have R_13 := RO8.out.below (show Below w8.heap.size w8 w13 from (by repeat (first | exact Below.refl _ _ | assumption | refine Below.drew ?_ | refine below_drewN ?_ _ | refine Below.alloc' ?_ _ | (refine Below.setCell ?_ (by first | omega | (simp; done) | (simp; omega) | exact Below.size (by assumption) | exact Nat.le_trans (Below.size (by assumption)) (by simp)) _) | (refine Below.via' ?_ (by assumption)) | (refine Below.alloc ?_ (by first | omega | (simp; done) | (simp; omega) | exact Below.size (by assumption) | exact Nat.le_trans (Below.size (by assumption)) (by simp)) _) | (refine Below.via ?_ (by assumption) (by first | omega | (simp; done) | (simp; omega) | exact Below.size (by assumption) | exact Nat.le_trans (Below.size (by assumption)) (by simp))))))
  have W_13 := hoA5.below (show Below w5.heap.size w5 w13 from (by repeat (first | exact Below.refl _ _ | assumption | refine Below.drew ?_ | refine below_drewN ?_ _ | refine Below.alloc' ?_ _ | (refine Below.setCell ?_ (by first | omega | (simp; done) | (simp; omega) | exact Below.size (by assumption) | exact Nat.le_trans (Below.size (by assumption)) (by simp)) _) | (refine Below.via' ?_ (by assumption)) | (refine Below.alloc ?_ (by first | omega | (simp; done) | (simp; omega) | exact Below.size (by assumption) | exact Nat.le_trans (Below.size (by assumption)) (by simp)) _) | (refine Below.via ?_ (by assumption) (by first | omega | (simp; done) | (simp; omega) | exact Below.size (by assumption) | exact Nat.le_trans (Below.size (by assumption)) (by simp))))))
  have B0 : Below w.heap.size w w13 := (by repeat (first | exact Below.refl _ _ | assumption | refine Below.drew ?_ | refine below_drewN ?_ _ | refine Below.alloc' ?_ _ | (refine Below.setCell ?_ (by first | omega | (simp; done) | (simp; omega) | exact Below.size (by assumption) | exact Nat.le_trans (Below.size (by assumption)) (by simp)) _) | (refine Below.via' ?_ (by assumption)) | (refine Below.alloc ?_ (by first | omega | (simp; done) | (simp; omega) | exact Below.size (by assumption) | exact Nat.le_trans (Below.size (by assumption)) (by simp)) _) | (refine Below.via ?_ (by assumption) (by first | omega | (simp; done) | (simp; omega) | exact Below.size (by assumption) | exact Nat.le_trans (Below.size (by assumption)) (by simp)))))
  go_wp2_with fail
  refine (markCube_any _ _ _ _ _ UF UW _ _ _ (by omega) (by omega) hmUF hmUW XU_13).mono ?_
  rintro e w14 ⟨rfl, -, hg14⟩
  have B14 := Below.off B0 hg14 (by omega)
  have hkU_14 := Lib.hid (hkU_13.out.off hg14 (by omega))
  obtain ⟨hkUa14, hkUb14, hkUc14⟩ := hkU_14.out
  try clear hkUa13 hkUb13 hkUc13
  have hkY_14 := Lib.hid (hkY_13.out.off hg14 (by omega))
  obtain ⟨hkYa14, hkYb14, hkYc14⟩ := hkY_14.out
  try clear hkYa13 hkYb13 hkYc13
  have hW_14 := Lib.hid (hW_13.out.off hg14 (by omega))
  obtain ⟨hWa14, hWb14, hWc14⟩ := hW_14.out
  try clear hWa13 hWb13 hWc13
  have hxU_14 := Lib.hid (hxU_13.out.off hg14 (by omega))
  obtain ⟨hxUa14, hxUb14, hxUc14⟩ := hxU_14.out
  try clear hxUa13 hxUb13 hxUc13
  have hxY_14 := Lib.hid (hxY_13.out.off hg14 (by omega))
  obtain ⟨hxYa14, hxYb14, hxYc14⟩ := hxY_14.out
  try clear hxYa13 hxYb13 hxYc13
  have hG_14 := Lib.hid (hG_13.out.off hg14 (by omega))
  obtain ⟨hGa14, hGb14, hGc14⟩ := hG_14.out
  try clear hGa13 hGb13 hGc13
  have XY_14 := XY_13.off hg14 (by omega)
  have R_14 := R_13.off hg14 (by omega)
  have W_14 := W_13.off hg14 (by omega)
  go_wp2_with fail
  refine (markCube_any _ _ _ _ _ YF YW _ _ _ (by omega) (by omega) hmYF hmYW XY_14).mono ?_
  rintro e w15 ⟨rfl, -, hg15⟩
  have B15 := Below.off B14 hg15 (by omega)
  have hkU_15 := Lib.hid (hkU_14.out.off hg15 (by omega))
  obtain ⟨hkUa15, hkUb15, hkUc15⟩ := hkU_15.out
  try clear hkUa14 hkUb14 hkUc14
  have hkY_15 := Lib.hid (hkY_14.out.off hg15 (by omega))
  obtain ⟨hkYa15, hkYb15, hkYc15⟩ := hkY_15.out
  try clear hkYa14 hkYb14 hkYc14
  have hW_15 := Lib.hid (hW_14.out.off hg15 (by omega))
  obtain ⟨hWa15, hWb15, hWc15⟩ := hW_15.out
  try clear hWa14 hWb14 hWc14
  have hxU_15 := Lib.hid (hxU_14.out.off hg15 (by omega))
  obtain ⟨hxUa15, hxUb15, hxUc15⟩ := hxU_15.out
  try clear hxUa14 hxUb14 hxUc14
  have hxY_15 := Lib.hid (hxY_14.out.off hg15 (by omega))
  obtain ⟨hxYa15, hxYb15, hxYc15⟩ := hxY_15.out
  try clear hxYa14 hxYb14 hxYc14
  have hG_15 := Lib.hid (hG_14.out.off hg15 (by omega))
  obtain ⟨hGa15, hGb15, hGc15⟩ := hG_15.out
  try clear hGa14 hGb14 hGc14
  have R_15 := R_14.off hg15 (by omega)
  have W_15 := W_14.off hg15 (by omega)
  have hkk : ¬ (1 + (UF.length : Int) + (UW.length : Int) + (YF.length : Int) + (YW.length : Int) < 0) := by omega
  go_wp2_with fail
  refine (eqCube_any _ _ _ _ RR.1 RR.2 _ (by omega) (by omega) ((R_15.below (by exact (by repeat (first | exact Below.refl _ _ | assumption | refine Below.drew ?_ | refine below_drewN ?_ _ | refine Below.alloc' ?_ _ | (refine Below.setCell ?_ (by first | omega | (simp; done) | (simp; omega) | exact Below.size (by assumption) | exact Nat.le_trans (Below.size (by assumption)) (by simp)) _) | (refine Below.via' ?_ (by assumption)) | (refine Below.alloc ?_ (by first | omega | (simp; done) | (simp; omega) | exact Below.size (by assumption) | exact Nat.le_trans (Below.size (by assumption)) (by simp)) _) | (refine Below.via ?_ (by assumption) (by first | omega | (simp; done) | (simp; omega) | exact Below.size (by assumption) | exact Nat.le_trans (Below.size (by assumption)) (by simp))))))).rd) ((W_15.below (by exact (by repeat (first | exact Below.refl _ _ | assumption | refine Below.drew ?_ | refine below_drewN ?_ _ | refine Below.alloc' ?_ _ | (refine Below.setCell ?_ (by first | omega | (simp; done) | (simp; omega) | exact Below.size (by assumption) | exact Nat.le_trans (Below.size (by assumption)) (by simp)) _) | (refine Below.via' ?_ (by assumption)) | (refine Below.alloc ?_ (by first | omega | (simp; done) | (simp; omega) | exact Below.size (by assumption) | exact Nat.le_trans (Below.size (by assumption)) (by simp)) _) | (refine Below.via ?_ (by assumption) (by first | omega | (simp; done) | (simp; omega) | exact Below.size (by assumption) | exact Nat.le_trans (Below.size (by assumption)) (by simp))))))).rd)).mono ?_
  rintro e w16 ⟨rfl, hb16⟩
  have hkU_16 := Lib.hid (hkU_15.out.below (show Below w15.heap.size w15 w16 from (by repeat (first | exact Below.refl _ _ | assumption | refine Below.drew ?_ | refine below_drewN ?_ _ | refine Below.alloc' ?_ _ | (refine Below.setCell ?_ (by first | omega | (simp; done) | (simp; omega) | exact Below.size (by assumption) | exact Nat.le_trans (Below.size (by assumption)) (by simp)) _) | (refine Below.via' ?_ (by assumption)) | (refine Below.alloc ?_ (by first | omega | (simp; done) | (simp; omega) | exact Below.size (by assumption) | exact Nat.le_trans (Below.size (by assumption)) (by simp)) _) | (refine Below.via ?_ (by assumption) (by first | omega | (simp; done) | (simp; omega) | exact Below.size (by assumption) | exact Nat.le_trans (Below.size (by assumption)) (by simp)))))))
  obtain ⟨hkUa16, hkUb16, hkUc16⟩ := hkU_16.out
  try clear hkUa15 hkUb15 hkUc15
  have hkY_16 := Lib.hid (hkY_15.out.below (show Below w15.heap.size w15 w16 from (by repeat (first | exact Below.refl _ _ | assumption | refine Below.drew ?_ | refine below_drewN ?_ _ | refine Below.alloc' ?_ _ | (refine Below.setCell ?_ (by first | omega | (simp; done) | (simp; omega) | exact Below.size (by assumption) | exact Nat.le_trans (Below.size (by assumption)) (by simp)) _) | (refine Below.via' ?_ (by assumption)) | (refine Below.alloc ?_ (by first | omega | (simp; done) | (simp; omega) | exact Below.size (by assumption) | exact Nat.le_trans (Below.size (by assumption)) (by simp)) _) | (refine Below.via ?_ (by assumption) (by first | omega | (simp; done) | (simp; omega) | exact Below.size (by assumption) | exact Nat.le_trans (Below.size (by assumption)) (by simp)))))))
  obtain ⟨hkYa16, hkYb16, hkYc16⟩ := hkY_16.out
  try clear hkYa15 hkYb15 hkYc15
  have hW_16 := Lib.hid (hW_15.out.below (show Below w15.heap.size w15 w16 from (by repeat (first | exact Below.refl _ _ | assumption | refine Below.drew ?_ | refine below_drewN ?_ _ | refine Below.alloc' ?_ _ | (refine Below.setCell ?_ (by first | omega | (simp; done) | (simp; omega) | exact Below.size (by assumption) | exact Nat.le_trans (Below.size (by assumption)) (by simp)) _) | (refine Below.via' ?_ (by assumption)) | (refine Below.alloc ?_ (by first | omega | (simp; done) | (simp; omega) | exact Below.size (by assumption) | exact Nat.le_trans (Below.size (by assumption)) (by simp)) _) | (refine Below.via ?_ (by assumption) (by first | omega | (simp; done) | (simp; omega) | exact Below.size (by assumption) | exact Nat.le_trans (Below.size (by assumption)) (by simp)))))))
  obtain ⟨hWa16, hWb16, hWc16⟩ := hW_16.out
  try clear hWa15 hWb15 hWc15
  have hG_16 := Lib.hid (hG_15.out.below (show Below w15.heap.size w15 w16 from (by repeat (first | exact Below.refl _ _ | assumption | refine Below.drew ?_ | refine below_drewN ?_ _ | refine Below.alloc' ?_ _ | (refine Below.setCell ?_ (by first | omega | (simp; done) | (simp; omega) | exact Below.size (by assumption) | exact Nat.le_trans (Below.size (by assumption)) (by simp)) _) | (refine Below.via' ?_ (by assumption)) | (refine Below.alloc ?_ (by first | omega | (simp; done) | (simp; omega) | exact Below.size (by assumption) | exact Nat.le_trans (Below.size (by assumption)) (by simp)) _) | (refine Below.via ?_ (by assumption) (by first | omega | (simp; done) | (simp; omega) | exact Below.size (by assumption) | exact Nat.le_trans (Below.size (by assumption)) (by simp)))))))
  obtain ⟨hGa16, hGb16, hGc16⟩ := hG_16.out
  try clear hGa15 hGb15 hGc15
  have R_16 := R_15.below (show Below w15.heap.size w15 w16 from (by repeat (first | exact Below.refl _ _ | assumption | refine Below.drew ?_ | refine below_drewN ?_ _ | refine Below.alloc' ?_ _ | (refine Below.setCell ?_ (by first | omega | (simp; done) | (simp; omega) | exact Below.size (by assumption) | exact Nat.le_trans (Below.size (by assumption)) (by simp)) _) | (refine Below.via' ?_ (by assumption)) | (refine Below.alloc ?_ (by first | omega | (simp; done) | (simp; omega) | exact Below.size (by assumption) | exact Nat.le_trans (Below.size (by assumption)) (by simp)) _) | (refine Below.via ?_ (by assumption) (by first | omega | (simp; done) | (simp; omega) | exact Below.size (by assumption) | exact Nat.le_trans (Below.size (by assumption)) (by simp))))))
  have W_16 := W_15.below (show Below w15.heap.size w15 w16 from (by repeat (first | exact Below.refl _ _ | assumption | refine Below.drew ?_ | refine below_drewN ?_ _ | refine Below.alloc' ?_ _ | (refine Below.setCell ?_ (by first | omega | (simp; done) | (simp; omega) | exact Below.size (by assumption) | exact Nat.le_trans (Below.size (by assumption)) (by simp)) _) | (refine Below.via' ?_ (by assumption)) | (refine Below.alloc ?_ (by first | omega | (simp; done) | (simp; omega) | exact Below.size (by assumption) | exact Nat.le_trans (Below.size (by assumption)) (by simp)) _) | (refine Below.via ?_ (by assumption) (by first | omega | (simp; done) | (simp; omega) | exact Below.size (by assumption) | exact Nat.le_trans (Below.size (by assumption)) (by simp))))))
  have B16 : Below w.heap.size w w16 := (by repeat (first | exact Below.refl _ _ | assumption | refine Below.drew ?_ | refine below_drewN ?_ _ | refine Below.alloc' ?_ _ | (refine Below.setCell ?_ (by first | omega | (simp; done) | (simp; omega) | exact Below.size (by assumption) | exact Nat.le_trans (Below.size (by assumption)) (by simp)) _) | (refine Below.via' ?_ (by assumption)) | (refine Below.alloc ?_ (by first | omega | (simp; done) | (simp; omega) | exact Below.size (by assumption) | exact Nat.le_trans (Below.size (by assumption)) (by simp)) _) | (refine Below.via ?_ (by assumption) (by first | omega | (simp; done) | (simp; omega) | exact Below.size (by assumption) | exact Nat.le_trans (Below.size (by assumption)) (by simp)))))
  go_wp2_with fail
  refine (markCubeU_any _ _ _ _ _ RR.1 RR.2 _ _ _ (by omega) (by omega) hRF hRW R_16).mono ?_
  rintro e w17 ⟨rfl, hmF17, hmW17, hg17⟩
  have B17 := Below.off B16 hg17 (by omega)
  have hkU_17 := Lib.hid (hkU_16.out.off hg17 (by omega))
  obtain ⟨hkUa17, hkUb17, hkUc17⟩ := hkU_17.out
  try clear hkUa16 hkUb16 hkUc16
  have hkY_17 := Lib.hid (hkY_16.out.off hg17 (by omega))
  obtain ⟨hkYa17, hkYb17, hkYc17⟩ := hkY_17.out
  try clear hkYa16 hkYb16 hkYc16
  have hW_17 := Lib.hid (hW_16.out.off hg17 (by omega))
  obtain ⟨hWa17, hWb17, hWc17⟩ := hW_17.out
  try clear hWa16 hWb16 hWc16
  have hG_17 := Lib.hid (hG_16.out.off hg17 (by omega))
  obtain ⟨hGa17, hGb17, hGc17⟩ := hG_17.out
  try clear hGa16 hGb16 hGc16
  have W_17 := Lib.hid (W_16.off hg17 (by omega))
  have MF17 := Lib.hid hmF17
  have MW17 := Lib.hid hmW17
  clear hmF17 hmW17
  have hkq : ¬ (1 + (RR.1.length : Int) + (RR.2.length : Int) < 0) := by omega
  go_wp2_with fail
  refine (heldCube_any _ _ _ _ _ _ _ _ (by omega) (by omega) hRF hRW (MF17.out.below (by exact (by repeat (first | exact Below.refl _ _ | assumption | refine Below.drew ?_ | refine below_drewN ?_ _ | refine Below.alloc' ?_ _ | (refine Below.setCell ?_ (by first | omega | (simp; done) | (simp; omega) | exact Below.size (by assumption) | exact Nat.le_trans (Below.size (by assumption)) (by simp)) _) | (refine Below.via' ?_ (by assumption)) | (refine Below.alloc ?_ (by first | omega | (simp; done) | (simp; omega) | exact Below.size (by assumption) | exact Nat.le_trans (Below.size (by assumption)) (by simp)) _) | (refine Below.via ?_ (by assumption) (by first | omega | (simp; done) | (simp; omega) | exact Below.size (by assumption) | exact Nat.le_trans (Below.size (by assumption)) (by simp))))))) (MW17.out.below (by exact (by repeat (first | exact Below.refl _ _ | assumption | refine Below.drew ?_ | refine below_drewN ?_ _ | refine Below.alloc' ?_ _ | (refine Below.setCell ?_ (by first | omega | (simp; done) | (simp; omega) | exact Below.size (by assumption) | exact Nat.le_trans (Below.size (by assumption)) (by simp)) _) | (refine Below.via' ?_ (by assumption)) | (refine Below.alloc ?_ (by first | omega | (simp; done) | (simp; omega) | exact Below.size (by assumption) | exact Nat.le_trans (Below.size (by assumption)) (by simp)) _) | (refine Below.via ?_ (by assumption) (by first | omega | (simp; done) | (simp; omega) | exact Below.size (by assumption) | exact Nat.le_trans (Below.size (by assumption)) (by simp)))))))).mono ?_
  rintro e w18 ⟨rfl, hb18⟩
  have hkU_18 := Lib.hid (hkU_17.out.below (show Below w17.heap.size w17 w18 from (by repeat (first | exact Below.refl _ _ | assumption | refine Below.drew ?_ | refine below_drewN ?_ _ | refine Below.alloc' ?_ _ | (refine Below.setCell ?_ (by first | omega | (simp; done) | (simp; omega) | exact Below.size (by assumption) | exact Nat.le_trans (Below.size (by assumption)) (by simp)) _) | (refine Below.via' ?_ (by assumption)) | (refine Below.alloc ?_ (by first | omega | (simp; done) | (simp; omega) | exact Below.size (by assumption) | exact Nat.le_trans (Below.size (by assumption)) (by simp)) _) | (refine Below.via ?_ (by assumption) (by first | omega | (simp; done) | (simp; omega) | exact Below.size (by assumption) | exact Nat.le_trans (Below.size (by assumption)) (by simp)))))))
  obtain ⟨hkUa18, hkUb18, hkUc18⟩ := hkU_18.out
  try clear hkUa17 hkUb17 hkUc17
  have hkY_18 := Lib.hid (hkY_17.out.below (show Below w17.heap.size w17 w18 from (by repeat (first | exact Below.refl _ _ | assumption | refine Below.drew ?_ | refine below_drewN ?_ _ | refine Below.alloc' ?_ _ | (refine Below.setCell ?_ (by first | omega | (simp; done) | (simp; omega) | exact Below.size (by assumption) | exact Nat.le_trans (Below.size (by assumption)) (by simp)) _) | (refine Below.via' ?_ (by assumption)) | (refine Below.alloc ?_ (by first | omega | (simp; done) | (simp; omega) | exact Below.size (by assumption) | exact Nat.le_trans (Below.size (by assumption)) (by simp)) _) | (refine Below.via ?_ (by assumption) (by first | omega | (simp; done) | (simp; omega) | exact Below.size (by assumption) | exact Nat.le_trans (Below.size (by assumption)) (by simp)))))))
  obtain ⟨hkYa18, hkYb18, hkYc18⟩ := hkY_18.out
  try clear hkYa17 hkYb17 hkYc17
  have hW_18 := Lib.hid (hW_17.out.below (show Below w17.heap.size w17 w18 from (by repeat (first | exact Below.refl _ _ | assumption | refine Below.drew ?_ | refine below_drewN ?_ _ | refine Below.alloc' ?_ _ | (refine Below.setCell ?_ (by first | omega | (simp; done) | (simp; omega) | exact Below.size (by assumption) | exact Nat.le_trans (Below.size (by assumption)) (by simp)) _) | (refine Below.via' ?_ (by assumption)) | (refine Below.alloc ?_ (by first | omega | (simp; done) | (simp; omega) | exact Below.size (by assumption) | exact Nat.le_trans (Below.size (by assumption)) (by simp)) _) | (refine Below.via ?_ (by assumption) (by first | omega | (simp; done) | (simp; omega) | exact Below.size (by assumption) | exact Nat.le_trans (Below.size (by assumption)) (by simp)))))))
  obtain ⟨hWa18, hWb18, hWc18⟩ := hW_18.out
  try clear hWa17 hWb17 hWc17
  have hG_18 := Lib.hid (hG_17.out.below (show Below w17.heap.size w17 w18 from (by repeat (first | exact Below.refl _ _ | assumption | refine Below.drew ?_ | refine below_drewN ?_ _ | refine Below.alloc' ?_ _ | (refine Below.setCell ?_ (by first | omega | (simp; done) | (simp; omega) | exact Below.size (by assumption) | exact Nat.le_trans (Below.size (by assumption)) (by simp)) _) | (refine Below.via' ?_ (by assumption)) | (refine Below.alloc ?_ (by first | omega | (simp; done) | (simp; omega) | exact Below.size (by assumption) | exact Nat.le_trans (Below.size (by assumption)) (by simp)) _) | (refine Below.via ?_ (by assumption) (by first | omega | (simp; done) | (simp; omega) | exact Below.size (by assumption) | exact Nat.le_trans (Below.size (by assumption)) (by simp)))))))
  obtain ⟨hGa18, hGb18, hGc18⟩ := hG_18.out
  try clear hGa17 hGb17 hGc17
  have B18 : Below w.heap.size w w18 := Below.via' B17 hb18
  have W_18 := Lib.hid (W_17.out.below hb18)
  have MF18 := Lib.hid (MF17.out.below hb18)
  have MW18 := Lib.hid (MW17.out.below hb18)
  go_upto_region 31 with fail
  go_cut [15, 16] (fun s15 s16 wx => CuAt s15 RR w18.heap.size wx ∧ s16 = .bool (dqB UF UW YF YW) ∧ Below w18.heap.size w18 wx)
  case first =>
    have hB0 : Below w.heap.size w w18 := (by repeat (first | exact Below.refl _ _ | assumption | refine Below.drew ?_ | refine below_drewN ?_ _ | refine Below.alloc' ?_ _ | (refine Below.setCell ?_ (by first | omega | (simp; done) | (simp; omega) | exact Below.size (by assumption) | exact Nat.le_trans (Below.size (by assumption)) (by simp)) _) | (refine Below.via' ?_ (by assumption)) | (refine Below.alloc ?_ (by first | omega | (simp; done) | (simp; omega) | exact Below.size (by assumption) | exact Nat.le_trans (Below.size (by assumption)) (by simp)) _) | (refine Below.via ?_ (by assumption) (by first | omega | (simp; done) | (simp; omega) | exact Below.size (by assumption) | exact Nat.le_trans (Below.size (by assumption)) (by simp)))))
    refine wp_region_held_drew (S := fun X => Below w18.heap.size w18 X) (by kernel_rfl) (Below.drew (Below.refl _ _)) (fun hH => ?_)
    refine wpAnyH_take (i := 0) (v := ?_) rfl (by kernel_rfl) (by kernel_rfl) (by kernel_rfl) (fun _ _ _ h => h) (Or.inl ⟨by rfl, ?_⟩) (by assumption) ?_; rotate_left; · (intro wz hz; (have f0 := (hz.cell (p := ⟨w.heap.size, 0, none⟩) hkUc18).trans hkUa18; have f1 := (hz.cell (p := ⟨w.heap.size, 1, none⟩) hkUc18).trans hkUb18); clear hz; go_simp; try with_reducible rfl); (try simp only [Act.put, List.getElem_toArray, List.getElem_cons_succ, List.getElem_cons_zero, List.setIfInBounds_toArray, List.set_cons_zero, List.set_cons_succ])
    refine wpAnyH_take (i := 2) (v := ?_) rfl (by kernel_rfl) (by kernel_rfl) (by kernel_rfl) (fun _ _ _ h => h) (Or.inl ⟨by rfl, ?_⟩) (by assumption) ?_; rotate_left; · (intro wz hz; (have f0 := (hz.cell (p := ⟨w.heap.size + 1, 0, none⟩) hkYc18).trans hkYa18; have f1 := (hz.cell (p := ⟨w.heap.size + 1, 1, none⟩) hkYc18).trans hkYb18); clear hz; go_simp; try with_reducible rfl); (try simp only [Act.put, List.getElem_toArray, List.getElem_cons_succ, List.getElem_cons_zero, List.setIfInBounds_toArray, List.set_cons_zero, List.set_cons_succ])
    replace hH := Lib.hid hH
    refine wpAnyH_ready (rs := [1, 8]) (by kernel_rfl) (by simp) (AllReadyH.cons rfl (fun K hK => ?_) (AllReadyH.cons rfl (fun K hK => ?_) AllReadyH.nil))
    go_simp
    refine (toCube_any xU zU cU dU UF UW _ hmUF hmUW (hUF.out.below (Below.via' hB0 hH.out)) (hUW.out.below (Below.via' hB0 hH.out))).mono ?_
    rintro e w19 ⟨g19, f19, rfl, ho19, hb19⟩
    have hi19 : Hid (CIn w19 (some ⟨g19, 0, none⟩) (some ⟨f19, 0, none⟩) UF UW) := Lib.hid (CIn.of_owC ho19 hmUF hmUW hnUF.out hnUW.out)
    have hq19 := Lib.hid (Below.via' hH.out hb19)
    refine hK.out _ _ hq19.out (fun hSs => ?_)
    clear hK K hSs
    (try simp only [Act.put, List.getElem_toArray, List.getElem_cons_succ, List.getElem_cons_zero, List.setIfInBounds_toArray, List.set_cons_zero, List.set_cons_succ])
    refine wpAnyH_ready (rs := [3, 8]) (by kernel_rfl) (by simp) (AllReadyH.cons rfl (fun K hK => ?_) (AllReadyH.cons rfl (fun K hK => ?_) AllReadyH.nil))
    go_simp
    refine (toCube_any xY zY cY dY YF YW _ hmYF hmYW (hYF.out.below (Below.via' hB0 hq19.out)) (hYW.out.below (Below.via' hB0 hq19.out))).mono ?_
    rintro e w20 ⟨g20, f20, rfl, ho20, hb20⟩
    have hi20 : Hid (CIn w20 (some ⟨g20, 0, none⟩) (some ⟨f20, 0, none⟩) YF YW) := Lib.hid (CIn.of_owC ho20 hmYF hmYW hnYF.out hnYW.out)
    have hq20 := Lib.hid (Below.via' hq19.out hb20)
    refine hK.out _ _ hq20.out (fun hSs => ?_)
    clear hK K hSs
    (try simp only [Act.put, List.getElem_toArray, List.getElem_cons_succ, List.getElem_cons_zero, List.setIfInBounds_toArray, List.set_cons_zero, List.set_cons_succ])
    refine wpAnyH_ready (rs := [4, 8]) (by kernel_rfl) (by simp) (AllReadyH.cons rfl (fun K hK => ?_) (AllReadyH.cons rfl (fun K hK => ?_) AllReadyH.nil))
    go_simp
    refine (iDi_any _ _ _ _ _ _ _ _ UF UW YF YW _ (hi19.out.below (Below.via' (Below.refl _ _) hb20)) (hi20.out.below (Below.refl _ _)) (Nat.le_refl _) (fun h => by cases h) (Nat.le_refl _) (fun h => by cases h)).mono ?_
    rintro e w21 ⟨x21, c21, z21, d21, rfl, ho21, hb21⟩
    rw [← hRR.out] at ho21 ⊢
    have hq21 := Lib.hid (Below.via' hq20.out hb21)
    have la0 : w18.heap.size ≤ (w20).heap.size := (hq20.out).size
    refine hK.out _ _ hq21.out (fun hSs => ?_)
    clear hK K
    (try simp only [Act.put, List.getElem_toArray, List.getElem_cons_succ, List.getElem_cons_zero, List.setIfInBounds_toArray, List.set_cons_zero, List.set_cons_succ])
    refine wpAnyH_take (i := 5) (v := ?_) rfl (by kernel_rfl) (by kernel_rfl) (by kernel_rfl) (fun _ _ _ h => h) (Or.inl ⟨by rfl, ?_⟩) (by assumption) ?_; rotate_left; · (intro wz hz; (skip); clear hz; go_simp; try with_reducible rfl); (try simp only [Act.put, List.getElem_toArray, List.getElem_cons_succ, List.getElem_cons_zero, List.setIfInBounds_toArray, List.set_cons_zero, List.set_cons_succ])
    refine wpAnyH_take (i := 6) (v := ?_) rfl (by kernel_rfl) (by kernel_rfl) (by kernel_rfl) (fun _ _ _ h => h) (Or.inl ⟨by rfl, ?_⟩) (by assumption) ?_; rotate_left; · (intro wz hz; (skip); clear hz; go_simp; try with_reducible rfl); (try simp only [Act.put, List.getElem_toArray, List.getElem_cons_succ, List.getElem_cons_zero, List.setIfInBounds_toArray, List.set_cons_zero, List.set_cons_succ])
    refine wpAnyH_take (i := 7) (v := ?_) rfl (by kernel_rfl) (by kernel_rfl) (by kernel_rfl) (fun _ _ _ h => h) (Or.inl ⟨by rfl, ?_⟩) (by assumption) ?_; rotate_left; · (intro wz hz; (skip); clear hz; go_simp; try with_reducible rfl); (try simp only [Act.put, List.getElem_toArray, List.getElem_cons_succ, List.getElem_cons_zero, List.setIfInBounds_toArray, List.set_cons_zero, List.set_cons_succ])
    replace hSs := Lib.hid hSs
    refine wpAnyH_ready (rs := [8]) (by kernel_rfl) (by simp) (AllReadyH.cons rfl (fun K hK => ?_) AllReadyH.nil); go_simp
    have bx := Lib.hid (show Wb (w21.alloc (.cells #[.slice none 0 0, .slice none 0 0] 27)) w21.heap.size 27 #[.slice none 0 0, .slice none 0 0] from Wb.new w21 _ _)
    have hal := Lib.hid (Below.alloc' hq21.out (.cells #[.slice none 0 0, .slice none 0 0] 27))
    have ga0 : w18.heap.size ≤ w21.heap.size := hq21.out.size
    refine hK.out _ _ hal.out (fun hSs => ?_)
    clear hK K hSs
    (try simp only [Act.put, List.getElem_toArray, List.getElem_cons_succ, List.getElem_cons_zero, List.setIfInBounds_toArray, List.set_cons_zero, List.set_cons_succ])
    have hoA := (ho21.below (show Below w21.heap.size w21 (w21.alloc (.cells #[.slice none 0 0, .slice none 0 0] 27)) from (by repeat (first | exact Below.refl _ _ | assumption | refine Below.drew ?_ | refine below_drewN ?_ _ | refine Below.alloc' ?_ _ | (refine Below.setCell ?_ (by first | omega | (simp; done) | (simp; omega) | exact Below.size (by assumption) | exact Nat.le_trans (Below.size (by assumption)) (by simp)) _) | (refine Below.via' ?_ (by assumption)) | (refine Below.alloc ?_ (by first | omega | (simp; done) | (simp; omega) | exact Below.size (by assumption) | exact Nat.le_trans (Below.size (by assumption)) (by simp)) _) | (refine Below.via ?_ (by assumption) (by first | omega | (simp; done) | (simp; omega) | exact Below.size (by assumption) | exact Nat.le_trans (Below.size (by assumption)) (by simp)))))))
    replace hoA := Lib.hid hoA
    have ya := (bx.out.read 0).trans rfl
    have yb := (bx.out.read 1).trans rfl
    have ye := bx.out.free 0
    have yf := bx.out.free 1
    have yin := bx.out.inside
    refine wpAnyH_ready (rs := [9]) (by kernel_rfl) (by simp) (AllReadyH.cons rfl (fun K hK => ?_) AllReadyH.nil); go_simp
    have hst := Below.alloc' hq21.out (.cells #[.slice x21 RR.1.length c21, .slice z21 RR.2.length d21] 27)
    have hat := cuAt_new (lo := w18.heap.size) ho21 (hq21.out).size la0 (Nat.le_refl _)
    replace hat := Lib.hid hat
    refine hK.out _ _ hst (fun hSs => ?_)
    clear hK K hSs ya yb ye yf
    (try simp only [Act.put, List.getElem_toArray, List.getElem_cons_succ, List.getElem_cons_zero, List.setIfInBounds_toArray, List.set_cons_zero, List.set_cons_succ])
    refine wpAnyH_ready (rs := [10]) (by kernel_rfl) (by simp) (AllReadyH.cons rfl (fun K hK => ?_) AllReadyH.nil); go_simp
    refine hK.out _ _ hst (fun _ => ?_)
    clear hK K
    (try simp only [Act.put, List.getElem_toArray, List.getElem_cons_succ, List.getElem_cons_zero, List.setIfInBounds_toArray, List.set_cons_zero, List.set_cons_succ])
    refine wpAnyH_done (by kernel_rfl) ?_ _
    go_wp2_with fail
    go_meet
    exact ⟨hat.out, rfl, hst⟩
    go_simp
    have bx := Lib.hid (show Wb (w20.alloc (.cells #[.slice none 0 0, .slice none 0 0] 27)) w20.heap.size 27 #[.slice none 0 0, .slice none 0 0] from Wb.new w20 _ _)
    have hal := Lib.hid (Below.alloc' hq20.out (.cells #[.slice none 0 0, .slice none 0 0] 27))
    have ga0 : w18.heap.size ≤ w20.heap.size := hq20.out.size
    refine hK.out _ _ hal.out (fun hSs => ?_)
    clear hK K hSs
    (try simp only [Act.put, List.getElem_toArray, List.getElem_cons_succ, List.getElem_cons_zero, List.setIfInBounds_toArray, List.set_cons_zero, List.set_cons_succ])
    refine wpAnyH_ready (rs := [4]) (by kernel_rfl) (by simp) (AllReadyH.cons rfl (fun K hK => ?_) AllReadyH.nil); go_simp
    refine (iDi_any _ _ _ _ _ _ _ _ UF UW YF YW _ (hi19.out.below (Below.alloc' (Below.via' (Below.refl _ _) hb20) _)) (hi20.out.below (Below.alloc' (Below.refl _ _) _)) (Nat.le_refl _) (fun h => by cases h) (Nat.le_refl _) (fun h => by cases h)).mono ?_
    rintro e w21 ⟨x21, c21, z21, d21, rfl, ho21, hb21⟩
    rw [← hRR.out] at ho21 ⊢
    have hq21 := Lib.hid (Below.via' hal.out hb21)
    have la0 : w18.heap.size ≤ ((w20.alloc (.cells #[.slice none 0 0, .slice none 0 0] 27))).heap.size := (hal.out).size
    have gin := bx.out.inside
    replace bx := Lib.hid (bx.out.kept hb21)
    refine hK.out _ _ hq21.out (fun hSs => ?_)
    clear hK K
    (try simp only [Act.put, List.getElem_toArray, List.getElem_cons_succ, List.getElem_cons_zero, List.setIfInBounds_toArray, List.set_cons_zero, List.set_cons_succ])
    refine wpAnyH_take (i := 5) (v := ?_) rfl (by kernel_rfl) (by kernel_rfl) (by kernel_rfl) (fun _ _ _ h => h) (Or.inl ⟨by rfl, ?_⟩) (by assumption) ?_; rotate_left; · (intro wz hz; (skip); clear hz; go_simp; try with_reducible rfl); (try simp only [Act.put, List.getElem_toArray, List.getElem_cons_succ, List.getElem_cons_zero, List.setIfInBounds_toArray, List.set_cons_zero, List.set_cons_succ])
    refine wpAnyH_take (i := 6) (v := ?_) rfl (by kernel_rfl) (by kernel_rfl) (by kernel_rfl) (fun _ _ _ h => h) (Or.inl ⟨by rfl, ?_⟩) (by assumption) ?_; rotate_left; · (intro wz hz; (skip); clear hz; go_simp; try with_reducible rfl); (try simp only [Act.put, List.getElem_toArray, List.getElem_cons_succ, List.getElem_cons_zero, List.setIfInBounds_toArray, List.set_cons_zero, List.set_cons_succ])
    refine wpAnyH_take (i := 7) (v := ?_) rfl (by kernel_rfl) (by kernel_rfl) (by kernel_rfl) (fun _ _ _ h => h) (Or.inl ⟨by rfl, ?_⟩) (by assumption) ?_; rotate_left; · (intro wz hz; (skip); clear hz; go_simp; try with_reducible rfl); (try simp only [Act.put, List.getElem_toArray, List.getElem_cons_succ, List.getElem_cons_zero, List.setIfInBounds_toArray, List.set_cons_zero, List.set_cons_succ])
    replace hSs := Lib.hid hSs
    have hoA := ho21
    replace hoA := Lib.hid hoA
    have ya := (bx.out.read 0).trans rfl
    have yb := (bx.out.read 1).trans rfl
    have ye := bx.out.free 0
    have yf := bx.out.free 1
    have yin := bx.out.inside
    refine wpAnyH_ready (rs := [9]) (by kernel_rfl) (by simp) (AllReadyH.cons rfl (fun K hK => ?_) AllReadyH.nil); go_simp
    have hst : Below w18.heap.size w18 ((w21).setCell ⟨w20.heap.size, 0, none⟩ (.slice x21 RR.1.length c21) |>.setCell ⟨w20.heap.size, 1, none⟩ (.slice z21 RR.2.length d21)) := below_set2 hq21.out ga0
    have hat := cuAt_of (lo := w18.heap.size) bx.out hoA.out ga0 la0 (Nat.le_refl _) (Or.inl gin)
    replace hat := Lib.hid hat
    refine hK.out _ _ hst (fun hSs => ?_)
    clear hK K hSs ya yb ye yf
    (try simp only [Act.put, List.getElem_toArray, List.getElem_cons_succ, List.getElem_cons_zero, List.setIfInBounds_toArray, List.set_cons_zero, List.set_cons_succ])
    refine wpAnyH_ready (rs := [10]) (by kernel_rfl) (by simp) (AllReadyH.cons rfl (fun K hK => ?_) AllReadyH.nil); go_simp
    refine hK.out _ _ hst (fun _ => ?_)
    clear hK K
    (try simp only [Act.put, List.getElem_toArray, List.getElem_cons_succ, List.getElem_cons_zero, List.setIfInBounds_toArray, List.set_cons_zero, List.set_cons_succ])
    refine wpAnyH_done (by kernel_rfl) ?_ _
    go_wp2_with fail
    go_meet
    exact ⟨hat.out, rfl, hst⟩
    go_simp
    have bx := Lib.hid (show Wb (w19.alloc (.cells #[.slice none 0 0, .slice none 0 0] 27)) w19.heap.size 27 #[.slice none 0 0, .slice none 0 0] from Wb.new w19 _ _)
    have hal := Lib.hid (Below.alloc' hq19.out (.cells #[.slice none 0 0, .slice none 0 0] 27))
    have ga0 : w18.heap.size ≤ w19.heap.size := hq19.out.size
    refine hK.out _ _ hal.out (fun hSs => ?_)
    clear hK K hSs
    (try simp only [Act.put, List.getElem_toArray, List.getElem_cons_succ, List.getElem_cons_zero, List.setIfInBounds_toArray, List.set_cons_zero, List.set_cons_succ])
    refine wpAnyH_ready (rs := [3]) (by kernel_rfl) (by simp) (AllReadyH.cons rfl (fun K hK => ?_) AllReadyH.nil); go_simp
    refine (toCube_any xY zY cY dY YF YW _ hmYF hmYW (hYF.out.below (Below.via' hB0 hal.out)) (hYW.out.below (Below.via' hB0 hal.out))).mono ?_
    rintro e w20 ⟨g20, f20, rfl, ho20, hb20⟩
    have hi20 : Hid (CIn w20 (some ⟨g20, 0, none⟩) (some ⟨f20, 0, none⟩) YF YW) := Lib.hid (CIn.of_owC ho20 hmYF hmYW hnYF.out hnYW.out)
    have hq20 := Lib.hid (Below.via' hal.out hb20)
    replace bx := Lib.hid (bx.out.kept hb20)
    refine hK.out _ _ hq20.out (fun hSs => ?_)
    clear hK K hSs
    (try simp only [Act.put, List.getElem_toArray, List.getElem_cons_succ, List.getElem_cons_zero, List.setIfInBounds_toArray, List.set_cons_zero, List.set_cons_succ])
    refine wpAnyH_ready (rs := [4]) (by kernel_rfl) (by simp) (AllReadyH.cons rfl (fun K hK => ?_) AllReadyH.nil); go_simp
    refine (iDi_any _ _ _ _ _ _ _ _ UF UW YF YW _ (hi19.out.below (Below.via' (Below.alloc' (Below.refl _ _) _) hb20)) (hi20.out.below (Below.refl _ _)) (Nat.le_refl _) (fun h => by cases h) (Nat.le_refl _) (fun h => by cases h)).mono ?_
    rintro e w21 ⟨x21, c21, z21, d21, rfl, ho21, hb21⟩
    rw [← hRR.out] at ho21 ⊢
    have hq21 := Lib.hid (Below.via' hq20.out hb21)
    have la0 : w18.heap.size ≤ (w20).heap.size := (hq20.out).size
    have gin := bx.out.inside
    replace bx := Lib.hid (bx.out.kept hb21)
    refine hK.out _ _ hq21.out (fun hSs => ?_)
    clear hK K
    (try simp only [Act.put, List.getElem_toArray, List.getElem_cons_succ, List.getElem_cons_zero, List.setIfInBounds_toArray, List.set_cons_zero, List.set_cons_succ])
    refine wpAnyH_take (i := 5) (v := ?_) rfl (by kernel_rfl) (by kernel_rfl) (by kernel_rfl) (fun _ _ _ h => h) (Or.inl ⟨by rfl, ?_⟩) (by assumption) ?_; rotate_left; · (intro wz hz; (skip); clear hz; go_simp; try with_reducible rfl); (try simp only [Act.put, List.getElem_toArray, List.getElem_cons_succ, List.getElem_cons_zero, List.setIfInBounds_toArray, List.set_cons_zero, List.set_cons_succ])
    refine wpAnyH_take (i := 6) (v := ?_) rfl (by kernel_rfl) (by kernel_rfl) (by kernel_rfl) (fun _ _ _ h => h) (Or.inl ⟨by rfl, ?_⟩) (by assumption) ?_; rotate_left; · (intro wz hz; (skip); clear hz; go_simp; try with_reducible rfl); (try simp only [Act.put, List.getElem_toArray, List.getElem_cons_succ, List.getElem_cons_zero, List.setIfInBounds_toArray, List.set_cons_zero, List.set_cons_succ])
    refine wpAnyH_take (i := 7) (v := ?_) rfl (by kernel_rfl) (by kernel_rfl) (by kernel_rfl) (fun _ _ _ h => h) (Or.inl ⟨by rfl, ?_⟩) (by assumption) ?_; rotate_left; · (intro wz hz; (skip); clear hz; go_simp; try with_reducible rfl); (try simp only [Act.put, List.getElem_toArray, List.getElem_cons_succ, List.getElem_cons_zero, List.setIfInBounds_toArray, List.set_cons_zero, List.set_cons_succ])
    replace hSs := Lib.hid hSs
    have hoA := ho21
    replace hoA := Lib.hid hoA
    have ya := (bx.out.read 0).trans rfl
    have yb := (bx.out.read 1).trans rfl
    have ye := bx.out.free 0
    have yf := bx.out.free 1
    have yin := bx.out.inside
    refine wpAnyH_ready (rs := [9]) (by kernel_rfl) (by simp) (AllReadyH.cons rfl (fun K hK => ?_) AllReadyH.nil); go_simp
    have hst : Below w18.heap.size w18 ((w21).setCell ⟨w19.heap.size, 0, none⟩ (.slice x21 RR.1.length c21) |>.setCell ⟨w19.heap.size, 1, none⟩ (.slice z21 RR.2.length d21)) := below_set2 hq21.out ga0
    have hat := cuAt_of (lo := w18.heap.size) bx.out hoA.out ga0 la0 (Nat.le_refl _) (Or.inl gin)
    replace hat := Lib.hid hat
    refine hK.out _ _ hst (fun hSs => ?_)
    clear hK K hSs ya yb ye yf
    (try simp only [Act.put, List.getElem_toArray, List.getElem_cons_succ, List.getElem_cons_zero, List.setIfInBounds_toArray, List.set_cons_zero, List.set_cons_succ])
    refine wpAnyH_ready (rs := [10]) (by kernel_rfl) (by simp) (AllReadyH.cons rfl (fun K hK => ?_) AllReadyH.nil); go_simp
    refine hK.out _ _ hst (fun _ => ?_)
    clear hK K
    (try simp only [Act.put, List.getElem_toArray, List.getElem_cons_succ, List.getElem_cons_zero, List.setIfInBounds_toArray, List.set_cons_zero, List.set_cons_succ])
    refine wpAnyH_done (by kernel_rfl) ?_ _
    go_wp2_with fail
    go_meet
    exact ⟨hat.out, rfl, hst⟩
    go_simp
    have bx := Lib.hid (show Wb (w18.drew.alloc (.cells #[.slice none 0 0, .slice none 0 0] 27)) w18.heap.size 27 #[.slice none 0 0, .slice none 0 0] from Wb.new w18.drew _ _)
    have hal := Lib.hid (Below.alloc' hH.out (.cells #[.slice none 0 0, .slice none 0 0] 27))
    have ga0 : w18.heap.size ≤ w18.heap.size := hH.out.size
    refine hK.out _ _ hal.out (fun hSs => ?_)
    clear hK K hSs
    (try simp only [Act.put, List.getElem_toArray, List.getElem_cons_succ, List.getElem_cons_zero, List.setIfInBounds_toArray, List.set_cons_zero, List.set_cons_succ])
    refine wpAnyH_ready (rs := [1]) (by kernel_rfl) (by simp) (AllReadyH.cons rfl (fun K hK => ?_) AllReadyH.nil); go_simp
    refine (toCube_any xU zU cU dU UF UW _ hmUF hmUW (hUF.out.below (Below.via' hB0 hal.out)) (hUW.out.below (Below.via' hB0 hal.out))).mono ?_
    rintro e w19 ⟨g19, f19, rfl, ho19, hb19⟩
    have hi19 : Hid (CIn w19 (some ⟨g19, 0, none⟩) (some ⟨f19, 0, none⟩) UF UW) := Lib.hid (CIn.of_owC ho19 hmUF hmUW hnUF.out hnUW.out)
    have hq19 := Lib.hid (Below.via' hal.out hb19)
    replace bx := Lib.hid (bx.out.kept hb19)
    refine hK.out _ _ hq19.out (fun hSs => ?_)
    clear hK K hSs
    (try simp only [Act.put, List.getElem_toArray, List.getElem_cons_succ, List.getElem_cons_zero, List.setIfInBounds_toArray, List.set_cons_zero, List.set_cons_succ])
    refine wpAnyH_ready (rs := [3]) (by kernel_rfl) (by simp) (AllReadyH.cons rfl (fun K hK => ?_) AllReadyH.nil); go_simp
    refine (toCube_any xY zY cY dY YF YW _ hmYF hmYW (hYF.out.below (Below.via' hB0 hq19.out)) (hYW.out.below (Below.via' hB0 hq19.out))).mono ?_
    rintro e w20 ⟨g20, f20, rfl, ho20, hb20⟩
    have hi20 : Hid (CIn w20 (some ⟨g20, 0, none⟩) (some ⟨f20, 0, none⟩) YF YW) := Lib.hid (CIn.of_owC ho20 hmYF hmYW hnYF.out hnYW.out)
    have hq20 := Lib.hid (Below.via' hq19.out hb20)
    replace bx := Lib.hid (bx.out.kept hb20)
    refine hK.out _ _ hq20.out (fun hSs => ?_)
    clear hK K hSs
    (try simp only [Act.put, List.getElem_toArray, List.getElem_cons_succ, List.getElem_cons_zero, List.setIfInBounds_toArray, List.set_cons_zero, List.set_cons_succ])
    refine wpAnyH_ready (rs := [4]) (by kernel_rfl) (by simp) (AllReadyH.cons rfl (fun K hK => ?_) AllReadyH.nil); go_simp
    refine (iDi_any _ _ _ _ _ _ _ _ UF UW YF YW _ (hi19.out.below (Below.via' (Below.refl _ _) hb20)) (hi20.out.below (Below.refl _ _)) (Nat.le_refl _) (fun h => by cases h) (Nat.le_refl _) (fun h => by cases h)).mono ?_
    rintro e w21 ⟨x21, c21, z21, d21, rfl, ho21, hb21⟩
    rw [← hRR.out] at ho21 ⊢
    have hq21 := Lib.hid (Below.via' hq20.out hb21)
    have la0 : w18.heap.size ≤ (w20).heap.size := (hq20.out).size
    have gin := bx.out.inside
    replace bx := Lib.hid (bx.out.kept hb21)
    refine hK.out _ _ hq21.out (fun hSs => ?_)
    clear hK K
    (try simp only [Act.put, List.getElem_toArray, List.getElem_cons_succ, List.getElem_cons_zero, List.setIfInBounds_toArray, List.set_cons_zero, List.set_cons_succ])
    refine wpAnyH_take (i := 5) (v := ?_) rfl (by kernel_rfl) (by kernel_rfl) (by kernel_rfl) (fun _ _ _ h => h) (Or.inl ⟨by rfl, ?_⟩) (by assumption) ?_; rotate_left; · (intro wz hz; (skip); clear hz; go_simp; try with_reducible rfl); (try simp only [Act.put, List.getElem_toArray, List.getElem_cons_succ, List.getElem_cons_zero, List.setIfInBounds_toArray, List.set_cons_zero, List.set_cons_succ])
    refine wpAnyH_take (i := 6) (v := ?_) rfl (by kernel_rfl) (by kernel_rfl) (by kernel_rfl) (fun _ _ _ h => h) (Or.inl ⟨by rfl, ?_⟩) (by assumption) ?_; rotate_left; · (intro wz hz; (skip); clear hz; go_simp; try with_reducible rfl); (try simp only [Act.put, List.getElem_toArray, List.getElem_cons_succ, List.getElem_cons_zero, List.setIfInBounds_toArray, List.set_cons_zero, List.set_cons_succ])
    refine wpAnyH_take (i := 7) (v := ?_) rfl (by kernel_rfl) (by kernel_rfl) (by kernel_rfl) (fun _ _ _ h => h) (Or.inl ⟨by rfl, ?_⟩) (by assumption) ?_; rotate_left; · (intro wz hz; (skip); clear hz; go_simp; try with_reducible rfl); (try simp only [Act.put, List.getElem_toArray, List.getElem_cons_succ, List.getElem_cons_zero, List.setIfInBounds_toArray, List.set_cons_zero, List.set_cons_succ])
    replace hSs := Lib.hid hSs
    have hoA := ho21
    replace hoA := Lib.hid hoA
    have ya := (bx.out.read 0).trans rfl
    have yb := (bx.out.read 1).trans rfl
    have ye := bx.out.free 0
    have yf := bx.out.free 1
    have yin := bx.out.inside
    refine wpAnyH_ready (rs := [9]) (by kernel_rfl) (by simp) (AllReadyH.cons rfl (fun K hK => ?_) AllReadyH.nil); go_simp
    have hst : Below w18.heap.size w18 ((w21).setCell ⟨w18.heap.size, 0, none⟩ (.slice x21 RR.1.length c21) |>.setCell ⟨w18.heap.size, 1, none⟩ (.slice z21 RR.2.length d21)) := below_set2 hq21.out ga0
    have hat := cuAt_of (lo := w18.heap.size) bx.out hoA.out ga0 la0 (Nat.le_refl _) (Or.inl gin)
    replace hat := Lib.hid hat
    refine hK.out _ _ hst (fun hSs => ?_)
    clear hK K hSs ya yb ye yf
    (try simp only [Act.put, List.getElem_toArray, List.getElem_cons_succ, List.getElem_cons_zero, List.setIfInBounds_toArray, List.set_cons_zero, List.set_cons_succ])
    refine wpAnyH_ready (rs := [10]) (by kernel_rfl) (by simp) (AllReadyH.cons rfl (fun K hK => ?_) AllReadyH.nil); go_simp
    refine hK.out _ _ hst (fun _ => ?_)
    clear hK K
    (try simp only [Act.put, List.getElem_toArray, List.getElem_cons_succ, List.getElem_cons_zero, List.setIfInBounds_toArray, List.set_cons_zero, List.set_cons_succ])
    refine wpAnyH_done (by kernel_rfl) ?_ _
    go_wp2_with fail
    go_meet
    exact ⟨hat.out, rfl, hst⟩
  obtain ⟨⟨gA21, xA21, cA21, zA21, dA21, la21, lb21, rfl, hA21, hgA21, hla21, hlb21, hgl21, hoA21⟩, rfl, hb21⟩ := hcut
  obtain ⟨w21, rfl⟩ : ∃ u : World, u = wc := ⟨_, rfl⟩
  have hgB21 : gA21 < w21.heap.size := hA21.2.2
  replace hA21 := Lib.hid hA21
  have hkU_21 := Lib.hid (hkU_18.out.below (show Below w18.heap.size w18 w21 from (by repeat (first | exact Below.refl _ _ | assumption | refine Below.drew ?_ | refine below_drewN ?_ _ | refine Below.alloc' ?_ _ | (refine Below.setCell ?_ (by first | omega | (simp; done) | (simp; omega) | exact Below.size (by assumption) | exact Nat.le_trans (Below.size (by assumption)) (by simp)) _) | (refine Below.via' ?_ (by assumption)) | (refine Below.alloc ?_ (by first | omega | (simp; done) | (simp; omega) | exact Below.size (by assumption) | exact Nat.le_trans (Below.size (by assumption)) (by simp)) _) | (refine Below.via ?_ (by assumption) (by first | omega | (simp; done) | (simp; omega) | exact Below.size (by assumption) | exact Nat.le_trans (Below.size (by assumption)) (by simp)))))))
  obtain ⟨hkUa21, hkUb21, hkUc21⟩ := hkU_21.out
  try clear hkUa18 hkUb18 hkUc18
  have hkY_21 := Lib.hid (hkY_18.out.below (show Below w18.heap.size w18 w21 from (by repeat (first | exact Below.refl _ _ | assumption | refine Below.drew ?_ | refine below_drewN ?_ _ | refine Below.alloc' ?_ _ | (refine Below.setCell ?_ (by first | omega | (simp; done) | (simp; omega) | exact Below.size (by assumption) | exact Nat.le_trans (Below.size (by assumption)) (by simp)) _) | (refine Below.via' ?_ (by assumption)) | (refine Below.alloc ?_ (by first | omega | (simp; done) | (simp; omega) | exact Below.size (by assumption) | exact Nat.le_trans (Below.size (by assumption)) (by simp)) _) | (refine Below.via ?_ (by assumption) (by first | omega | (simp; done) | (simp; omega) | exact Below.size (by assumption) | exact Nat.le_trans (Below.size (by assumption)) (by simp)))))))
  obtain ⟨hkYa21, hkYb21, hkYc21⟩ := hkY_21.out
  try clear hkYa18 hkYb18 hkYc18
  have hW_21 := Lib.hid (hW_18.out.below (show Below w18.heap.size w18 w21 from (by repeat (first | exact Below.refl _ _ | assumption | refine Below.drew ?_ | refine below_drewN ?_ _ | refine Below.alloc' ?_ _ | (refine Below.setCell ?_ (by first | omega | (simp; done) | (simp; omega) | exact Below.size (by assumption) | exact Nat.le_trans (Below.size (by assumption)) (by simp)) _) | (refine Below.via' ?_ (by assumption)) | (refine Below.alloc ?_ (by first | omega | (simp; done) | (simp; omega) | exact Below.size (by assumption) | exact Nat.le_trans (Below.size (by assumption)) (by simp)) _) | (refine Below.via ?_ (by assumption) (by first | omega | (simp; done) | (simp; omega) | exact Below.size (by assumption) | exact Nat.le_trans (Below.size (by assumption)) (by simp)))))))
  obtain ⟨hWa21, hWb21, hWc21⟩ := hW_21.out
  try clear hWa18 hWb18 hWc18
  have hG_21 := Lib.hid (hG_18.out.below (show Below w18.heap.size w18 w21 from (by repeat (first | exact Below.refl _ _ | assumption | refine Below.drew ?_ | refine below_drewN ?_ _ | refine Below.alloc' ?_ _ | (refine Below.setCell ?_ (by first | omega | (simp; done) | (simp; omega) | exact Below.size (by assumption) | exact Nat.le_trans (Below.size (by assumption)) (by simp)) _) | (refine Below.via' ?_ (by assumption)) | (refine Below.alloc ?_ (by first | omega | (simp; done) | (simp; omega) | exact Below.size (by assumption) | exact Nat.le_trans (Below.size (by assumption)) (by simp)) _) | (refine Below.via ?_ (by assumption) (by first | omega | (simp; done) | (simp; omega) | exact Below.size (by assumption) | exact Nat.le_trans (Below.size (by assumption)) (by simp)))))))
  obtain ⟨hGa21, hGb21, hGc21⟩ := hG_21.out
  try clear hGa18 hGb18 hGc18
  have hH_21 := hA21
  obtain ⟨hHa21, hHb21, hHc21⟩ := hH_21.out
  have B21 : Below w.heap.size w w21 := Below.via' B18 hb21
  have W_21 := Lib.hid (W_18.out.below hb21)
  have MF21 := Lib.hid (MF18.out.below hb21)
  have MW21 := Lib.hid (MW18.out.below hb21)
  go_wp2_with fail
  refine (eqCube_any _ _ _ _ RR.1 RR.2 _ (by omega) (by omega) ((hoA21.below (by exact (by repeat (first | exact Below.refl _ _ | assumption | refine Below.drew ?_ | refine below_drewN ?_ _ | refine Below.alloc' ?_ _ | (refine Below.setCell ?_ (by first | omega | (simp; done) | (simp; omega) | exact Below.size (by assumption) | exact Nat.le_trans (Below.size (by assumption)) (by simp)) _) | (refine Below.via' ?_ (by assumption)) | (refine Below.alloc ?_ (by first | omega | (simp; done) | (simp; omega) | exact Below.size (by assumption) | exact Nat.le_trans (Below.size (by assumption)) (by simp)) _) | (refine Below.via ?_ (by assumption) (by first | omega | (simp; done) | (simp; omega) | exact Below.size (by assumption) | exact Nat.le_trans (Below.size (by assumption)) (by simp))))))).rd) ((W_21.out.below (by exact (by repeat (first | exact Below.refl _ _ | assumption | refine Below.drew ?_ | refine below_drewN ?_ _ | refine Below.alloc' ?_ _ | (refine Below.setCell ?_ (by first | omega | (simp; done) | (simp; omega) | exact Below.size (by assumption) | exact Nat.le_trans (Below.size (by assumption)) (by simp)) _) | (refine Below.via' ?_ (by assumption)) | (refine Below.alloc ?_ (by first | omega | (simp; done) | (simp; omega) | exact Below.size (by assumption) | exact Nat.le_trans (Below.size (by assumption)) (by simp)) _) | (refine Below.via ?_ (by assumption) (by first | omega | (simp; done) | (simp; omega) | exact Below.size (by assumption) | exact Nat.le_trans (Below.size (by assumption)) (by simp))))))).rd)).mono ?_
  rintro e w22 ⟨rfl, hb22⟩
  have hkU_22 := Lib.hid (hkU_21.out.below (show Below w21.heap.size w21 w22 from (by repeat (first | exact Below.refl _ _ | assumption | refine Below.drew ?_ | refine below_drewN ?_ _ | refine Below.alloc' ?_ _ | (refine Below.setCell ?_ (by first | omega | (simp; done) | (simp; omega) | exact Below.size (by assumption) | exact Nat.le_trans (Below.size (by assumption)) (by simp)) _) | (refine Below.via' ?_ (by assumption)) | (refine Below.alloc ?_ (by first | omega | (simp; done) | (simp; omega) | exact Below.size (by assumption) | exact Nat.le_trans (Below.size (by assumption)) (by simp)) _) | (refine Below.via ?_ (by assumption) (by first | omega | (simp; done) | (simp; omega) | exact Below.size (by assumption) | exact Nat.le_trans (Below.size (by assumption)) (by simp)))))))
  obtain ⟨hkUa22, hkUb22, hkUc22⟩ := hkU_22.out
  try clear hkUa21 hkUb21 hkUc21
  have hkY_22 := Lib.hid (hkY_21.out.below (show Below w21.heap.size w21 w22 from (by repeat (first | exact Below.refl _ _ | assumption | refine Below.drew ?_ | refine below_drewN ?_ _ | refine Below.alloc' ?_ _ | (refine Below.setCell ?_ (by first | omega | (simp; done) | (simp; omega) | exact Below.size (by assumption) | exact Nat.le_trans (Below.size (by assumption)) (by simp)) _) | (refine Below.via' ?_ (by assumption)) | (refine Below.alloc ?_ (by first | omega | (simp; done) | (simp; omega) | exact Below.size (by assumption) | exact Nat.le_trans (Below.size (by assumption)) (by simp)) _) | (refine Below.via ?_ (by assumption) (by first | omega | (simp; done) | (simp; omega) | exact Below.size (by assumption) | exact Nat.le_trans (Below.size (by assumption)) (by simp)))))))
  obtain ⟨hkYa22, hkYb22, hkYc22⟩ := hkY_22.out
  try clear hkYa21 hkYb21 hkYc21
  have hW_22 := Lib.hid (hW_21.out.below (show Below w21.heap.size w21 w22 from (by repeat (first | exact Below.refl _ _ | assumption | refine Below.drew ?_ | refine below_drewN ?_ _ | refine Below.alloc' ?_ _ | (refine Below.setCell ?_ (by first | omega | (simp; done) | (simp; omega) | exact Below.size (by assumption) | exact Nat.le_trans (Below.size (by assumption)) (by simp)) _) | (refine Below.via' ?_ (by assumption)) | (refine Below.alloc ?_ (by first | omega | (simp; done) | (simp; omega) | exact Below.size (by assumption) | exact Nat.le_trans (Below.size (by assumption)) (by simp)) _) | (refine Below.via ?_ (by assumption) (by first | omega | (simp; done) | (simp; omega) | exact Below.size (by assumption) | exact Nat.le_trans (Below.size (by assumption)) (by simp)))))))
  obtain ⟨hWa22, hWb22, hWc22⟩ := hW_22.out
  try clear hWa21 hWb21 hWc21
  have hG_22 := Lib.hid (hG_21.out.below (show Below w21.heap.size w21 w22 from (by repeat (first | exact Below.refl _ _ | assumption | refine Below.drew ?_ | refine below_drewN ?_ _ | refine Below.alloc' ?_ _ | (refine Below.setCell ?_ (by first | omega | (simp; done) | (simp; omega) | exact Below.size (by assumption) | exact Nat.le_trans (Below.size (by assumption)) (by simp)) _) | (refine Below.via' ?_ (by assumption)) | (refine Below.alloc ?_ (by first | omega | (simp; done) | (simp; omega) | exact Below.size (by assumption) | exact Nat.le_trans (Below.size (by assumption)) (by simp)) _) | (refine Below.via ?_ (by assumption) (by first | omega | (simp; done) | (simp; omega) | exact Below.size (by assumption) | exact Nat.le_trans (Below.size (by assumption)) (by simp)))))))
  obtain ⟨hGa22, hGb22, hGc22⟩ := hG_22.out
  try clear hGa21 hGb21 hGc21
  have hH_22 := Lib.hid (hH_21.out.below (show Below w21.heap.size w21 w22 from (by repeat (first | exact Below.refl _ _ | assumption | refine Below.drew ?_ | refine below_drewN ?_ _ | refine Below.alloc' ?_ _ | (refine Below.setCell ?_ (by first | omega | (simp; done) | (simp; omega) | exact Below.size (by assumption) | exact Nat.le_trans (Below.size (by assumption)) (by simp)) _) | (refine Below.via' ?_ (by assumption)) | (refine Below.alloc ?_ (by first | omega | (simp; done) | (simp; omega) | exact Below.size (by assumption) | exact Nat.le_trans (Below.size (by assumption)) (by simp)) _) | (refine Below.via ?_ (by assumption) (by first | omega | (simp; done) | (simp; omega) | exact Below.size (by assumption) | exact Nat.le_trans (Below.size (by assumption)) (by simp)))))))
  obtain ⟨hHa22, hHb22, hHc22⟩ := hH_22.out
  try clear hHa21 hHb21 hHc21
  have B22 : Below w.heap.size w w22 := Below.via' B21 hb22
  have MF22 := Lib.hid (MF21.out.below hb22)
  have MW22 := Lib.hid (MW21.out.below hb22)
  go_wp2_with fail
  refine (heldCube_any _ _ _ _ _ _ _ _ (by omega) (by omega) hRF hRW (MF22.out.below (by exact (by repeat (first | exact Below.refl _ _ | assumption | refine Below.drew ?_ | refine below_drewN ?_ _ | refine Below.alloc' ?_ _ | (refine Below.setCell ?_ (by first | omega | (simp; done) | (simp; omega) | exact Below.size (by assumption) | exact Nat.le_trans (Below.size (by assumption)) (by simp)) _) | (refine Below.via' ?_ (by assumption)) | (refine Below.alloc ?_ (by first | omega | (simp; done) | (simp; omega) | exact Below.size (by assumption) | exact Nat.le_trans (Below.size (by assumption)) (by simp)) _) | (refine Below.via ?_ (by assumption) (by first | omega | (simp; done) | (simp; omega) | exact Below.size (by assumption) | exact Nat.le_trans (Below.size (by assumption)) (by simp))))))) (MW22.out.below (by exact (by repeat (first | exact Below.refl _ _ | assumption | refine Below.drew ?_ | refine below_drewN ?_ _ | refine Below.alloc' ?_ _ | (refine Below.setCell ?_ (by first | omega | (simp; done) | (simp; omega) | exact Below.size (by assumption) | exact Nat.le_trans (Below.size (by assumption)) (by simp)) _) | (refine Below.via' ?_ (by assumption)) | (refine Below.alloc ?_ (by first | omega | (simp; done) | (simp; omega) | exact Below.size (by assumption) | exact Nat.le_trans (Below.size (by assumption)) (by simp)) _) | (refine Below.via ?_ (by assumption) (by first | omega | (simp; done) | (simp; omega) | exact Below.size (by assumption) | exact Nat.le_trans (Below.size (by assumption)) (by simp)))))))).mono ?_
  rintro e w23 ⟨rfl, hb23⟩
  go_wp2
  go_ret
  exact ⟨rfl, (by repeat (first | exact Below.refl _ _ | assumption | refine Below.drew ?_ | refine below_drewN ?_ _ | refine Below.alloc' ?_ _ | (refine Below.setCell ?_ (by first | omega | (simp; done) | (simp; omega) | exact Below.size (by assumption) | exact Nat.le_trans (Below.size (by assumption)) (by simp)) _) | (refine Below.via' ?_ (by assumption)) | (refine Below.alloc ?_ (by first | omega | (simp; done) | (simp; omega) | exact Below.size (by assumption) | exact Nat.le_trans (Below.size (by assumption)) (by simp)) _) | (refine Below.via ?_ (by assumption) (by first | omega | (simp; done) | (simp; omega) | exact Below.size (by assumption) | exact Nat.le_trans (Below.size (by assumption)) (by simp)))))⟩

end Go.Proofs.Ytnmpigedhpdenaa
