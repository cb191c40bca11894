import Derived.Test.YtgkaalonmkcclaaPQiF
import Derived.Test.YtgkaalonmkcclaaTbL
namespace Go.Proofs.Ytgkaalonmkcclaa
open Go.ChangeShapes Go.WideShapes Go.ChangeAt Go.RowKit
set_option maxRecDepth 100000

set_option maxHeartbeats 100000000 in
theorem fnExactNormalTable_any (xP : Option Addr) (cP : Nat) (P : List Int) (xS : Option Addr) (cS : Nat) (S : List (ByteArray × Int)) (xU zU : Option Addr) (cU dU : Nat) (Ul : Int) (UF UW : List Int) (Um : Int) (w : World) (hlP : P.length ≤ 9223372036854775807) (hnP : Hid (∀ n ∈ P, IsI64 n)) (hP : Hid (Rd w xP (iC P))) (hlen : S.length ≤ 9223372036854775807) (hn : Hid (∀ q ∈ S, q.1.size ≤ 9223372036854775807 ∧ IsI64 q.2)) (hS : Hid (Rd w xS (vC S))) (hlUF : UF.length ≤ 9223372036854775807) (hnUF : Hid (∀ n ∈ UF, IsI64 n)) (hUF : Hid (Rd w xU (iC UF))) (hlUW : UW.length ≤ 9223372036854775807) (hnUW : Hid (∀ n ∈ UW, IsI64 n)) (hUW : Hid (Rd w zU (iC UW))) :
    Calls Try.prog 11 #[.agg #[.slice xP P.length cP], .slice xS S.length cS, .agg #[.int .i64 Ul, .slice xU UF.length cU, .slice zU UW.length dU, .int .i64 Um]] w fun e w' => e = .returned (.bool true) ∧ Below w.heap.size w w' := by
  go_enter Try.func11, Try.ntmps11
  go_wp2_with fail
  refine (szGeo_x _ _ _ _ _ (by omega) (by omega) hlP).mono ?_
  rintro e w1 ⟨r1, rfl, hra1, hrb1, hrc1, hb1⟩
  by_cases hr1 : r1 < 0
  · clear hrc1
    go_wp2
    go_ret
    exact ⟨rfl, (by repeat (first | exact Below.refl _ _ | assumption | refine Below.drew ?_ | refine below_drewN ?_ _ | refine Below.alloc' ?_ _ | (refine Below.setCell ?_ (by first | omega | (simp; done) | (simp; omega) | exact Below.size (by assumption) | exact Nat.le_trans (Below.size (by assumption)) (by simp)) _) | (refine Below.via' ?_ (by assumption)) | (refine Below.alloc ?_ (by first | omega | (simp; done) | (simp; omega) | exact Below.size (by assumption) | exact Nat.le_trans (Below.size (by assumption)) (by simp)) _) | (refine Below.via ?_ (by assumption) (by first | omega | (simp; done) | (simp; omega) | exact Below.size (by assumption) | exact Nat.le_trans (Below.size (by assumption)) (by simp)))))⟩
  have hrd1 := hrc1 (by omega)
  have hmP : P.length ≤ 1048576 := by omega
  clear hrc1
  have hkP_1 := Lib.hid (((QB.new w xP P.length cP 24).below (show Below (w.alloc (.cells #[.slice xP P.length cP] 24)).heap.size (w.alloc (.cells #[.slice xP P.length cP] 24)) ((w.alloc (.cells #[.slice xP P.length cP] 24)).alloc (.cells #[.int .i64 Ul, .slice xU UF.length cU, .slice zU UW.length dU, .int .i64 Um] 27)) from (by repeat (first | exact Below.refl _ _ | assumption | refine Below.drew ?_ | refine below_drewN ?_ _ | refine Below.alloc' ?_ _ | (refine Below.setCell ?_ (by first | omega | (simp; done) | (simp; omega) | exact Below.size (by assumption) | exact Nat.le_trans (Below.size (by assumption)) (by simp)) _) | (refine Below.via' ?_ (by assumption)) | (refine Below.alloc ?_ (by first | omega | (simp; done) | (simp; omega) | exact Below.size (by assumption) | exact Nat.le_trans (Below.size (by assumption)) (by simp)) _) | (refine Below.via ?_ (by assumption) (by first | omega | (simp; done) | (simp; omega) | exact Below.size (by assumption) | exact Nat.le_trans (Below.size (by assumption)) (by simp))))))).below hb1)
  obtain ⟨hkPa1, hkPb1, hkPc1⟩ := hkP_1.out
  have hkU_1 : Hid (TQ w1 (w.heap.size + 1) Ul xU UF.length cU zU UW.length dU Um) := by have h0 := (TQ.new (w.alloc (.cells #[.slice xP P.length cP] 24)) Ul xU UF.length cU zU UW.length dU Um 27).below hb1; simpa [Hid] using h0
  obtain ⟨hkUa1, hkUb1, hkUc1, hkUd1, hkUe1⟩ := hkU_1.out
  have ccE : w.heap.size + 2 ≤ w1.heap.size := by have h0 := hb1.size; (try simp at h0); omega
  go_wp2_with fail
  refine (szVariableS_any _ _ S _ _ (by omega) (by omega) hlen (fun p hp => (hn.out p hp).1) (hS.out.below (by exact (by repeat (first | exact Below.refl _ _ | assumption | refine Below.drew ?_ | refine below_drewN ?_ _ | refine Below.alloc' ?_ _ | (refine Below.setCell ?_ (by first | omega | (simp; done) | (simp; omega) | exact Below.size (by assumption) | exact Nat.le_trans (Below.size (by assumption)) (by simp)) _) | (refine Below.via' ?_ (by assumption)) | (refine Below.alloc ?_ (by first | omega | (simp; done) | (simp; omega) | exact Below.size (by assumption) | exact Nat.le_trans (Below.size (by assumption)) (by simp)) _) | (refine Below.via ?_ (by assumption) (by first | omega | (simp; done) | (simp; omega) | exact Below.size (by assumption) | exact Nat.le_trans (Below.size (by assumption)) (by simp)))))))).mono ?_
  rintro e w2 ⟨r2, rfl, hra2, hrb2, hrc2, hb2⟩
  by_cases hr2 : r2 < 0
  · clear hrc2
    go_wp2
    go_ret
    exact ⟨rfl, (by repeat (first | exact Below.refl _ _ | assumption | refine Below.drew ?_ | refine below_drewN ?_ _ | refine Below.alloc' ?_ _ | (refine Below.setCell ?_ (by first | omega | (simp; done) | (simp; omega) | exact Below.size (by assumption) | exact Nat.le_trans (Below.size (by assumption)) (by simp)) _) | (refine Below.via' ?_ (by assumption)) | (refine Below.alloc ?_ (by first | omega | (simp; done) | (simp; omega) | exact Below.size (by assumption) | exact Nat.le_trans (Below.size (by assumption)) (by simp)) _) | (refine Below.via ?_ (by assumption) (by first | omega | (simp; done) | (simp; omega) | exact Below.size (by assumption) | exact Nat.le_trans (Below.size (by assumption)) (by simp)))))⟩
  obtain ⟨hm, hsz⟩ := hrc2 (by omega)
  have hm : S.length ≤ 1048576 := by omega
  clear hrc2 hsz
  have hkP_2 := Lib.hid (hkP_1.out.below (show Below w1.heap.size w1 w2 from (by repeat (first | exact Below.refl _ _ | assumption | refine Below.drew ?_ | refine below_drewN ?_ _ | refine Below.alloc' ?_ _ | (refine Below.setCell ?_ (by first | omega | (simp; done) | (simp; omega) | exact Below.size (by assumption) | exact Nat.le_trans (Below.size (by assumption)) (by simp)) _) | (refine Below.via' ?_ (by assumption)) | (refine Below.alloc ?_ (by first | omega | (simp; done) | (simp; omega) | exact Below.size (by assumption) | exact Nat.le_trans (Below.size (by assumption)) (by simp)) _) | (refine Below.via ?_ (by assumption) (by first | omega | (simp; done) | (simp; omega) | exact Below.size (by assumption) | exact Nat.le_trans (Below.size (by assumption)) (by simp)))))))
  obtain ⟨hkPa2, hkPb2, hkPc2⟩ := hkP_2.out
  try clear hkPa1 hkPb1 hkPc1
  have hkU_2 := Lib.hid (hkU_1.out.below (show Below w1.heap.size w1 w2 from (by repeat (first | exact Below.refl _ _ | assumption | refine Below.drew ?_ | refine below_drewN ?_ _ | refine Below.alloc' ?_ _ | (refine Below.setCell ?_ (by first | omega | (simp; done) | (simp; omega) | exact Below.size (by assumption) | exact Nat.le_trans (Below.size (by assumption)) (by simp)) _) | (refine Below.via' ?_ (by assumption)) | (refine Below.alloc ?_ (by first | omega | (simp; done) | (simp; omega) | exact Below.size (by assumption) | exact Nat.le_trans (Below.size (by assumption)) (by simp)) _) | (refine Below.via ?_ (by assumption) (by first | omega | (simp; done) | (simp; omega) | exact Below.size (by assumption) | exact Nat.le_trans (Below.size (by assumption)) (by simp)))))))
  obtain ⟨hkUa2, hkUb2, hkUc2, hkUd2, hkUe2⟩ := hkU_2.out
  try clear hkUa1 hkUb1 hkUc1 hkUd1 hkUe1
  have cz2 : w1.heap.size ≤ w2.heap.size := hb2.size
  go_wp2_with fail
  refine (szTable_x _ _ _ _ _ _ _ _ _ _ (by omega) (by omega) hlUF hlUW).mono ?_
  rintro e w3 ⟨r3, rfl, hra3, hrb3, hrc3, hb3⟩
  by_cases hr3 : r3 < 0
  · clear hrc3
    go_wp2
    go_ret
    exact ⟨rfl, (by repeat (first | exact Below.refl _ _ | assumption | refine Below.drew ?_ | refine below_drewN ?_ _ | refine Below.alloc' ?_ _ | (refine Below.setCell ?_ (by first | omega | (simp; done) | (simp; omega) | exact Below.size (by assumption) | exact Nat.le_trans (Below.size (by assumption)) (by simp)) _) | (refine Below.via' ?_ (by assumption)) | (refine Below.alloc ?_ (by first | omega | (simp; done) | (simp; omega) | exact Below.size (by assumption) | exact Nat.le_trans (Below.size (by assumption)) (by simp)) _) | (refine Below.via ?_ (by assumption) (by first | omega | (simp; done) | (simp; omega) | exact Below.size (by assumption) | exact Nat.le_trans (Below.size (by assumption)) (by simp)))))⟩
  have hrd3 := hrc3 (by omega)
  have hmUF : UF.length ≤ 1048576 := by omega
  have hmUW : UW.length ≤ 1048576 := by omega
  clear hrc3
  have hkP_3 := Lib.hid (hkP_2.out.below (show Below w2.heap.size w2 w3 from (by repeat (first | exact Below.refl _ _ | assumption | refine Below.drew ?_ | refine below_drewN ?_ _ | refine Below.alloc' ?_ _ | (refine Below.setCell ?_ (by first | omega | (simp; done) | (simp; omega) | exact Below.size (by assumption) | exact Nat.le_trans (Below.size (by assumption)) (by simp)) _) | (refine Below.via' ?_ (by assumption)) | (refine Below.alloc ?_ (by first | omega | (simp; done) | (simp; omega) | exact Below.size (by assumption) | exact Nat.le_trans (Below.size (by assumption)) (by simp)) _) | (refine Below.via ?_ (by assumption) (by first | omega | (simp; done) | (simp; omega) | exact Below.size (by assumption) | exact Nat.le_trans (Below.size (by assumption)) (by simp)))))))
  obtain ⟨hkPa3, hkPb3, hkPc3⟩ := hkP_3.out
  try clear hkPa2 hkPb2 hkPc2
  have hkU_3 := Lib.hid (hkU_2.out.below (show Below w2.heap.size w2 w3 from (by repeat (first | exact Below.refl _ _ | assumption | refine Below.drew ?_ | refine below_drewN ?_ _ | refine Below.alloc' ?_ _ | (refine Below.setCell ?_ (by first | omega | (simp; done) | (simp; omega) | exact Below.size (by assumption) | exact Nat.le_trans (Below.size (by assumption)) (by simp)) _) | (refine Below.via' ?_ (by assumption)) | (refine Below.alloc ?_ (by first | omega | (simp; done) | (simp; omega) | exact Below.size (by assumption) | exact Nat.le_trans (Below.size (by assumption)) (by simp)) _) | (refine Below.via ?_ (by assumption) (by first | omega | (simp; done) | (simp; omega) | exact Below.size (by assumption) | exact Nat.le_trans (Below.size (by assumption)) (by simp)))))))
  obtain ⟨hkUa3, hkUb3, hkUc3, hkUd3, hkUe3⟩ := hkU_3.out
  try clear hkUa2 hkUb2 hkUc2 hkUd2 hkUe2
  have cz3 : w2.heap.size ≤ w3.heap.size := hb3.size
  obtain ⟨RR, hRR⟩ : ∃ RR, RR = ntR P S Ul UF UW Um := ⟨_, rfl⟩
  have hRF : RR.2.1.length ≤ 1048576 := by rw [hRR]; exact ntR_lF (by omega)
  have hRW : RR.2.2.1.length ≤ 1048576 := by rw [hRR]; exact ntR_lW (by omega)
  have hnRF : Hid (∀ n ∈ RR.2.1, IsI64 n) := by rw [hRR]; exact ntR_iF hnUF.out
  have hnRW : Hid (∀ n ∈ RR.2.2.1, IsI64 n) := by rw [hRR]; exact ntR_iW hnUW.out
  replace hRR := Lib.hid hRR
  go_upto_region 11 with fail
  go_cut [8, 9] (fun s8 s9 wx => TbAt s8 RR w3.heap.size wx ∧ s9 = .bool (tgB P S Ul UF UW Um) ∧ Below w3.heap.size w3 wx)
  case first =>
    have hB0 : Below w.heap.size w w3 := (by repeat (first | exact Below.refl _ _ | assumption | refine Below.drew ?_ | refine below_drewN ?_ _ | refine Below.alloc' ?_ _ | (refine Below.setCell ?_ (by first | omega | (simp; done) | (simp; omega) | exact Below.size (by assumption) | exact Nat.le_trans (Below.size (by assumption)) (by simp)) _) | (refine Below.via' ?_ (by assumption)) | (refine Below.alloc ?_ (by first | omega | (simp; done) | (simp; omega) | exact Below.size (by assumption) | exact Nat.le_trans (Below.size (by assumption)) (by simp)) _) | (refine Below.via ?_ (by assumption) (by first | omega | (simp; done) | (simp; omega) | exact Below.size (by assumption) | exact Nat.le_trans (Below.size (by assumption)) (by simp)))))
    refine wp_region_held_drew (S := fun X => Below w3.heap.size w3 X) (by kernel_rfl) (Below.drew (Below.refl _ _)) (fun hH => ?_)
    refine wpAnyH_take (i := 0) (v := ?_) rfl (by kernel_rfl) (by kernel_rfl) (by kernel_rfl) (fun _ _ _ h => h) (Or.inl ⟨by rfl, ?_⟩) (by assumption) ?_; rotate_left; · (intro wz hz; (have f0 := (hz.cell (p := ⟨w.heap.size, 0, none⟩) hkPc3).trans hkPa3); clear hz; go_simp; try with_reducible rfl); (try simp only [Act.put, List.getElem_toArray, List.getElem_cons_succ, List.getElem_cons_zero, List.setIfInBounds_toArray, List.set_cons_zero, List.set_cons_succ])
    refine wpAnyH_take (i := 2) (v := ?_) rfl (by kernel_rfl) (by kernel_rfl) (by kernel_rfl) (fun _ _ _ h => h) (Or.inl ⟨by rfl, ?_⟩) (by assumption) ?_; rotate_left; · (intro wz hz; (skip); clear hz; go_simp; try with_reducible rfl); (try simp only [Act.put, List.getElem_toArray, List.getElem_cons_succ, List.getElem_cons_zero, List.setIfInBounds_toArray, List.set_cons_zero, List.set_cons_succ])
    refine wpAnyH_take (i := 4) (v := ?_) rfl (by kernel_rfl) (by kernel_rfl) (by kernel_rfl) (fun _ _ _ h => h) (Or.inl ⟨by rfl, ?_⟩) (by assumption) ?_; rotate_left; · (intro wz hz; (have f0 := (hz.cell (p := ⟨w.heap.size + 1, 0, none⟩) hkUe3).trans hkUa3; have f1 := (hz.cell (p := ⟨w.heap.size + 1, 1, none⟩) hkUe3).trans hkUb3; have f2 := (hz.cell (p := ⟨w.heap.size + 1, 2, none⟩) hkUe3).trans hkUc3; have f3 := (hz.cell (p := ⟨w.heap.size + 1, 3, none⟩) hkUe3).trans hkUd3); clear hz; go_simp; try with_reducible rfl); (try simp only [Act.put, List.getElem_toArray, List.getElem_cons_succ, List.getElem_cons_zero, List.setIfInBounds_toArray, List.set_cons_zero, List.set_cons_succ])
    replace hH := Lib.hid hH
    refine wpAnyH_ready (rs := [1, 10]) (by kernel_rfl) (by simp) (AllReadyH.cons rfl (fun K hK => ?_) (AllReadyH.cons rfl (fun K hK => ?_) AllReadyH.nil))
    go_simp
    refine (toGeo_any xP cP P _ hmP (hP.out.below (Below.via' hB0 hH.out))).mono ?_
    rintro e w4 ⟨g4, rfl, ho4, hb4⟩
    have hi4 : Hid (IIn w4 (some ⟨g4, 0, none⟩) P) := ⟨hmP, hnP.out, Rd.of_own ho4⟩
    have hq4 := Lib.hid (Below.via' hH.out hb4)
    refine hK.out _ _ hq4.out (fun hSs => ?_)
    clear hK K hSs
    (try simp only [Act.put, List.getElem_toArray, List.getElem_cons_succ, List.getElem_cons_zero, List.setIfInBounds_toArray, List.set_cons_zero, List.set_cons_succ])
    refine wpAnyH_ready (rs := [3, 10]) (by kernel_rfl) (by simp) (AllReadyH.cons rfl (fun K hK => ?_) (AllReadyH.cons rfl (fun K hK => ?_) AllReadyH.nil))
    go_simp
    refine (toVariableS_any _ _ S _ hm (hS.out.below (Below.via' hB0 hq4.out))).mono ?_
    rintro e w5 ⟨rfl, ho5, hb5⟩
    try simp only [drew_sizeT] at ho5
    try simp only [World.size_alloc] at ho5
    have hi5 := Lib.hid (show SIn w5 _ S.length S from ⟨hm, Nat.le_refl _, hn.out, Rd.of_own ho5⟩)
    have hq5 := Lib.hid (Below.via' hq4.out hb5)
    refine hK.out _ _ hq5.out (fun hSs => ?_)
    clear hK K hSs
    (try simp only [Act.put, List.getElem_toArray, List.getElem_cons_succ, List.getElem_cons_zero, List.setIfInBounds_toArray, List.set_cons_zero, List.set_cons_succ])
    refine wpAnyH_ready (rs := [5, 10]) (by kernel_rfl) (by simp) (AllReadyH.cons rfl (fun K hK => ?_) (AllReadyH.cons rfl (fun K hK => ?_) AllReadyH.nil))
    go_simp
    refine (toTable_any Ul xU zU cU dU UF UW Um _ hmUF hmUW (hUF.out.below (Below.via' hB0 hq5.out)) (hUW.out.below (Below.via' hB0 hq5.out))).mono ?_
    rintro e w6 ⟨g6, f6, rfl, ho6, hb6⟩
    have hi6 : Hid (TIn w6 (some ⟨g6, 0, none⟩) (some ⟨f6, 0, none⟩) UF UW) := Lib.hid (TIn.of_owT ho6 hmUF hmUW hnUF.out hnUW.out)
    have hq6 := Lib.hid (Below.via' hq5.out hb6)
    refine hK.out _ _ hq6.out (fun hSs => ?_)
    clear hK K hSs
    (try simp only [Act.put, List.getElem_toArray, List.getElem_cons_succ, List.getElem_cons_zero, List.setIfInBounds_toArray, List.set_cons_zero, List.set_cons_succ])
    refine wpAnyH_ready (rs := [6, 10]) (by kernel_rfl) (by simp) (AllReadyH.cons rfl (fun K hK => ?_) (AllReadyH.cons rfl (fun K hK => ?_) AllReadyH.nil))
    go_simp
    refine (sNT_x _ _ _ _ _ _ _ _ P S Ul UF UW Um _ (hi4.out.below (Below.via' (Below.via' (Below.refl _ _) hb5) hb6)) (hi5.out.below (Below.via' (Below.refl _ _) hb6)) (hi6.out.below (Below.refl _ _)) (Nat.le_refl _) (fun h => by cases h) (Nat.le_refl _) (fun h => by cases h)).mono ?_
    rintro e w7 ⟨x7, c7, z7, d7, rfl, ho7, hb7⟩
    rw [← hRR.out] at ho7 ⊢
    have hq7 := Lib.hid (Below.via' hq6.out hb7)
    have la0 : w3.heap.size ≤ (w6).heap.size := (hq6.out).size
    refine hK.out _ _ hq7.out (fun hSs => ?_)
    clear hK K
    (try simp only [Act.put, List.getElem_toArray, List.getElem_cons_succ, List.getElem_cons_zero, List.setIfInBounds_toArray, List.set_cons_zero, List.set_cons_succ])
    refine wpAnyH_take (i := 7) (v := ?_) rfl (by kernel_rfl) (by kernel_rfl) (by kernel_rfl) (fun _ _ _ h => h) (Or.inl ⟨by rfl, ?_⟩) (by assumption) ?_; rotate_left; · (intro wz hz; (skip); clear hz; go_simp; try with_reducible rfl); (try simp only [Act.put, List.getElem_toArray, List.getElem_cons_succ, List.getElem_cons_zero, List.setIfInBounds_toArray, List.set_cons_zero, List.set_cons_succ])
    refine wpAnyH_take (i := 8) (v := ?_) rfl (by kernel_rfl) (by kernel_rfl) (by kernel_rfl) (fun _ _ _ h => h) (Or.inl ⟨by rfl, ?_⟩) (by assumption) ?_; rotate_left; · (intro wz hz; (skip); clear hz; go_simp; try with_reducible rfl); (try simp only [Act.put, List.getElem_toArray, List.getElem_cons_succ, List.getElem_cons_zero, List.setIfInBounds_toArray, List.set_cons_zero, List.set_cons_succ])
    refine wpAnyH_take (i := 9) (v := ?_) rfl (by kernel_rfl) (by kernel_rfl) (by kernel_rfl) (fun _ _ _ h => h) (Or.inl ⟨by rfl, ?_⟩) (by assumption) ?_; rotate_left; · (intro wz hz; (skip); clear hz; go_simp; try with_reducible rfl); (try simp only [Act.put, List.getElem_toArray, List.getElem_cons_succ, List.getElem_cons_zero, List.setIfInBounds_toArray, List.set_cons_zero, List.set_cons_succ])
    replace hSs := Lib.hid hSs
    refine wpAnyH_ready (rs := [10]) (by kernel_rfl) (by simp) (AllReadyH.cons rfl (fun K hK => ?_) AllReadyH.nil); go_simp
    have bx := Lib.hid (show Wb (w7.alloc (.cells #[.int .i64 0, .slice none 0 0, .slice none 0 0, .int .i64 0] 37)) w7.heap.size 37 #[.int .i64 0, .slice none 0 0, .slice none 0 0, .int .i64 0] from Wb.new w7 _ _)
    have hal := Lib.hid (Below.alloc' hq7.out (.cells #[.int .i64 0, .slice none 0 0, .slice none 0 0, .int .i64 0] 37))
    have ga0 : w3.heap.size ≤ w7.heap.size := hq7.out.size
    refine hK.out _ _ hal.out (fun hSs => ?_)
    clear hK K hSs
    (try simp only [Act.put, List.getElem_toArray, List.getElem_cons_succ, List.getElem_cons_zero, List.setIfInBounds_toArray, List.set_cons_zero, List.set_cons_succ])
    have hoA := (ho7.below (show Below w7.heap.size w7 (w7.alloc (.cells #[.int .i64 0, .slice none 0 0, .slice none 0 0, .int .i64 0] 37)) from (by repeat (first | exact Below.refl _ _ | assumption | refine Below.drew ?_ | refine below_drewN ?_ _ | refine Below.alloc' ?_ _ | (refine Below.setCell ?_ (by first | omega | (simp; done) | (simp; omega) | exact Below.size (by assumption) | exact Nat.le_trans (Below.size (by assumption)) (by simp)) _) | (refine Below.via' ?_ (by assumption)) | (refine Below.alloc ?_ (by first | omega | (simp; done) | (simp; omega) | exact Below.size (by assumption) | exact Nat.le_trans (Below.size (by assumption)) (by simp)) _) | (refine Below.via ?_ (by assumption) (by first | omega | (simp; done) | (simp; omega) | exact Below.size (by assumption) | exact Nat.le_trans (Below.size (by assumption)) (by simp)))))))
    replace hoA := Lib.hid hoA
    have ya := bx.out.read 0
    have yb := bx.out.read 1
    have yc := bx.out.read 2
    have yd := bx.out.read 3
    have ye := bx.out.free 0
    have yf := bx.out.free 1
    have yg := bx.out.free 2
    have yh := bx.out.free 3
    have yin := bx.out.inside
    refine wpAnyH_ready (rs := [11]) (by kernel_rfl) (by simp) (AllReadyH.cons rfl (fun K hK => ?_) AllReadyH.nil); go_simp
    have hst := Below.alloc' hq7.out (.cells #[.int .i64 RR.1, .slice x7 RR.2.1.length c7, .slice z7 RR.2.2.1.length d7, .int .i64 RR.2.2.2] 37)
    have hat := tbAt_new (lo := w3.heap.size) ho7 (hq7.out).size la0 (Nat.le_refl _)
    replace hat := Lib.hid hat
    refine hK.out _ _ hst (fun hSs => ?_)
    clear hK K hSs ya yb yc yd ye yf yg yh
    (try simp only [Act.put, List.getElem_toArray, List.getElem_cons_succ, List.getElem_cons_zero, List.setIfInBounds_toArray, List.set_cons_zero, List.set_cons_succ])
    refine wpAnyH_ready (rs := [12]) (by kernel_rfl) (by simp) (AllReadyH.cons rfl (fun K hK => ?_) AllReadyH.nil); go_simp
    refine hK.out _ _ hst (fun _ => ?_)
    clear hK K
    (try simp only [Act.put, List.getElem_toArray, List.getElem_cons_succ, List.getElem_cons_zero, List.setIfInBounds_toArray, List.set_cons_zero, List.set_cons_succ])
    refine wpAnyH_done (by kernel_rfl) ?_ _
    go_wp2_with fail
    go_meet
    exact ⟨hat.out, rfl, hst⟩
    go_simp
    have bx := Lib.hid (show Wb (w6.alloc (.cells #[.int .i64 0, .slice none 0 0, .slice none 0 0, .int .i64 0] 37)) w6.heap.size 37 #[.int .i64 0, .slice none 0 0, .slice none 0 0, .int .i64 0] from Wb.new w6 _ _)
    have hal := Lib.hid (Below.alloc' hq6.out (.cells #[.int .i64 0, .slice none 0 0, .slice none 0 0, .int .i64 0] 37))
    have ga0 : w3.heap.size ≤ w6.heap.size := hq6.out.size
    refine hK.out _ _ hal.out (fun hSs => ?_)
    clear hK K hSs
    (try simp only [Act.put, List.getElem_toArray, List.getElem_cons_succ, List.getElem_cons_zero, List.setIfInBounds_toArray, List.set_cons_zero, List.set_cons_succ])
    refine wpAnyH_ready (rs := [6]) (by kernel_rfl) (by simp) (AllReadyH.cons rfl (fun K hK => ?_) AllReadyH.nil); go_simp
    refine (sNT_x _ _ _ _ _ _ _ _ P S Ul UF UW Um _ (hi4.out.below (Below.alloc' (Below.via' (Below.via' (Below.refl _ _) hb5) hb6) _)) (hi5.out.below (Below.alloc' (Below.via' (Below.refl _ _) hb6) _)) (hi6.out.below (Below.alloc' (Below.refl _ _) _)) (Nat.le_refl _) (fun h => by cases h) (Nat.le_refl _) (fun h => by cases h)).mono ?_
    rintro e w7 ⟨x7, c7, z7, d7, rfl, ho7, hb7⟩
    rw [← hRR.out] at ho7 ⊢
    have hq7 := Lib.hid (Below.via' hal.out hb7)
    have la0 : w3.heap.size ≤ ((w6.alloc (.cells #[.int .i64 0, .slice none 0 0, .slice none 0 0, .int .i64 0] 37))).heap.size := (hal.out).size
    have gin := bx.out.inside
    replace bx := Lib.hid (bx.out.kept hb7)
    refine hK.out _ _ hq7.out (fun hSs => ?_)
    clear hK K
    (try simp only [Act.put, List.getElem_toArray, List.getElem_cons_succ, List.getElem_cons_zero, List.setIfInBounds_toArray, List.set_cons_zero, List.set_cons_succ])
    refine wpAnyH_take (i := 7) (v := ?_) rfl (by kernel_rfl) (by kernel_rfl) (by kernel_rfl) (fun _ _ _ h => h) (Or.inl ⟨by rfl, ?_⟩) (by assumption) ?_; rotate_left; · (intro wz hz; (skip); clear hz; go_simp; try with_reducible rfl); (try simp only [Act.put, List.getElem_toArray, List.getElem_cons_succ, List.getElem_cons_zero, List.setIfInBounds_toArray, List.set_cons_zero, List.set_cons_succ])
    refine wpAnyH_take (i := 8) (v := ?_) rfl (by kernel_rfl) (by kernel_rfl) (by kernel_rfl) (fun _ _ _ h => h) (Or.inl ⟨by rfl, ?_⟩) (by assumption) ?_; rotate_left; · (intro wz hz; (skip); clear hz; go_simp; try with_reducible rfl); (try simp only [Act.put, List.getElem_toArray, List.getElem_cons_succ, List.getElem_cons_zero, List.setIfInBounds_toArray, List.set_cons_zero, List.set_cons_succ])
    refine wpAnyH_take (i := 9) (v := ?_) rfl (by kernel_rfl) (by kernel_rfl) (by kernel_rfl) (fun _ _ _ h => h) (Or.inl ⟨by rfl, ?_⟩) (by assumption) ?_; rotate_left; · (intro wz hz; (skip); clear hz; go_simp; try with_reducible rfl); (try simp only [Act.put, List.getElem_toArray, List.getElem_cons_succ, List.getElem_cons_zero, List.setIfInBounds_toArray, List.set_cons_zero, List.set_cons_succ])
    replace hSs := Lib.hid hSs
    have hoA := ho7
    replace hoA := Lib.hid hoA
    have ya := bx.out.read 0
    have yb := bx.out.read 1
    have yc := bx.out.read 2
    have yd := bx.out.read 3
    have ye := bx.out.free 0
    have yf := bx.out.free 1
    have yg := bx.out.free 2
    have yh := bx.out.free 3
    have yin := bx.out.inside
    refine wpAnyH_ready (rs := [11]) (by kernel_rfl) (by simp) (AllReadyH.cons rfl (fun K hK => ?_) AllReadyH.nil); go_simp
    have hst : Below w3.heap.size w3 ((w7).setCell ⟨w6.heap.size, 0, none⟩ (.int .i64 RR.1) |>.setCell ⟨w6.heap.size, 1, none⟩ (.slice x7 RR.2.1.length c7) |>.setCell ⟨w6.heap.size, 2, none⟩ (.slice z7 RR.2.2.1.length d7) |>.setCell ⟨w6.heap.size, 3, none⟩ (.int .i64 RR.2.2.2)) := below_set4 hq7.out ga0
    have hat := tbAt_of (lo := w3.heap.size) bx.out hoA.out ga0 la0 (Nat.le_refl _) (Or.inl gin)
    replace hat := Lib.hid hat
    refine hK.out _ _ hst (fun hSs => ?_)
    clear hK K hSs ya yb yc yd ye yf yg yh
    (try simp only [Act.put, List.getElem_toArray, List.getElem_cons_succ, List.getElem_cons_zero, List.setIfInBounds_toArray, List.set_cons_zero, List.set_cons_succ])
    refine wpAnyH_ready (rs := [12]) (by kernel_rfl) (by simp) (AllReadyH.cons rfl (fun K hK => ?_) AllReadyH.nil); go_simp
    refine hK.out _ _ hst (fun _ => ?_)
    clear hK K
    (try simp only [Act.put, List.getElem_toArray, List.getElem_cons_succ, List.getElem_cons_zero, List.setIfInBounds_toArray, List.set_cons_zero, List.set_cons_succ])
    refine wpAnyH_done (by kernel_rfl) ?_ _
    go_wp2_with fail
    go_meet
    exact ⟨hat.out, rfl, hst⟩
    go_simp
    have bx := Lib.hid (show Wb (w5.alloc (.cells #[.int .i64 0, .slice none 0 0, .slice none 0 0, .int .i64 0] 37)) w5.heap.size 37 #[.int .i64 0, .slice none 0 0, .slice none 0 0, .int .i64 0] from Wb.new w5 _ _)
    have hal := Lib.hid (Below.alloc' hq5.out (.cells #[.int .i64 0, .slice none 0 0, .slice none 0 0, .int .i64 0] 37))
    have ga0 : w3.heap.size ≤ w5.heap.size := hq5.out.size
    refine hK.out _ _ hal.out (fun hSs => ?_)
    clear hK K hSs
    (try simp only [Act.put, List.getElem_toArray, List.getElem_cons_succ, List.getElem_cons_zero, List.setIfInBounds_toArray, List.set_cons_zero, List.set_cons_succ])
    refine wpAnyH_ready (rs := [5]) (by kernel_rfl) (by simp) (AllReadyH.cons rfl (fun K hK => ?_) AllReadyH.nil); go_simp
    refine (toTable_any Ul xU zU cU dU UF UW Um _ hmUF hmUW (hUF.out.below (Below.via' hB0 hal.out)) (hUW.out.below (Below.via' hB0 hal.out))).mono ?_
    rintro e w6 ⟨g6, f6, rfl, ho6, hb6⟩
    have hi6 : Hid (TIn w6 (some ⟨g6, 0, none⟩) (some ⟨f6, 0, none⟩) UF UW) := Lib.hid (TIn.of_owT ho6 hmUF hmUW hnUF.out hnUW.out)
    have hq6 := Lib.hid (Below.via' hal.out hb6)
    replace bx := Lib.hid (bx.out.kept hb6)
    refine hK.out _ _ hq6.out (fun hSs => ?_)
    clear hK K hSs
    (try simp only [Act.put, List.getElem_toArray, List.getElem_cons_succ, List.getElem_cons_zero, List.setIfInBounds_toArray, List.set_cons_zero, List.set_cons_succ])
    refine wpAnyH_ready (rs := [6]) (by kernel_rfl) (by simp) (AllReadyH.cons rfl (fun K hK => ?_) AllReadyH.nil); go_simp
    refine (sNT_x _ _ _ _ _ _ _ _ P S Ul UF UW Um _ (hi4.out.below (Below.via' (Below.alloc' (Below.via' (Below.refl _ _) hb5) _) hb6)) (hi5.out.below (Below.via' (Below.alloc' (Below.refl _ _) _) hb6)) (hi6.out.below (Below.refl _ _)) (Nat.le_refl _) (fun h => by cases h) (Nat.le_refl _) (fun h => by cases h)).mono ?_
    rintro e w7 ⟨x7, c7, z7, d7, rfl, ho7, hb7⟩
    rw [← hRR.out] at ho7 ⊢
    have hq7 := Lib.hid (Below.via' hq6.out hb7)
    have la0 : w3.heap.size ≤ (w6).heap.size := (hq6.out).size
    have gin := bx.out.inside
    replace bx := Lib.hid (bx.out.kept hb7)
    refine hK.out _ _ hq7.out (fun hSs => ?_)
    clear hK K
    (try simp only [Act.put, List.getElem_toArray, List.getElem_cons_succ, List.getElem_cons_zero, List.setIfInBounds_toArray, List.set_cons_zero, List.set_cons_succ])
    refine wpAnyH_take (i := 7) (v := ?_) rfl (by kernel_rfl) (by kernel_rfl) (by kernel_rfl) (fun _ _ _ h => h) (Or.inl ⟨by rfl, ?_⟩) (by assumption) ?_; rotate_left; · (intro wz hz; (skip); clear hz; go_simp; try with_reducible rfl); (try simp only [Act.put, List.getElem_toArray, List.getElem_cons_succ, List.getElem_cons_zero, List.setIfInBounds_toArray, List.set_cons_zero, List.set_cons_succ])
    refine wpAnyH_take (i := 8) (v := ?_) rfl (by kernel_rfl) (by kernel_rfl) (by kernel_rfl) (fun _ _ _ h => h) (Or.inl ⟨by rfl, ?_⟩) (by assumption) ?_; rotate_left; · (intro wz hz; (skip); clear hz; go_simp; try with_reducible rfl); (try simp only [Act.put, List.getElem_toArray, List.getElem_cons_succ, List.getElem_cons_zero, List.setIfInBounds_toArray, List.set_cons_zero, List.set_cons_succ])
    refine wpAnyH_take (i := 9) (v := ?_) rfl (by kernel_rfl) (by kernel_rfl) (by kernel_rfl) (fun _ _ _ h => h) (Or.inl ⟨by rfl, ?_⟩) (by assumption) ?_; rotate_left; · (intro wz hz; (skip); clear hz; go_simp; try with_reducible rfl); (try simp only [Act.put, List.getElem_toArray, List.getElem_cons_succ, List.getElem_cons_zero, List.setIfInBounds_toArray, List.set_cons_zero, List.set_cons_succ])
    replace hSs := Lib.hid hSs
    have hoA := ho7
    replace hoA := Lib.hid hoA
    have ya := bx.out.read 0
    have yb := bx.out.read 1
    have yc := bx.out.read 2
    have yd := bx.out.read 3
    have ye := bx.out.free 0
    have yf := bx.out.free 1
    have yg := bx.out.free 2
    have yh := bx.out.free 3
    have yin := bx.out.inside
    refine wpAnyH_ready (rs := [11]) (by kernel_rfl) (by simp) (AllReadyH.cons rfl (fun K hK => ?_) AllReadyH.nil); go_simp
    have hst : Below w3.heap.size w3 ((w7).setCell ⟨w5.heap.size, 0, none⟩ (.int .i64 RR.1) |>.setCell ⟨w5.heap.size, 1, none⟩ (.slice x7 RR.2.1.length c7) |>.setCell ⟨w5.heap.size, 2, none⟩ (.slice z7 RR.2.2.1.length d7) |>.setCell ⟨w5.heap.size, 3, none⟩ (.int .i64 RR.2.2.2)) := below_set4 hq7.out ga0
    have hat := tbAt_of (lo := w3.heap.size) bx.out hoA.out ga0 la0 (Nat.le_refl _) (Or.inl gin)
    replace hat := Lib.hid hat
    refine hK.out _ _ hst (fun hSs => ?_)
    clear hK K hSs ya yb yc yd ye yf yg yh
    (try simp only [Act.put, List.getElem_toArray, List.getElem_cons_succ, List.getElem_cons_zero, List.setIfInBounds_toArray, List.set_cons_zero, List.set_cons_succ])
    refine wpAnyH_ready (rs := [12]) (by kernel_rfl) (by simp) (AllReadyH.cons rfl (fun K hK => ?_) AllReadyH.nil); go_simp
    refine hK.out _ _ hst (fun _ => ?_)
    clear hK K
    (try simp only [Act.put, List.getElem_toArray, List.getElem_cons_succ, List.getElem_cons_zero, List.setIfInBounds_toArray, List.set_cons_zero, List.set_cons_succ])
    refine wpAnyH_done (by kernel_rfl) ?_ _
    go_wp2_with fail
    go_meet
    exact ⟨hat.out, rfl, hst⟩
    go_simp
    have bx := Lib.hid (show Wb (w4.alloc (.cells #[.int .i64 0, .slice none 0 0, .slice none 0 0, .int .i64 0] 37)) w4.heap.size 37 #[.int .i64 0, .slice none 0 0, .slice none 0 0, .int .i64 0] from Wb.new w4 _ _)
    have hal := Lib.hid (Below.alloc' hq4.out (.cells #[.int .i64 0, .slice none 0 0, .slice none 0 0, .int .i64 0] 37))
    have ga0 : w3.heap.size ≤ w4.heap.size := hq4.out.size
    refine hK.out _ _ hal.out (fun hSs => ?_)
    clear hK K hSs
    (try simp only [Act.put, List.getElem_toArray, List.getElem_cons_succ, List.getElem_cons_zero, List.setIfInBounds_toArray, List.set_cons_zero, List.set_cons_succ])
    refine wpAnyH_ready (rs := [3]) (by kernel_rfl) (by simp) (AllReadyH.cons rfl (fun K hK => ?_) AllReadyH.nil); go_simp
    refine (toVariableS_any _ _ S _ hm (hS.out.below (Below.via' hB0 hal.out))).mono ?_
    rintro e w5 ⟨rfl, ho5, hb5⟩
    try simp only [drew_sizeT] at ho5
    try simp only [World.size_alloc] at ho5
    have hi5 := Lib.hid (show SIn w5 _ S.length S from ⟨hm, Nat.le_refl _, hn.out, Rd.of_own ho5⟩)
    have hq5 := Lib.hid (Below.via' hal.out hb5)
    replace bx := Lib.hid (bx.out.kept hb5)
    refine hK.out _ _ hq5.out (fun hSs => ?_)
    clear hK K hSs
    (try simp only [Act.put, List.getElem_toArray, List.getElem_cons_succ, List.getElem_cons_zero, List.setIfInBounds_toArray, List.set_cons_zero, List.set_cons_succ])
    refine wpAnyH_ready (rs := [5]) (by kernel_rfl) (by simp) (AllReadyH.cons rfl (fun K hK => ?_) AllReadyH.nil); go_simp
    refine (toTable_any Ul xU zU cU dU UF UW Um _ hmUF hmUW (hUF.out.below (Below.via' hB0 hq5.out)) (hUW.out.below (Below.via' hB0 hq5.out))).mono ?_
    rintro e w6 ⟨g6, f6, rfl, ho6, hb6⟩
    have hi6 : Hid (TIn w6 (some ⟨g6, 0, none⟩) (some ⟨f6, 0, none⟩) UF UW) := Lib.hid (TIn.of_owT ho6 hmUF hmUW hnUF.out hnUW.out)
    have hq6 := Lib.hid (Below.via' hq5.out hb6)
    replace bx := Lib.hid (bx.out.kept hb6)
    refine hK.out _ _ hq6.out (fun hSs => ?_)
    clear hK K hSs
    (try simp only [Act.put, List.getElem_toArray, List.getElem_cons_succ, List.getElem_cons_zero, List.setIfInBounds_toArray, List.set_cons_zero, List.set_cons_succ])
    refine wpAnyH_ready (rs := [6]) (by kernel_rfl) (by simp) (AllReadyH.cons rfl (fun K hK => ?_) AllReadyH.nil); go_simp
    refine (sNT_x _ _ _ _ _ _ _ _ P S Ul UF UW Um _ (hi4.out.below (Below.via' (Below.via' (Below.alloc' (Below.refl _ _) _) hb5) hb6)) (hi5.out.below (Below.via' (Below.refl _ _) hb6)) (hi6.out.below (Below.refl _ _)) (Nat.le_refl _) (fun h => by cases h) (Nat.le_refl _) (fun h => by cases h)).mono ?_
    rintro e w7 ⟨x7, c7, z7, d7, rfl, ho7, hb7⟩
    rw [← hRR.out] at ho7 ⊢
    have hq7 := Lib.hid (Below.via' hq6.out hb7)
    have la0 : w3.heap.size ≤ (w6).heap.size := (hq6.out).size
    have gin := bx.out.inside
    replace bx := Lib.hid (bx.out.kept hb7)
    refine hK.out _ _ hq7.out (fun hSs => ?_)
    clear hK K
    (try simp only [Act.put, List.getElem_toArray, List.getElem_cons_succ, List.getElem_cons_zero, List.setIfInBounds_toArray, List.set_cons_zero, List.set_cons_succ])
    refine wpAnyH_take (i := 7) (v := ?_) rfl (by kernel_rfl) (by kernel_rfl) (by kernel_rfl) (fun _ _ _ h => h) (Or.inl ⟨by rfl, ?_⟩) (by assumption) ?_; rotate_left; · (intro wz hz; (skip); clear hz; go_simp; try with_reducible rfl); (try simp only [Act.put, List.getElem_toArray, List.getElem_cons_succ, List.getElem_cons_zero, List.setIfInBounds_toArray, List.set_cons_zero, List.set_cons_succ])
    refine wpAnyH_take (i := 8) (v := ?_) rfl (by kernel_rfl) (by kernel_rfl) (by kernel_rfl) (fun _ _ _ h => h) (Or.inl ⟨by rfl, ?_⟩) (by assumption) ?_; rotate_left; · (intro wz hz; (skip); clear hz; go_simp; try with_reducible rfl); (try simp only [Act.put, List.getElem_toArray, List.getElem_cons_succ, List.getElem_cons_zero, List.setIfInBounds_toArray, List.set_cons_zero, List.set_cons_succ])
    refine wpAnyH_take (i := 9) (v := ?_) rfl (by kernel_rfl) (by kernel_rfl) (by kernel_rfl) (fun _ _ _ h => h) (Or.inl ⟨by rfl, ?_⟩) (by assumption) ?_; rotate_left; · (intro wz hz; (skip); clear hz; go_simp; try with_reducible rfl); (try simp only [Act.put, List.getElem_toArray, List.getElem_cons_succ, List.getElem_cons_zero, List.setIfInBounds_toArray, List.set_cons_zero, List.set_cons_succ])
    replace hSs := Lib.hid hSs
    have hoA := ho7
    replace hoA := Lib.hid hoA
    have ya := bx.out.read 0
    have yb := bx.out.read 1
    have yc := bx.out.read 2
    have yd := bx.out.read 3
    have ye := bx.out.free 0
    have yf := bx.out.free 1
    have yg := bx.out.free 2
    have yh := bx.out.free 3
    have yin := bx.out.inside
    refine wpAnyH_ready (rs := [11]) (by kernel_rfl) (by simp) (AllReadyH.cons rfl (fun K hK => ?_) AllReadyH.nil); go_simp
    have hst : Below w3.heap.size w3 ((w7).setCell ⟨w4.heap.size, 0, none⟩ (.int .i64 RR.1) |>.setCell ⟨w4.heap.size, 1, none⟩ (.slice x7 RR.2.1.length c7) |>.setCell ⟨w4.heap.size, 2, none⟩ (.slice z7 RR.2.2.1.length d7) |>.setCell ⟨w4.heap.size, 3, none⟩ (.int .i64 RR.2.2.2)) := below_set4 hq7.out ga0
    have hat := tbAt_of (lo := w3.heap.size) bx.out hoA.out ga0 la0 (Nat.le_refl _) (Or.inl gin)
    replace hat := Lib.hid hat
    refine hK.out _ _ hst (fun hSs => ?_)
    clear hK K hSs ya yb yc yd ye yf yg yh
    (try simp only [Act.put, List.getElem_toArray, List.getElem_cons_succ, List.getElem_cons_zero, List.setIfInBounds_toArray, List.set_cons_zero, List.set_cons_succ])
    refine wpAnyH_ready (rs := [12]) (by kernel_rfl) (by simp) (AllReadyH.cons rfl (fun K hK => ?_) AllReadyH.nil); go_simp
    refine hK.out _ _ hst (fun _ => ?_)
    clear hK K
    (try simp only [Act.put, List.getElem_toArray, List.getElem_cons_succ, List.getElem_cons_zero, List.setIfInBounds_toArray, List.set_cons_zero, List.set_cons_succ])
    refine wpAnyH_done (by kernel_rfl) ?_ _
    go_wp2_with fail
    go_meet
    exact ⟨hat.out, rfl, hst⟩
    go_simp
    have bx := Lib.hid (show Wb (w3.drew.alloc (.cells #[.int .i64 0, .slice none 0 0, .slice none 0 0, .int .i64 0] 37)) w3.heap.size 37 #[.int .i64 0, .slice none 0 0, .slice none 0 0, .int .i64 0] from Wb.new w3.drew _ _)
    have hal := Lib.hid (Below.alloc' hH.out (.cells #[.int .i64 0, .slice none 0 0, .slice none 0 0, .int .i64 0] 37))
    have ga0 : w3.heap.size ≤ w3.heap.size := hH.out.size
    refine hK.out _ _ hal.out (fun hSs => ?_)
    clear hK K hSs
    (try simp only [Act.put, List.getElem_toArray, List.getElem_cons_succ, List.getElem_cons_zero, List.setIfInBounds_toArray, List.set_cons_zero, List.set_cons_succ])
    refine wpAnyH_ready (rs := [1]) (by kernel_rfl) (by simp) (AllReadyH.cons rfl (fun K hK => ?_) AllReadyH.nil); go_simp
    refine (toGeo_any xP cP P _ hmP (hP.out.below (Below.via' hB0 hal.out))).mono ?_
    rintro e w4 ⟨g4, rfl, ho4, hb4⟩
    have hi4 : Hid (IIn w4 (some ⟨g4, 0, none⟩) P) := ⟨hmP, hnP.out, Rd.of_own ho4⟩
    have hq4 := Lib.hid (Below.via' hal.out hb4)
    replace bx := Lib.hid (bx.out.kept hb4)
    refine hK.out _ _ hq4.out (fun hSs => ?_)
    clear hK K hSs
    (try simp only [Act.put, List.getElem_toArray, List.getElem_cons_succ, List.getElem_cons_zero, List.setIfInBounds_toArray, List.set_cons_zero, List.set_cons_succ])
    refine wpAnyH_ready (rs := [3]) (by kernel_rfl) (by simp) (AllReadyH.cons rfl (fun K hK => ?_) AllReadyH.nil); go_simp
    refine (toVariableS_any _ _ S _ hm (hS.out.below (Below.via' hB0 hq4.out))).mono ?_
    rintro e w5 ⟨rfl, ho5, hb5⟩
    try simp only [drew_sizeT] at ho5
    try simp only [World.size_alloc] at ho5
    have hi5 := Lib.hid (show SIn w5 _ S.length S from ⟨hm, Nat.le_refl _, hn.out, Rd.of_own ho5⟩)
    have hq5 := Lib.hid (Below.via' hq4.out hb5)
    replace bx := Lib.hid (bx.out.kept hb5)
    refine hK.out _ _ hq5.out (fun hSs => ?_)
    clear hK K hSs
    (try simp only [Act.put, List.getElem_toArray, List.getElem_cons_succ, List.getElem_cons_zero, List.setIfInBounds_toArray, List.set_cons_zero, List.set_cons_succ])
    refine wpAnyH_ready (rs := [5]) (by kernel_rfl) (by simp) (AllReadyH.cons rfl (fun K hK => ?_) AllReadyH.nil); go_simp
    refine (toTable_any Ul xU zU cU dU UF UW Um _ hmUF hmUW (hUF.out.below (Below.via' hB0 hq5.out)) (hUW.out.below (Below.via' hB0 hq5.out))).mono ?_
    rintro e w6 ⟨g6, f6, rfl, ho6, hb6⟩
    have hi6 : Hid (TIn w6 (some ⟨g6, 0, none⟩) (some ⟨f6, 0, none⟩) UF UW) := Lib.hid (TIn.of_owT ho6 hmUF hmUW hnUF.out hnUW.out)
    have hq6 := Lib.hid (Below.via' hq5.out hb6)
    replace bx := Lib.hid (bx.out.kept hb6)
    refine hK.out _ _ hq6.out (fun hSs => ?_)
    clear hK K hSs
    (try simp only [Act.put, List.getElem_toArray, List.getElem_cons_succ, List.getElem_cons_zero, List.setIfInBounds_toArray, List.set_cons_zero, List.set_cons_succ])
    refine wpAnyH_ready (rs := [6]) (by kernel_rfl) (by simp) (AllReadyH.cons rfl (fun K hK => ?_) AllReadyH.nil); go_simp
    refine (sNT_x _ _ _ _ _ _ _ _ P S Ul UF UW Um _ (hi4.out.below (Below.via' (Below.via' (Below.refl _ _) hb5) hb6)) (hi5.out.below (Below.via' (Below.refl _ _) hb6)) (hi6.out.below (Below.refl _ _)) (Nat.le_refl _) (fun h => by cases h) (Nat.le_refl _) (fun h => by cases h)).mono ?_
    rintro e w7 ⟨x7, c7, z7, d7, rfl, ho7, hb7⟩
    rw [← hRR.out] at ho7 ⊢
    have hq7 := Lib.hid (Below.via' hq6.out hb7)
    have la0 : w3.heap.size ≤ (w6).heap.size := (hq6.out).size
    have gin := bx.out.inside
    replace bx := Lib.hid (bx.out.kept hb7)
    refine hK.out _ _ hq7.out (fun hSs => ?_)
    clear hK K
    (try simp only [Act.put, List.getElem_toArray, List.getElem_cons_succ, List.getElem_cons_zero, List.setIfInBounds_toArray, List.set_cons_zero, List.set_cons_succ])
    refine wpAnyH_take (i := 7) (v := ?_) rfl (by kernel_rfl) (by kernel_rfl) (by kernel_rfl) (fun _ _ _ h => h) (Or.inl ⟨by rfl, ?_⟩) (by assumption) ?_; rotate_left; · (intro wz hz; (skip); clear hz; go_simp; try with_reducible rfl); (try simp only [Act.put, List.getElem_toArray, List.getElem_cons_succ, List.getElem_cons_zero, List.setIfInBounds_toArray, List.set_cons_zero, List.set_cons_succ])
    refine wpAnyH_take (i := 8) (v := ?_) rfl (by kernel_rfl) (by kernel_rfl) (by kernel_rfl) (fun _ _ _ h => h) (Or.inl ⟨by rfl, ?_⟩) (by assumption) ?_; rotate_left; · (intro wz hz; (skip); clear hz; go_simp; try with_reducible rfl); (try simp only [Act.put, List.getElem_toArray, List.getElem_cons_succ, List.getElem_cons_zero, List.setIfInBounds_toArray, List.set_cons_zero, List.set_cons_succ])
    refine wpAnyH_take (i := 9) (v := ?_) rfl (by kernel_rfl) (by kernel_rfl) (by kernel_rfl) (fun _ _ _ h => h) (Or.inl ⟨by rfl, ?_⟩) (by assumption) ?_; rotate_left; · (intro wz hz; (skip); clear hz; go_simp; try with_reducible rfl); (try simp only [Act.put, List.getElem_toArray, List.getElem_cons_succ, List.getElem_cons_zero, List.setIfInBounds_toArray, List.set_cons_zero, List.set_cons_succ])
    replace hSs := Lib.hid hSs
    have hoA := ho7
    replace hoA := Lib.hid hoA
    have ya := bx.out.read 0
    have yb := bx.out.read 1
    have yc := bx.out.read 2
    have yd := bx.out.read 3
    have ye := bx.out.free 0
    have yf := bx.out.free 1
    have yg := bx.out.free 2
    have yh := bx.out.free 3
    have yin := bx.out.inside
    refine wpAnyH_ready (rs := [11]) (by kernel_rfl) (by simp) (AllReadyH.cons rfl (fun K hK => ?_) AllReadyH.nil); go_simp
    have hst : Below w3.heap.size w3 ((w7).setCell ⟨w3.heap.size, 0, none⟩ (.int .i64 RR.1) |>.setCell ⟨w3.heap.size, 1, none⟩ (.slice x7 RR.2.1.length c7) |>.setCell ⟨w3.heap.size, 2, none⟩ (.slice z7 RR.2.2.1.length d7) |>.setCell ⟨w3.heap.size, 3, none⟩ (.int .i64 RR.2.2.2)) := below_set4 hq7.out ga0
    have hat := tbAt_of (lo := w3.heap.size) bx.out hoA.out ga0 la0 (Nat.le_refl _) (Or.inl gin)
    replace hat := Lib.hid hat
    refine hK.out _ _ hst (fun hSs => ?_)
    clear hK K hSs ya yb yc yd ye yf yg yh
    (try simp only [Act.put, List.getElem_toArray, List.getElem_cons_succ, List.getElem_cons_zero, List.setIfInBounds_toArray, List.set_cons_zero, List.set_cons_succ])
    refine wpAnyH_ready (rs := [12]) (by kernel_rfl) (by simp) (AllReadyH.cons rfl (fun K hK => ?_) AllReadyH.nil); go_simp
    refine hK.out _ _ hst (fun _ => ?_)
    clear hK K
    (try simp only [Act.put, List.getElem_toArray, List.getElem_cons_succ, List.getElem_cons_zero, List.setIfInBounds_toArray, List.set_cons_zero, List.set_cons_succ])
    refine wpAnyH_done (by kernel_rfl) ?_ _
    go_wp2_with fail
    go_meet
    exact ⟨hat.out, rfl, hst⟩
  obtain ⟨⟨gA7, xA7, cA7, zA7, dA7, la7, lb7, rfl, hA7, hgA7, hla7, hlb7, hgl7, hoA7⟩, rfl, hb7⟩ := hcut
  obtain ⟨w7, rfl⟩ : ∃ u : World, u = wc := ⟨_, rfl⟩
  have hgB7 : gA7 < w7.heap.size := hA7.2.2.2.2
  replace hA7 := Lib.hid hA7
  have hkP_7 := Lib.hid (hkP_3.out.below (show Below w3.heap.size w3 w7 from (by repeat (first | exact Below.refl _ _ | assumption | refine Below.drew ?_ | refine below_drewN ?_ _ | refine Below.alloc' ?_ _ | (refine Below.setCell ?_ (by first | omega | (simp; done) | (simp; omega) | exact Below.size (by assumption) | exact Nat.le_trans (Below.size (by assumption)) (by simp)) _) | (refine Below.via' ?_ (by assumption)) | (refine Below.alloc ?_ (by first | omega | (simp; done) | (simp; omega) | exact Below.size (by assumption) | exact Nat.le_trans (Below.size (by assumption)) (by simp)) _) | (refine Below.via ?_ (by assumption) (by first | omega | (simp; done) | (simp; omega) | exact Below.size (by assumption) | exact Nat.le_trans (Below.size (by assumption)) (by simp)))))))
  obtain ⟨hkPa7, hkPb7, hkPc7⟩ := hkP_7.out
  try clear hkPa3 hkPb3 hkPc3
  have hkU_7 := Lib.hid (hkU_3.out.below (show Below w3.heap.size w3 w7 from (by repeat (first | exact Below.refl _ _ | assumption | refine Below.drew ?_ | refine below_drewN ?_ _ | refine Below.alloc' ?_ _ | (refine Below.setCell ?_ (by first | omega | (simp; done) | (simp; omega) | exact Below.size (by assumption) | exact Nat.le_trans (Below.size (by assumption)) (by simp)) _) | (refine Below.via' ?_ (by assumption)) | (refine Below.alloc ?_ (by first | omega | (simp; done) | (simp; omega) | exact Below.size (by assumption) | exact Nat.le_trans (Below.size (by assumption)) (by simp)) _) | (refine Below.via ?_ (by assumption) (by first | omega | (simp; done) | (simp; omega) | exact Below.size (by assumption) | exact Nat.le_trans (Below.size (by assumption)) (by simp)))))))
  obtain ⟨hkUa7, hkUb7, hkUc7, hkUd7, hkUe7⟩ := hkU_7.out
  try clear hkUa3 hkUb3 hkUc3 hkUd3 hkUe3
  have hW_7 := hA7
  obtain ⟨hWa7, hWb7, hWc7, hWd7, hWe7⟩ := hW_7.out
  go_wp2_with fail
  refine (toGeo_any xP cP P _ hmP (hP.out.below (by exact (by repeat (first | exact Below.refl _ _ | assumption | refine Below.drew ?_ | refine below_drewN ?_ _ | refine Below.alloc' ?_ _ | (refine Below.setCell ?_ (by first | omega | (simp; done) | (simp; omega) | exact Below.size (by assumption) | exact Nat.le_trans (Below.size (by assumption)) (by simp)) _) | (refine Below.via' ?_ (by assumption)) | (refine Below.alloc ?_ (by first | omega | (simp; done) | (simp; omega) | exact Below.size (by assumption) | exact Nat.le_trans (Below.size (by assumption)) (by simp)) _) | (refine Below.via ?_ (by assumption) (by first | omega | (simp; done) | (simp; omega) | exact Below.size (by assumption) | exact Nat.le_trans (Below.size (by assumption)) (by simp)))))))).mono ?_
  rintro e w8 ⟨g8, rfl, ho8, hb8⟩
  have hi8 : Hid (IIn w8 (some ⟨g8, 0, none⟩) P) := ⟨hmP, hnP.out, Rd.of_own ho8⟩
  have hz8 := hb8.size; (try simp at hz8); (try (have hly8 := Nat.lt_of_succ_le hz8)); (try (have hlx8 := Nat.lt_of_succ_lt hly8)); (try (have hlw8 := Nat.lt_of_succ_lt hlx8)); (try (have hle8 := Nat.le_of_lt hly8))
  have hkP_8 := Lib.hid (hkP_7.out.below (show Below w7.heap.size w7 w8 from (by repeat (first | exact Below.refl _ _ | assumption | refine Below.drew ?_ | refine below_drewN ?_ _ | refine Below.alloc' ?_ _ | (refine Below.setCell ?_ (by first | omega | (simp; done) | (simp; omega) | exact Below.size (by assumption) | exact Nat.le_trans (Below.size (by assumption)) (by simp)) _) | (refine Below.via' ?_ (by assumption)) | (refine Below.alloc ?_ (by first | omega | (simp; done) | (simp; omega) | exact Below.size (by assumption) | exact Nat.le_trans (Below.size (by assumption)) (by simp)) _) | (refine Below.via ?_ (by assumption) (by first | omega | (simp; done) | (simp; omega) | exact Below.size (by assumption) | exact Nat.le_trans (Below.size (by assumption)) (by simp)))))))
  obtain ⟨hkPa8, hkPb8, hkPc8⟩ := hkP_8.out
  try clear hkPa7 hkPb7 hkPc7
  have hkU_8 := Lib.hid (hkU_7.out.below (show Below w7.heap.size w7 w8 from (by repeat (first | exact Below.refl _ _ | assumption | refine Below.drew ?_ | refine below_drewN ?_ _ | refine Below.alloc' ?_ _ | (refine Below.setCell ?_ (by first | omega | (simp; done) | (simp; omega) | exact Below.size (by assumption) | exact Nat.le_trans (Below.size (by assumption)) (by simp)) _) | (refine Below.via' ?_ (by assumption)) | (refine Below.alloc ?_ (by first | omega | (simp; done) | (simp; omega) | exact Below.size (by assumption) | exact Nat.le_trans (Below.size (by assumption)) (by simp)) _) | (refine Below.via ?_ (by assumption) (by first | omega | (simp; done) | (simp; omega) | exact Below.size (by assumption) | exact Nat.le_trans (Below.size (by assumption)) (by simp)))))))
  obtain ⟨hkUa8, hkUb8, hkUc8, hkUd8, hkUe8⟩ := hkU_8.out
  try clear hkUa7 hkUb7 hkUc7 hkUd7 hkUe7
  have hW_8 := Lib.hid (hW_7.out.below (show Below w7.heap.size w7 w8 from (by repeat (first | exact Below.refl _ _ | assumption | refine Below.drew ?_ | refine below_drewN ?_ _ | refine Below.alloc' ?_ _ | (refine Below.setCell ?_ (by first | omega | (simp; done) | (simp; omega) | exact Below.size (by assumption) | exact Nat.le_trans (Below.size (by assumption)) (by simp)) _) | (refine Below.via' ?_ (by assumption)) | (refine Below.alloc ?_ (by first | omega | (simp; done) | (simp; omega) | exact Below.size (by assumption) | exact Nat.le_trans (Below.size (by assumption)) (by simp)) _) | (refine Below.via ?_ (by assumption) (by first | omega | (simp; done) | (simp; omega) | exact Below.size (by assumption) | exact Nat.le_trans (Below.size (by assumption)) (by simp)))))))
  obtain ⟨hWa8, hWb8, hWc8, hWd8, hWe8⟩ := hW_8.out
  try clear hWa7 hWb7 hWc7 hWd7 hWe7
  have hxP_8 := Lib.hid (QB.new w8 (some ⟨g8, 0, none⟩) P.length P.length 33)
  go_wp2_with fail
  refine (toVariableS_any _ _ S _ hm (hS.out.below (by exact (by repeat (first | exact Below.refl _ _ | assumption | refine Below.drew ?_ | refine below_drewN ?_ _ | refine Below.alloc' ?_ _ | (refine Below.setCell ?_ (by first | omega | (simp; done) | (simp; omega) | exact Below.size (by assumption) | exact Nat.le_trans (Below.size (by assumption)) (by simp)) _) | (refine Below.via' ?_ (by assumption)) | (refine Below.alloc ?_ (by first | omega | (simp; done) | (simp; omega) | exact Below.size (by assumption) | exact Nat.le_trans (Below.size (by assumption)) (by simp)) _) | (refine Below.via ?_ (by assumption) (by first | omega | (simp; done) | (simp; omega) | exact Below.size (by assumption) | exact Nat.le_trans (Below.size (by assumption)) (by simp)))))))).mono ?_
  rintro e w9 ⟨rfl, ho9, hb9⟩
  simp only [World.size_alloc] at ho9
  have hi9 : Hid (SIn w9 (some ⟨w8.heap.size + 1, 0, none⟩) S.length S) := ⟨hm, Nat.le_refl _, hn.out, Rd.of_own ho9⟩
  have hz9 := hb9.size; (try simp at hz9); (try (have hly9 := Nat.lt_of_succ_le hz9)); (try (have hlx9 := Nat.lt_of_succ_lt hly9)); (try (have hlw9 := Nat.lt_of_succ_lt hlx9)); (try (have hle9 := Nat.le_of_lt hly9))
  have hkP_9 := Lib.hid (hkP_8.out.below (show Below w8.heap.size w8 w9 from (by repeat (first | exact Below.refl _ _ | assumption | refine Below.drew ?_ | refine below_drewN ?_ _ | refine Below.alloc' ?_ _ | (refine Below.setCell ?_ (by first | omega | (simp; done) | (simp; omega) | exact Below.size (by assumption) | exact Nat.le_trans (Below.size (by assumption)) (by simp)) _) | (refine Below.via' ?_ (by assumption)) | (refine Below.alloc ?_ (by first | omega | (simp; done) | (simp; omega) | exact Below.size (by assumption) | exact Nat.le_trans (Below.size (by assumption)) (by simp)) _) | (refine Below.via ?_ (by assumption) (by first | omega | (simp; done) | (simp; omega) | exact Below.size (by assumption) | exact Nat.le_trans (Below.size (by assumption)) (by simp)))))))
  obtain ⟨hkPa9, hkPb9, hkPc9⟩ := hkP_9.out
  try clear hkPa8 hkPb8 hkPc8
  have hkU_9 := Lib.hid (hkU_8.out.below (show Below w8.heap.size w8 w9 from (by repeat (first | exact Below.refl _ _ | assumption | refine Below.drew ?_ | refine below_drewN ?_ _ | refine Below.alloc' ?_ _ | (refine Below.setCell ?_ (by first | omega | (simp; done) | (simp; omega) | exact Below.size (by assumption) | exact Nat.le_trans (Below.size (by assumption)) (by simp)) _) | (refine Below.via' ?_ (by assumption)) | (refine Below.alloc ?_ (by first | omega | (simp; done) | (simp; omega) | exact Below.size (by assumption) | exact Nat.le_trans (Below.size (by assumption)) (by simp)) _) | (refine Below.via ?_ (by assumption) (by first | omega | (simp; done) | (simp; omega) | exact Below.size (by assumption) | exact Nat.le_trans (Below.size (by assumption)) (by simp)))))))
  obtain ⟨hkUa9, hkUb9, hkUc9, hkUd9, hkUe9⟩ := hkU_9.out
  try clear hkUa8 hkUb8 hkUc8 hkUd8 hkUe8
  have hW_9 := Lib.hid (hW_8.out.below (show Below w8.heap.size w8 w9 from (by repeat (first | exact Below.refl _ _ | assumption | refine Below.drew ?_ | refine below_drewN ?_ _ | refine Below.alloc' ?_ _ | (refine Below.setCell ?_ (by first | omega | (simp; done) | (simp; omega) | exact Below.size (by assumption) | exact Nat.le_trans (Below.size (by assumption)) (by simp)) _) | (refine Below.via' ?_ (by assumption)) | (refine Below.alloc ?_ (by first | omega | (simp; done) | (simp; omega) | exact Below.size (by assumption) | exact Nat.le_trans (Below.size (by assumption)) (by simp)) _) | (refine Below.via ?_ (by assumption) (by first | omega | (simp; done) | (simp; omega) | exact Below.size (by assumption) | exact Nat.le_trans (Below.size (by assumption)) (by simp)))))))
  obtain ⟨hWa9, hWb9, hWc9, hWd9, hWe9⟩ := hW_9.out
  try clear hWa8 hWb8 hWc8 hWd8 hWe8
  have hxP_9 := Lib.hid (hxP_8.out.below hb9)
  obtain ⟨hxPa9, hxPb9, hxPc9⟩ := hxP_9.out
  go_wp2_with fail
  refine (toTable_any Ul xU zU cU dU UF UW Um _ hmUF hmUW (hUF.out.below (by exact (by repeat (first | exact Below.refl _ _ | assumption | refine Below.drew ?_ | refine below_drewN ?_ _ | refine Below.alloc' ?_ _ | (refine Below.setCell ?_ (by first | omega | (simp; done) | (simp; omega) | exact Below.size (by assumption) | exact Nat.le_trans (Below.size (by assumption)) (by simp)) _) | (refine Below.via' ?_ (by assumption)) | (refine Below.alloc ?_ (by first | omega | (simp; done) | (simp; omega) | exact Below.size (by assumption) | exact Nat.le_trans (Below.size (by assumption)) (by simp)) _) | (refine Below.via ?_ (by assumption) (by first | omega | (simp; done) | (simp; omega) | exact Below.size (by assumption) | exact Nat.le_trans (Below.size (by assumption)) (by simp))))))) (hUW.out.below (by exact (by repeat (first | exact Below.refl _ _ | assumption | refine Below.drew ?_ | refine below_drewN ?_ _ | refine Below.alloc' ?_ _ | (refine Below.setCell ?_ (by first | omega | (simp; done) | (simp; omega) | exact Below.size (by assumption) | exact Nat.le_trans (Below.size (by assumption)) (by simp)) _) | (refine Below.via' ?_ (by assumption)) | (refine Below.alloc ?_ (by first | omega | (simp; done) | (simp; omega) | exact Below.size (by assumption) | exact Nat.le_trans (Below.size (by assumption)) (by simp)) _) | (refine Below.via ?_ (by assumption) (by first | omega | (simp; done) | (simp; omega) | exact Below.size (by assumption) | exact Nat.le_trans (Below.size (by assumption)) (by simp)))))))).mono ?_
  rintro e w10 ⟨g10, f10, rfl, ho10, hb10⟩
  have hi10 : Hid (TIn w10 (some ⟨g10, 0, none⟩) (some ⟨f10, 0, none⟩) UF UW) := Lib.hid (TIn.of_owT ho10 hmUF hmUW hnUF.out hnUW.out)
  have hz10 := hb10.size; (try simp at hz10); (try (have hly10 := Nat.lt_of_succ_le hz10)); (try (have hlx10 := Nat.lt_of_succ_lt hly10)); (try (have hlw10 := Nat.lt_of_succ_lt hlx10)); (try (have hle10 := Nat.le_of_lt hly10))
  have hkP_10 := Lib.hid (hkP_9.out.below (show Below w9.heap.size w9 w10 from (by repeat (first | exact Below.refl _ _ | assumption | refine Below.drew ?_ | refine below_drewN ?_ _ | refine Below.alloc' ?_ _ | (refine Below.setCell ?_ (by first | omega | (simp; done) | (simp; omega) | exact Below.size (by assumption) | exact Nat.le_trans (Below.size (by assumption)) (by simp)) _) | (refine Below.via' ?_ (by assumption)) | (refine Below.alloc ?_ (by first | omega | (simp; done) | (simp; omega) | exact Below.size (by assumption) | exact Nat.le_trans (Below.size (by assumption)) (by simp)) _) | (refine Below.via ?_ (by assumption) (by first | omega | (simp; done) | (simp; omega) | exact Below.size (by assumption) | exact Nat.le_trans (Below.size (by assumption)) (by simp)))))))
  obtain ⟨hkPa10, hkPb10, hkPc10⟩ := hkP_10.out
  try clear hkPa9 hkPb9 hkPc9
  have hkU_10 := Lib.hid (hkU_9.out.below (show Below w9.heap.size w9 w10 from (by repeat (first | exact Below.refl _ _ | assumption | refine Below.drew ?_ | refine below_drewN ?_ _ | refine Below.alloc' ?_ _ | (refine Below.setCell ?_ (by first | omega | (simp; done) | (simp; omega) | exact Below.size (by assumption) | exact Nat.le_trans (Below.size (by assumption)) (by simp)) _) | (refine Below.via' ?_ (by assumption)) | (refine Below.alloc ?_ (by first | omega | (simp; done) | (simp; omega) | exact Below.size (by assumption) | exact Nat.le_trans (Below.size (by assumption)) (by simp)) _) | (refine Below.via ?_ (by assumption) (by first | omega | (simp; done) | (simp; omega) | exact Below.size (by assumption) | exact Nat.le_trans (Below.size (by assumption)) (by simp)))))))
  obtain ⟨hkUa10, hkUb10, hkUc10, hkUd10, hkUe10⟩ := hkU_10.out
  try clear hkUa9 hkUb9 hkUc9 hkUd9 hkUe9
  have hW_10 := Lib.hid (hW_9.out.below (show Below w9.heap.size w9 w10 from (by repeat (first | exact Below.refl _ _ | assumption | refine Below.drew ?_ | refine below_drewN ?_ _ | refine Below.alloc' ?_ _ | (refine Below.setCell ?_ (by first | omega | (simp; done) | (simp; omega) | exact Below.size (by assumption) | exact Nat.le_trans (Below.size (by assumption)) (by simp)) _) | (refine Below.via' ?_ (by assumption)) | (refine Below.alloc ?_ (by first | omega | (simp; done) | (simp; omega) | exact Below.size (by assumption) | exact Nat.le_trans (Below.size (by assumption)) (by simp)) _) | (refine Below.via ?_ (by assumption) (by first | omega | (simp; done) | (simp; omega) | exact Below.size (by assumption) | exact Nat.le_trans (Below.size (by assumption)) (by simp)))))))
  obtain ⟨hWa10, hWb10, hWc10, hWd10, hWe10⟩ := hW_10.out
  try clear hWa9 hWb9 hWc9 hWd9 hWe9
  have hxP_10 := Lib.hid (hxP_9.out.below (show Below w9.heap.size w9 w10 from (by repeat (first | exact Below.refl _ _ | assumption | refine Below.drew ?_ | refine below_drewN ?_ _ | refine Below.alloc' ?_ _ | (refine Below.setCell ?_ (by first | omega | (simp; done) | (simp; omega) | exact Below.size (by assumption) | exact Nat.le_trans (Below.size (by assumption)) (by simp)) _) | (refine Below.via' ?_ (by assumption)) | (refine Below.alloc ?_ (by first | omega | (simp; done) | (simp; omega) | exact Below.size (by assumption) | exact Nat.le_trans (Below.size (by assumption)) (by simp)) _) | (refine Below.via ?_ (by assumption) (by first | omega | (simp; done) | (simp; omega) | exact Below.size (by assumption) | exact Nat.le_trans (Below.size (by assumption)) (by simp)))))))
  obtain ⟨hxPa10, hxPb10, hxPc10⟩ := hxP_10.out
  try clear hxPa9 hxPb9 hxPc9
  have hxU_10 := Lib.hid (TQ.new w10 Ul (some ⟨g10, 0, none⟩) UF.length UF.length (some ⟨f10, 0, none⟩) UW.length UW.length Um 37)
  go_wp2_with fail
  refine (iNT_x _ _ _ _ _ _ _ _ P S Ul UF UW Um _ (hi8.out.below (by exact (by repeat (first | exact Below.refl _ _ | assumption | refine Below.drew ?_ | refine below_drewN ?_ _ | refine Below.alloc' ?_ _ | (refine Below.setCell ?_ (by first | omega | (simp; done) | (simp; omega) | exact Below.size (by assumption) | exact Nat.le_trans (Below.size (by assumption)) (by simp)) _) | (refine Below.via' ?_ (by assumption)) | (refine Below.alloc ?_ (by first | omega | (simp; done) | (simp; omega) | exact Below.size (by assumption) | exact Nat.le_trans (Below.size (by assumption)) (by simp)) _) | (refine Below.via ?_ (by assumption) (by first | omega | (simp; done) | (simp; omega) | exact Below.size (by assumption) | exact Nat.le_trans (Below.size (by assumption)) (by simp))))))) (hi9.out.below (by exact (by repeat (first | exact Below.refl _ _ | assumption | refine Below.drew ?_ | refine below_drewN ?_ _ | refine Below.alloc' ?_ _ | (refine Below.setCell ?_ (by first | omega | (simp; done) | (simp; omega) | exact Below.size (by assumption) | exact Nat.le_trans (Below.size (by assumption)) (by simp)) _) | (refine Below.via' ?_ (by assumption)) | (refine Below.alloc ?_ (by first | omega | (simp; done) | (simp; omega) | exact Below.size (by assumption) | exact Nat.le_trans (Below.size (by assumption)) (by simp)) _) | (refine Below.via ?_ (by assumption) (by first | omega | (simp; done) | (simp; omega) | exact Below.size (by assumption) | exact Nat.le_trans (Below.size (by assumption)) (by simp))))))) (hi10.out.below (by exact (by repeat (first | exact Below.refl _ _ | assumption | refine Below.drew ?_ | refine below_drewN ?_ _ | refine Below.alloc' ?_ _ | (refine Below.setCell ?_ (by first | omega | (simp; done) | (simp; omega) | exact Below.size (by assumption) | exact Nat.le_trans (Below.size (by assumption)) (by simp)) _) | (refine Below.via' ?_ (by assumption)) | (refine Below.alloc ?_ (by first | omega | (simp; done) | (simp; omega) | exact Below.size (by assumption) | exact Nat.le_trans (Below.size (by assumption)) (by simp)) _) | (refine Below.via ?_ (by assumption) (by first | omega | (simp; done) | (simp; omega) | exact Below.size (by assumption) | exact Nat.le_trans (Below.size (by assumption)) (by simp))))))) (Nat.le_refl _) (fun h => by cases h) (Nat.le_refl _) (fun h => by cases h)).mono ?_
  rintro e w11 ⟨x11, c11, z11, d11, rfl, ho11, hb11⟩
  rw [← hRR.out] at ho11 ⊢
  replace ho11 := ho11.more (show w10.heap.size ≤ _ by simp) (Nat.le_refl _)
  have hz11 := hb11.size; (try simp at hz11); (try (have hly11 := Nat.lt_of_succ_le hz11)); (try (have hlx11 := Nat.lt_of_succ_lt hly11)); (try (have hlw11 := Nat.lt_of_succ_lt hlx11)); (try (have hle11 := Nat.le_of_lt hly11))
  have hkP_11 := Lib.hid (hkP_10.out.below (show Below w10.heap.size w10 w11 from (by repeat (first | exact Below.refl _ _ | assumption | refine Below.drew ?_ | refine below_drewN ?_ _ | refine Below.alloc' ?_ _ | (refine Below.setCell ?_ (by first | omega | (simp; done) | (simp; omega) | exact Below.size (by assumption) | exact Nat.le_trans (Below.size (by assumption)) (by simp)) _) | (refine Below.via' ?_ (by assumption)) | (refine Below.alloc ?_ (by first | omega | (simp; done) | (simp; omega) | exact Below.size (by assumption) | exact Nat.le_trans (Below.size (by assumption)) (by simp)) _) | (refine Below.via ?_ (by assumption) (by first | omega | (simp; done) | (simp; omega) | exact Below.size (by assumption) | exact Nat.le_trans (Below.size (by assumption)) (by simp)))))))
  obtain ⟨hkPa11, hkPb11, hkPc11⟩ := hkP_11.out
  try clear hkPa10 hkPb10 hkPc10
  have hkU_11 := Lib.hid (hkU_10.out.below (show Below w10.heap.size w10 w11 from (by repeat (first | exact Below.refl _ _ | assumption | refine Below.drew ?_ | refine below_drewN ?_ _ | refine Below.alloc' ?_ _ | (refine Below.setCell ?_ (by first | omega | (simp; done) | (simp; omega) | exact Below.size (by assumption) | exact Nat.le_trans (Below.size (by assumption)) (by simp)) _) | (refine Below.via' ?_ (by assumption)) | (refine Below.alloc ?_ (by first | omega | (simp; done) | (simp; omega) | exact Below.size (by assumption) | exact Nat.le_trans (Below.size (by assumption)) (by simp)) _) | (refine Below.via ?_ (by assumption) (by first | omega | (simp; done) | (simp; omega) | exact Below.size (by assumption) | exact Nat.le_trans (Below.size (by assumption)) (by simp)))))))
  obtain ⟨hkUa11, hkUb11, hkUc11, hkUd11, hkUe11⟩ := hkU_11.out
  try clear hkUa10 hkUb10 hkUc10 hkUd10 hkUe10
  have hW_11 := Lib.hid (hW_10.out.below (show Below w10.heap.size w10 w11 from (by repeat (first | exact Below.refl _ _ | assumption | refine Below.drew ?_ | refine below_drewN ?_ _ | refine Below.alloc' ?_ _ | (refine Below.setCell ?_ (by first | omega | (simp; done) | (simp; omega) | exact Below.size (by assumption) | exact Nat.le_trans (Below.size (by assumption)) (by simp)) _) | (refine Below.via' ?_ (by assumption)) | (refine Below.alloc ?_ (by first | omega | (simp; done) | (simp; omega) | exact Below.size (by assumption) | exact Nat.le_trans (Below.size (by assumption)) (by simp)) _) | (refine Below.via ?_ (by assumption) (by first | omega | (simp; done) | (simp; omega) | exact Below.size (by assumption) | exact Nat.le_trans (Below.size (by assumption)) (by simp)))))))
  obtain ⟨hWa11, hWb11, hWc11, hWd11, hWe11⟩ := hW_11.out
  try clear hWa10 hWb10 hWc10 hWd10 hWe10
  have hxP_11 := Lib.hid (hxP_10.out.below (show Below w10.heap.size w10 w11 from (by repeat (first | exact Below.refl _ _ | assumption | refine Below.drew ?_ | refine below_drewN ?_ _ | refine Below.alloc' ?_ _ | (refine Below.setCell ?_ (by first | omega | (simp; done) | (simp; omega) | exact Below.size (by assumption) | exact Nat.le_trans (Below.size (by assumption)) (by simp)) _) | (refine Below.via' ?_ (by assumption)) | (refine Below.alloc ?_ (by first | omega | (simp; done) | (simp; omega) | exact Below.size (by assumption) | exact Nat.le_trans (Below.size (by assumption)) (by simp)) _) | (refine Below.via ?_ (by assumption) (by first | omega | (simp; done) | (simp; omega) | exact Below.size (by assumption) | exact Nat.le_trans (Below.size (by assumption)) (by simp)))))))
  obtain ⟨hxPa11, hxPb11, hxPc11⟩ := hxP_11.out
  try clear hxPa10 hxPb10 hxPc10
  have hxU_11 := Lib.hid (hxU_10.out.below hb11)
  obtain ⟨hxUa11, hxUb11, hxUc11, hxUd11, hxUe11⟩ := hxU_11.out
  have hG_11 := Lib.hid (TQ.new w11 RR.1 x11 RR.2.1.length c11 z11 RR.2.2.1.length d11 RR.2.2.2 37)
  have RO11 := Lib.hid ho11
  clear ho11
  go_wp2_with fail
  refine (eqTable_any _ _ _ _ _ _ RR.2.1 RR.2.2.1 _ (by omega) (by omega) (TIn.of_owY (RO11.out.below (by exact (by repeat (first | exact Below.refl _ _ | assumption | refine Below.drew ?_ | refine below_drewN ?_ _ | refine Below.alloc' ?_ _ | (refine Below.setCell ?_ (by first | omega | (simp; done) | (simp; omega) | exact Below.size (by assumption) | exact Nat.le_trans (Below.size (by assumption)) (by simp)) _) | (refine Below.via' ?_ (by assumption)) | (refine Below.alloc ?_ (by first | omega | (simp; done) | (simp; omega) | exact Below.size (by assumption) | exact Nat.le_trans (Below.size (by assumption)) (by simp)) _) | (refine Below.via ?_ (by assumption) (by first | omega | (simp; done) | (simp; omega) | exact Below.size (by assumption) | exact Nat.le_trans (Below.size (by assumption)) (by simp))))))) hRF hRW hnRF.out hnRW.out) (TIn.of_owY (hoA7.below (show Below w7.heap.size w7 _ from (by repeat (first | exact Below.refl _ _ | assumption | refine Below.drew ?_ | refine below_drewN ?_ _ | refine Below.alloc' ?_ _ | (refine Below.setCell ?_ (by first | omega | (simp; done) | (simp; omega) | exact Below.size (by assumption) | exact Nat.le_trans (Below.size (by assumption)) (by simp)) _) | (refine Below.via' ?_ (by assumption)) | (refine Below.alloc ?_ (by first | omega | (simp; done) | (simp; omega) | exact Below.size (by assumption) | exact Nat.le_trans (Below.size (by assumption)) (by simp)) _) | (refine Below.via ?_ (by assumption) (by first | omega | (simp; done) | (simp; omega) | exact Below.size (by assumption) | exact Nat.le_trans (Below.size (by assumption)) (by simp))))))) hRF hRW hnRF.out hnRW.out)).mono ?_
  rintro e w12 ⟨rfl, hb12⟩
  have hkP_12 := Lib.hid (hkP_11.out.below (show Below w11.heap.size w11 w12 from (by repeat (first | exact Below.refl _ _ | assumption | refine Below.drew ?_ | refine below_drewN ?_ _ | refine Below.alloc' ?_ _ | (refine Below.setCell ?_ (by first | omega | (simp; done) | (simp; omega) | exact Below.size (by assumption) | exact Nat.le_trans (Below.size (by assumption)) (by simp)) _) | (refine Below.via' ?_ (by assumption)) | (refine Below.alloc ?_ (by first | omega | (simp; done) | (simp; omega) | exact Below.size (by assumption) | exact Nat.le_trans (Below.size (by assumption)) (by simp)) _) | (refine Below.via ?_ (by assumption) (by first | omega | (simp; done) | (simp; omega) | exact Below.size (by assumption) | exact Nat.le_trans (Below.size (by assumption)) (by simp)))))))
  obtain ⟨hkPa12, hkPb12, hkPc12⟩ := hkP_12.out
  try clear hkPa11 hkPb11 hkPc11
  have hkU_12 := Lib.hid (hkU_11.out.below (show Below w11.heap.size w11 w12 from (by repeat (first | exact Below.refl _ _ | assumption | refine Below.drew ?_ | refine below_drewN ?_ _ | refine Below.alloc' ?_ _ | (refine Below.setCell ?_ (by first | omega | (simp; done) | (simp; omega) | exact Below.size (by assumption) | exact Nat.le_trans (Below.size (by assumption)) (by simp)) _) | (refine Below.via' ?_ (by assumption)) | (refine Below.alloc ?_ (by first | omega | (simp; done) | (simp; omega) | exact Below.size (by assumption) | exact Nat.le_trans (Below.size (by assumption)) (by simp)) _) | (refine Below.via ?_ (by assumption) (by first | omega | (simp; done) | (simp; omega) | exact Below.size (by assumption) | exact Nat.le_trans (Below.size (by assumption)) (by simp)))))))
  obtain ⟨hkUa12, hkUb12, hkUc12, hkUd12, hkUe12⟩ := hkU_12.out
  try clear hkUa11 hkUb11 hkUc11 hkUd11 hkUe11
  have hW_12 := Lib.hid (hW_11.out.below (show Below w11.heap.size w11 w12 from (by repeat (first | exact Below.refl _ _ | assumption | refine Below.drew ?_ | refine below_drewN ?_ _ | refine Below.alloc' ?_ _ | (refine Below.setCell ?_ (by first | omega | (simp; done) | (simp; omega) | exact Below.size (by assumption) | exact Nat.le_trans (Below.size (by assumption)) (by simp)) _) | (refine Below.via' ?_ (by assumption)) | (refine Below.alloc ?_ (by first | omega | (simp; done) | (simp; omega) | exact Below.size (by assumption) | exact Nat.le_trans (Below.size (by assumption)) (by simp)) _) | (refine Below.via ?_ (by assumption) (by first | omega | (simp; done) | (simp; omega) | exact Below.size (by assumption) | exact Nat.le_trans (Below.size (by assumption)) (by simp)))))))
  obtain ⟨hWa12, hWb12, hWc12, hWd12, hWe12⟩ := hW_12.out
  try clear hWa11 hWb11 hWc11 hWd11 hWe11
  have hxP_12 := Lib.hid (hxP_11.out.below (show Below w11.heap.size w11 w12 from (by repeat (first | exact Below.refl _ _ | assumption | refine Below.drew ?_ | refine below_drewN ?_ _ | refine Below.alloc' ?_ _ | (refine Below.setCell ?_ (by first | omega | (simp; done) | (simp; omega) | exact Below.size (by assumption) | exact Nat.le_trans (Below.size (by assumption)) (by simp)) _) | (refine Below.via' ?_ (by assumption)) | (refine Below.alloc ?_ (by first | omega | (simp; done) | (simp; omega) | exact Below.size (by assumption) | exact Nat.le_trans (Below.size (by assumption)) (by simp)) _) | (refine Below.via ?_ (by assumption) (by first | omega | (simp; done) | (simp; omega) | exact Below.size (by assumption) | exact Nat.le_trans (Below.size (by assumption)) (by simp)))))))
  obtain ⟨hxPa12, hxPb12, hxPc12⟩ := hxP_12.out
  try clear hxPa11 hxPb11 hxPc11
  have hxU_12 := Lib.hid (hxU_11.out.below (show Below w11.heap.size w11 w12 from (by repeat (first | exact Below.refl _ _ | assumption | refine Below.drew ?_ | refine below_drewN ?_ _ | refine Below.alloc' ?_ _ | (refine Below.setCell ?_ (by first | omega | (simp; done) | (simp; omega) | exact Below.size (by assumption) | exact Nat.le_trans (Below.size (by assumption)) (by simp)) _) | (refine Below.via' ?_ (by assumption)) | (refine Below.alloc ?_ (by first | omega | (simp; done) | (simp; omega) | exact Below.size (by assumption) | exact Nat.le_trans (Below.size (by assumption)) (by simp)) _) | (refine Below.via ?_ (by assumption) (by first | omega | (simp; done) | (simp; omega) | exact Below.size (by assumption) | exact Nat.le_trans (Below.size (by assumption)) (by simp)))))))
  obtain ⟨hxUa12, hxUb12, hxUc12, hxUd12, hxUe12⟩ := hxU_12.out
  try clear hxUa11 hxUb11 hxUc11 hxUd11 hxUe11
  have hG_12 := Lib.hid (hG_11.out.below hb12)
  obtain ⟨hGa12, hGb12, hGc12, hGd12, hGe12⟩ := hG_12.out
  go_wp2_with fail
  go_region_held3 (fun w' => Below (w12).heap.size (w12) w' ∧ (∀ b o, b < (w12).heap.size → w'.cell? ⟨b, o, none⟩ = (w12).cell? ⟨b, o, none⟩)) (first | exact keep_of (Below.refl _ _) | ((try go_split_ands); exact keep_of (by repeat (first | exact Below.refl _ _ | assumption | refine Below.drew ?_ | refine below_drewN ?_ _ | refine Below.alloc' ?_ _ | (refine Below.setCell ?_ (by first | omega | (simp; done) | (simp; omega) | exact Below.size (by assumption) | exact Nat.le_trans (Below.size (by assumption)) (by simp)) _) | (refine Below.via' ?_ (by assumption)) | (refine Below.alloc ?_ (by first | omega | (simp; done) | (simp; omega) | exact Below.size (by assumption) | exact Nat.le_trans (Below.size (by assumption)) (by simp)) _) | (refine Below.via ?_ (by assumption) (by first | omega | (simp; done) | (simp; omega) | exact Below.size (by assumption) | exact Nat.le_trans (Below.size (by assumption)) (by simp))))))) (first | (go_at_call 17; refine (toGeo_any xP cP P _ hmP (hP.out.below (by exact (by repeat (first | exact Below.refl _ _ | assumption | refine Below.drew ?_ | refine below_drewN ?_ _ | refine Below.alloc' ?_ _ | (refine Below.setCell ?_ (by first | omega | (simp; done) | (simp; omega) | exact Below.size (by assumption) | exact Nat.le_trans (Below.size (by assumption)) (by simp)) _) | (refine Below.via' ?_ (by assumption)) | (refine Below.alloc ?_ (by first | omega | (simp; done) | (simp; omega) | exact Below.size (by assumption) | exact Nat.le_trans (Below.size (by assumption)) (by simp)) _) | (refine Below.via ?_ (by assumption) (by first | omega | (simp; done) | (simp; omega) | exact Below.size (by assumption) | exact Nat.le_trans (Below.size (by assumption)) (by simp)))))))).mono ?_; rintro e w13 ⟨g13, rfl, ho13, hb13⟩; (have hi13 : Hid (IIn w13 (some ⟨g13, 0, none⟩) P) := ⟨hmP, hnP.out, Rd.of_own ho13⟩)) | (go_at_call 21; refine (eqGeo_any _ _ _ _ P _ hlP (hi8.out.2.2.below (by exact (by repeat (first | exact Below.refl _ _ | assumption | refine Below.drew ?_ | refine below_drewN ?_ _ | refine Below.alloc' ?_ _ | (refine Below.setCell ?_ (by first | omega | (simp; done) | (simp; omega) | exact Below.size (by assumption) | exact Nat.le_trans (Below.size (by assumption)) (by simp)) _) | (refine Below.via' ?_ (by assumption)) | (refine Below.alloc ?_ (by first | omega | (simp; done) | (simp; omega) | exact Below.size (by assumption) | exact Nat.le_trans (Below.size (by assumption)) (by simp)) _) | (refine Below.via ?_ (by assumption) (by first | omega | (simp; done) | (simp; omega) | exact Below.size (by assumption) | exact Nat.le_trans (Below.size (by assumption)) (by simp))))))) (hi13.out.2.2.below (by exact (by repeat (first | exact Below.refl _ _ | assumption | refine Below.drew ?_ | refine below_drewN ?_ _ | refine Below.alloc' ?_ _ | (refine Below.setCell ?_ (by first | omega | (simp; done) | (simp; omega) | exact Below.size (by assumption) | exact Nat.le_trans (Below.size (by assumption)) (by simp)) _) | (refine Below.via' ?_ (by assumption)) | (refine Below.alloc ?_ (by first | omega | (simp; done) | (simp; omega) | exact Below.size (by assumption) | exact Nat.le_trans (Below.size (by assumption)) (by simp)) _) | (refine Below.via ?_ (by assumption) (by first | omega | (simp; done) | (simp; omega) | exact Below.size (by assumption) | exact Nat.le_trans (Below.size (by assumption)) (by simp)))))))).mono ?_; rintro e w14 ⟨rfl, hb14⟩)); rename_i hH; obtain ⟨hb14, hcl14⟩ := hH; have hz14 := hb14.size; (try simp at hz14); (try (have hly14 := Nat.lt_of_succ_le hz14)); (try (have hlx14 := Nat.lt_of_succ_lt hly14)); (try (have hlw14 := Nat.lt_of_succ_lt hlx14)); (try (have hle14 := Nat.le_of_lt hly14)); (try (have hya14 : w.heap.size < w14.heap.size := by omega)); (try (have hyb14 : w.heap.size + 1 < w14.heap.size := by omega)); (try (have hyc14 : w.heap.size + 1 + 1 < w14.heap.size := by omega)); (try (have hyd14 : wa.heap.size < w14.heap.size := by omega))
  have hkP_14 := Lib.hid (hkP_12.out.below (show Below w12.heap.size w12 w14 from (by repeat (first | exact Below.refl _ _ | assumption | refine Below.drew ?_ | refine below_drewN ?_ _ | refine Below.alloc' ?_ _ | (refine Below.setCell ?_ (by first | omega | (simp; done) | (simp; omega) | exact Below.size (by assumption) | exact Nat.le_trans (Below.size (by assumption)) (by simp)) _) | (refine Below.via' ?_ (by assumption)) | (refine Below.alloc ?_ (by first | omega | (simp; done) | (simp; omega) | exact Below.size (by assumption) | exact Nat.le_trans (Below.size (by assumption)) (by simp)) _) | (refine Below.via ?_ (by assumption) (by first | omega | (simp; done) | (simp; omega) | exact Below.size (by assumption) | exact Nat.le_trans (Below.size (by assumption)) (by simp)))))))
  obtain ⟨hkPa14, hkPb14, hkPc14⟩ := hkP_14.out
  try clear hkPa12 hkPb12 hkPc12
  have hkU_14 := Lib.hid (hkU_12.out.below (show Below w12.heap.size w12 w14 from (by repeat (first | exact Below.refl _ _ | assumption | refine Below.drew ?_ | refine below_drewN ?_ _ | refine Below.alloc' ?_ _ | (refine Below.setCell ?_ (by first | omega | (simp; done) | (simp; omega) | exact Below.size (by assumption) | exact Nat.le_trans (Below.size (by assumption)) (by simp)) _) | (refine Below.via' ?_ (by assumption)) | (refine Below.alloc ?_ (by first | omega | (simp; done) | (simp; omega) | exact Below.size (by assumption) | exact Nat.le_trans (Below.size (by assumption)) (by simp)) _) | (refine Below.via ?_ (by assumption) (by first | omega | (simp; done) | (simp; omega) | exact Below.size (by assumption) | exact Nat.le_trans (Below.size (by assumption)) (by simp)))))))
  obtain ⟨hkUa14, hkUb14, hkUc14, hkUd14, hkUe14⟩ := hkU_14.out
  try clear hkUa12 hkUb12 hkUc12 hkUd12 hkUe12
  have hW_14 := Lib.hid (hW_12.out.below (show Below w12.heap.size w12 w14 from (by repeat (first | exact Below.refl _ _ | assumption | refine Below.drew ?_ | refine below_drewN ?_ _ | refine Below.alloc' ?_ _ | (refine Below.setCell ?_ (by first | omega | (simp; done) | (simp; omega) | exact Below.size (by assumption) | exact Nat.le_trans (Below.size (by assumption)) (by simp)) _) | (refine Below.via' ?_ (by assumption)) | (refine Below.alloc ?_ (by first | omega | (simp; done) | (simp; omega) | exact Below.size (by assumption) | exact Nat.le_trans (Below.size (by assumption)) (by simp)) _) | (refine Below.via ?_ (by assumption) (by first | omega | (simp; done) | (simp; omega) | exact Below.size (by assumption) | exact Nat.le_trans (Below.size (by assumption)) (by simp)))))))
  obtain ⟨hWa14, hWb14, hWc14, hWd14, hWe14⟩ := hW_14.out
  try clear hWa12 hWb12 hWc12 hWd12 hWe12
  have hxP_14 := Lib.hid (hxP_12.out.below (show Below w12.heap.size w12 w14 from (by repeat (first | exact Below.refl _ _ | assumption | refine Below.drew ?_ | refine below_drewN ?_ _ | refine Below.alloc' ?_ _ | (refine Below.setCell ?_ (by first | omega | (simp; done) | (simp; omega) | exact Below.size (by assumption) | exact Nat.le_trans (Below.size (by assumption)) (by simp)) _) | (refine Below.via' ?_ (by assumption)) | (refine Below.alloc ?_ (by first | omega | (simp; done) | (simp; omega) | exact Below.size (by assumption) | exact Nat.le_trans (Below.size (by assumption)) (by simp)) _) | (refine Below.via ?_ (by assumption) (by first | omega | (simp; done) | (simp; omega) | exact Below.size (by assumption) | exact Nat.le_trans (Below.size (by assumption)) (by simp)))))))
  obtain ⟨hxPa14, hxPb14, hxPc14⟩ := hxP_14.out
  try clear hxPa12 hxPb12 hxPc12
  have hxU_14 := Lib.hid (hxU_12.out.below (show Below w12.heap.size w12 w14 from (by repeat (first | exact Below.refl _ _ | assumption | refine Below.drew ?_ | refine below_drewN ?_ _ | refine Below.alloc' ?_ _ | (refine Below.setCell ?_ (by first | omega | (simp; done) | (simp; omega) | exact Below.size (by assumption) | exact Nat.le_trans (Below.size (by assumption)) (by simp)) _) | (refine Below.via' ?_ (by assumption)) | (refine Below.alloc ?_ (by first | omega | (simp; done) | (simp; omega) | exact Below.size (by assumption) | exact Nat.le_trans (Below.size (by assumption)) (by simp)) _) | (refine Below.via ?_ (by assumption) (by first | omega | (simp; done) | (simp; omega) | exact Below.size (by assumption) | exact Nat.le_trans (Below.size (by assumption)) (by simp)))))))
  obtain ⟨hxUa14, hxUb14, hxUc14, hxUd14, hxUe14⟩ := hxU_14.out
  try clear hxUa12 hxUb12 hxUc12 hxUd12 hxUe12
  have hG_14 := Lib.hid (hG_12.out.below (show Below w12.heap.size w12 w14 from (by repeat (first | exact Below.refl _ _ | assumption | refine Below.drew ?_ | refine below_drewN ?_ _ | refine Below.alloc' ?_ _ | (refine Below.setCell ?_ (by first | omega | (simp; done) | (simp; omega) | exact Below.size (by assumption) | exact Nat.le_trans (Below.size (by assumption)) (by simp)) _) | (refine Below.via' ?_ (by assumption)) | (refine Below.alloc ?_ (by first | omega | (simp; done) | (simp; omega) | exact Below.size (by assumption) | exact Nat.le_trans (Below.size (by assumption)) (by simp)) _) | (refine Below.via ?_ (by assumption) (by first | omega | (simp; done) | (simp; omega) | exact Below.size (by assumption) | exact Nat.le_trans (Below.size (by assumption)) (by simp)))))))
  obtain ⟨hGa14, hGb14, hGc14, hGd14, hGe14⟩ := hG_14.out
  try clear hGa12 hGb12 hGc12 hGd12 hGe12
  go_wp2_with fail
  refine (toVariableS_any _ _ S _ hm (hS.out.below (by exact (by repeat (first | exact Below.refl _ _ | assumption | refine Below.drew ?_ | refine below_drewN ?_ _ | refine Below.alloc' ?_ _ | (refine Below.setCell ?_ (by first | omega | (simp; done) | (simp; omega) | exact Below.size (by assumption) | exact Nat.le_trans (Below.size (by assumption)) (by simp)) _) | (refine Below.via' ?_ (by assumption)) | (refine Below.alloc ?_ (by first | omega | (simp; done) | (simp; omega) | exact Below.size (by assumption) | exact Nat.le_trans (Below.size (by assumption)) (by simp)) _) | (refine Below.via ?_ (by assumption) (by first | omega | (simp; done) | (simp; omega) | exact Below.size (by assumption) | exact Nat.le_trans (Below.size (by assumption)) (by simp)))))))).mono ?_
  rintro e w15 ⟨rfl, ho15, hb15⟩
  have hi15 : Hid (SIn w15 (some ⟨w14.heap.size, 0, none⟩) S.length S) := ⟨hm, Nat.le_refl _, hn.out, Rd.of_own ho15⟩
  have hz15 := hb15.size; (try simp at hz15); (try (have hly15 := Nat.lt_of_succ_le hz15)); (try (have hlx15 := Nat.lt_of_succ_lt hly15)); (try (have hlw15 := Nat.lt_of_succ_lt hlx15)); (try (have hle15 := Nat.le_of_lt hly15))
  have hkP_15 := Lib.hid (hkP_14.out.below (show Below w14.heap.size w14 w15 from (by repeat (first | exact Below.refl _ _ | assumption | refine Below.drew ?_ | refine below_drewN ?_ _ | refine Below.alloc' ?_ _ | (refine Below.setCell ?_ (by first | omega | (simp; done) | (simp; omega) | exact Below.size (by assumption) | exact Nat.le_trans (Below.size (by assumption)) (by simp)) _) | (refine Below.via' ?_ (by assumption)) | (refine Below.alloc ?_ (by first | omega | (simp; done) | (simp; omega) | exact Below.size (by assumption) | exact Nat.le_trans (Below.size (by assumption)) (by simp)) _) | (refine Below.via ?_ (by assumption) (by first | omega | (simp; done) | (simp; omega) | exact Below.size (by assumption) | exact Nat.le_trans (Below.size (by assumption)) (by simp)))))))
  obtain ⟨hkPa15, hkPb15, hkPc15⟩ := hkP_15.out
  try clear hkPa14 hkPb14 hkPc14
  have hkU_15 := Lib.hid (hkU_14.out.below (show Below w14.heap.size w14 w15 from (by repeat (first | exact Below.refl _ _ | assumption | refine Below.drew ?_ | refine below_drewN ?_ _ | refine Below.alloc' ?_ _ | (refine Below.setCell ?_ (by first | omega | (simp; done) | (simp; omega) | exact Below.size (by assumption) | exact Nat.le_trans (Below.size (by assumption)) (by simp)) _) | (refine Below.via' ?_ (by assumption)) | (refine Below.alloc ?_ (by first | omega | (simp; done) | (simp; omega) | exact Below.size (by assumption) | exact Nat.le_trans (Below.size (by assumption)) (by simp)) _) | (refine Below.via ?_ (by assumption) (by first | omega | (simp; done) | (simp; omega) | exact Below.size (by assumption) | exact Nat.le_trans (Below.size (by assumption)) (by simp)))))))
  obtain ⟨hkUa15, hkUb15, hkUc15, hkUd15, hkUe15⟩ := hkU_15.out
  try clear hkUa14 hkUb14 hkUc14 hkUd14 hkUe14
  have hW_15 := Lib.hid (hW_14.out.below (show Below w14.heap.size w14 w15 from (by repeat (first | exact Below.refl _ _ | assumption | refine Below.drew ?_ | refine below_drewN ?_ _ | refine Below.alloc' ?_ _ | (refine Below.setCell ?_ (by first | omega | (simp; done) | (simp; omega) | exact Below.size (by assumption) | exact Nat.le_trans (Below.size (by assumption)) (by simp)) _) | (refine Below.via' ?_ (by assumption)) | (refine Below.alloc ?_ (by first | omega | (simp; done) | (simp; omega) | exact Below.size (by assumption) | exact Nat.le_trans (Below.size (by assumption)) (by simp)) _) | (refine Below.via ?_ (by assumption) (by first | omega | (simp; done) | (simp; omega) | exact Below.size (by assumption) | exact Nat.le_trans (Below.size (by assumption)) (by simp)))))))
  obtain ⟨hWa15, hWb15, hWc15, hWd15, hWe15⟩ := hW_15.out
  try clear hWa14 hWb14 hWc14 hWd14 hWe14
  have hxP_15 := Lib.hid (hxP_14.out.below (show Below w14.heap.size w14 w15 from (by repeat (first | exact Below.refl _ _ | assumption | refine Below.drew ?_ | refine below_drewN ?_ _ | refine Below.alloc' ?_ _ | (refine Below.setCell ?_ (by first | omega | (simp; done) | (simp; omega) | exact Below.size (by assumption) | exact Nat.le_trans (Below.size (by assumption)) (by simp)) _) | (refine Below.via' ?_ (by assumption)) | (refine Below.alloc ?_ (by first | omega | (simp; done) | (simp; omega) | exact Below.size (by assumption) | exact Nat.le_trans (Below.size (by assumption)) (by simp)) _) | (refine Below.via ?_ (by assumption) (by first | omega | (simp; done) | (simp; omega) | exact Below.size (by assumption) | exact Nat.le_trans (Below.size (by assumption)) (by simp)))))))
  obtain ⟨hxPa15, hxPb15, hxPc15⟩ := hxP_15.out
  try clear hxPa14 hxPb14 hxPc14
  have hxU_15 := Lib.hid (hxU_14.out.below (show Below w14.heap.size w14 w15 from (by repeat (first | exact Below.refl _ _ | assumption | refine Below.drew ?_ | refine below_drewN ?_ _ | refine Below.alloc' ?_ _ | (refine Below.setCell ?_ (by first | omega | (simp; done) | (simp; omega) | exact Below.size (by assumption) | exact Nat.le_trans (Below.size (by assumption)) (by simp)) _) | (refine Below.via' ?_ (by assumption)) | (refine Below.alloc ?_ (by first | omega | (simp; done) | (simp; omega) | exact Below.size (by assumption) | exact Nat.le_trans (Below.size (by assumption)) (by simp)) _) | (refine Below.via ?_ (by assumption) (by first | omega | (simp; done) | (simp; omega) | exact Below.size (by assumption) | exact Nat.le_trans (Below.size (by assumption)) (by simp)))))))
  obtain ⟨hxUa15, hxUb15, hxUc15, hxUd15, hxUe15⟩ := hxU_15.out
  try clear hxUa14 hxUb14 hxUc14 hxUd14 hxUe14
  have hG_15 := Lib.hid (hG_14.out.below (show Below w14.heap.size w14 w15 from (by repeat (first | exact Below.refl _ _ | assumption | refine Below.drew ?_ | refine below_drewN ?_ _ | refine Below.alloc' ?_ _ | (refine Below.setCell ?_ (by first | omega | (simp; done) | (simp; omega) | exact Below.size (by assumption) | exact Nat.le_trans (Below.size (by assumption)) (by simp)) _) | (refine Below.via' ?_ (by assumption)) | (refine Below.alloc ?_ (by first | omega | (simp; done) | (simp; omega) | exact Below.size (by assumption) | exact Nat.le_trans (Below.size (by assumption)) (by simp)) _) | (refine Below.via ?_ (by assumption) (by first | omega | (simp; done) | (simp; omega) | exact Below.size (by assumption) | exact Nat.le_trans (Below.size (by assumption)) (by simp)))))))
  obtain ⟨hGa15, hGb15, hGc15, hGd15, hGe15⟩ := hG_15.out
  try clear hGa14 hGb14 hGc14 hGd14 hGe14
  go_wp2_with fail
  refine (eqVariableS_any _ _ _ _ S _ hlen (hi9.out.rd.below (by exact (by repeat (first | exact Below.refl _ _ | assumption | refine Below.drew ?_ | refine below_drewN ?_ _ | refine Below.alloc' ?_ _ | (refine Below.setCell ?_ (by first | omega | (simp; done) | (simp; omega) | exact Below.size (by assumption) | exact Nat.le_trans (Below.size (by assumption)) (by simp)) _) | (refine Below.via' ?_ (by assumption)) | (refine Below.alloc ?_ (by first | omega | (simp; done) | (simp; omega) | exact Below.size (by assumption) | exact Nat.le_trans (Below.size (by assumption)) (by simp)) _) | (refine Below.via ?_ (by assumption) (by first | omega | (simp; done) | (simp; omega) | exact Below.size (by assumption) | exact Nat.le_trans (Below.size (by assumption)) (by simp))))))) hi15.out.rd).mono ?_
  rintro e w16 ⟨rfl, hb16⟩
  have hkP_16 := Lib.hid (hkP_15.out.below (show Below w15.heap.size w15 w16 from (by repeat (first | exact Below.refl _ _ | assumption | refine Below.drew ?_ | refine below_drewN ?_ _ | refine Below.alloc' ?_ _ | (refine Below.setCell ?_ (by first | omega | (simp; done) | (simp; omega) | exact Below.size (by assumption) | exact Nat.le_trans (Below.size (by assumption)) (by simp)) _) | (refine Below.via' ?_ (by assumption)) | (refine Below.alloc ?_ (by first | omega | (simp; done) | (simp; omega) | exact Below.size (by assumption) | exact Nat.le_trans (Below.size (by assumption)) (by simp)) _) | (refine Below.via ?_ (by assumption) (by first | omega | (simp; done) | (simp; omega) | exact Below.size (by assumption) | exact Nat.le_trans (Below.size (by assumption)) (by simp)))))))
  obtain ⟨hkPa16, hkPb16, hkPc16⟩ := hkP_16.out
  try clear hkPa15 hkPb15 hkPc15
  have hkU_16 := Lib.hid (hkU_15.out.below (show Below w15.heap.size w15 w16 from (by repeat (first | exact Below.refl _ _ | assumption | refine Below.drew ?_ | refine below_drewN ?_ _ | refine Below.alloc' ?_ _ | (refine Below.setCell ?_ (by first | omega | (simp; done) | (simp; omega) | exact Below.size (by assumption) | exact Nat.le_trans (Below.size (by assumption)) (by simp)) _) | (refine Below.via' ?_ (by assumption)) | (refine Below.alloc ?_ (by first | omega | (simp; done) | (simp; omega) | exact Below.size (by assumption) | exact Nat.le_trans (Below.size (by assumption)) (by simp)) _) | (refine Below.via ?_ (by assumption) (by first | omega | (simp; done) | (simp; omega) | exact Below.size (by assumption) | exact Nat.le_trans (Below.size (by assumption)) (by simp)))))))
  obtain ⟨hkUa16, hkUb16, hkUc16, hkUd16, hkUe16⟩ := hkU_16.out
  try clear hkUa15 hkUb15 hkUc15 hkUd15 hkUe15
  have hW_16 := Lib.hid (hW_15.out.below (show Below w15.heap.size w15 w16 from (by repeat (first | exact Below.refl _ _ | assumption | refine Below.drew ?_ | refine below_drewN ?_ _ | refine Below.alloc' ?_ _ | (refine Below.setCell ?_ (by first | omega | (simp; done) | (simp; omega) | exact Below.size (by assumption) | exact Nat.le_trans (Below.size (by assumption)) (by simp)) _) | (refine Below.via' ?_ (by assumption)) | (refine Below.alloc ?_ (by first | omega | (simp; done) | (simp; omega) | exact Below.size (by assumption) | exact Nat.le_trans (Below.size (by assumption)) (by simp)) _) | (refine Below.via ?_ (by assumption) (by first | omega | (simp; done) | (simp; omega) | exact Below.size (by assumption) | exact Nat.le_trans (Below.size (by assumption)) (by simp)))))))
  obtain ⟨hWa16, hWb16, hWc16, hWd16, hWe16⟩ := hW_16.out
  try clear hWa15 hWb15 hWc15 hWd15 hWe15
  have hxP_16 := Lib.hid (hxP_15.out.below (show Below w15.heap.size w15 w16 from (by repeat (first | exact Below.refl _ _ | assumption | refine Below.drew ?_ | refine below_drewN ?_ _ | refine Below.alloc' ?_ _ | (refine Below.setCell ?_ (by first | omega | (simp; done) | (simp; omega) | exact Below.size (by assumption) | exact Nat.le_trans (Below.size (by assumption)) (by simp)) _) | (refine Below.via' ?_ (by assumption)) | (refine Below.alloc ?_ (by first | omega | (simp; done) | (simp; omega) | exact Below.size (by assumption) | exact Nat.le_trans (Below.size (by assumption)) (by simp)) _) | (refine Below.via ?_ (by assumption) (by first | omega | (simp; done) | (simp; omega) | exact Below.size (by assumption) | exact Nat.le_trans (Below.size (by assumption)) (by simp)))))))
  obtain ⟨hxPa16, hxPb16, hxPc16⟩ := hxP_16.out
  try clear hxPa15 hxPb15 hxPc15
  have hxU_16 := Lib.hid (hxU_15.out.below (show Below w15.heap.size w15 w16 from (by repeat (first | exact Below.refl _ _ | assumption | refine Below.drew ?_ | refine below_drewN ?_ _ | refine Below.alloc' ?_ _ | (refine Below.setCell ?_ (by first | omega | (simp; done) | (simp; omega) | exact Below.size (by assumption) | exact Nat.le_trans (Below.size (by assumption)) (by simp)) _) | (refine Below.via' ?_ (by assumption)) | (refine Below.alloc ?_ (by first | omega | (simp; done) | (simp; omega) | exact Below.size (by assumption) | exact Nat.le_trans (Below.size (by assumption)) (by simp)) _) | (refine Below.via ?_ (by assumption) (by first | omega | (simp; done) | (simp; omega) | exact Below.size (by assumption) | exact Nat.le_trans (Below.size (by assumption)) (by simp)))))))
  obtain ⟨hxUa16, hxUb16, hxUc16, hxUd16, hxUe16⟩ := hxU_16.out
  try clear hxUa15 hxUb15 hxUc15 hxUd15 hxUe15
  have hG_16 := Lib.hid (hG_15.out.below (show Below w15.heap.size w15 w16 from (by repeat (first | exact Below.refl _ _ | assumption | refine Below.drew ?_ | refine below_drewN ?_ _ | refine Below.alloc' ?_ _ | (refine Below.setCell ?_ (by first | omega | (simp; done) | (simp; omega) | exact Below.size (by assumption) | exact Nat.le_trans (Below.size (by assumption)) (by simp)) _) | (refine Below.via' ?_ (by assumption)) | (refine Below.alloc ?_ (by first | omega | (simp; done) | (simp; omega) | exact Below.size (by assumption) | exact Nat.le_trans (Below.size (by assumption)) (by simp)) _) | (refine Below.via ?_ (by assumption) (by first | omega | (simp; done) | (simp; omega) | exact Below.size (by assumption) | exact Nat.le_trans (Below.size (by assumption)) (by simp)))))))
  obtain ⟨hGa16, hGb16, hGc16, hGd16, hGe16⟩ := hG_16.out
  try clear hGa15 hGb15 hGc15 hGd15 hGe15
  go_wp2_with fail
  go_region_held3 (fun w' => Below (w16).heap.size (w16) w' ∧ (∀ b o, b < (w16).heap.size → w'.cell? ⟨b, o, none⟩ = (w16).cell? ⟨b, o, none⟩)) (first | exact keep_of (Below.refl _ _) | ((try go_split_ands); exact keep_of (by repeat (first | exact Below.refl _ _ | assumption | refine Below.drew ?_ | refine below_drewN ?_ _ | refine Below.alloc' ?_ _ | (refine Below.setCell ?_ (by first | omega | (simp; done) | (simp; omega) | exact Below.size (by assumption) | exact Nat.le_trans (Below.size (by assumption)) (by simp)) _) | (refine Below.via' ?_ (by assumption)) | (refine Below.alloc ?_ (by first | omega | (simp; done) | (simp; omega) | exact Below.size (by assumption) | exact Nat.le_trans (Below.size (by assumption)) (by simp)) _) | (refine Below.via ?_ (by assumption) (by first | omega | (simp; done) | (simp; omega) | exact Below.size (by assumption) | exact Nat.le_trans (Below.size (by assumption)) (by simp))))))) (first | (go_at_call 19; refine (toTable_any Ul xU zU cU dU UF UW Um _ hmUF hmUW (hUF.out.below (by exact (by repeat (first | exact Below.refl _ _ | assumption | refine Below.drew ?_ | refine below_drewN ?_ _ | refine Below.alloc' ?_ _ | (refine Below.setCell ?_ (by first | omega | (simp; done) | (simp; omega) | exact Below.size (by assumption) | exact Nat.le_trans (Below.size (by assumption)) (by simp)) _) | (refine Below.via' ?_ (by assumption)) | (refine Below.alloc ?_ (by first | omega | (simp; done) | (simp; omega) | exact Below.size (by assumption) | exact Nat.le_trans (Below.size (by assumption)) (by simp)) _) | (refine Below.via ?_ (by assumption) (by first | omega | (simp; done) | (simp; omega) | exact Below.size (by assumption) | exact Nat.le_trans (Below.size (by assumption)) (by simp))))))) (hUW.out.below (by exact (by repeat (first | exact Below.refl _ _ | assumption | refine Below.drew ?_ | refine below_drewN ?_ _ | refine Below.alloc' ?_ _ | (refine Below.setCell ?_ (by first | omega | (simp; done) | (simp; omega) | exact Below.size (by assumption) | exact Nat.le_trans (Below.size (by assumption)) (by simp)) _) | (refine Below.via' ?_ (by assumption)) | (refine Below.alloc ?_ (by first | omega | (simp; done) | (simp; omega) | exact Below.size (by assumption) | exact Nat.le_trans (Below.size (by assumption)) (by simp)) _) | (refine Below.via ?_ (by assumption) (by first | omega | (simp; done) | (simp; omega) | exact Below.size (by assumption) | exact Nat.le_trans (Below.size (by assumption)) (by simp)))))))).mono ?_; rintro e w17 ⟨g17, f17, rfl, ho17, hb17⟩; (have hi17 : Hid (TIn w17 (some ⟨g17, 0, none⟩) (some ⟨f17, 0, none⟩) UF UW) := Lib.hid (TIn.of_owT ho17 hmUF hmUW hnUF.out hnUW.out))) | (go_at_call 23; refine (eqTable_any _ _ _ _ _ _ UF UW _ hlUF hlUW (hi10.out.below (by exact (by repeat (first | exact Below.refl _ _ | assumption | refine Below.drew ?_ | refine below_drewN ?_ _ | refine Below.alloc' ?_ _ | (refine Below.setCell ?_ (by first | omega | (simp; done) | (simp; omega) | exact Below.size (by assumption) | exact Nat.le_trans (Below.size (by assumption)) (by simp)) _) | (refine Below.via' ?_ (by assumption)) | (refine Below.alloc ?_ (by first | omega | (simp; done) | (simp; omega) | exact Below.size (by assumption) | exact Nat.le_trans (Below.size (by assumption)) (by simp)) _) | (refine Below.via ?_ (by assumption) (by first | omega | (simp; done) | (simp; omega) | exact Below.size (by assumption) | exact Nat.le_trans (Below.size (by assumption)) (by simp))))))) (hi17.out.below (by exact (by repeat (first | exact Below.refl _ _ | assumption | refine Below.drew ?_ | refine below_drewN ?_ _ | refine Below.alloc' ?_ _ | (refine Below.setCell ?_ (by first | omega | (simp; done) | (simp; omega) | exact Below.size (by assumption) | exact Nat.le_trans (Below.size (by assumption)) (by simp)) _) | (refine Below.via' ?_ (by assumption)) | (refine Below.alloc ?_ (by first | omega | (simp; done) | (simp; omega) | exact Below.size (by assumption) | exact Nat.le_trans (Below.size (by assumption)) (by simp)) _) | (refine Below.via ?_ (by assumption) (by first | omega | (simp; done) | (simp; omega) | exact Below.size (by assumption) | exact Nat.le_trans (Below.size (by assumption)) (by simp)))))))).mono ?_; rintro e w18 ⟨rfl, hb18⟩)); rename_i hH; obtain ⟨hb18, hcl18⟩ := hH; have hz18 := hb18.size; (try simp at hz18); (try (have hly18 := Nat.lt_of_succ_le hz18)); (try (have hlx18 := Nat.lt_of_succ_lt hly18)); (try (have hlw18 := Nat.lt_of_succ_lt hlx18)); (try (have hle18 := Nat.le_of_lt hly18)); (try (have hya18 : w.heap.size < w18.heap.size := by omega)); (try (have hyb18 : w.heap.size + 1 < w18.heap.size := by omega)); (try (have hyc18 : w.heap.size + 1 + 1 < w18.heap.size := by omega)); (try (have hyd18 : wa.heap.size < w18.heap.size := by omega))
  have hkP_18 := Lib.hid (hkP_16.out.below (show Below w16.heap.size w16 w18 from (by repeat (first | exact Below.refl _ _ | assumption | refine Below.drew ?_ | refine below_drewN ?_ _ | refine Below.alloc' ?_ _ | (refine Below.setCell ?_ (by first | omega | (simp; done) | (simp; omega) | exact Below.size (by assumption) | exact Nat.le_trans (Below.size (by assumption)) (by simp)) _) | (refine Below.via' ?_ (by assumption)) | (refine Below.alloc ?_ (by first | omega | (simp; done) | (simp; omega) | exact Below.size (by assumption) | exact Nat.le_trans (Below.size (by assumption)) (by simp)) _) | (refine Below.via ?_ (by assumption) (by first | omega | (simp; done) | (simp; omega) | exact Below.size (by assumption) | exact Nat.le_trans (Below.size (by assumption)) (by simp)))))))
  obtain ⟨hkPa18, hkPb18, hkPc18⟩ := hkP_18.out
  try clear hkPa16 hkPb16 hkPc16
  have hkU_18 := Lib.hid (hkU_16.out.below (show Below w16.heap.size w16 w18 from (by repeat (first | exact Below.refl _ _ | assumption | refine Below.drew ?_ | refine below_drewN ?_ _ | refine Below.alloc' ?_ _ | (refine Below.setCell ?_ (by first | omega | (simp; done) | (simp; omega) | exact Below.size (by assumption) | exact Nat.le_trans (Below.size (by assumption)) (by simp)) _) | (refine Below.via' ?_ (by assumption)) | (refine Below.alloc ?_ (by first | omega | (simp; done) | (simp; omega) | exact Below.size (by assumption) | exact Nat.le_trans (Below.size (by assumption)) (by simp)) _) | (refine Below.via ?_ (by assumption) (by first | omega | (simp; done) | (simp; omega) | exact Below.size (by assumption) | exact Nat.le_trans (Below.size (by assumption)) (by simp)))))))
  obtain ⟨hkUa18, hkUb18, hkUc18, hkUd18, hkUe18⟩ := hkU_18.out
  try clear hkUa16 hkUb16 hkUc16 hkUd16 hkUe16
  have hW_18 := Lib.hid (hW_16.out.below (show Below w16.heap.size w16 w18 from (by repeat (first | exact Below.refl _ _ | assumption | refine Below.drew ?_ | refine below_drewN ?_ _ | refine Below.alloc' ?_ _ | (refine Below.setCell ?_ (by first | omega | (simp; done) | (simp; omega) | exact Below.size (by assumption) | exact Nat.le_trans (Below.size (by assumption)) (by simp)) _) | (refine Below.via' ?_ (by assumption)) | (refine Below.alloc ?_ (by first | omega | (simp; done) | (simp; omega) | exact Below.size (by assumption) | exact Nat.le_trans (Below.size (by assumption)) (by simp)) _) | (refine Below.via ?_ (by assumption) (by first | omega | (simp; done) | (simp; omega) | exact Below.size (by assumption) | exact Nat.le_trans (Below.size (by assumption)) (by simp)))))))
  obtain ⟨hWa18, hWb18, hWc18, hWd18, hWe18⟩ := hW_18.out
  try clear hWa16 hWb16 hWc16 hWd16 hWe16
  have hxP_18 := Lib.hid (hxP_16.out.below (show Below w16.heap.size w16 w18 from (by repeat (first | exact Below.refl _ _ | assumption | refine Below.drew ?_ | refine below_drewN ?_ _ | refine Below.alloc' ?_ _ | (refine Below.setCell ?_ (by first | omega | (simp; done) | (simp; omega) | exact Below.size (by assumption) | exact Nat.le_trans (Below.size (by assumption)) (by simp)) _) | (refine Below.via' ?_ (by assumption)) | (refine Below.alloc ?_ (by first | omega | (simp; done) | (simp; omega) | exact Below.size (by assumption) | exact Nat.le_trans (Below.size (by assumption)) (by simp)) _) | (refine Below.via ?_ (by assumption) (by first | omega | (simp; done) | (simp; omega) | exact Below.size (by assumption) | exact Nat.le_trans (Below.size (by assumption)) (by simp)))))))
  obtain ⟨hxPa18, hxPb18, hxPc18⟩ := hxP_18.out
  try clear hxPa16 hxPb16 hxPc16
  have hxU_18 := Lib.hid (hxU_16.out.below (show Below w16.heap.size w16 w18 from (by repeat (first | exact Below.refl _ _ | assumption | refine Below.drew ?_ | refine below_drewN ?_ _ | refine Below.alloc' ?_ _ | (refine Below.setCell ?_ (by first | omega | (simp; done) | (simp; omega) | exact Below.size (by assumption) | exact Nat.le_trans (Below.size (by assumption)) (by simp)) _) | (refine Below.via' ?_ (by assumption)) | (refine Below.alloc ?_ (by first | omega | (simp; done) | (simp; omega) | exact Below.size (by assumption) | exact Nat.le_trans (Below.size (by assumption)) (by simp)) _) | (refine Below.via ?_ (by assumption) (by first | omega | (simp; done) | (simp; omega) | exact Below.size (by assumption) | exact Nat.le_trans (Below.size (by assumption)) (by simp)))))))
  obtain ⟨hxUa18, hxUb18, hxUc18, hxUd18, hxUe18⟩ := hxU_18.out
  try clear hxUa16 hxUb16 hxUc16 hxUd16 hxUe16
  have hG_18 := Lib.hid (hG_16.out.below (show Below w16.heap.size w16 w18 from (by repeat (first | exact Below.refl _ _ | assumption | refine Below.drew ?_ | refine below_drewN ?_ _ | refine Below.alloc' ?_ _ | (refine Below.setCell ?_ (by first | omega | (simp; done) | (simp; omega) | exact Below.size (by assumption) | exact Nat.le_trans (Below.size (by assumption)) (by simp)) _) | (refine Below.via' ?_ (by assumption)) | (refine Below.alloc ?_ (by first | omega | (simp; done) | (simp; omega) | exact Below.size (by assumption) | exact Nat.le_trans (Below.size (by assumption)) (by simp)) _) | (refine Below.via ?_ (by assumption) (by first | omega | (simp; done) | (simp; omega) | exact Below.size (by assumption) | exact Nat.le_trans (Below.size (by assumption)) (by simp)))))))
  obtain ⟨hGa18, hGb18, hGc18, hGd18, hGe18⟩ := hG_18.out
  try clear hGa16 hGb16 hGc16 hGd16 hGe16
  have cc0 : w.heap.size ≤ w7.heap.size := (show Below w.heap.size w w7 from (by repeat (first | exact Below.refl _ _ | assumption | refine Below.drew ?_ | refine below_drewN ?_ _ | refine Below.alloc' ?_ _ | (refine Below.setCell ?_ (by first | omega | (simp; done) | (simp; omega) | exact Below.size (by assumption) | exact Nat.le_trans (Below.size (by assumption)) (by simp)) _) | (refine Below.via' ?_ (by assumption)) | (refine Below.alloc ?_ (by first | omega | (simp; done) | (simp; omega) | exact Below.size (by assumption) | exact Nat.le_trans (Below.size (by assumption)) (by simp)) _) | (refine Below.via ?_ (by assumption) (by first | omega | (simp; done) | (simp; omega) | exact Below.size (by assumption) | exact Nat.le_trans (Below.size (by assumption)) (by simp)))))).size
  have cck : w3.heap.size ≤ w7.heap.size := hb7.size
  have cc1 : w7.heap.size ≤ w8.heap.size := (show Below w7.heap.size w7 w8 from (by repeat (first | exact Below.refl _ _ | assumption | refine Below.drew ?_ | refine below_drewN ?_ _ | refine Below.alloc' ?_ _ | (refine Below.setCell ?_ (by first | omega | (simp; done) | (simp; omega) | exact Below.size (by assumption) | exact Nat.le_trans (Below.size (by assumption)) (by simp)) _) | (refine Below.via' ?_ (by assumption)) | (refine Below.alloc ?_ (by first | omega | (simp; done) | (simp; omega) | exact Below.size (by assumption) | exact Nat.le_trans (Below.size (by assumption)) (by simp)) _) | (refine Below.via ?_ (by assumption) (by first | omega | (simp; done) | (simp; omega) | exact Below.size (by assumption) | exact Nat.le_trans (Below.size (by assumption)) (by simp)))))).size
  have cc2 : w8.heap.size ≤ w9.heap.size := (show Below w8.heap.size w8 w9 from (by repeat (first | exact Below.refl _ _ | assumption | refine Below.drew ?_ | refine below_drewN ?_ _ | refine Below.alloc' ?_ _ | (refine Below.setCell ?_ (by first | omega | (simp; done) | (simp; omega) | exact Below.size (by assumption) | exact Nat.le_trans (Below.size (by assumption)) (by simp)) _) | (refine Below.via' ?_ (by assumption)) | (refine Below.alloc ?_ (by first | omega | (simp; done) | (simp; omega) | exact Below.size (by assumption) | exact Nat.le_trans (Below.size (by assumption)) (by simp)) _) | (refine Below.via ?_ (by assumption) (by first | omega | (simp; done) | (simp; omega) | exact Below.size (by assumption) | exact Nat.le_trans (Below.size (by assumption)) (by simp)))))).size
  have cc3 : w9.heap.size ≤ w10.heap.size := (show Below w9.heap.size w9 w10 from (by repeat (first | exact Below.refl _ _ | assumption | refine Below.drew ?_ | refine below_drewN ?_ _ | refine Below.alloc' ?_ _ | (refine Below.setCell ?_ (by first | omega | (simp; done) | (simp; omega) | exact Below.size (by assumption) | exact Nat.le_trans (Below.size (by assumption)) (by simp)) _) | (refine Below.via' ?_ (by assumption)) | (refine Below.alloc ?_ (by first | omega | (simp; done) | (simp; omega) | exact Below.size (by assumption) | exact Nat.le_trans (Below.size (by assumption)) (by simp)) _) | (refine Below.via ?_ (by assumption) (by first | omega | (simp; done) | (simp; omega) | exact Below.size (by assumption) | exact Nat.le_trans (Below.size (by assumption)) (by simp)))))).size
  have cc4 : w10.heap.size ≤ w11.heap.size := (show Below w10.heap.size w10 w11 from (by repeat (first | exact Below.refl _ _ | assumption | refine Below.drew ?_ | refine below_drewN ?_ _ | refine Below.alloc' ?_ _ | (refine Below.setCell ?_ (by first | omega | (simp; done) | (simp; omega) | exact Below.size (by assumption) | exact Nat.le_trans (Below.size (by assumption)) (by simp)) _) | (refine Below.via' ?_ (by assumption)) | (refine Below.alloc ?_ (by first | omega | (simp; done) | (simp; omega) | exact Below.size (by assumption) | exact Nat.le_trans (Below.size (by assumption)) (by simp)) _) | (refine Below.via ?_ (by assumption) (by first | omega | (simp; done) | (simp; omega) | exact Below.size (by assumption) | exact Nat.le_trans (Below.size (by assumption)) (by simp)))))).size
  have cc5 : w11.heap.size ≤ w18.heap.size := (show Below w11.heap.size w11 w18 from (by repeat (first | exact Below.refl _ _ | assumption | refine Below.drew ?_ | refine below_drewN ?_ _ | refine Below.alloc' ?_ _ | (refine Below.setCell ?_ (by first | omega | (simp; done) | (simp; omega) | exact Below.size (by assumption) | exact Nat.le_trans (Below.size (by assumption)) (by simp)) _) | (refine Below.via' ?_ (by assumption)) | (refine Below.alloc ?_ (by first | omega | (simp; done) | (simp; omega) | exact Below.size (by assumption) | exact Nat.le_trans (Below.size (by assumption)) (by simp)) _) | (refine Below.via ?_ (by assumption) (by first | omega | (simp; done) | (simp; omega) | exact Below.size (by assumption) | exact Nat.le_trans (Below.size (by assumption)) (by simp)))))).size
  have XP_18 := (OwR.of ho8).below (show Below w8.heap.size w8 w18 from (by repeat (first | exact Below.refl _ _ | assumption | refine Below.drew ?_ | refine below_drewN ?_ _ | refine Below.alloc' ?_ _ | (refine Below.setCell ?_ (by first | omega | (simp; done) | (simp; omega) | exact Below.size (by assumption) | exact Nat.le_trans (Below.size (by assumption)) (by simp)) _) | (refine Below.via' ?_ (by assumption)) | (refine Below.alloc ?_ (by first | omega | (simp; done) | (simp; omega) | exact Below.size (by assumption) | exact Nat.le_trans (Below.size (by assumption)) (by simp)) _) | (refine Below.via ?_ (by assumption) (by first | omega | (simp; done) | (simp; omega) | exact Below.size (by assumption) | exact Nat.le_trans (Below.size (by assumption)) (by simp))))))
  have XS_18 := (OwR.of ho9).below (show Below w9.heap.size w9 w18 from (by repeat (first | exact Below.refl _ _ | assumption | refine Below.drew ?_ | refine below_drewN ?_ _ | refine Below.alloc' ?_ _ | (refine Below.setCell ?_ (by first | omega | (simp; done) | (simp; omega) | exact Below.size (by assumption) | exact Nat.le_trans (Below.size (by assumption)) (by simp)) _) | (refine Below.via' ?_ (by assumption)) | (refine Below.alloc ?_ (by first | omega | (simp; done) | (simp; omega) | exact Below.size (by assumption) | exact Nat.le_trans (Below.size (by assumption)) (by simp)) _) | (refine Below.via ?_ (by assumption) (by first | omega | (simp; done) | (simp; omega) | exact Below.size (by assumption) | exact Nat.le_trans (Below.size (by assumption)) (by simp))))))
  have XU_18 := ho10.below (show Below w10.heap.size w10 w18 from (by repeat (first | exact Below.refl _ _ | assumption | refine Below.drew ?_ | refine below_drewN ?_ _ | refine Below.alloc' ?_ _ | (refine Below.setCell ?_ (by first | omega | (simp; done) | (simp; omega) | exact Below.size (by assumption) | exact Nat.le_trans (Below.size (by assumption)) (by simp)) _) | (refine Below.via' ?_ (by assumption)) | (refine Below.alloc ?_ (by first | omega | (simp; done) | (simp; omega) | exact Below.size (by assumption) | exact Nat.le_trans (Below.size (by assumption)) (by simp)) _) | (refine Below.via ?_ (by assumption) (by first | omega | (simp; done) | (simp; omega) | exact Below.size (by assumption) | exact Nat.le_trans (Below.size (by assumption)) (by simp))))))
  have R_18 := RO11.out.below (show Below w11.heap.size w11 w18 from (by repeat (first | exact Below.refl _ _ | assumption | refine Below.drew ?_ | refine below_drewN ?_ _ | refine Below.alloc' ?_ _ | (refine Below.setCell ?_ (by first | omega | (simp; done) | (simp; omega) | exact Below.size (by assumption) | exact Nat.le_trans (Below.size (by assumption)) (by simp)) _) | (refine Below.via' ?_ (by assumption)) | (refine Below.alloc ?_ (by first | omega | (simp; done) | (simp; omega) | exact Below.size (by assumption) | exact Nat.le_trans (Below.size (by assumption)) (by simp)) _) | (refine Below.via ?_ (by assumption) (by first | omega | (simp; done) | (simp; omega) | exact Below.size (by assumption) | exact Nat.le_trans (Below.size (by assumption)) (by simp))))))
  have W_18 := hoA7.below (show Below w7.heap.size w7 w18 from (by repeat (first | exact Below.refl _ _ | assumption | refine Below.drew ?_ | refine below_drewN ?_ _ | refine Below.alloc' ?_ _ | (refine Below.setCell ?_ (by first | omega | (simp; done) | (simp; omega) | exact Below.size (by assumption) | exact Nat.le_trans (Below.size (by assumption)) (by simp)) _) | (refine Below.via' ?_ (by assumption)) | (refine Below.alloc ?_ (by first | omega | (simp; done) | (simp; omega) | exact Below.size (by assumption) | exact Nat.le_trans (Below.size (by assumption)) (by simp)) _) | (refine Below.via ?_ (by assumption) (by first | omega | (simp; done) | (simp; omega) | exact Below.size (by assumption) | exact Nat.le_trans (Below.size (by assumption)) (by simp))))))
  have B0 : Below w.heap.size w w18 := (by repeat (first | exact Below.refl _ _ | assumption | refine Below.drew ?_ | refine below_drewN ?_ _ | refine Below.alloc' ?_ _ | (refine Below.setCell ?_ (by first | omega | (simp; done) | (simp; omega) | exact Below.size (by assumption) | exact Nat.le_trans (Below.size (by assumption)) (by simp)) _) | (refine Below.via' ?_ (by assumption)) | (refine Below.alloc ?_ (by first | omega | (simp; done) | (simp; omega) | exact Below.size (by assumption) | exact Nat.le_trans (Below.size (by assumption)) (by simp)) _) | (refine Below.via ?_ (by assumption) (by first | omega | (simp; done) | (simp; omega) | exact Below.size (by assumption) | exact Nat.le_trans (Below.size (by assumption)) (by simp)))))
  go_wp2_with fail
  refine (markGeo_any _ _ _ _ _ _ _ (by omega) (by omega) hmP XP_18.1).mono ?_
  rintro e w19 ⟨rfl, -, hg19⟩
  have B19 := Below.mark B0 XP_18 hg19 (by omega)
  have hkP_19 := Lib.hid (hkP_18.out.grown hg19 (fun e => by have := XP_18.2 _ e.symm; omega))
  obtain ⟨hkPa19, hkPb19, hkPc19⟩ := hkP_19.out
  try clear hkPa18 hkPb18 hkPc18
  have hkU_19 := Lib.hid (hkU_18.out.grown hg19 (fun e => by have := XP_18.2 _ e.symm; omega))
  obtain ⟨hkUa19, hkUb19, hkUc19, hkUd19, hkUe19⟩ := hkU_19.out
  try clear hkUa18 hkUb18 hkUc18 hkUd18 hkUe18
  have hW_19 := Lib.hid (hW_18.out.grown hg19 (fun e => by have := XP_18.2 _ e.symm; omega))
  obtain ⟨hWa19, hWb19, hWc19, hWd19, hWe19⟩ := hW_19.out
  try clear hWa18 hWb18 hWc18 hWd18 hWe18
  have hxP_19 := Lib.hid (hxP_18.out.grown hg19 (fun e => by have := XP_18.2 _ e.symm; omega))
  obtain ⟨hxPa19, hxPb19, hxPc19⟩ := hxP_19.out
  try clear hxPa18 hxPb18 hxPc18
  have hxU_19 := Lib.hid (hxU_18.out.grown hg19 (fun e => by have := XP_18.2 _ e.symm; omega))
  obtain ⟨hxUa19, hxUb19, hxUc19, hxUd19, hxUe19⟩ := hxU_19.out
  try clear hxUa18 hxUb18 hxUc18 hxUd18 hxUe18
  have hG_19 := Lib.hid (hG_18.out.grown hg19 (fun e => by have := XP_18.2 _ e.symm; omega))
  obtain ⟨hGa19, hGb19, hGc19, hGd19, hGe19⟩ := hG_19.out
  try clear hGa18 hGb18 hGc18 hGd18 hGe18
  have XS_19 := XS_18.keep hg19 (fun k hk => by have := XP_18.2 k hk; omega)
  have XU_19 := XU_18.off (Off.of_grown hg19 (fun k hk => XP_18.2 k hk)) (by omega)
  have R_19 := R_18.keep hg19 (fun k hk => by have := XP_18.2 k hk; omega)
  have W_19 := W_18.keep hg19 (fun k hk => by have := XP_18.2 k hk; omega)
  go_wp2_with fail
  refine (markVariableS_any _ _ _ _ _ _ _ (by omega) (by omega) hm XS_19.1).mono ?_
  rintro e w20 ⟨rfl, -, hg20⟩
  have B20 := Below.mark B19 XS_19 hg20 (by omega)
  have hkP_20 := Lib.hid (hkP_19.out.grown hg20 (fun e => by have := XS_19.2 _ e.symm; omega))
  obtain ⟨hkPa20, hkPb20, hkPc20⟩ := hkP_20.out
  try clear hkPa19 hkPb19 hkPc19
  have hkU_20 := Lib.hid (hkU_19.out.grown hg20 (fun e => by have := XS_19.2 _ e.symm; omega))
  obtain ⟨hkUa20, hkUb20, hkUc20, hkUd20, hkUe20⟩ := hkU_20.out
  try clear hkUa19 hkUb19 hkUc19 hkUd19 hkUe19
  have hW_20 := Lib.hid (hW_19.out.grown hg20 (fun e => by have := XS_19.2 _ e.symm; omega))
  obtain ⟨hWa20, hWb20, hWc20, hWd20, hWe20⟩ := hW_20.out
  try clear hWa19 hWb19 hWc19 hWd19 hWe19
  have hxP_20 := Lib.hid (hxP_19.out.grown hg20 (fun e => by have := XS_19.2 _ e.symm; omega))
  obtain ⟨hxPa20, hxPb20, hxPc20⟩ := hxP_20.out
  try clear hxPa19 hxPb19 hxPc19
  have hxU_20 := Lib.hid (hxU_19.out.grown hg20 (fun e => by have := XS_19.2 _ e.symm; omega))
  obtain ⟨hxUa20, hxUb20, hxUc20, hxUd20, hxUe20⟩ := hxU_20.out
  try clear hxUa19 hxUb19 hxUc19 hxUd19 hxUe19
  have hG_20 := Lib.hid (hG_19.out.grown hg20 (fun e => by have := XS_19.2 _ e.symm; omega))
  obtain ⟨hGa20, hGb20, hGc20, hGd20, hGe20⟩ := hG_20.out
  try clear hGa19 hGb19 hGc19 hGd19 hGe19
  have XU_20 := XU_19.off (Off.of_grown hg20 (fun k hk => XS_19.2 k hk)) (by omega)
  have R_20 := R_19.keep hg20 (fun k hk => by have := XS_19.2 k hk; omega)
  have W_20 := W_19.keep hg20 (fun k hk => by have := XS_19.2 k hk; omega)
  go_wp2_with fail
  refine (markTable_any _ _ _ _ _ _ _ UF UW _ _ _ (by omega) (by omega) hmUF hmUW XU_20).mono ?_
  rintro e w21 ⟨rfl, hg21⟩
  have B21 := Below.off B20 hg21 (by omega)
  have hkP_21 := Lib.hid (hkP_20.out.off hg21 (by omega))
  obtain ⟨hkPa21, hkPb21, hkPc21⟩ := hkP_21.out
  try clear hkPa20 hkPb20 hkPc20
  have hkU_21 := Lib.hid (hkU_20.out.off hg21 (by omega))
  obtain ⟨hkUa21, hkUb21, hkUc21, hkUd21, hkUe21⟩ := hkU_21.out
  try clear hkUa20 hkUb20 hkUc20 hkUd20 hkUe20
  have hW_21 := Lib.hid (hW_20.out.off hg21 (by omega))
  obtain ⟨hWa21, hWb21, hWc21, hWd21, hWe21⟩ := hW_21.out
  try clear hWa20 hWb20 hWc20 hWd20 hWe20
  have hxP_21 := Lib.hid (hxP_20.out.off hg21 (by omega))
  obtain ⟨hxPa21, hxPb21, hxPc21⟩ := hxP_21.out
  try clear hxPa20 hxPb20 hxPc20
  have hxU_21 := Lib.hid (hxU_20.out.off hg21 (by omega))
  obtain ⟨hxUa21, hxUb21, hxUc21, hxUd21, hxUe21⟩ := hxU_21.out
  try clear hxUa20 hxUb20 hxUc20 hxUd20 hxUe20
  have hG_21 := Lib.hid (hG_20.out.off hg21 (by omega))
  obtain ⟨hGa21, hGb21, hGc21, hGd21, hGe21⟩ := hG_21.out
  try clear hGa20 hGb20 hGc20 hGd20 hGe20
  have R_21 := R_20.off hg21 (by omega)
  have W_21 := W_20.off hg21 (by omega)
  have hkk : ¬ (1 + (P.length : Int) + 2 * (S.length : Int) + (UF.length : Int) + (UW.length : Int) < 0) := by omega
  go_wp2_with fail
  refine (eqTable_any _ _ _ _ _ _ RR.2.1 RR.2.2.1 _ (by omega) (by omega) (TIn.of_owY (R_21.below (by exact (by repeat (first | exact Below.refl _ _ | assumption | refine Below.drew ?_ | refine below_drewN ?_ _ | refine Below.alloc' ?_ _ | (refine Below.setCell ?_ (by first | omega | (simp; done) | (simp; omega) | exact Below.size (by assumption) | exact Nat.le_trans (Below.size (by assumption)) (by simp)) _) | (refine Below.via' ?_ (by assumption)) | (refine Below.alloc ?_ (by first | omega | (simp; done) | (simp; omega) | exact Below.size (by assumption) | exact Nat.le_trans (Below.size (by assumption)) (by simp)) _) | (refine Below.via ?_ (by assumption) (by first | omega | (simp; done) | (simp; omega) | exact Below.size (by assumption) | exact Nat.le_trans (Below.size (by assumption)) (by simp))))))) hRF hRW hnRF.out hnRW.out) (TIn.of_owY (W_21.below (by exact (by repeat (first | exact Below.refl _ _ | assumption | refine Below.drew ?_ | refine below_drewN ?_ _ | refine Below.alloc' ?_ _ | (refine Below.setCell ?_ (by first | omega | (simp; done) | (simp; omega) | exact Below.size (by assumption) | exact Nat.le_trans (Below.size (by assumption)) (by simp)) _) | (refine Below.via' ?_ (by assumption)) | (refine Below.alloc ?_ (by first | omega | (simp; done) | (simp; omega) | exact Below.size (by assumption) | exact Nat.le_trans (Below.size (by assumption)) (by simp)) _) | (refine Below.via ?_ (by assumption) (by first | omega | (simp; done) | (simp; omega) | exact Below.size (by assumption) | exact Nat.le_trans (Below.size (by assumption)) (by simp))))))) hRF hRW hnRF.out hnRW.out)).mono ?_
  rintro e w22 ⟨rfl, hb22⟩
  have hkP_22 := Lib.hid (hkP_21.out.below (show Below w21.heap.size w21 w22 from (by repeat (first | exact Below.refl _ _ | assumption | refine Below.drew ?_ | refine below_drewN ?_ _ | refine Below.alloc' ?_ _ | (refine Below.setCell ?_ (by first | omega | (simp; done) | (simp; omega) | exact Below.size (by assumption) | exact Nat.le_trans (Below.size (by assumption)) (by simp)) _) | (refine Below.via' ?_ (by assumption)) | (refine Below.alloc ?_ (by first | omega | (simp; done) | (simp; omega) | exact Below.size (by assumption) | exact Nat.le_trans (Below.size (by assumption)) (by simp)) _) | (refine Below.via ?_ (by assumption) (by first | omega | (simp; done) | (simp; omega) | exact Below.size (by assumption) | exact Nat.le_trans (Below.size (by assumption)) (by simp)))))))
  obtain ⟨hkPa22, hkPb22, hkPc22⟩ := hkP_22.out
  try clear hkPa21 hkPb21 hkPc21
  have hkU_22 := Lib.hid (hkU_21.out.below (show Below w21.heap.size w21 w22 from (by repeat (first | exact Below.refl _ _ | assumption | refine Below.drew ?_ | refine below_drewN ?_ _ | refine Below.alloc' ?_ _ | (refine Below.setCell ?_ (by first | omega | (simp; done) | (simp; omega) | exact Below.size (by assumption) | exact Nat.le_trans (Below.size (by assumption)) (by simp)) _) | (refine Below.via' ?_ (by assumption)) | (refine Below.alloc ?_ (by first | omega | (simp; done) | (simp; omega) | exact Below.size (by assumption) | exact Nat.le_trans (Below.size (by assumption)) (by simp)) _) | (refine Below.via ?_ (by assumption) (by first | omega | (simp; done) | (simp; omega) | exact Below.size (by assumption) | exact Nat.le_trans (Below.size (by assumption)) (by simp)))))))
  obtain ⟨hkUa22, hkUb22, hkUc22, hkUd22, hkUe22⟩ := hkU_22.out
  try clear hkUa21 hkUb21 hkUc21 hkUd21 hkUe21
  have hW_22 := Lib.hid (hW_21.out.below (show Below w21.heap.size w21 w22 from (by repeat (first | exact Below.refl _ _ | assumption | refine Below.drew ?_ | refine below_drewN ?_ _ | refine Below.alloc' ?_ _ | (refine Below.setCell ?_ (by first | omega | (simp; done) | (simp; omega) | exact Below.size (by assumption) | exact Nat.le_trans (Below.size (by assumption)) (by simp)) _) | (refine Below.via' ?_ (by assumption)) | (refine Below.alloc ?_ (by first | omega | (simp; done) | (simp; omega) | exact Below.size (by assumption) | exact Nat.le_trans (Below.size (by assumption)) (by simp)) _) | (refine Below.via ?_ (by assumption) (by first | omega | (simp; done) | (simp; omega) | exact Below.size (by assumption) | exact Nat.le_trans (Below.size (by assumption)) (by simp)))))))
  obtain ⟨hWa22, hWb22, hWc22, hWd22, hWe22⟩ := hW_22.out
  try clear hWa21 hWb21 hWc21 hWd21 hWe21
  have hG_22 := Lib.hid (hG_21.out.below (show Below w21.heap.size w21 w22 from (by repeat (first | exact Below.refl _ _ | assumption | refine Below.drew ?_ | refine below_drewN ?_ _ | refine Below.alloc' ?_ _ | (refine Below.setCell ?_ (by first | omega | (simp; done) | (simp; omega) | exact Below.size (by assumption) | exact Nat.le_trans (Below.size (by assumption)) (by simp)) _) | (refine Below.via' ?_ (by assumption)) | (refine Below.alloc ?_ (by first | omega | (simp; done) | (simp; omega) | exact Below.size (by assumption) | exact Nat.le_trans (Below.size (by assumption)) (by simp)) _) | (refine Below.via ?_ (by assumption) (by first | omega | (simp; done) | (simp; omega) | exact Below.size (by assumption) | exact Nat.le_trans (Below.size (by assumption)) (by simp)))))))
  obtain ⟨hGa22, hGb22, hGc22, hGd22, hGe22⟩ := hG_22.out
  try clear hGa21 hGb21 hGc21 hGd21 hGe21
  have R_22 := R_21.below (show Below w21.heap.size w21 w22 from (by repeat (first | exact Below.refl _ _ | assumption | refine Below.drew ?_ | refine below_drewN ?_ _ | refine Below.alloc' ?_ _ | (refine Below.setCell ?_ (by first | omega | (simp; done) | (simp; omega) | exact Below.size (by assumption) | exact Nat.le_trans (Below.size (by assumption)) (by simp)) _) | (refine Below.via' ?_ (by assumption)) | (refine Below.alloc ?_ (by first | omega | (simp; done) | (simp; omega) | exact Below.size (by assumption) | exact Nat.le_trans (Below.size (by assumption)) (by simp)) _) | (refine Below.via ?_ (by assumption) (by first | omega | (simp; done) | (simp; omega) | exact Below.size (by assumption) | exact Nat.le_trans (Below.size (by assumption)) (by simp))))))
  have W_22 := W_21.below (show Below w21.heap.size w21 w22 from (by repeat (first | exact Below.refl _ _ | assumption | refine Below.drew ?_ | refine below_drewN ?_ _ | refine Below.alloc' ?_ _ | (refine Below.setCell ?_ (by first | omega | (simp; done) | (simp; omega) | exact Below.size (by assumption) | exact Nat.le_trans (Below.size (by assumption)) (by simp)) _) | (refine Below.via' ?_ (by assumption)) | (refine Below.alloc ?_ (by first | omega | (simp; done) | (simp; omega) | exact Below.size (by assumption) | exact Nat.le_trans (Below.size (by assumption)) (by simp)) _) | (refine Below.via ?_ (by assumption) (by first | omega | (simp; done) | (simp; omega) | exact Below.size (by assumption) | exact Nat.le_trans (Below.size (by assumption)) (by simp))))))
  have B22 : Below w.heap.size w w22 := (by repeat (first | exact Below.refl _ _ | assumption | refine Below.drew ?_ | refine below_drewN ?_ _ | refine Below.alloc' ?_ _ | (refine Below.setCell ?_ (by first | omega | (simp; done) | (simp; omega) | exact Below.size (by assumption) | exact Nat.le_trans (Below.size (by assumption)) (by simp)) _) | (refine Below.via' ?_ (by assumption)) | (refine Below.alloc ?_ (by first | omega | (simp; done) | (simp; omega) | exact Below.size (by assumption) | exact Nat.le_trans (Below.size (by assumption)) (by simp)) _) | (refine Below.via ?_ (by assumption) (by first | omega | (simp; done) | (simp; omega) | exact Below.size (by assumption) | exact Nat.le_trans (Below.size (by assumption)) (by simp)))))
  go_wp2_with fail
  refine (markTableY_any _ _ _ _ _ _ _ RR.2.1 RR.2.2.1 _ _ _ (by omega) (by omega) hRF hRW R_22).mono ?_
  rintro e w23 ⟨rfl, hmF23, hmW23, hg23⟩
  have B23 := Below.off B22 hg23 (by omega)
  have hkP_23 := Lib.hid (hkP_22.out.off hg23 (by omega))
  obtain ⟨hkPa23, hkPb23, hkPc23⟩ := hkP_23.out
  try clear hkPa22 hkPb22 hkPc22
  have hkU_23 := Lib.hid (hkU_22.out.off hg23 (by omega))
  obtain ⟨hkUa23, hkUb23, hkUc23, hkUd23, hkUe23⟩ := hkU_23.out
  try clear hkUa22 hkUb22 hkUc22 hkUd22 hkUe22
  have hW_23 := Lib.hid (hW_22.out.off hg23 (by omega))
  obtain ⟨hWa23, hWb23, hWc23, hWd23, hWe23⟩ := hW_23.out
  try clear hWa22 hWb22 hWc22 hWd22 hWe22
  have hG_23 := Lib.hid (hG_22.out.off hg23 (by omega))
  obtain ⟨hGa23, hGb23, hGc23, hGd23, hGe23⟩ := hG_23.out
  try clear hGa22 hGb22 hGc22 hGd22 hGe22
  have W_23 := Lib.hid (W_22.off hg23 (by omega))
  have MF23 := Lib.hid hmF23
  have MW23 := Lib.hid hmW23
  clear hmF23 hmW23
  have hkq : ¬ (1 + (RR.2.1.length : Int) + (RR.2.2.1.length : Int) < 0) := by omega
  go_wp2_with fail
  refine (heldTable_any _ _ _ _ _ _ _ _ _ _ (by omega) (by omega) hRF hRW (MF23.out.below (by exact (by repeat (first | exact Below.refl _ _ | assumption | refine Below.drew ?_ | refine below_drewN ?_ _ | refine Below.alloc' ?_ _ | (refine Below.setCell ?_ (by first | omega | (simp; done) | (simp; omega) | exact Below.size (by assumption) | exact Nat.le_trans (Below.size (by assumption)) (by simp)) _) | (refine Below.via' ?_ (by assumption)) | (refine Below.alloc ?_ (by first | omega | (simp; done) | (simp; omega) | exact Below.size (by assumption) | exact Nat.le_trans (Below.size (by assumption)) (by simp)) _) | (refine Below.via ?_ (by assumption) (by first | omega | (simp; done) | (simp; omega) | exact Below.size (by assumption) | exact Nat.le_trans (Below.size (by assumption)) (by simp))))))) (MW23.out.below (by exact (by repeat (first | exact Below.refl _ _ | assumption | refine Below.drew ?_ | refine below_drewN ?_ _ | refine Below.alloc' ?_ _ | (refine Below.setCell ?_ (by first | omega | (simp; done) | (simp; omega) | exact Below.size (by assumption) | exact Nat.le_trans (Below.size (by assumption)) (by simp)) _) | (refine Below.via' ?_ (by assumption)) | (refine Below.alloc ?_ (by first | omega | (simp; done) | (simp; omega) | exact Below.size (by assumption) | exact Nat.le_trans (Below.size (by assumption)) (by simp)) _) | (refine Below.via ?_ (by assumption) (by first | omega | (simp; done) | (simp; omega) | exact Below.size (by assumption) | exact Nat.le_trans (Below.size (by assumption)) (by simp)))))))).mono ?_
  rintro e w24 ⟨rfl, hb24⟩
  have hkP_24 := Lib.hid (hkP_23.out.below (show Below w23.heap.size w23 w24 from (by repeat (first | exact Below.refl _ _ | assumption | refine Below.drew ?_ | refine below_drewN ?_ _ | refine Below.alloc' ?_ _ | (refine Below.setCell ?_ (by first | omega | (simp; done) | (simp; omega) | exact Below.size (by assumption) | exact Nat.le_trans (Below.size (by assumption)) (by simp)) _) | (refine Below.via' ?_ (by assumption)) | (refine Below.alloc ?_ (by first | omega | (simp; done) | (simp; omega) | exact Below.size (by assumption) | exact Nat.le_trans (Below.size (by assumption)) (by simp)) _) | (refine Below.via ?_ (by assumption) (by first | omega | (simp; done) | (simp; omega) | exact Below.size (by assumption) | exact Nat.le_trans (Below.size (by assumption)) (by simp)))))))
  obtain ⟨hkPa24, hkPb24, hkPc24⟩ := hkP_24.out
  try clear hkPa23 hkPb23 hkPc23
  have hkU_24 := Lib.hid (hkU_23.out.below (show Below w23.heap.size w23 w24 from (by repeat (first | exact Below.refl _ _ | assumption | refine Below.drew ?_ | refine below_drewN ?_ _ | refine Below.alloc' ?_ _ | (refine Below.setCell ?_ (by first | omega | (simp; done) | (simp; omega) | exact Below.size (by assumption) | exact Nat.le_trans (Below.size (by assumption)) (by simp)) _) | (refine Below.via' ?_ (by assumption)) | (refine Below.alloc ?_ (by first | omega | (simp; done) | (simp; omega) | exact Below.size (by assumption) | exact Nat.le_trans (Below.size (by assumption)) (by simp)) _) | (refine Below.via ?_ (by assumption) (by first | omega | (simp; done) | (simp; omega) | exact Below.size (by assumption) | exact Nat.le_trans (Below.size (by assumption)) (by simp)))))))
  obtain ⟨hkUa24, hkUb24, hkUc24, hkUd24, hkUe24⟩ := hkU_24.out
  try clear hkUa23 hkUb23 hkUc23 hkUd23 hkUe23
  have hW_24 := Lib.hid (hW_23.out.below (show Below w23.heap.size w23 w24 from (by repeat (first | exact Below.refl _ _ | assumption | refine Below.drew ?_ | refine below_drewN ?_ _ | refine Below.alloc' ?_ _ | (refine Below.setCell ?_ (by first | omega | (simp; done) | (simp; omega) | exact Below.size (by assumption) | exact Nat.le_trans (Below.size (by assumption)) (by simp)) _) | (refine Below.via' ?_ (by assumption)) | (refine Below.alloc ?_ (by first | omega | (simp; done) | (simp; omega) | exact Below.size (by assumption) | exact Nat.le_trans (Below.size (by assumption)) (by simp)) _) | (refine Below.via ?_ (by assumption) (by first | omega | (simp; done) | (simp; omega) | exact Below.size (by assumption) | exact Nat.le_trans (Below.size (by assumption)) (by simp)))))))
  obtain ⟨hWa24, hWb24, hWc24, hWd24, hWe24⟩ := hW_24.out
  try clear hWa23 hWb23 hWc23 hWd23 hWe23
  have hG_24 := Lib.hid (hG_23.out.below (show Below w23.heap.size w23 w24 from (by repeat (first | exact Below.refl _ _ | assumption | refine Below.drew ?_ | refine below_drewN ?_ _ | refine Below.alloc' ?_ _ | (refine Below.setCell ?_ (by first | omega | (simp; done) | (simp; omega) | exact Below.size (by assumption) | exact Nat.le_trans (Below.size (by assumption)) (by simp)) _) | (refine Below.via' ?_ (by assumption)) | (refine Below.alloc ?_ (by first | omega | (simp; done) | (simp; omega) | exact Below.size (by assumption) | exact Nat.le_trans (Below.size (by assumption)) (by simp)) _) | (refine Below.via ?_ (by assumption) (by first | omega | (simp; done) | (simp; omega) | exact Below.size (by assumption) | exact Nat.le_trans (Below.size (by assumption)) (by simp)))))))
  obtain ⟨hGa24, hGb24, hGc24, hGd24, hGe24⟩ := hG_24.out
  try clear hGa23 hGb23 hGc23 hGd23 hGe23
  have B24 : Below w.heap.size w w24 := Below.via' B23 hb24
  have W_24 := Lib.hid (W_23.out.below hb24)
  have MF24 := Lib.hid (MF23.out.below hb24)
  have MW24 := Lib.hid (MW23.out.below hb24)
  go_upto_region 38 with fail
  go_cut [18, 19] (fun s18 s19 wx => TbAt s18 RR w24.heap.size wx ∧ s19 = .bool (tgB P S Ul UF UW Um) ∧ Below w24.heap.size w24 wx)
  case first =>
    have hB0 : Below w.heap.size w w24 := (by repeat (first | exact Below.refl _ _ | assumption | refine Below.drew ?_ | refine below_drewN ?_ _ | refine Below.alloc' ?_ _ | (refine Below.setCell ?_ (by first | omega | (simp; done) | (simp; omega) | exact Below.size (by assumption) | exact Nat.le_trans (Below.size (by assumption)) (by simp)) _) | (refine Below.via' ?_ (by assumption)) | (refine Below.alloc ?_ (by first | omega | (simp; done) | (simp; omega) | exact Below.size (by assumption) | exact Nat.le_trans (Below.size (by assumption)) (by simp)) _) | (refine Below.via ?_ (by assumption) (by first | omega | (simp; done) | (simp; omega) | exact Below.size (by assumption) | exact Nat.le_trans (Below.size (by assumption)) (by simp)))))
    refine wp_region_held_drew (S := fun X => Below w24.heap.size w24 X) (by kernel_rfl) (Below.drew (Below.refl _ _)) (fun hH => ?_)
    refine wpAnyH_take (i := 0) (v := ?_) rfl (by kernel_rfl) (by kernel_rfl) (by kernel_rfl) (fun _ _ _ h => h) (Or.inl ⟨by rfl, ?_⟩) (by assumption) ?_; rotate_left; · (intro wz hz; (have f0 := (hz.cell (p := ⟨w.heap.size, 0, none⟩) hkPc24).trans hkPa24); clear hz; go_simp; try with_reducible rfl); (try simp only [Act.put, List.getElem_toArray, List.getElem_cons_succ, List.getElem_cons_zero, List.setIfInBounds_toArray, List.set_cons_zero, List.set_cons_succ])
    refine wpAnyH_take (i := 2) (v := ?_) rfl (by kernel_rfl) (by kernel_rfl) (by kernel_rfl) (fun _ _ _ h => h) (Or.inl ⟨by rfl, ?_⟩) (by assumption) ?_; rotate_left; · (intro wz hz; (skip); clear hz; go_simp; try with_reducible rfl); (try simp only [Act.put, List.getElem_toArray, List.getElem_cons_succ, List.getElem_cons_zero, List.setIfInBounds_toArray, List.set_cons_zero, List.set_cons_succ])
    refine wpAnyH_take (i := 4) (v := ?_) rfl (by kernel_rfl) (by kernel_rfl) (by kernel_rfl) (fun _ _ _ h => h) (Or.inl ⟨by rfl, ?_⟩) (by assumption) ?_; rotate_left; · (intro wz hz; (have f0 := (hz.cell (p := ⟨w.heap.size + 1, 0, none⟩) hkUe24).trans hkUa24; have f1 := (hz.cell (p := ⟨w.heap.size + 1, 1, none⟩) hkUe24).trans hkUb24; have f2 := (hz.cell (p := ⟨w.heap.size + 1, 2, none⟩) hkUe24).trans hkUc24; have f3 := (hz.cell (p := ⟨w.heap.size + 1, 3, none⟩) hkUe24).trans hkUd24); clear hz; go_simp; try with_reducible rfl); (try simp only [Act.put, List.getElem_toArray, List.getElem_cons_succ, List.getElem_cons_zero, List.setIfInBounds_toArray, List.set_cons_zero, List.set_cons_succ])
    replace hH := Lib.hid hH
    refine wpAnyH_ready (rs := [1, 10]) (by kernel_rfl) (by simp) (AllReadyH.cons rfl (fun K hK => ?_) (AllReadyH.cons rfl (fun K hK => ?_) AllReadyH.nil))
    go_simp
    refine (toGeo_any xP cP P _ hmP (hP.out.below (Below.via' hB0 hH.out))).mono ?_
    rintro e w25 ⟨g25, rfl, ho25, hb25⟩
    have hi25 : Hid (IIn w25 (some ⟨g25, 0, none⟩) P) := ⟨hmP, hnP.out, Rd.of_own ho25⟩
    have hq25 := Lib.hid (Below.via' hH.out hb25)
    refine hK.out _ _ hq25.out (fun hSs => ?_)
    clear hK K hSs
    (try simp only [Act.put, List.getElem_toArray, List.getElem_cons_succ, List.getElem_cons_zero, List.setIfInBounds_toArray, List.set_cons_zero, List.set_cons_succ])
    refine wpAnyH_ready (rs := [3, 10]) (by kernel_rfl) (by simp) (AllReadyH.cons rfl (fun K hK => ?_) (AllReadyH.cons rfl (fun K hK => ?_) AllReadyH.nil))
    go_simp
    refine (toVariableS_any _ _ S _ hm (hS.out.below (Below.via' hB0 hq25.out))).mono ?_
    rintro e w26 ⟨rfl, ho26, hb26⟩
    try simp only [drew_sizeT] at ho26
    try simp only [World.size_alloc] at ho26
    have hi26 := Lib.hid (show SIn w26 _ S.length S from ⟨hm, Nat.le_refl _, hn.out, Rd.of_own ho26⟩)
    have hq26 := Lib.hid (Below.via' hq25.out hb26)
    refine hK.out _ _ hq26.out (fun hSs => ?_)
    clear hK K hSs
    (try simp only [Act.put, List.getElem_toArray, List.getElem_cons_succ, List.getElem_cons_zero, List.setIfInBounds_toArray, List.set_cons_zero, List.set_cons_succ])
    refine wpAnyH_ready (rs := [5, 10]) (by kernel_rfl) (by simp) (AllReadyH.cons rfl (fun K hK => ?_) (AllReadyH.cons rfl (fun K hK => ?_) AllReadyH.nil))
    go_simp
    refine (toTable_any Ul xU zU cU dU UF UW Um _ hmUF hmUW (hUF.out.below (Below.via' hB0 hq26.out)) (hUW.out.below (Below.via' hB0 hq26.out))).mono ?_
    rintro e w27 ⟨g27, f27, rfl, ho27, hb27⟩
    have hi27 : Hid (TIn w27 (some ⟨g27, 0, none⟩) (some ⟨f27, 0, none⟩) UF UW) := Lib.hid (TIn.of_owT ho27 hmUF hmUW hnUF.out hnUW.out)
    have hq27 := Lib.hid (Below.via' hq26.out hb27)
    refine hK.out _ _ hq27.out (fun hSs => ?_)
    clear hK K hSs
    (try simp only [Act.put, List.getElem_toArray, List.getElem_cons_succ, List.getElem_cons_zero, List.setIfInBounds_toArray, List.set_cons_zero, List.set_cons_succ])
    refine wpAnyH_ready (rs := [6, 10]) (by kernel_rfl) (by simp) (AllReadyH.cons rfl (fun K hK => ?_) (AllReadyH.cons rfl (fun K hK => ?_) AllReadyH.nil))
    go_simp
    refine (iNT_x _ _ _ _ _ _ _ _ P S Ul UF UW Um _ (hi25.out.below (Below.via' (Below.via' (Below.refl _ _) hb26) hb27)) (hi26.out.below (Below.via' (Below.refl _ _) hb27)) (hi27.out.below (Below.refl _ _)) (Nat.le_refl _) (fun h => by cases h) (Nat.le_refl _) (fun h => by cases h)).mono ?_
    rintro e w28 ⟨x28, c28, z28, d28, rfl, ho28, hb28⟩
    rw [← hRR.out] at ho28 ⊢
    have hq28 := Lib.hid (Below.via' hq27.out hb28)
    have la0 : w24.heap.size ≤ (w27).heap.size := (hq27.out).size
    refine hK.out _ _ hq28.out (fun hSs => ?_)
    clear hK K
    (try simp only [Act.put, List.getElem_toArray, List.getElem_cons_succ, List.getElem_cons_zero, List.setIfInBounds_toArray, List.set_cons_zero, List.set_cons_succ])
    refine wpAnyH_take (i := 7) (v := ?_) rfl (by kernel_rfl) (by kernel_rfl) (by kernel_rfl) (fun _ _ _ h => h) (Or.inl ⟨by rfl, ?_⟩) (by assumption) ?_; rotate_left; · (intro wz hz; (skip); clear hz; go_simp; try with_reducible rfl); (try simp only [Act.put, List.getElem_toArray, List.getElem_cons_succ, List.getElem_cons_zero, List.setIfInBounds_toArray, List.set_cons_zero, List.set_cons_succ])
    refine wpAnyH_take (i := 8) (v := ?_) rfl (by kernel_rfl) (by kernel_rfl) (by kernel_rfl) (fun _ _ _ h => h) (Or.inl ⟨by rfl, ?_⟩) (by assumption) ?_; rotate_left; · (intro wz hz; (skip); clear hz; go_simp; try with_reducible rfl); (try simp only [Act.put, List.getElem_toArray, List.getElem_cons_succ, List.getElem_cons_zero, List.setIfInBounds_toArray, List.set_cons_zero, List.set_cons_succ])
    refine wpAnyH_take (i := 9) (v := ?_) rfl (by kernel_rfl) (by kernel_rfl) (by kernel_rfl) (fun _ _ _ h => h) (Or.inl ⟨by rfl, ?_⟩) (by assumption) ?_; rotate_left; · (intro wz hz; (skip); clear hz; go_simp; try with_reducible rfl); (try simp only [Act.put, List.getElem_toArray, List.getElem_cons_succ, List.getElem_cons_zero, List.setIfInBounds_toArray, List.set_cons_zero, List.set_cons_succ])
    replace hSs := Lib.hid hSs
    refine wpAnyH_ready (rs := [10]) (by kernel_rfl) (by simp) (AllReadyH.cons rfl (fun K hK => ?_) AllReadyH.nil); go_simp
    have bx := Lib.hid (show Wb (w28.alloc (.cells #[.int .i64 0, .slice none 0 0, .slice none 0 0, .int .i64 0] 37)) w28.heap.size 37 #[.int .i64 0, .slice none 0 0, .slice none 0 0, .int .i64 0] from Wb.new w28 _ _)
    have hal := Lib.hid (Below.alloc' hq28.out (.cells #[.int .i64 0, .slice none 0 0, .slice none 0 0, .int .i64 0] 37))
    have ga0 : w24.heap.size ≤ w28.heap.size := hq28.out.size
    refine hK.out _ _ hal.out (fun hSs => ?_)
    clear hK K hSs
    (try simp only [Act.put, List.getElem_toArray, List.getElem_cons_succ, List.getElem_cons_zero, List.setIfInBounds_toArray, List.set_cons_zero, List.set_cons_succ])
    have hoA := (ho28.below (show Below w28.heap.size w28 (w28.alloc (.cells #[.int .i64 0, .slice none 0 0, .slice none 0 0, .int .i64 0] 37)) from (by repeat (first | exact Below.refl _ _ | assumption | refine Below.drew ?_ | refine below_drewN ?_ _ | refine Below.alloc' ?_ _ | (refine Below.setCell ?_ (by first | omega | (simp; done) | (simp; omega) | exact Below.size (by assumption) | exact Nat.le_trans (Below.size (by assumption)) (by simp)) _) | (refine Below.via' ?_ (by assumption)) | (refine Below.alloc ?_ (by first | omega | (simp; done) | (simp; omega) | exact Below.size (by assumption) | exact Nat.le_trans (Below.size (by assumption)) (by simp)) _) | (refine Below.via ?_ (by assumption) (by first | omega | (simp; done) | (simp; omega) | exact Below.size (by assumption) | exact Nat.le_trans (Below.size (by assumption)) (by simp)))))))
    replace hoA := Lib.hid hoA
    have ya := bx.out.read 0
    have yb := bx.out.read 1
    have yc := bx.out.read 2
    have yd := bx.out.read 3
    have ye := bx.out.free 0
    have yf := bx.out.free 1
    have yg := bx.out.free 2
    have yh := bx.out.free 3
    have yin := bx.out.inside
    refine wpAnyH_ready (rs := [11]) (by kernel_rfl) (by simp) (AllReadyH.cons rfl (fun K hK => ?_) AllReadyH.nil); go_simp
    have hst := Below.alloc' hq28.out (.cells #[.int .i64 RR.1, .slice x28 RR.2.1.length c28, .slice z28 RR.2.2.1.length d28, .int .i64 RR.2.2.2] 37)
    have hat := tbAt_new (lo := w24.heap.size) ho28 (hq28.out).size la0 (Nat.le_refl _)
    replace hat := Lib.hid hat
    refine hK.out _ _ hst (fun hSs => ?_)
    clear hK K hSs ya yb yc yd ye yf yg yh
    (try simp only [Act.put, List.getElem_toArray, List.getElem_cons_succ, List.getElem_cons_zero, List.setIfInBounds_toArray, List.set_cons_zero, List.set_cons_succ])
    refine wpAnyH_ready (rs := [12]) (by kernel_rfl) (by simp) (AllReadyH.cons rfl (fun K hK => ?_) AllReadyH.nil); go_simp
    refine hK.out _ _ hst (fun _ => ?_)
    clear hK K
    (try simp only [Act.put, List.getElem_toArray, List.getElem_cons_succ, List.getElem_cons_zero, List.setIfInBounds_toArray, List.set_cons_zero, List.set_cons_succ])
    refine wpAnyH_done (by kernel_rfl) ?_ _
    go_wp2_with fail
    go_meet
    exact ⟨hat.out, rfl, hst⟩
    go_simp
    have bx := Lib.hid (show Wb (w27.alloc (.cells #[.int .i64 0, .slice none 0 0, .slice none 0 0, .int .i64 0] 37)) w27.heap.size 37 #[.int .i64 0, .slice none 0 0, .slice none 0 0, .int .i64 0] from Wb.new w27 _ _)
    have hal := Lib.hid (Below.alloc' hq27.out (.cells #[.int .i64 0, .slice none 0 0, .slice none 0 0, .int .i64 0] 37))
    have ga0 : w24.heap.size ≤ w27.heap.size := hq27.out.size
    refine hK.out _ _ hal.out (fun hSs => ?_)
    clear hK K hSs
    (try simp only [Act.put, List.getElem_toArray, List.getElem_cons_succ, List.getElem_cons_zero, List.setIfInBounds_toArray, List.set_cons_zero, List.set_cons_succ])
    refine wpAnyH_ready (rs := [6]) (by kernel_rfl) (by simp) (AllReadyH.cons rfl (fun K hK => ?_) AllReadyH.nil); go_simp
    refine (iNT_x _ _ _ _ _ _ _ _ P S Ul UF UW Um _ (hi25.out.below (Below.alloc' (Below.via' (Below.via' (Below.refl _ _) hb26) hb27) _)) (hi26.out.below (Below.alloc' (Below.via' (Below.refl _ _) hb27) _)) (hi27.out.below (Below.alloc' (Below.refl _ _) _)) (Nat.le_refl _) (fun h => by cases h) (Nat.le_refl _) (fun h => by cases h)).mono ?_
    rintro e w28 ⟨x28, c28, z28, d28, rfl, ho28, hb28⟩
    rw [← hRR.out] at ho28 ⊢
    have hq28 := Lib.hid (Below.via' hal.out hb28)
    have la0 : w24.heap.size ≤ ((w27.alloc (.cells #[.int .i64 0, .slice none 0 0, .slice none 0 0, .int .i64 0] 37))).heap.size := (hal.out).size
    have gin := bx.out.inside
    replace bx := Lib.hid (bx.out.kept hb28)
    refine hK.out _ _ hq28.out (fun hSs => ?_)
    clear hK K
    (try simp only [Act.put, List.getElem_toArray, List.getElem_cons_succ, List.getElem_cons_zero, List.setIfInBounds_toArray, List.set_cons_zero, List.set_cons_succ])
    refine wpAnyH_take (i := 7) (v := ?_) rfl (by kernel_rfl) (by kernel_rfl) (by kernel_rfl) (fun _ _ _ h => h) (Or.inl ⟨by rfl, ?_⟩) (by assumption) ?_; rotate_left; · (intro wz hz; (skip); clear hz; go_simp; try with_reducible rfl); (try simp only [Act.put, List.getElem_toArray, List.getElem_cons_succ, List.getElem_cons_zero, List.setIfInBounds_toArray, List.set_cons_zero, List.set_cons_succ])
    refine wpAnyH_take (i := 8) (v := ?_) rfl (by kernel_rfl) (by kernel_rfl) (by kernel_rfl) (fun _ _ _ h => h) (Or.inl ⟨by rfl, ?_⟩) (by assumption) ?_; rotate_left; · (intro wz hz; (skip); clear hz; go_simp; try with_reducible rfl); (try simp only [Act.put, List.getElem_toArray, List.getElem_cons_succ, List.getElem_cons_zero, List.setIfInBounds_toArray, List.set_cons_zero, List.set_cons_succ])
    refine wpAnyH_take (i := 9) (v := ?_) rfl (by kernel_rfl) (by kernel_rfl) (by kernel_rfl) (fun _ _ _ h => h) (Or.inl ⟨by rfl, ?_⟩) (by assumption) ?_; rotate_left; · (intro wz hz; (skip); clear hz; go_simp; try with_reducible rfl); (try simp only [Act.put, List.getElem_toArray, List.getElem_cons_succ, List.getElem_cons_zero, List.setIfInBounds_toArray, List.set_cons_zero, List.set_cons_succ])
    replace hSs := Lib.hid hSs
    have hoA := ho28
    replace hoA := Lib.hid hoA
    have ya := bx.out.read 0
    have yb := bx.out.read 1
    have yc := bx.out.read 2
    have yd := bx.out.read 3
    have ye := bx.out.free 0
    have yf := bx.out.free 1
    have yg := bx.out.free 2
    have yh := bx.out.free 3
    have yin := bx.out.inside
    refine wpAnyH_ready (rs := [11]) (by kernel_rfl) (by simp) (AllReadyH.cons rfl (fun K hK => ?_) AllReadyH.nil); go_simp
    have hst : Below w24.heap.size w24 ((w28).setCell ⟨w27.heap.size, 0, none⟩ (.int .i64 RR.1) |>.setCell ⟨w27.heap.size, 1, none⟩ (.slice x28 RR.2.1.length c28) |>.setCell ⟨w27.heap.size, 2, none⟩ (.slice z28 RR.2.2.1.length d28) |>.setCell ⟨w27.heap.size, 3, none⟩ (.int .i64 RR.2.2.2)) := below_set4 hq28.out ga0
    have hat := tbAt_of (lo := w24.heap.size) bx.out hoA.out ga0 la0 (Nat.le_refl _) (Or.inl gin)
    replace hat := Lib.hid hat
    refine hK.out _ _ hst (fun hSs => ?_)
    clear hK K hSs ya yb yc yd ye yf yg yh
    (try simp only [Act.put, List.getElem_toArray, List.getElem_cons_succ, List.getElem_cons_zero, List.setIfInBounds_toArray, List.set_cons_zero, List.set_cons_succ])
    refine wpAnyH_ready (rs := [12]) (by kernel_rfl) (by simp) (AllReadyH.cons rfl (fun K hK => ?_) AllReadyH.nil); go_simp
    refine hK.out _ _ hst (fun _ => ?_)
    clear hK K
    (try simp only [Act.put, List.getElem_toArray, List.getElem_cons_succ, List.getElem_cons_zero, List.setIfInBounds_toArray, List.set_cons_zero, List.set_cons_succ])
    refine wpAnyH_done (by kernel_rfl) ?_ _
    go_wp2_with fail
    go_meet
    exact ⟨hat.out, rfl, hst⟩
    go_simp
    have bx := Lib.hid (show Wb (w26.alloc (.cells #[.int .i64 0, .slice none 0 0, .slice none 0 0, .int .i64 0] 37)) w26.heap.size 37 #[.int .i64 0, .slice none 0 0, .slice none 0 0, .int .i64 0] from Wb.new w26 _ _)
    have hal := Lib.hid (Below.alloc' hq26.out (.cells #[.int .i64 0, .slice none 0 0, .slice none 0 0, .int .i64 0] 37))
    have ga0 : w24.heap.size ≤ w26.heap.size := hq26.out.size
    refine hK.out _ _ hal.out (fun hSs => ?_)
    clear hK K hSs
    (try simp only [Act.put, List.getElem_toArray, List.getElem_cons_succ, List.getElem_cons_zero, List.setIfInBounds_toArray, List.set_cons_zero, List.set_cons_succ])
    refine wpAnyH_ready (rs := [5]) (by kernel_rfl) (by simp) (AllReadyH.cons rfl (fun K hK => ?_) AllReadyH.nil); go_simp
    refine (toTable_any Ul xU zU cU dU UF UW Um _ hmUF hmUW (hUF.out.below (Below.via' hB0 hal.out)) (hUW.out.below (Below.via' hB0 hal.out))).mono ?_
    rintro e w27 ⟨g27, f27, rfl, ho27, hb27⟩
    have hi27 : Hid (TIn w27 (some ⟨g27, 0, none⟩) (some ⟨f27, 0, none⟩) UF UW) := Lib.hid (TIn.of_owT ho27 hmUF hmUW hnUF.out hnUW.out)
    have hq27 := Lib.hid (Below.via' hal.out hb27)
    replace bx := Lib.hid (bx.out.kept hb27)
    refine hK.out _ _ hq27.out (fun hSs => ?_)
    clear hK K hSs
    (try simp only [Act.put, List.getElem_toArray, List.getElem_cons_succ, List.getElem_cons_zero, List.setIfInBounds_toArray, List.set_cons_zero, List.set_cons_succ])
    refine wpAnyH_ready (rs := [6]) (by kernel_rfl) (by simp) (AllReadyH.cons rfl (fun K hK => ?_) AllReadyH.nil); go_simp
    refine (iNT_x _ _ _ _ _ _ _ _ P S Ul UF UW Um _ (hi25.out.below (Below.via' (Below.alloc' (Below.via' (Below.refl _ _) hb26) _) hb27)) (hi26.out.below (Below.via' (Below.alloc' (Below.refl _ _) _) hb27)) (hi27.out.below (Below.refl _ _)) (Nat.le_refl _) (fun h => by cases h) (Nat.le_refl _) (fun h => by cases h)).mono ?_
    rintro e w28 ⟨x28, c28, z28, d28, rfl, ho28, hb28⟩
    rw [← hRR.out] at ho28 ⊢
    have hq28 := Lib.hid (Below.via' hq27.out hb28)
    have la0 : w24.heap.size ≤ (w27).heap.size := (hq27.out).size
    have gin := bx.out.inside
    replace bx := Lib.hid (bx.out.kept hb28)
    refine hK.out _ _ hq28.out (fun hSs => ?_)
    clear hK K
    (try simp only [Act.put, List.getElem_toArray, List.getElem_cons_succ, List.getElem_cons_zero, List.setIfInBounds_toArray, List.set_cons_zero, List.set_cons_succ])
    refine wpAnyH_take (i := 7) (v := ?_) rfl (by kernel_rfl) (by kernel_rfl) (by kernel_rfl) (fun _ _ _ h => h) (Or.inl ⟨by rfl, ?_⟩) (by assumption) ?_; rotate_left; · (intro wz hz; (skip); clear hz; go_simp; try with_reducible rfl); (try simp only [Act.put, List.getElem_toArray, List.getElem_cons_succ, List.getElem_cons_zero, List.setIfInBounds_toArray, List.set_cons_zero, List.set_cons_succ])
    refine wpAnyH_take (i := 8) (v := ?_) rfl (by kernel_rfl) (by kernel_rfl) (by kernel_rfl) (fun _ _ _ h => h) (Or.inl ⟨by rfl, ?_⟩) (by assumption) ?_; rotate_left; · (intro wz hz; (skip); clear hz; go_simp; try with_reducible rfl); (try simp only [Act.put, List.getElem_toArray, List.getElem_cons_succ, List.getElem_cons_zero, List.setIfInBounds_toArray, List.set_cons_zero, List.set_cons_succ])
    refine wpAnyH_take (i := 9) (v := ?_) rfl (by kernel_rfl) (by kernel_rfl) (by kernel_rfl) (fun _ _ _ h => h) (Or.inl ⟨by rfl, ?_⟩) (by assumption) ?_; rotate_left; · (intro wz hz; (skip); clear hz; go_simp; try with_reducible rfl); (try simp only [Act.put, List.getElem_toArray, List.getElem_cons_succ, List.getElem_cons_zero, List.setIfInBounds_toArray, List.set_cons_zero, List.set_cons_succ])
    replace hSs := Lib.hid hSs
    have hoA := ho28
    replace hoA := Lib.hid hoA
    have ya := bx.out.read 0
    have yb := bx.out.read 1
    have yc := bx.out.read 2
    have yd := bx.out.read 3
    have ye := bx.out.free 0
    have yf := bx.out.free 1
    have yg := bx.out.free 2
    have yh := bx.out.free 3
    have yin := bx.out.inside
    refine wpAnyH_ready (rs := [11]) (by kernel_rfl) (by simp) (AllReadyH.cons rfl (fun K hK => ?_) AllReadyH.nil); go_simp
    have hst : Below w24.heap.size w24 ((w28).setCell ⟨w26.heap.size, 0, none⟩ (.int .i64 RR.1) |>.setCell ⟨w26.heap.size, 1, none⟩ (.slice x28 RR.2.1.length c28) |>.setCell ⟨w26.heap.size, 2, none⟩ (.slice z28 RR.2.2.1.length d28) |>.setCell ⟨w26.heap.size, 3, none⟩ (.int .i64 RR.2.2.2)) := below_set4 hq28.out ga0
    have hat := tbAt_of (lo := w24.heap.size) bx.out hoA.out ga0 la0 (Nat.le_refl _) (Or.inl gin)
    replace hat := Lib.hid hat
    refine hK.out _ _ hst (fun hSs => ?_)
    clear hK K hSs ya yb yc yd ye yf yg yh
    (try simp only [Act.put, List.getElem_toArray, List.getElem_cons_succ, List.getElem_cons_zero, List.setIfInBounds_toArray, List.set_cons_zero, List.set_cons_succ])
    refine wpAnyH_ready (rs := [12]) (by kernel_rfl) (by simp) (AllReadyH.cons rfl (fun K hK => ?_) AllReadyH.nil); go_simp
    refine hK.out _ _ hst (fun _ => ?_)
    clear hK K
    (try simp only [Act.put, List.getElem_toArray, List.getElem_cons_succ, List.getElem_cons_zero, List.setIfInBounds_toArray, List.set_cons_zero, List.set_cons_succ])
    refine wpAnyH_done (by kernel_rfl) ?_ _
    go_wp2_with fail
    go_meet
    exact ⟨hat.out, rfl, hst⟩
    go_simp
    have bx := Lib.hid (show Wb (w25.alloc (.cells #[.int .i64 0, .slice none 0 0, .slice none 0 0, .int .i64 0] 37)) w25.heap.size 37 #[.int .i64 0, .slice none 0 0, .slice none 0 0, .int .i64 0] from Wb.new w25 _ _)
    have hal := Lib.hid (Below.alloc' hq25.out (.cells #[.int .i64 0, .slice none 0 0, .slice none 0 0, .int .i64 0] 37))
    have ga0 : w24.heap.size ≤ w25.heap.size := hq25.out.size
    refine hK.out _ _ hal.out (fun hSs => ?_)
    clear hK K hSs
    (try simp only [Act.put, List.getElem_toArray, List.getElem_cons_succ, List.getElem_cons_zero, List.setIfInBounds_toArray, List.set_cons_zero, List.set_cons_succ])
    refine wpAnyH_ready (rs := [3]) (by kernel_rfl) (by simp) (AllReadyH.cons rfl (fun K hK => ?_) AllReadyH.nil); go_simp
    refine (toVariableS_any _ _ S _ hm (hS.out.below (Below.via' hB0 hal.out))).mono ?_
    rintro e w26 ⟨rfl, ho26, hb26⟩
    try simp only [drew_sizeT] at ho26
    try simp only [World.size_alloc] at ho26
    have hi26 := Lib.hid (show SIn w26 _ S.length S from ⟨hm, Nat.le_refl _, hn.out, Rd.of_own ho26⟩)
    have hq26 := Lib.hid (Below.via' hal.out hb26)
    replace bx := Lib.hid (bx.out.kept hb26)
    refine hK.out _ _ hq26.out (fun hSs => ?_)
    clear hK K hSs
    (try simp only [Act.put, List.getElem_toArray, List.getElem_cons_succ, List.getElem_cons_zero, List.setIfInBounds_toArray, List.set_cons_zero, List.set_cons_succ])
    refine wpAnyH_ready (rs := [5]) (by kernel_rfl) (by simp) (AllReadyH.cons rfl (fun K hK => ?_) AllReadyH.nil); go_simp
    refine (toTable_any Ul xU zU cU dU UF UW Um _ hmUF hmUW (hUF.out.below (Below.via' hB0 hq26.out)) (hUW.out.below (Below.via' hB0 hq26.out))).mono ?_
    rintro e w27 ⟨g27, f27, rfl, ho27, hb27⟩
    have hi27 : Hid (TIn w27 (some ⟨g27, 0, none⟩) (some ⟨f27, 0, none⟩) UF UW) := Lib.hid (TIn.of_owT ho27 hmUF hmUW hnUF.out hnUW.out)
    have hq27 := Lib.hid (Below.via' hq26.out hb27)
    replace bx := Lib.hid (bx.out.kept hb27)
    refine hK.out _ _ hq27.out (fun hSs => ?_)
    clear hK K hSs
    (try simp only [Act.put, List.getElem_toArray, List.getElem_cons_succ, List.getElem_cons_zero, List.setIfInBounds_toArray, List.set_cons_zero, List.set_cons_succ])
    refine wpAnyH_ready (rs := [6]) (by kernel_rfl) (by simp) (AllReadyH.cons rfl (fun K hK => ?_) AllReadyH.nil); go_simp
    refine (iNT_x _ _ _ _ _ _ _ _ P S Ul UF UW Um _ (hi25.out.below (Below.via' (Below.via' (Below.alloc' (Below.refl _ _) _) hb26) hb27)) (hi26.out.below (Below.via' (Below.refl _ _) hb27)) (hi27.out.below (Below.refl _ _)) (Nat.le_refl _) (fun h => by cases h) (Nat.le_refl _) (fun h => by cases h)).mono ?_
    rintro e w28 ⟨x28, c28, z28, d28, rfl, ho28, hb28⟩
    rw [← hRR.out] at ho28 ⊢
    have hq28 := Lib.hid (Below.via' hq27.out hb28)
    have la0 : w24.heap.size ≤ (w27).heap.size := (hq27.out).size
    have gin := bx.out.inside
    replace bx := Lib.hid (bx.out.kept hb28)
    refine hK.out _ _ hq28.out (fun hSs => ?_)
    clear hK K
    (try simp only [Act.put, List.getElem_toArray, List.getElem_cons_succ, List.getElem_cons_zero, List.setIfInBounds_toArray, List.set_cons_zero, List.set_cons_succ])
    refine wpAnyH_take (i := 7) (v := ?_) rfl (by kernel_rfl) (by kernel_rfl) (by kernel_rfl) (fun _ _ _ h => h) (Or.inl ⟨by rfl, ?_⟩) (by assumption) ?_; rotate_left; · (intro wz hz; (skip); clear hz; go_simp; try with_reducible rfl); (try simp only [Act.put, List.getElem_toArray, List.getElem_cons_succ, List.getElem_cons_zero, List.setIfInBounds_toArray, List.set_cons_zero, List.set_cons_succ])
    refine wpAnyH_take (i := 8) (v := ?_) rfl (by kernel_rfl) (by kernel_rfl) (by kernel_rfl) (fun _ _ _ h => h) (Or.inl ⟨by rfl, ?_⟩) (by assumption) ?_; rotate_left; · (intro wz hz; (skip); clear hz; go_simp; try with_reducible rfl); (try simp only [Act.put, List.getElem_toArray, List.getElem_cons_succ, List.getElem_cons_zero, List.setIfInBounds_toArray, List.set_cons_zero, List.set_cons_succ])
    refine wpAnyH_take (i := 9) (v := ?_) rfl (by kernel_rfl) (by kernel_rfl) (by kernel_rfl) (fun _ _ _ h => h) (Or.inl ⟨by rfl, ?_⟩) (by assumption) ?_; rotate_left; · (intro wz hz; (skip); clear hz; go_simp; try with_reducible rfl); (try simp only [Act.put, List.getElem_toArray, List.getElem_cons_succ, List.getElem_cons_zero, List.setIfInBounds_toArray, List.set_cons_zero, List.set_cons_succ])
    replace hSs := Lib.hid hSs
    have hoA := ho28
    replace hoA := Lib.hid hoA
    have ya := bx.out.read 0
    have yb := bx.out.read 1
    have yc := bx.out.read 2
    have yd := bx.out.read 3
    have ye := bx.out.free 0
    have yf := bx.out.free 1
    have yg := bx.out.free 2
    have yh := bx.out.free 3
    have yin := bx.out.inside
    refine wpAnyH_ready (rs := [11]) (by kernel_rfl) (by simp) (AllReadyH.cons rfl (fun K hK => ?_) AllReadyH.nil); go_simp
    have hst : Below w24.heap.size w24 ((w28).setCell ⟨w25.heap.size, 0, none⟩ (.int .i64 RR.1) |>.setCell ⟨w25.heap.size, 1, none⟩ (.slice x28 RR.2.1.length c28) |>.setCell ⟨w25.heap.size, 2, none⟩ (.slice z28 RR.2.2.1.length d28) |>.setCell ⟨w25.heap.size, 3, none⟩ (.int .i64 RR.2.2.2)) := below_set4 hq28.out ga0
    have hat := tbAt_of (lo := w24.heap.size) bx.out hoA.out ga0 la0 (Nat.le_refl _) (Or.inl gin)
    replace hat := Lib.hid hat
    refine hK.out _ _ hst (fun hSs => ?_)
    clear hK K hSs ya yb yc yd ye yf yg yh
    (try simp only [Act.put, List.getElem_toArray, List.getElem_cons_succ, List.getElem_cons_zero, List.setIfInBounds_toArray, List.set_cons_zero, List.set_cons_succ])
    refine wpAnyH_ready (rs := [12]) (by kernel_rfl) (by simp) (AllReadyH.cons rfl (fun K hK => ?_) AllReadyH.nil); go_simp
    refine hK.out _ _ hst (fun _ => ?_)
    clear hK K
    (try simp only [Act.put, List.getElem_toArray, List.getElem_cons_succ, List.getElem_cons_zero, List.setIfInBounds_toArray, List.set_cons_zero, List.set_cons_succ])
    refine wpAnyH_done (by kernel_rfl) ?_ _
    go_wp2_with fail
    go_meet
    exact ⟨hat.out, rfl, hst⟩
    go_simp
    have bx := Lib.hid (show Wb (w24.drew.alloc (.cells #[.int .i64 0, .slice none 0 0, .slice none 0 0, .int .i64 0] 37)) w24.heap.size 37 #[.int .i64 0, .slice none 0 0, .slice none 0 0, .int .i64 0] from Wb.new w24.drew _ _)
    have hal := Lib.hid (Below.alloc' hH.out (.cells #[.int .i64 0, .slice none 0 0, .slice none 0 0, .int .i64 0] 37))
    have ga0 : w24.heap.size ≤ w24.heap.size := hH.out.size
    refine hK.out _ _ hal.out (fun hSs => ?_)
    clear hK K hSs
    (try simp only [Act.put, List.getElem_toArray, List.getElem_cons_succ, List.getElem_cons_zero, List.setIfInBounds_toArray, List.set_cons_zero, List.set_cons_succ])
    refine wpAnyH_ready (rs := [1]) (by kernel_rfl) (by simp) (AllReadyH.cons rfl (fun K hK => ?_) AllReadyH.nil); go_simp
    refine (toGeo_any xP cP P _ hmP (hP.out.below (Below.via' hB0 hal.out))).mono ?_
    rintro e w25 ⟨g25, rfl, ho25, hb25⟩
    have hi25 : Hid (IIn w25 (some ⟨g25, 0, none⟩) P) := ⟨hmP, hnP.out, Rd.of_own ho25⟩
    have hq25 := Lib.hid (Below.via' hal.out hb25)
    replace bx := Lib.hid (bx.out.kept hb25)
    refine hK.out _ _ hq25.out (fun hSs => ?_)
    clear hK K hSs
    (try simp only [Act.put, List.getElem_toArray, List.getElem_cons_succ, List.getElem_cons_zero, List.setIfInBounds_toArray, List.set_cons_zero, List.set_cons_succ])
    refine wpAnyH_ready (rs := [3]) (by kernel_rfl) (by simp) (AllReadyH.cons rfl (fun K hK => ?_) AllReadyH.nil); go_simp
    refine (toVariableS_any _ _ S _ hm (hS.out.below (Below.via' hB0 hq25.out))).mono ?_
    rintro e w26 ⟨rfl, ho26, hb26⟩
    try simp only [drew_sizeT] at ho26
    try simp only [World.size_alloc] at ho26
    have hi26 := Lib.hid (show SIn w26 _ S.length S from ⟨hm, Nat.le_refl _, hn.out, Rd.of_own ho26⟩)
    have hq26 := Lib.hid (Below.via' hq25.out hb26)
    replace bx := Lib.hid (bx.out.kept hb26)
    refine hK.out _ _ hq26.out (fun hSs => ?_)
    clear hK K hSs
    (try simp only [Act.put, List.getElem_toArray, List.getElem_cons_succ, List.getElem_cons_zero, List.setIfInBounds_toArray, List.set_cons_zero, List.set_cons_succ])
    refine wpAnyH_ready (rs := [5]) (by kernel_rfl) (by simp) (AllReadyH.cons rfl (fun K hK => ?_) AllReadyH.nil); go_simp
    refine (toTable_any Ul xU zU cU dU UF UW Um _ hmUF hmUW (hUF.out.below (Below.via' hB0 hq26.out)) (hUW.out.below (Below.via' hB0 hq26.out))).mono ?_
    rintro e w27 ⟨g27, f27, rfl, ho27, hb27⟩
    have hi27 : Hid (TIn w27 (some ⟨g27, 0, none⟩) (some ⟨f27, 0, none⟩) UF UW) := Lib.hid (TIn.of_owT ho27 hmUF hmUW hnUF.out hnUW.out)
    have hq27 := Lib.hid (Below.via' hq26.out hb27)
    replace bx := Lib.hid (bx.out.kept hb27)
    refine hK.out _ _ hq27.out (fun hSs => ?_)
    clear hK K hSs
    (try simp only [Act.put, List.getElem_toArray, List.getElem_cons_succ, List.getElem_cons_zero, List.setIfInBounds_toArray, List.set_cons_zero, List.set_cons_succ])
    refine wpAnyH_ready (rs := [6]) (by kernel_rfl) (by simp) (AllReadyH.cons rfl (fun K hK => ?_) AllReadyH.nil); go_simp
    refine (iNT_x _ _ _ _ _ _ _ _ P S Ul UF UW Um _ (hi25.out.below (Below.via' (Below.via' (Below.refl _ _) hb26) hb27)) (hi26.out.below (Below.via' (Below.refl _ _) hb27)) (hi27.out.below (Below.refl _ _)) (Nat.le_refl _) (fun h => by cases h) (Nat.le_refl _) (fun h => by cases h)).mono ?_
    rintro e w28 ⟨x28, c28, z28, d28, rfl, ho28, hb28⟩
    rw [← hRR.out] at ho28 ⊢
    have hq28 := Lib.hid (Below.via' hq27.out hb28)
    have la0 : w24.heap.size ≤ (w27).heap.size := (hq27.out).size
    have gin := bx.out.inside
    replace bx := Lib.hid (bx.out.kept hb28)
    refine hK.out _ _ hq28.out (fun hSs => ?_)
    clear hK K
    (try simp only [Act.put, List.getElem_toArray, List.getElem_cons_succ, List.getElem_cons_zero, List.setIfInBounds_toArray, List.set_cons_zero, List.set_cons_succ])
    refine wpAnyH_take (i := 7) (v := ?_) rfl (by kernel_rfl) (by kernel_rfl) (by kernel_rfl) (fun _ _ _ h => h) (Or.inl ⟨by rfl, ?_⟩) (by assumption) ?_; rotate_left; · (intro wz hz; (skip); clear hz; go_simp; try with_reducible rfl); (try simp only [Act.put, List.getElem_toArray, List.getElem_cons_succ, List.getElem_cons_zero, List.setIfInBounds_toArray, List.set_cons_zero, List.set_cons_succ])
    refine wpAnyH_take (i := 8) (v := ?_) rfl (by kernel_rfl) (by kernel_rfl) (by kernel_rfl) (fun _ _ _ h => h) (Or.inl ⟨by rfl, ?_⟩) (by assumption) ?_; rotate_left; · (intro wz hz; (skip); clear hz; go_simp; try with_reducible rfl); (try simp only [Act.put, List.getElem_toArray, List.getElem_cons_succ, List.getElem_cons_zero, List.setIfInBounds_toArray, List.set_cons_zero, List.set_cons_succ])
    refine wpAnyH_take (i := 9) (v := ?_) rfl (by kernel_rfl) (by kernel_rfl) (by kernel_rfl) (fun _ _ _ h => h) (Or.inl ⟨by rfl, ?_⟩) (by assumption) ?_; rotate_left; · (intro wz hz; (skip); clear hz; go_simp; try with_reducible rfl); (try simp only [Act.put, List.getElem_toArray, List.getElem_cons_succ, List.getElem_cons_zero, List.setIfInBounds_toArray, List.set_cons_zero, List.set_cons_succ])
    replace hSs := Lib.hid hSs
    have hoA := ho28
    replace hoA := Lib.hid hoA
    have ya := bx.out.read 0
    have yb := bx.out.read 1
    have yc := bx.out.read 2
    have yd := bx.out.read 3
    have ye := bx.out.free 0
    have yf := bx.out.free 1
    have yg := bx.out.free 2
    have yh := bx.out.free 3
    have yin := bx.out.inside
    refine wpAnyH_ready (rs := [11]) (by kernel_rfl) (by simp) (AllReadyH.cons rfl (fun K hK => ?_) AllReadyH.nil); go_simp
    have hst : Below w24.heap.size w24 ((w28).setCell ⟨w24.heap.size, 0, none⟩ (.int .i64 RR.1) |>.setCell ⟨w24.heap.size, 1, none⟩ (.slice x28 RR.2.1.length c28) |>.setCell ⟨w24.heap.size, 2, none⟩ (.slice z28 RR.2.2.1.length d28) |>.setCell ⟨w24.heap.size, 3, none⟩ (.int .i64 RR.2.2.2)) := below_set4 hq28.out ga0
    have hat := tbAt_of (lo := w24.heap.size) bx.out hoA.out ga0 la0 (Nat.le_refl _) (Or.inl gin)
    replace hat := Lib.hid hat
    refine hK.out _ _ hst (fun hSs => ?_)
    clear hK K hSs ya yb yc yd ye yf yg yh
    (try simp only [Act.put, List.getElem_toArray, List.getElem_cons_succ, List.getElem_cons_zero, List.setIfInBounds_toArray, List.set_cons_zero, List.set_cons_succ])
    refine wpAnyH_ready (rs := [12]) (by kernel_rfl) (by simp) (AllReadyH.cons rfl (fun K hK => ?_) AllReadyH.nil); go_simp
    refine hK.out _ _ hst (fun _ => ?_)
    clear hK K
    (try simp only [Act.put, List.getElem_toArray, List.getElem_cons_succ, List.getElem_cons_zero, List.setIfInBounds_toArray, List.set_cons_zero, List.set_cons_succ])
    refine wpAnyH_done (by kernel_rfl) ?_ _
    go_wp2_with fail
    go_meet
    exact ⟨hat.out, rfl, hst⟩
  obtain ⟨⟨gA28, xA28, cA28, zA28, dA28, la28, lb28, rfl, hA28, hgA28, hla28, hlb28, hgl28, hoA28⟩, rfl, hb28⟩ := hcut
  obtain ⟨w28, rfl⟩ : ∃ u : World, u = wc := ⟨_, rfl⟩
  have hgB28 : gA28 < w28.heap.size := hA28.2.2.2.2
  replace hA28 := Lib.hid hA28
  have hkP_28 := Lib.hid (hkP_24.out.below (show Below w24.heap.size w24 w28 from (by repeat (first | exact Below.refl _ _ | assumption | refine Below.drew ?_ | refine below_drewN ?_ _ | refine Below.alloc' ?_ _ | (refine Below.setCell ?_ (by first | omega | (simp; done) | (simp; omega) | exact Below.size (by assumption) | exact Nat.le_trans (Below.size (by assumption)) (by simp)) _) | (refine Below.via' ?_ (by assumption)) | (refine Below.alloc ?_ (by first | omega | (simp; done) | (simp; omega) | exact Below.size (by assumption) | exact Nat.le_trans (Below.size (by assumption)) (by simp)) _) | (refine Below.via ?_ (by assumption) (by first | omega | (simp; done) | (simp; omega) | exact Below.size (by assumption) | exact Nat.le_trans (Below.size (by assumption)) (by simp)))))))
  obtain ⟨hkPa28, hkPb28, hkPc28⟩ := hkP_28.out
  try clear hkPa24 hkPb24 hkPc24
  have hkU_28 := Lib.hid (hkU_24.out.below (show Below w24.heap.size w24 w28 from (by repeat (first | exact Below.refl _ _ | assumption | refine Below.drew ?_ | refine below_drewN ?_ _ | refine Below.alloc' ?_ _ | (refine Below.setCell ?_ (by first | omega | (simp; done) | (simp; omega) | exact Below.size (by assumption) | exact Nat.le_trans (Below.size (by assumption)) (by simp)) _) | (refine Below.via' ?_ (by assumption)) | (refine Below.alloc ?_ (by first | omega | (simp; done) | (simp; omega) | exact Below.size (by assumption) | exact Nat.le_trans (Below.size (by assumption)) (by simp)) _) | (refine Below.via ?_ (by assumption) (by first | omega | (simp; done) | (simp; omega) | exact Below.size (by assumption) | exact Nat.le_trans (Below.size (by assumption)) (by simp)))))))
  obtain ⟨hkUa28, hkUb28, hkUc28, hkUd28, hkUe28⟩ := hkU_28.out
  try clear hkUa24 hkUb24 hkUc24 hkUd24 hkUe24
  have hW_28 := Lib.hid (hW_24.out.below (show Below w24.heap.size w24 w28 from (by repeat (first | exact Below.refl _ _ | assumption | refine Below.drew ?_ | refine below_drewN ?_ _ | refine Below.alloc' ?_ _ | (refine Below.setCell ?_ (by first | omega | (simp; done) | (simp; omega) | exact Below.size (by assumption) | exact Nat.le_trans (Below.size (by assumption)) (by simp)) _) | (refine Below.via' ?_ (by assumption)) | (refine Below.alloc ?_ (by first | omega | (simp; done) | (simp; omega) | exact Below.size (by assumption) | exact Nat.le_trans (Below.size (by assumption)) (by simp)) _) | (refine Below.via ?_ (by assumption) (by first | omega | (simp; done) | (simp; omega) | exact Below.size (by assumption) | exact Nat.le_trans (Below.size (by assumption)) (by simp)))))))
  obtain ⟨hWa28, hWb28, hWc28, hWd28, hWe28⟩ := hW_28.out
  try clear hWa24 hWb24 hWc24 hWd24 hWe24
  have hG_28 := Lib.hid (hG_24.out.below (show Below w24.heap.size w24 w28 from (by repeat (first | exact Below.refl _ _ | assumption | refine Below.drew ?_ | refine below_drewN ?_ _ | refine Below.alloc' ?_ _ | (refine Below.setCell ?_ (by first | omega | (simp; done) | (simp; omega) | exact Below.size (by assumption) | exact Nat.le_trans (Below.size (by assumption)) (by simp)) _) | (refine Below.via' ?_ (by assumption)) | (refine Below.alloc ?_ (by first | omega | (simp; done) | (simp; omega) | exact Below.size (by assumption) | exact Nat.le_trans (Below.size (by assumption)) (by simp)) _) | (refine Below.via ?_ (by assumption) (by first | omega | (simp; done) | (simp; omega) | exact Below.size (by assumption) | exact Nat.le_trans (Below.size (by assumption)) (by simp)))))))
  obtain ⟨hGa28, hGb28, hGc28, hGd28, hGe28⟩ := hG_28.out
  try clear hGa24 hGb24 hGc24 hGd24 hGe24
  have hH_28 := hA28
  obtain ⟨hHa28, hHb28, hHc28, hHd28, hHe28⟩ := hH_28.out
  have B28 : Below w.heap.size w w28 := Below.via' B24 hb28
  have W_28 := Lib.hid (W_24.out.below hb28)
  have MF28 := Lib.hid (MF24.out.below hb28)
  have MW28 := Lib.hid (MW24.out.below hb28)
  go_wp2_with fail
  refine (eqTable_any _ _ _ _ _ _ RR.2.1 RR.2.2.1 _ (by omega) (by omega) (TIn.of_owY (hoA28.below (by exact (by repeat (first | exact Below.refl _ _ | assumption | refine Below.drew ?_ | refine below_drewN ?_ _ | refine Below.alloc' ?_ _ | (refine Below.setCell ?_ (by first | omega | (simp; done) | (simp; omega) | exact Below.size (by assumption) | exact Nat.le_trans (Below.size (by assumption)) (by simp)) _) | (refine Below.via' ?_ (by assumption)) | (refine Below.alloc ?_ (by first | omega | (simp; done) | (simp; omega) | exact Below.size (by assumption) | exact Nat.le_trans (Below.size (by assumption)) (by simp)) _) | (refine Below.via ?_ (by assumption) (by first | omega | (simp; done) | (simp; omega) | exact Below.size (by assumption) | exact Nat.le_trans (Below.size (by assumption)) (by simp))))))) hRF hRW hnRF.out hnRW.out) (TIn.of_owY (W_28.out.below (by exact (by repeat (first | exact Below.refl _ _ | assumption | refine Below.drew ?_ | refine below_drewN ?_ _ | refine Below.alloc' ?_ _ | (refine Below.setCell ?_ (by first | omega | (simp; done) | (simp; omega) | exact Below.size (by assumption) | exact Nat.le_trans (Below.size (by assumption)) (by simp)) _) | (refine Below.via' ?_ (by assumption)) | (refine Below.alloc ?_ (by first | omega | (simp; done) | (simp; omega) | exact Below.size (by assumption) | exact Nat.le_trans (Below.size (by assumption)) (by simp)) _) | (refine Below.via ?_ (by assumption) (by first | omega | (simp; done) | (simp; omega) | exact Below.size (by assumption) | exact Nat.le_trans (Below.size (by assumption)) (by simp))))))) hRF hRW hnRF.out hnRW.out)).mono ?_
  rintro e w29 ⟨rfl, hb29⟩
  have hkP_29 := Lib.hid (hkP_28.out.below (show Below w28.heap.size w28 w29 from (by repeat (first | exact Below.refl _ _ | assumption | refine Below.drew ?_ | refine below_drewN ?_ _ | refine Below.alloc' ?_ _ | (refine Below.setCell ?_ (by first | omega | (simp; done) | (simp; omega) | exact Below.size (by assumption) | exact Nat.le_trans (Below.size (by assumption)) (by simp)) _) | (refine Below.via' ?_ (by assumption)) | (refine Below.alloc ?_ (by first | omega | (simp; done) | (simp; omega) | exact Below.size (by assumption) | exact Nat.le_trans (Below.size (by assumption)) (by simp)) _) | (refine Below.via ?_ (by assumption) (by first | omega | (simp; done) | (simp; omega) | exact Below.size (by assumption) | exact Nat.le_trans (Below.size (by assumption)) (by simp)))))))
  obtain ⟨hkPa29, hkPb29, hkPc29⟩ := hkP_29.out
  try clear hkPa28 hkPb28 hkPc28
  have hkU_29 := Lib.hid (hkU_28.out.below (show Below w28.heap.size w28 w29 from (by repeat (first | exact Below.refl _ _ | assumption | refine Below.drew ?_ | refine below_drewN ?_ _ | refine Below.alloc' ?_ _ | (refine Below.setCell ?_ (by first | omega | (simp; done) | (simp; omega) | exact Below.size (by assumption) | exact Nat.le_trans (Below.size (by assumption)) (by simp)) _) | (refine Below.via' ?_ (by assumption)) | (refine Below.alloc ?_ (by first | omega | (simp; done) | (simp; omega) | exact Below.size (by assumption) | exact Nat.le_trans (Below.size (by assumption)) (by simp)) _) | (refine Below.via ?_ (by assumption) (by first | omega | (simp; done) | (simp; omega) | exact Below.size (by assumption) | exact Nat.le_trans (Below.size (by assumption)) (by simp)))))))
  obtain ⟨hkUa29, hkUb29, hkUc29, hkUd29, hkUe29⟩ := hkU_29.out
  try clear hkUa28 hkUb28 hkUc28 hkUd28 hkUe28
  have hW_29 := Lib.hid (hW_28.out.below (show Below w28.heap.size w28 w29 from (by repeat (first | exact Below.refl _ _ | assumption | refine Below.drew ?_ | refine below_drewN ?_ _ | refine Below.alloc' ?_ _ | (refine Below.setCell ?_ (by first | omega | (simp; done) | (simp; omega) | exact Below.size (by assumption) | exact Nat.le_trans (Below.size (by assumption)) (by simp)) _) | (refine Below.via' ?_ (by assumption)) | (refine Below.alloc ?_ (by first | omega | (simp; done) | (simp; omega) | exact Below.size (by assumption) | exact Nat.le_trans (Below.size (by assumption)) (by simp)) _) | (refine Below.via ?_ (by assumption) (by first | omega | (simp; done) | (simp; omega) | exact Below.size (by assumption) | exact Nat.le_trans (Below.size (by assumption)) (by simp)))))))
  obtain ⟨hWa29, hWb29, hWc29, hWd29, hWe29⟩ := hW_29.out
  try clear hWa28 hWb28 hWc28 hWd28 hWe28
  have hG_29 := Lib.hid (hG_28.out.below (show Below w28.heap.size w28 w29 from (by repeat (first | exact Below.refl _ _ | assumption | refine Below.drew ?_ | refine below_drewN ?_ _ | refine Below.alloc' ?_ _ | (refine Below.setCell ?_ (by first | omega | (simp; done) | (simp; omega) | exact Below.size (by assumption) | exact Nat.le_trans (Below.size (by assumption)) (by simp)) _) | (refine Below.via' ?_ (by assumption)) | (refine Below.alloc ?_ (by first | omega | (simp; done) | (simp; omega) | exact Below.size (by assumption) | exact Nat.le_trans (Below.size (by assumption)) (by simp)) _) | (refine Below.via ?_ (by assumption) (by first | omega | (simp; done) | (simp; omega) | exact Below.size (by assumption) | exact Nat.le_trans (Below.size (by assumption)) (by simp)))))))
  obtain ⟨hGa29, hGb29, hGc29, hGd29, hGe29⟩ := hG_29.out
  try clear hGa28 hGb28 hGc28 hGd28 hGe28
  have hH_29 := Lib.hid (hH_28.out.below (show Below w28.heap.size w28 w29 from (by repeat (first | exact Below.refl _ _ | assumption | refine Below.drew ?_ | refine below_drewN ?_ _ | refine Below.alloc' ?_ _ | (refine Below.setCell ?_ (by first | omega | (simp; done) | (simp; omega) | exact Below.size (by assumption) | exact Nat.le_trans (Below.size (by assumption)) (by simp)) _) | (refine Below.via' ?_ (by assumption)) | (refine Below.alloc ?_ (by first | omega | (simp; done) | (simp; omega) | exact Below.size (by assumption) | exact Nat.le_trans (Below.size (by assumption)) (by simp)) _) | (refine Below.via ?_ (by assumption) (by first | omega | (simp; done) | (simp; omega) | exact Below.size (by assumption) | exact Nat.le_trans (Below.size (by assumption)) (by simp)))))))
  obtain ⟨hHa29, hHb29, hHc29, hHd29, hHe29⟩ := hH_29.out
  try clear hHa28 hHb28 hHc28 hHd28 hHe28
  have B29 : Below w.heap.size w w29 := Below.via' B28 hb29
  have MF29 := Lib.hid (MF28.out.below hb29)
  have MW29 := Lib.hid (MW28.out.below hb29)
  go_wp2_with fail
  refine (heldTable_any _ _ _ _ _ _ _ _ _ _ (by omega) (by omega) hRF hRW (MF29.out.below (by exact (by repeat (first | exact Below.refl _ _ | assumption | refine Below.drew ?_ | refine below_drewN ?_ _ | refine Below.alloc' ?_ _ | (refine Below.setCell ?_ (by first | omega | (simp; done) | (simp; omega) | exact Below.size (by assumption) | exact Nat.le_trans (Below.size (by assumption)) (by simp)) _) | (refine Below.via' ?_ (by assumption)) | (refine Below.alloc ?_ (by first | omega | (simp; done) | (simp; omega) | exact Below.size (by assumption) | exact Nat.le_trans (Below.size (by assumption)) (by simp)) _) | (refine Below.via ?_ (by assumption) (by first | omega | (simp; done) | (simp; omega) | exact Below.size (by assumption) | exact Nat.le_trans (Below.size (by assumption)) (by simp))))))) (MW29.out.below (by exact (by repeat (first | exact Below.refl _ _ | assumption | refine Below.drew ?_ | refine below_drewN ?_ _ | refine Below.alloc' ?_ _ | (refine Below.setCell ?_ (by first | omega | (simp; done) | (simp; omega) | exact Below.size (by assumption) | exact Nat.le_trans (Below.size (by assumption)) (by simp)) _) | (refine Below.via' ?_ (by assumption)) | (refine Below.alloc ?_ (by first | omega | (simp; done) | (simp; omega) | exact Below.size (by assumption) | exact Nat.le_trans (Below.size (by assumption)) (by simp)) _) | (refine Below.via ?_ (by assumption) (by first | omega | (simp; done) | (simp; omega) | exact Below.size (by assumption) | exact Nat.le_trans (Below.size (by assumption)) (by simp)))))))).mono ?_
  rintro e w30 ⟨rfl, hb30⟩
  go_wp2
  go_ret
  exact ⟨rfl, (by repeat (first | exact Below.refl _ _ | assumption | refine Below.drew ?_ | refine below_drewN ?_ _ | refine Below.alloc' ?_ _ | (refine Below.setCell ?_ (by first | omega | (simp; done) | (simp; omega) | exact Below.size (by assumption) | exact Nat.le_trans (Below.size (by assumption)) (by simp)) _) | (refine Below.via' ?_ (by assumption)) | (refine Below.alloc ?_ (by first | omega | (simp; done) | (simp; omega) | exact Below.size (by assumption) | exact Nat.le_trans (Below.size (by assumption)) (by simp)) _) | (refine Below.via ?_ (by assumption) (by first | omega | (simp; done) | (simp; omega) | exact Below.size (by assumption) | exact Nat.le_trans (Below.size (by assumption)) (by simp)))))⟩

end Go.Proofs.Ytgkaalonmkcclaa
