/-
  The walks of chapter 2: the grouped schema; the program's and the model's.
-/
import Derived.Test.YtnmpigedhpdenabGrpS
namespace Go.Proofs.Ytnmpigedhpdenab
open Go.RowKit
set_option maxRecDepth 100000

/-- What GroupSchema gives. -/
def gsL (S : List (ByteArray × Int)) (v : Int) (G : List Int) : List (ByteArray × Int) := if igB S v G then S.set v.toNat ((S.getD v.toNat (⟨#[]⟩, 0)).1, gvZ S v G) else []
theorem gs_no1 {S : List (ByteArray × Int)} {v : Int} {G : List Int} (h : schB S = false) : igB S v G = false ∧ gsL S v G = [] := by
  have e : igB S v G = false := by unfold igB; rw [h]; rfl
  exact ⟨e, by unfold gsL; rw [e]; rfl⟩
theorem gs_no2 {S : List (ByteArray × Int)} {v : Int} {G : List Int} (h : gvB S v G = false) : igB S v G = false ∧ gsL S v G = [] := by
  have e : igB S v G = false := by unfold igB; rw [h, Bool.and_false]
  exact ⟨e, by unfold gsL; rw [e]; rfl⟩
theorem gs_yes2 {S : List (ByteArray × Int)} {k : Nat} {G : List Int} {nm : ByteArray} {lv : Int} (h1 : schB S = true) (h2 : gvB S k G = true) (h3 : S[k]? = some (nm, lv)) :
    igB S k G = true ∧ gsL S k G = S.set k (nm, gvZ S k G) := by
  have e : igB S k G = true := by unfold igB; rw [h1, h2]; rfl
  refine ⟨e, ?_⟩
  unfold gsL
  rw [e, if_pos rfl, Int.toNat_natCast, List.getD_eq_getElem?_getD, h3]
  rfl

set_option maxHeartbeats 4000000 in
theorem iGS_x (x y : Option Addr) (c1 c2 : Nat) (S : List (ByteArray × Int)) (v : Int) (G : List Int) (w : World) (h : SIn w x c1 S) (hG : IIn w y G) (hnil : x = none → c1 = 0) :
    Calls Try.prog 38 #[.slice x S.length c1, .agg #[.int .i64 v, .slice y G.length c2]] w (ResV (gsL S v G) (igB S v G) w) := by
  have hm := h.1
  have hc := h.2.1
  have hh := Lib.hid h
  have hGI := Lib.hid hG
  have hGl := hG.1
  clear h hG
  cases hs : schB S
  · have hv := Lib.hid (gs_no1 (v := v) (G := G) hs)
    go_enter Try.func38, Try.ntmps38
    go_wp2_with fail
    refine (isSch_x _ _ _ _ (hh.out.below (by exact (by repeat (first | exact Below.refl _ _ | assumption | refine Below.drew ?_ | refine below_drewN ?_ _ | refine Below.alloc' ?_ _ | (refine Below.setCell ?_ (by first | omega | (simp; done) | (simp; omega) | exact Below.size (by assumption) | exact Nat.le_trans (Below.size (by assumption)) (by simp)) _) | (refine Below.via' ?_ (by assumption)) | (refine Below.alloc ?_ (by first | omega | (simp; done) | (simp; omega) | exact Below.size (by assumption) | exact Nat.le_trans (Below.size (by assumption)) (by simp)) _) | (refine Below.via ?_ (by assumption) (by first | omega | (simp; done) | (simp; omega) | exact Below.size (by assumption) | exact Nat.le_trans (Below.size (by assumption)) (by simp)))))))).mono ?_
    rintro e w1 ⟨rfl, hb1⟩
    go_wp2_with fail
    go_ret2
    exact ⟨.slice none 0 0, by rw [hv.out.1]; rfl, by rw [hv.out.2]; exact World.ownsRow_nil _ _ _ _, (by repeat (first | exact Below.refl _ _ | assumption | refine Below.drew ?_ | refine below_drewN ?_ _ | refine Below.alloc' ?_ _ | (refine Below.setCell ?_ (by first | omega | (simp; done) | (simp; omega) | exact Below.size (by assumption) | exact Nat.le_trans (Below.size (by assumption)) (by simp)) _) | (refine Below.via' ?_ (by assumption)) | (refine Below.alloc ?_ (by first | omega | (simp; done) | (simp; omega) | exact Below.size (by assumption) | exact Nat.le_trans (Below.size (by assumption)) (by simp)) _) | (refine Below.via ?_ (by assumption) (by first | omega | (simp; done) | (simp; omega) | exact Below.size (by assumption) | exact Nat.le_trans (Below.size (by assumption)) (by simp)))))⟩
  cases hg : gvB S v G
  · have hv := Lib.hid (gs_no2 hg)
    have hgz := gvZ_no hg
    go_enter Try.func38, Try.ntmps38
    go_wp2_with fail
    refine (isSch_x _ _ _ _ (hh.out.below (by exact (by repeat (first | exact Below.refl _ _ | assumption | refine Below.drew ?_ | refine below_drewN ?_ _ | refine Below.alloc' ?_ _ | (refine Below.setCell ?_ (by first | omega | (simp; done) | (simp; omega) | exact Below.size (by assumption) | exact Nat.le_trans (Below.size (by assumption)) (by simp)) _) | (refine Below.via' ?_ (by assumption)) | (refine Below.alloc ?_ (by first | omega | (simp; done) | (simp; omega) | exact Below.size (by assumption) | exact Nat.le_trans (Below.size (by assumption)) (by simp)) _) | (refine Below.via ?_ (by assumption) (by first | omega | (simp; done) | (simp; omega) | exact Below.size (by assumption) | exact Nat.le_trans (Below.size (by assumption)) (by simp)))))))).mono ?_
    rintro e w1 ⟨rfl, hb1⟩
    obtain ⟨ka1, kb1, kc1⟩ := (GB.new w v y G.length c2 58).below hb1
    go_wp2_with fail
    refine (isGroupingFor_any _ _ _ _ _ _ _ _ hs  (hh.out.rd.below (by exact (by repeat (first | exact Below.refl _ _ | assumption | refine Below.drew ?_ | refine below_drewN ?_ _ | refine Below.alloc' ?_ _ | (refine Below.setCell ?_ (by first | omega | (simp; done) | (simp; omega) | exact Below.size (by assumption) | exact Nat.le_trans (Below.size (by assumption)) (by simp)) _) | (refine Below.via' ?_ (by assumption)) | (refine Below.alloc ?_ (by first | omega | (simp; done) | (simp; omega) | exact Below.size (by assumption) | exact Nat.le_trans (Below.size (by assumption)) (by simp)) _) | (refine Below.via ?_ (by assumption) (by first | omega | (simp; done) | (simp; omega) | exact Below.size (by assumption) | exact Nat.le_trans (Below.size (by assumption)) (by simp))))))) (hGI.out.below (by exact (by repeat (first | exact Below.refl _ _ | assumption | refine Below.drew ?_ | refine below_drewN ?_ _ | refine Below.alloc' ?_ _ | (refine Below.setCell ?_ (by first | omega | (simp; done) | (simp; omega) | exact Below.size (by assumption) | exact Nat.le_trans (Below.size (by assumption)) (by simp)) _) | (refine Below.via' ?_ (by assumption)) | (refine Below.alloc ?_ (by first | omega | (simp; done) | (simp; omega) | exact Below.size (by assumption) | exact Nat.le_trans (Below.size (by assumption)) (by simp)) _) | (refine Below.via ?_ (by assumption) (by first | omega | (simp; done) | (simp; omega) | exact Below.size (by assumption) | exact Nat.le_trans (Below.size (by assumption)) (by simp)))))))).mono ?_
    rintro e w2 ⟨rfl, hb2⟩
    go_wp2_with fail
    go_ret2
    exact ⟨.slice none 0 0, by rw [hv.out.1]; rfl, by rw [hv.out.2]; exact World.ownsRow_nil _ _ _ _, (by repeat (first | exact Below.refl _ _ | assumption | refine Below.drew ?_ | refine below_drewN ?_ _ | refine Below.alloc' ?_ _ | (refine Below.setCell ?_ (by first | omega | (simp; done) | (simp; omega) | exact Below.size (by assumption) | exact Nat.le_trans (Below.size (by assumption)) (by simp)) _) | (refine Below.via' ?_ (by assumption)) | (refine Below.alloc ?_ (by first | omega | (simp; done) | (simp; omega) | exact Below.size (by assumption) | exact Nat.le_trans (Below.size (by assumption)) (by simp)) _) | (refine Below.via ?_ (by assumption) (by first | omega | (simp; done) | (simp; omega) | exact Below.size (by assumption) | exact Nat.le_trans (Below.size (by assumption)) (by simp)))))⟩
  obtain ⟨k, nm, lv, rfl, hSk, hlv, hgb⟩ := gvB_get hg
  have hlvb := schB_lv hs hSk
  have hgz : (gvZ S k G == 0) = false := by
    rw [beq_eq_false_iff_ne, gvZ_yes hg]
    have := (gsB_get hgb).2.1
    omega
  have hk : k < S.length := (List.getElem?_eq_some_iff.1 hSk).1
  have hv := Lib.hid (gs_yes2 hs hg hSk)
  have hSpos : 0 < S.length := by omega
  have hk' : (k : Int) < (S.length : Int) := by omega
  have hk0 : (0 : Int) ≤ (k : Int) := by omega
  have hG0 : 0 < G.length := by omega
  replace hSk := Lib.hid hSk
  replace hlv := Lib.hid hlv
  go_enter Try.func38, Try.ntmps38
  go_wp2_with fail
  refine (isSch_x _ _ _ _ (hh.out.below (by exact (by repeat (first | exact Below.refl _ _ | assumption | refine Below.drew ?_ | refine below_drewN ?_ _ | refine Below.alloc' ?_ _ | (refine Below.setCell ?_ (by first | omega | (simp; done) | (simp; omega) | exact Below.size (by assumption) | exact Nat.le_trans (Below.size (by assumption)) (by simp)) _) | (refine Below.via' ?_ (by assumption)) | (refine Below.alloc ?_ (by first | omega | (simp; done) | (simp; omega) | exact Below.size (by assumption) | exact Nat.le_trans (Below.size (by assumption)) (by simp)) _) | (refine Below.via ?_ (by assumption) (by first | omega | (simp; done) | (simp; omega) | exact Below.size (by assumption) | exact Nat.le_trans (Below.size (by assumption)) (by simp)))))))).mono ?_
  rintro e w1 ⟨rfl, hb1⟩
  have hk1 := Lib.hid ((GB.new w k y G.length c2 58).below hb1)
  obtain ⟨ka1, kb1, kc1⟩ := hk1.out
  go_wp2_with fail
  refine (isGroupingFor_any _ _ _ _ _ _ _ _ hs  (hh.out.rd.below (by exact (by repeat (first | exact Below.refl _ _ | assumption | refine Below.drew ?_ | refine below_drewN ?_ _ | refine Below.alloc' ?_ _ | (refine Below.setCell ?_ (by first | omega | (simp; done) | (simp; omega) | exact Below.size (by assumption) | exact Nat.le_trans (Below.size (by assumption)) (by simp)) _) | (refine Below.via' ?_ (by assumption)) | (refine Below.alloc ?_ (by first | omega | (simp; done) | (simp; omega) | exact Below.size (by assumption) | exact Nat.le_trans (Below.size (by assumption)) (by simp)) _) | (refine Below.via ?_ (by assumption) (by first | omega | (simp; done) | (simp; omega) | exact Below.size (by assumption) | exact Nat.le_trans (Below.size (by assumption)) (by simp))))))) (hGI.out.below (by exact (by repeat (first | exact Below.refl _ _ | assumption | refine Below.drew ?_ | refine below_drewN ?_ _ | refine Below.alloc' ?_ _ | (refine Below.setCell ?_ (by first | omega | (simp; done) | (simp; omega) | exact Below.size (by assumption) | exact Nat.le_trans (Below.size (by assumption)) (by simp)) _) | (refine Below.via' ?_ (by assumption)) | (refine Below.alloc ?_ (by first | omega | (simp; done) | (simp; omega) | exact Below.size (by assumption) | exact Nat.le_trans (Below.size (by assumption)) (by simp)) _) | (refine Below.via ?_ (by assumption) (by first | omega | (simp; done) | (simp; omega) | exact Below.size (by assumption) | exact Nat.le_trans (Below.size (by assumption)) (by simp)))))))).mono ?_
  rintro e w2 ⟨rfl, hb2⟩
  have hk2 := Lib.hid (hk1.out.below (show Below w1.heap.size w1 w2 from (by repeat (first | exact Below.refl _ _ | assumption | refine Below.drew ?_ | refine below_drewN ?_ _ | refine Below.alloc' ?_ _ | (refine Below.setCell ?_ (by first | omega | (simp; done) | (simp; omega) | exact Below.size (by assumption) | exact Nat.le_trans (Below.size (by assumption)) (by simp)) _) | (refine Below.via' ?_ (by assumption)) | (refine Below.alloc ?_ (by first | omega | (simp; done) | (simp; omega) | exact Below.size (by assumption) | exact Nat.le_trans (Below.size (by assumption)) (by simp)) _) | (refine Below.via ?_ (by assumption) (by first | omega | (simp; done) | (simp; omega) | exact Below.size (by assumption) | exact Nat.le_trans (Below.size (by assumption)) (by simp)))))))
  obtain ⟨ka2, kb2, kc2⟩ := hk2.out
  try clear ka1 kb1 kc1
  have hmx := Lib.hid (show mxZ G + 1 = gvZ S k G by rw [gvZ_yes hg, (gsB_get hgb).2.2]; omega)
  have hmb : 0 ≤ mxZ G ∧ mxZ G ≤ 8 := by
    rw [(gsB_get hgb).2.2]
    have := (gsB_get hgb).2.1
    have := metL_len G
    have := hlv.out
    omega
  obtain ⟨hmb1, hmb2⟩ := hmb
  have q1 : IntKind.i64.wrap (mxZ G + 1) = mxZ G + 1 := IntWalk.i64_in _ (by omega)
  go_wp2_with fail
  refine (cloneVar_any _ _ _ _ hm hc hnil (hh.out.rd.below (by exact (by repeat (first | exact Below.refl _ _ | assumption | refine Below.drew ?_ | refine below_drewN ?_ _ | refine Below.alloc' ?_ _ | (refine Below.setCell ?_ (by first | omega | (simp; done) | (simp; omega) | exact Below.size (by assumption) | exact Nat.le_trans (Below.size (by assumption)) (by simp)) _) | (refine Below.via' ?_ (by assumption)) | (refine Below.alloc ?_ (by first | omega | (simp; done) | (simp; omega) | exact Below.size (by assumption) | exact Nat.le_trans (Below.size (by assumption)) (by simp)) _) | (refine Below.via ?_ (by assumption) (by first | omega | (simp; done) | (simp; omega) | exact Below.size (by assumption) | exact Nat.le_trans (Below.size (by assumption)) (by simp)))))))).mono ?_
  rintro e w4 ⟨u, rfl, ho4, hb4⟩
  have hk4 := Lib.hid (hk2.out.below hb4)
  obtain ⟨ka4, kb4, kc4⟩ := hk4.out
  obtain ⟨g, cap, rfl⟩ := own_someG' ho4 hSpos
  have hgb4 := own_lt ho4
  obtain ⟨u0, hu0, k0⟩ := own_cell ho4 (j := k * 2 + 1) (by omega)
  have k2 := ho4.frozenAt (k * 2 + 1)
  replace hu0 := Lib.hid hu0
  have hws : w.heap.size ≤ w2.heap.size := (show Below w.heap.size w w2 from (by repeat (first | exact Below.refl _ _ | assumption | refine Below.drew ?_ | refine below_drewN ?_ _ | refine Below.alloc' ?_ _ | (refine Below.setCell ?_ (by first | omega | (simp; done) | (simp; omega) | exact Below.size (by assumption) | exact Nat.le_trans (Below.size (by assumption)) (by simp)) _) | (refine Below.via' ?_ (by assumption)) | (refine Below.alloc ?_ (by first | omega | (simp; done) | (simp; omega) | exact Below.size (by assumption) | exact Nat.le_trans (Below.size (by assumption)) (by simp)) _) | (refine Below.via ?_ (by assumption) (by first | omega | (simp; done) | (simp; omega) | exact Below.size (by assumption) | exact Nat.le_trans (Below.size (by assumption)) (by simp)))))).size
  have ho5 := own_more ho4 hws
  have hfin := Lib.hid (show (w4.setCell ⟨g, k * 2 + 1, none⟩ (.int .i64 (mxZ G + 1))).ownsRow w.heap.size 129 2 (.slice (some ⟨g, 0, none⟩) S.length cap) (gsL S k G).length (vC (gsL S k G)) from by
    rw [hv.out.2, hmx.out, ← vC_set1 S k nm lv (gvZ S k G) hSk.out, List.length_set]
    exact (ho5.stored (k * 2 + 1) (.int .i64 (gvZ S k G))).1)
  replace ho4 := Lib.hid ho4
  clear ho5
  go_wp2
  go_region_with (first | (go_at_call 119; refine (max_any _ _ _ _ hGl hG0 (hGI.out.2.2.below (by exact (by repeat (first | exact Below.refl _ _ | assumption | refine Below.drew ?_ | refine below_drewN ?_ _ | refine Below.alloc' ?_ _ | (refine Below.setCell ?_ (by first | omega | (simp; done) | (simp; omega) | exact Below.size (by assumption) | exact Nat.le_trans (Below.size (by assumption)) (by simp)) _) | (refine Below.via' ?_ (by assumption)) | (refine Below.alloc ?_ (by first | omega | (simp; done) | (simp; omega) | exact Below.size (by assumption) | exact Nat.le_trans (Below.size (by assumption)) (by simp)) _) | (refine Below.via ?_ (by assumption) (by first | omega | (simp; done) | (simp; omega) | exact Below.size (by assumption) | exact Nat.le_trans (Below.size (by assumption)) (by simp)))))))).mono ?_; rintro e w5 ⟨rfl, rfl⟩))
  all_goals
    go_wp2
    go_ret2
    exact ⟨_, by rw [hv.out.1]; rfl, hfin.out, (by repeat (first | exact Below.refl _ _ | assumption | refine Below.drew ?_ | refine below_drewN ?_ _ | refine Below.alloc' ?_ _ | (refine Below.setCell ?_ (by first | omega | (simp; done) | (simp; omega) | exact Below.size (by assumption) | exact Nat.le_trans (Below.size (by assumption)) (by simp)) _) | (refine Below.via' ?_ (by assumption)) | (refine Below.alloc ?_ (by first | omega | (simp; done) | (simp; omega) | exact Below.size (by assumption) | exact Nat.le_trans (Below.size (by assumption)) (by simp)) _) | (refine Below.via ?_ (by assumption) (by first | omega | (simp; done) | (simp; omega) | exact Below.size (by assumption) | exact Nat.le_trans (Below.size (by assumption)) (by simp)))))⟩
set_option maxHeartbeats 4000000 in
theorem sGS_x (x y : Option Addr) (c1 c2 : Nat) (S : List (ByteArray × Int)) (v : Int) (G : List Int) (w : World) (h : SIn w x c1 S) (hG : IIn w y G) (hnil : x = none → c1 = 0) :
    Calls Try.prog 35 #[.slice x S.length c1, .agg #[.int .i64 v, .slice y G.length c2]] w (ResV (gsL S v G) (igB S v G) w) := by
  obtain ⟨i0, hi, hz0, hz1, hz2⟩ := info_parts Try.infoVar
  have hm := h.1
  have hc := h.2.1
  have hh := Lib.hid h
  have hGI := Lib.hid hG
  have hGl := hG.1
  clear h hG
  cases hs : schB S
  · have hv := Lib.hid (gs_no1 (v := v) (G := G) hs)
    go_enter Try.func35, Try.ntmps35
    go_wp2_with fail
    refine (sGood_x _ _ _ _ (hh.out.below (by exact (by repeat (first | exact Below.refl _ _ | assumption | refine Below.drew ?_ | refine below_drewN ?_ _ | refine Below.alloc' ?_ _ | (refine Below.setCell ?_ (by first | omega | (simp; done) | (simp; omega) | exact Below.size (by assumption) | exact Nat.le_trans (Below.size (by assumption)) (by simp)) _) | (refine Below.via' ?_ (by assumption)) | (refine Below.alloc ?_ (by first | omega | (simp; done) | (simp; omega) | exact Below.size (by assumption) | exact Nat.le_trans (Below.size (by assumption)) (by simp)) _) | (refine Below.via ?_ (by assumption) (by first | omega | (simp; done) | (simp; omega) | exact Below.size (by assumption) | exact Nat.le_trans (Below.size (by assumption)) (by simp)))))))).mono ?_
    rintro e w1 ⟨rfl, hb1⟩
    go_wp2_with fail
    go_ret2
    exact ⟨.slice none 0 0, by rw [hv.out.1]; rfl, by rw [hv.out.2]; exact World.ownsRow_nil _ _ _ _, (by repeat (first | exact Below.refl _ _ | assumption | refine Below.drew ?_ | refine below_drewN ?_ _ | refine Below.alloc' ?_ _ | (refine Below.setCell ?_ (by first | omega | (simp; done) | (simp; omega) | exact Below.size (by assumption) | exact Nat.le_trans (Below.size (by assumption)) (by simp)) _) | (refine Below.via' ?_ (by assumption)) | (refine Below.alloc ?_ (by first | omega | (simp; done) | (simp; omega) | exact Below.size (by assumption) | exact Nat.le_trans (Below.size (by assumption)) (by simp)) _) | (refine Below.via ?_ (by assumption) (by first | omega | (simp; done) | (simp; omega) | exact Below.size (by assumption) | exact Nat.le_trans (Below.size (by assumption)) (by simp)))))⟩
  cases hg : gvB S v G
  · have hv := Lib.hid (gs_no2 hg)
    have hgz := gvZ_no hg
    go_enter Try.func35, Try.ntmps35
    go_wp2_with fail
    refine (sGood_x _ _ _ _ (hh.out.below (by exact (by repeat (first | exact Below.refl _ _ | assumption | refine Below.drew ?_ | refine below_drewN ?_ _ | refine Below.alloc' ?_ _ | (refine Below.setCell ?_ (by first | omega | (simp; done) | (simp; omega) | exact Below.size (by assumption) | exact Nat.le_trans (Below.size (by assumption)) (by simp)) _) | (refine Below.via' ?_ (by assumption)) | (refine Below.alloc ?_ (by first | omega | (simp; done) | (simp; omega) | exact Below.size (by assumption) | exact Nat.le_trans (Below.size (by assumption)) (by simp)) _) | (refine Below.via ?_ (by assumption) (by first | omega | (simp; done) | (simp; omega) | exact Below.size (by assumption) | exact Nat.le_trans (Below.size (by assumption)) (by simp)))))))).mono ?_
    rintro e w1 ⟨rfl, hb1⟩
    obtain ⟨ka1, kb1, kc1⟩ := (GB.new w v y G.length c2 58).below hb1
    go_wp2_with fail
    refine (sGroups_any _ _ _ _ _ _ _ _ hs hm (hh.out.rd.below (by exact (by repeat (first | exact Below.refl _ _ | assumption | refine Below.drew ?_ | refine below_drewN ?_ _ | refine Below.alloc' ?_ _ | (refine Below.setCell ?_ (by first | omega | (simp; done) | (simp; omega) | exact Below.size (by assumption) | exact Nat.le_trans (Below.size (by assumption)) (by simp)) _) | (refine Below.via' ?_ (by assumption)) | (refine Below.alloc ?_ (by first | omega | (simp; done) | (simp; omega) | exact Below.size (by assumption) | exact Nat.le_trans (Below.size (by assumption)) (by simp)) _) | (refine Below.via ?_ (by assumption) (by first | omega | (simp; done) | (simp; omega) | exact Below.size (by assumption) | exact Nat.le_trans (Below.size (by assumption)) (by simp))))))) (hGI.out.below (by exact (by repeat (first | exact Below.refl _ _ | assumption | refine Below.drew ?_ | refine below_drewN ?_ _ | refine Below.alloc' ?_ _ | (refine Below.setCell ?_ (by first | omega | (simp; done) | (simp; omega) | exact Below.size (by assumption) | exact Nat.le_trans (Below.size (by assumption)) (by simp)) _) | (refine Below.via' ?_ (by assumption)) | (refine Below.alloc ?_ (by first | omega | (simp; done) | (simp; omega) | exact Below.size (by assumption) | exact Nat.le_trans (Below.size (by assumption)) (by simp)) _) | (refine Below.via ?_ (by assumption) (by first | omega | (simp; done) | (simp; omega) | exact Below.size (by assumption) | exact Nat.le_trans (Below.size (by assumption)) (by simp)))))))).mono ?_
    rintro e w2 ⟨rfl, hb2⟩
    go_wp2_with fail
    go_ret2
    exact ⟨.slice none 0 0, by rw [hv.out.1]; rfl, by rw [hv.out.2]; exact World.ownsRow_nil _ _ _ _, (by repeat (first | exact Below.refl _ _ | assumption | refine Below.drew ?_ | refine below_drewN ?_ _ | refine Below.alloc' ?_ _ | (refine Below.setCell ?_ (by first | omega | (simp; done) | (simp; omega) | exact Below.size (by assumption) | exact Nat.le_trans (Below.size (by assumption)) (by simp)) _) | (refine Below.via' ?_ (by assumption)) | (refine Below.alloc ?_ (by first | omega | (simp; done) | (simp; omega) | exact Below.size (by assumption) | exact Nat.le_trans (Below.size (by assumption)) (by simp)) _) | (refine Below.via ?_ (by assumption) (by first | omega | (simp; done) | (simp; omega) | exact Below.size (by assumption) | exact Nat.le_trans (Below.size (by assumption)) (by simp)))))⟩
  obtain ⟨k, nm, lv, rfl, hSk, hlv, hgb⟩ := gvB_get hg
  have hlvb := schB_lv hs hSk
  have hgz : (gvZ S k G == 0) = false := by
    rw [beq_eq_false_iff_ne, gvZ_yes hg]
    have := (gsB_get hgb).2.1
    omega
  have hk : k < S.length := (List.getElem?_eq_some_iff.1 hSk).1
  have hv := Lib.hid (gs_yes2 hs hg hSk)
  have hSpos : 0 < S.length := by omega
  have hk' : (k : Int) < (S.length : Int) := by omega
  have hk0 : (0 : Int) ≤ (k : Int) := by omega
  have hG0 : 0 < G.length := by omega
  replace hSk := Lib.hid hSk
  replace hlv := Lib.hid hlv
  go_enter Try.func35, Try.ntmps35
  go_wp2_with fail
  refine (sGood_x _ _ _ _ (hh.out.below (by exact (by repeat (first | exact Below.refl _ _ | assumption | refine Below.drew ?_ | refine below_drewN ?_ _ | refine Below.alloc' ?_ _ | (refine Below.setCell ?_ (by first | omega | (simp; done) | (simp; omega) | exact Below.size (by assumption) | exact Nat.le_trans (Below.size (by assumption)) (by simp)) _) | (refine Below.via' ?_ (by assumption)) | (refine Below.alloc ?_ (by first | omega | (simp; done) | (simp; omega) | exact Below.size (by assumption) | exact Nat.le_trans (Below.size (by assumption)) (by simp)) _) | (refine Below.via ?_ (by assumption) (by first | omega | (simp; done) | (simp; omega) | exact Below.size (by assumption) | exact Nat.le_trans (Below.size (by assumption)) (by simp)))))))).mono ?_
  rintro e w1 ⟨rfl, hb1⟩
  have hk1 := Lib.hid ((GB.new w k y G.length c2 58).below hb1)
  obtain ⟨ka1, kb1, kc1⟩ := hk1.out
  go_wp2_with fail
  refine (sGroups_any _ _ _ _ _ _ _ _ hs hm (hh.out.rd.below (by exact (by repeat (first | exact Below.refl _ _ | assumption | refine Below.drew ?_ | refine below_drewN ?_ _ | refine Below.alloc' ?_ _ | (refine Below.setCell ?_ (by first | omega | (simp; done) | (simp; omega) | exact Below.size (by assumption) | exact Nat.le_trans (Below.size (by assumption)) (by simp)) _) | (refine Below.via' ?_ (by assumption)) | (refine Below.alloc ?_ (by first | omega | (simp; done) | (simp; omega) | exact Below.size (by assumption) | exact Nat.le_trans (Below.size (by assumption)) (by simp)) _) | (refine Below.via ?_ (by assumption) (by first | omega | (simp; done) | (simp; omega) | exact Below.size (by assumption) | exact Nat.le_trans (Below.size (by assumption)) (by simp))))))) (hGI.out.below (by exact (by repeat (first | exact Below.refl _ _ | assumption | refine Below.drew ?_ | refine below_drewN ?_ _ | refine Below.alloc' ?_ _ | (refine Below.setCell ?_ (by first | omega | (simp; done) | (simp; omega) | exact Below.size (by assumption) | exact Nat.le_trans (Below.size (by assumption)) (by simp)) _) | (refine Below.via' ?_ (by assumption)) | (refine Below.alloc ?_ (by first | omega | (simp; done) | (simp; omega) | exact Below.size (by assumption) | exact Nat.le_trans (Below.size (by assumption)) (by simp)) _) | (refine Below.via ?_ (by assumption) (by first | omega | (simp; done) | (simp; omega) | exact Below.size (by assumption) | exact Nat.le_trans (Below.size (by assumption)) (by simp)))))))).mono ?_
  rintro e w2 ⟨rfl, hb2⟩
  have hk2 := Lib.hid (hk1.out.below (show Below w1.heap.size w1 w2 from (by repeat (first | exact Below.refl _ _ | assumption | refine Below.drew ?_ | refine below_drewN ?_ _ | refine Below.alloc' ?_ _ | (refine Below.setCell ?_ (by first | omega | (simp; done) | (simp; omega) | exact Below.size (by assumption) | exact Nat.le_trans (Below.size (by assumption)) (by simp)) _) | (refine Below.via' ?_ (by assumption)) | (refine Below.alloc ?_ (by first | omega | (simp; done) | (simp; omega) | exact Below.size (by assumption) | exact Nat.le_trans (Below.size (by assumption)) (by simp)) _) | (refine Below.via ?_ (by assumption) (by first | omega | (simp; done) | (simp; omega) | exact Below.size (by assumption) | exact Nat.le_trans (Below.size (by assumption)) (by simp)))))))
  obtain ⟨ka2, kb2, kc2⟩ := hk2.out
  try clear ka1 kb1 kc1
  have ho0 := World.ownsRow_made (e := 129) (size := 2) w2 #[] 0 (Nat.le_refl w2.heap.size) (by unfold maxLen; omega) (by simp)
  have hr0 := Lib.hid ((hh.out.rd.below (show Below w.heap.size w w2 from (by repeat (first | exact Below.refl _ _ | assumption | refine Below.drew ?_ | refine below_drewN ?_ _ | refine Below.alloc' ?_ _ | (refine Below.setCell ?_ (by first | omega | (simp; done) | (simp; omega) | exact Below.size (by assumption) | exact Nat.le_trans (Below.size (by assumption)) (by simp)) _) | (refine Below.via' ?_ (by assumption)) | (refine Below.alloc ?_ (by first | omega | (simp; done) | (simp; omega) | exact Below.size (by assumption) | exact Nat.le_trans (Below.size (by assumption)) (by simp)) _) | (refine Below.via ?_ (by assumption) (by first | omega | (simp; done) | (simp; omega) | exact Below.size (by assumption) | exact Nat.le_trans (Below.size (by assumption)) (by simp))))))).alloc (.cells #[] 129))
  go_wp2_with (at_builtin; refine wpList_append_rd _ rfl _ _ 54 rfl w2.heap.size 129 i0 (.agg #[.string ⟨#[]⟩, .int .i64 0]) 2 24 Try.underlying54 hi hz0 hz1 hz2 rfl (by decide) _ 0 [] rfl ho0 _ S.length c1 rfl hc hnil (vC S) (by rw [vC_len]) hr0.out (vC_one S) (by unfold maxLen; omega) (by omega) (by simp) ?_; intro u w4 ho4 hgrow hwhere)
  have hb4 : Below w2.heap.size w2 w4 := ((Below.refl _ _).alloc (Nat.le_refl _) _).grown hgrow (by simp) (fun k hk => by injection hk with hk; exact Nat.le_of_eq hk)
  rw [Nat.zero_add, List.nil_append] at ho4
  clear hi hz0 hz1 hz2 ho0
  have hk4 := Lib.hid (hk2.out.below hb4)
  obtain ⟨ka4, kb4, kc4⟩ := hk4.out
  obtain ⟨g, cap, rfl⟩ := own_someG' ho4 hSpos
  have hgb4 := own_lt ho4
  obtain ⟨u0, hu0, k0⟩ := own_cell ho4 (j := k * 2 + 1) (by omega)
  have k2 := ho4.frozenAt (k * 2 + 1)
  replace hu0 := Lib.hid hu0
  have hws : w.heap.size ≤ w2.heap.size := (show Below w.heap.size w w2 from (by repeat (first | exact Below.refl _ _ | assumption | refine Below.drew ?_ | refine below_drewN ?_ _ | refine Below.alloc' ?_ _ | (refine Below.setCell ?_ (by first | omega | (simp; done) | (simp; omega) | exact Below.size (by assumption) | exact Nat.le_trans (Below.size (by assumption)) (by simp)) _) | (refine Below.via' ?_ (by assumption)) | (refine Below.alloc ?_ (by first | omega | (simp; done) | (simp; omega) | exact Below.size (by assumption) | exact Nat.le_trans (Below.size (by assumption)) (by simp)) _) | (refine Below.via ?_ (by assumption) (by first | omega | (simp; done) | (simp; omega) | exact Below.size (by assumption) | exact Nat.le_trans (Below.size (by assumption)) (by simp)))))).size
  have ho5 := own_more ho4 hws
  replace ho4 := Lib.hid ho4
  replace ho5 := Lib.hid ho5
  go_region_with (first | (go_at_call 114; refine (sGroups_any _ _ _ _ _ _ _ _ hs hm (hh.out.rd.below (by exact (by repeat (first | exact Below.refl _ _ | assumption | refine Below.drew ?_ | refine below_drewN ?_ _ | refine Below.alloc' ?_ _ | (refine Below.setCell ?_ (by first | omega | (simp; done) | (simp; omega) | exact Below.size (by assumption) | exact Nat.le_trans (Below.size (by assumption)) (by simp)) _) | (refine Below.via' ?_ (by assumption)) | (refine Below.alloc ?_ (by first | omega | (simp; done) | (simp; omega) | exact Below.size (by assumption) | exact Nat.le_trans (Below.size (by assumption)) (by simp)) _) | (refine Below.via ?_ (by assumption) (by first | omega | (simp; done) | (simp; omega) | exact Below.size (by assumption) | exact Nat.le_trans (Below.size (by assumption)) (by simp))))))) (hGI.out.below (by exact (by repeat (first | exact Below.refl _ _ | assumption | refine Below.drew ?_ | refine below_drewN ?_ _ | refine Below.alloc' ?_ _ | (refine Below.setCell ?_ (by first | omega | (simp; done) | (simp; omega) | exact Below.size (by assumption) | exact Nat.le_trans (Below.size (by assumption)) (by simp)) _) | (refine Below.via' ?_ (by assumption)) | (refine Below.alloc ?_ (by first | omega | (simp; done) | (simp; omega) | exact Below.size (by assumption) | exact Nat.le_trans (Below.size (by assumption)) (by simp)) _) | (refine Below.via ?_ (by assumption) (by first | omega | (simp; done) | (simp; omega) | exact Below.size (by assumption) | exact Nat.le_trans (Below.size (by assumption)) (by simp)))))))).mono ?_; rintro e w5 ⟨rfl, hb5⟩; (have hb5' : Below w4.heap.size w4 w5 := (by repeat (first | exact Below.refl _ _ | assumption | refine Below.drew ?_ | refine below_drewN ?_ _ | refine Below.alloc' ?_ _ | (refine Below.setCell ?_ (by first | omega | (simp; done) | (simp; omega) | exact Below.size (by assumption) | exact Nat.le_trans (Below.size (by assumption)) (by simp)) _) | (refine Below.via' ?_ (by assumption)) | (refine Below.alloc ?_ (by first | omega | (simp; done) | (simp; omega) | exact Below.size (by assumption) | exact Nat.le_trans (Below.size (by assumption)) (by simp)) _) | (refine Below.via ?_ (by assumption) (by first | omega | (simp; done) | (simp; omega) | exact Below.size (by assumption) | exact Nat.le_trans (Below.size (by assumption)) (by simp)))))); (obtain ⟨ka5, kb5, kc5⟩ := hk4.out.below hb5'); (have k5 : w5.cell? ⟨g, k * 2 + 1, none⟩ = some u0 := (hb5'.cell hgb4.2).trans k0); (have k6 : w5.frozen? ⟨g, k * 2 + 1, none⟩ = false := (hb5'.frozen hgb4.2).trans k2)))
  all_goals
    have hfin := Lib.hid (show (w5.setCell ⟨g, k * 2 + 1, none⟩ (.int .i64 (gvZ S k G))).ownsRow w.heap.size 129 2 (.slice (some ⟨g, 0, none⟩) S.length cap) (gsL S k G).length (vC (gsL S k G)) from by
      rw [hv.out.2, ← vC_set1 S k nm lv (gvZ S k G) hSk.out, List.length_set]
      exact ((own_below ho5.out hb5').stored (k * 2 + 1) (.int .i64 (gvZ S k G))).1)
    go_wp2
    go_ret2
    exact ⟨_, by rw [hv.out.1]; rfl, hfin.out, (by repeat (first | exact Below.refl _ _ | assumption | refine Below.drew ?_ | refine below_drewN ?_ _ | refine Below.alloc' ?_ _ | (refine Below.setCell ?_ (by first | omega | (simp; done) | (simp; omega) | exact Below.size (by assumption) | exact Nat.le_trans (Below.size (by assumption)) (by simp)) _) | (refine Below.via' ?_ (by assumption)) | (refine Below.alloc ?_ (by first | omega | (simp; done) | (simp; omega) | exact Below.size (by assumption) | exact Nat.le_trans (Below.size (by assumption)) (by simp)) _) | (refine Below.via ?_ (by assumption) (by first | omega | (simp; done) | (simp; omega) | exact Below.size (by assumption) | exact Nat.le_trans (Below.size (by assumption)) (by simp)))))⟩
end Go.Proofs.Ytnmpigedhpdenab
