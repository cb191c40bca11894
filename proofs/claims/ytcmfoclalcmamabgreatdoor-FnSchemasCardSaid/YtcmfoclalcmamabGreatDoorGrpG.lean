/-
  The walks of chapter 2: is it a grouping? The program's and the model's.
-/
import Derived.Test.YtcmfoclalcmamabGreatDoorGrpP
namespace Go.Proofs.YtcmfoclalcmamabGreatDoor
open Go.RowKit
set_option maxRecDepth 100000

theorem okG_len {S : List (ByteArray × Int)} (hs : schB S = true) {k : Nat} {nm : ByteArray} {lv : Int} {G : List Int} (h : S[k]? = some (nm, lv)) (e : (G.length : Int) = lv) : 2 ≤ G.length ∧ G.length ≤ 8 := by
  have := schB_lv hs h
  omega

set_option maxHeartbeats 2000000 in
theorem isGroupingFor_any (x y : Option Addr) (c1 c2 : Nat) (S : List (ByteArray × Int)) (v : Int) (G : List Int) (w : World) (hs : schB S = true) (hS : Rd w x (vC S)) (hG : IIn w y G) :
    Calls Tryz.prog 61 #[.slice x S.length c1, .agg #[.int .i64 v, .slice y G.length c2]] w fun e w' => e = .returned (.bool (gvB S v G)) ∧ Below w.heap.size w w' := by
  have hSh := Lib.hid hS
  have hGl := hG.1
  have hGh := Lib.hid hG.2.2
  clear hS hG
  by_cases h1 : v < 0
  · have hv := Lib.hid (gv_no (G := G) (okG_neg (S := S) (G := G) h1))
    have d1 : decide (v < 0) = true := decide_eq_true h1
    go_enter Tryz.func61, Tryz.ntmps61
    go_wp2
    go_quiet (fail)
    go_wp2
    go_ret
    exact ⟨ret_bool hv.out.symm, (by repeat (first | exact Below.refl _ _ | assumption | refine Below.drew ?_ | refine below_drewN ?_ _ | refine Below.alloc' ?_ _ | (refine Below.setCell ?_ (by first | omega | (simp; done) | (simp; omega) | exact Below.size (by assumption) | exact Nat.le_trans (Below.size (by assumption)) (by simp)) _) | (refine Below.via' ?_ (by assumption)) | (refine Below.alloc ?_ (by first | omega | (simp; done) | (simp; omega) | exact Below.size (by assumption) | exact Nat.le_trans (Below.size (by assumption)) (by simp)) _) | (refine Below.via ?_ (by assumption) (by first | omega | (simp; done) | (simp; omega) | exact Below.size (by assumption) | exact Nat.le_trans (Below.size (by assumption)) (by simp)))))⟩
  by_cases h2 : (S.length : Int) ≤ v
  · have hv := Lib.hid (gv_no (G := G) (okG_far (S := S) (G := G) h2))
    have d1 : decide (v < 0) = false := decide_eq_false h1
    have d2 : decide ((S.length : Int) ≤ v) = true := decide_eq_true h2
    have d3 : decide (v < (S.length : Int)) = false := decide_eq_false (by omega)
    go_enter Tryz.func61, Tryz.ntmps61
    go_wp2
    go_quiet (fail)
    go_wp2
    go_ret
    exact ⟨ret_bool hv.out.symm, (by repeat (first | exact Below.refl _ _ | assumption | refine Below.drew ?_ | refine below_drewN ?_ _ | refine Below.alloc' ?_ _ | (refine Below.setCell ?_ (by first | omega | (simp; done) | (simp; omega) | exact Below.size (by assumption) | exact Nat.le_trans (Below.size (by assumption)) (by simp)) _) | (refine Below.via' ?_ (by assumption)) | (refine Below.alloc ?_ (by first | omega | (simp; done) | (simp; omega) | exact Below.size (by assumption) | exact Nat.le_trans (Below.size (by assumption)) (by simp)) _) | (refine Below.via ?_ (by assumption) (by first | omega | (simp; done) | (simp; omega) | exact Below.size (by assumption) | exact Nat.le_trans (Below.size (by assumption)) (by simp)))))⟩
  obtain ⟨k, rfl⟩ := Int.eq_ofNat_of_zero_le (show 0 ≤ v by omega)
  have hk : k < S.length := by omega
  obtain ⟨bl, off, nm, lv, hx, hbl, hSk, hc0, hc1⟩ := hSh.out.var hk
  subst hx
  have hok := okG_at (G := G) hSk
  have hlv := schB_lv hs hSk
  have hk' : (k : Int) < (S.length : Int) := by omega
  have hk0 : (0 : Int) ≤ (k : Int) := by omega
  have d1 : decide ((k : Int) < 0) = false := decide_eq_false (by omega)
  have d2 : decide ((S.length : Int) ≤ (k : Int)) = false := decide_eq_false (by omega)
  have d3 : decide ((k : Int) < (S.length : Int)) = true := decide_eq_true (by omega)
  by_cases h3 : (G.length : Int) = lv
  · have hgl := okG_len hs hSk h3
    have hv := Lib.hid (gv_of (hok.trans (decide_eq_true h3)))
    have h3a : ((G.length : Int) == lv) = true := by rw [beq_iff_eq]; exact h3
    have h3b : ((G.length : Int) != lv) = false := by show (!((G.length : Int) == lv)) = false; rw [h3a]; rfl
    replace h3 := Lib.hid h3
    replace hok := Lib.hid hok
    clear hSk
    replace hs := Lib.hid hs
    go_enter Tryz.func61, Tryz.ntmps61
    go_wp2
    go_quiet (fail)
    go_wp2_with (go_at_call 123; refine (areGroups_any _ _ _ _ (by omega) (hGh.out.below (by exact (by repeat (first | exact Below.refl _ _ | assumption | refine Below.drew ?_ | refine below_drewN ?_ _ | refine Below.alloc' ?_ _ | (refine Below.setCell ?_ (by first | omega | (simp; done) | (simp; omega) | exact Below.size (by assumption) | exact Nat.le_trans (Below.size (by assumption)) (by simp)) _) | (refine Below.via' ?_ (by assumption)) | (refine Below.alloc ?_ (by first | omega | (simp; done) | (simp; omega) | exact Below.size (by assumption) | exact Nat.le_trans (Below.size (by assumption)) (by simp)) _) | (refine Below.via ?_ (by assumption) (by first | omega | (simp; done) | (simp; omega) | exact Below.size (by assumption) | exact Nat.le_trans (Below.size (by assumption)) (by simp)))))))).mono ?_; rintro e w2 ⟨rfl, hb2⟩; obtain ⟨hcl2, hfr2⟩ := bcell hb2; have hz2 := hb2.size; (try simp at hz2); (try (have hly2 := Nat.lt_of_succ_le hz2)); (try (have hlx2 := Nat.lt_of_succ_lt hly2)); (try (have hlw2 := Nat.lt_of_succ_lt hlx2)); (try (have hle2 := Nat.le_of_lt hly2)); (try (have hya2 : w.heap.size < w2.heap.size := by omega)); (try (have hyb2 : w.heap.size + 1 < w2.heap.size := by omega)); (try (have hyc2 : w.heap.size + 1 + 1 < w2.heap.size := by omega)); (try (have hyd2 : wa.heap.size < w2.heap.size := by omega)))
    go_ret
    exact ⟨ret_bool hv.out.symm, (by repeat (first | exact Below.refl _ _ | assumption | refine Below.drew ?_ | refine below_drewN ?_ _ | refine Below.alloc' ?_ _ | (refine Below.setCell ?_ (by first | omega | (simp; done) | (simp; omega) | exact Below.size (by assumption) | exact Nat.le_trans (Below.size (by assumption)) (by simp)) _) | (refine Below.via' ?_ (by assumption)) | (refine Below.alloc ?_ (by first | omega | (simp; done) | (simp; omega) | exact Below.size (by assumption) | exact Nat.le_trans (Below.size (by assumption)) (by simp)) _) | (refine Below.via ?_ (by assumption) (by first | omega | (simp; done) | (simp; omega) | exact Below.size (by assumption) | exact Nat.le_trans (Below.size (by assumption)) (by simp)))))⟩
  · have hv := Lib.hid (gv_no (hok.trans (decide_eq_false h3)))
    have h3a : ((G.length : Int) == lv) = false := by rw [beq_eq_false_iff_ne]; exact h3
    have h3b : ((G.length : Int) != lv) = true := by show (!((G.length : Int) == lv)) = true; rw [h3a]; rfl
    replace h3 := Lib.hid h3
    replace hok := Lib.hid hok
    clear hSk
    replace hs := Lib.hid hs
    go_enter Tryz.func61, Tryz.ntmps61
    go_wp2
    go_quiet (fail)
    go_wp2
    go_ret
    exact ⟨ret_bool hv.out.symm, (by repeat (first | exact Below.refl _ _ | assumption | refine Below.drew ?_ | refine below_drewN ?_ _ | refine Below.alloc' ?_ _ | (refine Below.setCell ?_ (by first | omega | (simp; done) | (simp; omega) | exact Below.size (by assumption) | exact Nat.le_trans (Below.size (by assumption)) (by simp)) _) | (refine Below.via' ?_ (by assumption)) | (refine Below.alloc ?_ (by first | omega | (simp; done) | (simp; omega) | exact Below.size (by assumption) | exact Nat.le_trans (Below.size (by assumption)) (by simp)) _) | (refine Below.via ?_ (by assumption) (by first | omega | (simp; done) | (simp; omega) | exact Below.size (by assumption) | exact Nat.le_trans (Below.size (by assumption)) (by simp)))))⟩

end Go.Proofs.YtcmfoclalcmamabGreatDoor
