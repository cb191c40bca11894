/-
  The walks of chapter 2: is it a grouping? The program's and the model's.
-/
import Derived.Test.YtnmpigedhpdenabGrpP
import Derived.Test.YtnmpigedhpdenabGrc
namespace Go.Proofs.Ytnmpigedhpdenab
open Go.RowKit
set_option maxRecDepth 100000

theorem okG_len {S : List (ByteArray × Int)} (hs : schB S = true) {k : Nat} {nm : ByteArray} {lv : Int} {G : List Int} (h : S[k]? = some (nm, lv)) (e : (G.length : Int) = lv) : 2 ≤ G.length ∧ G.length ≤ 8 := by
  have := schB_lv hs h
  omega

set_option maxHeartbeats 2000000 in
theorem isGroupingFor_any (x y : Option Addr) (c1 c2 : Nat) (S : List (ByteArray × Int)) (v : Int) (G : List Int) (w : World) (hs : schB S = true) (hS : Rd w x (vC S)) (hG : IIn w y G) :
    Calls Try.prog 117 #[.slice x S.length c1, .agg #[.int .i64 v, .slice y G.length c2]] w fun e w' => e = .returned (.bool (gvB S v G)) ∧ Below w.heap.size w w' := by
  have hSh := Lib.hid hS
  have hGl := hG.1
  have hGh := Lib.hid hG.2.2
  clear hS hG
  by_cases h1 : v < 0
  · have hv := Lib.hid (gv_no (G := G) (okG_neg (S := S) (G := G) h1))
    have d1 : decide (v < 0) = true := decide_eq_true h1
    go_enter Try.func117, Try.ntmps117
    go_wp2
    go_quiet (fail)
    go_wp2
    go_ret
    exact ⟨ret_bool hv.out.symm, (by repeat (first | exact Below.refl _ _ | assumption | refine Below.drew ?_ | refine below_drewN ?_ _ | refine Below.alloc' ?_ _ | (refine Below.setCell ?_ (by first | omega | (simp; done) | (simp; omega) | exact Below.size (by assumption) | exact Nat.le_trans (Below.size (by assumption)) (by simp)) _) | (refine Below.via' ?_ (by assumption)) | (refine Below.alloc ?_ (by first | omega | (simp; done) | (simp; omega) | exact Below.size (by assumption) | exact Nat.le_trans (Below.size (by assumption)) (by simp)) _) | (refine Below.via ?_ (by assumption) (by first | omega | (simp; done) | (simp; omega) | exact Below.size (by assumption) | exact Nat.le_trans (Below.size (by assumption)) (by simp)))))⟩
  by_cases h2 : (S.length : Int) ≤ v
  · have hv := Lib.hid (gv_no (G := G) (okG_far (S := S) (G := G) h2))
    have d1 : decide (v < 0) = false := decide_eq_false h1
    have d2 : decide ((S.length : Int) ≤ v) = true := decide_eq_true h2
    have d3 : decide (v < (S.length : Int)) = false := decide_eq_false (by omega)
    go_enter Try.func117, Try.ntmps117
    go_wp2
    go_quiet (fail)
    go_wp2
    go_ret
    exact ⟨ret_bool hv.out.symm, (by repeat (first | exact Below.refl _ _ | assumption | refine Below.drew ?_ | refine below_drewN ?_ _ | refine Below.alloc' ?_ _ | (refine Below.setCell ?_ (by first | omega | (simp; done) | (simp; omega) | exact Below.size (by assumption) | exact Nat.le_trans (Below.size (by assumption)) (by simp)) _) | (refine Below.via' ?_ (by assumption)) | (refine Below.alloc ?_ (by first | omega | (simp; done) | (simp; omega) | exact Below.size (by assumption) | exact Nat.le_trans (Below.size (by assumption)) (by simp)) _) | (refine Below.via ?_ (by assumption) (by first | omega | (simp; done) | (simp; omega) | exact Below.size (by assumption) | exact Nat.le_trans (Below.size (by assumption)) (by simp)))))⟩
  obtain ⟨k, rfl⟩ := Int.eq_ofNat_of_zero_le (show 0 ≤ v by omega)
  have hk : k < S.length := by omega
  obtain ⟨bl, off, nm, lv, hx, hbl, hSk, hc0, hc1⟩ := hSh.out.var hk
  subst hx
  have hok := okG_at (G := G) hSk
  have hlv := schB_lv hs hSk
  have hk' : (k : Int) < (S.length : Int) := by omega
  have hk0 : (0 : Int) ≤ (k : Int) := by omega
  have d1 : decide ((k : Int) < 0) = false := decide_eq_false (by omega)
  have d2 : decide ((S.length : Int) ≤ (k : Int)) = false := decide_eq_false (by omega)
  have d3 : decide ((k : Int) < (S.length : Int)) = true := decide_eq_true (by omega)
  by_cases h3 : (G.length : Int) = lv
  · have hgl := okG_len hs hSk h3
    have hv := Lib.hid (gv_of (hok.trans (decide_eq_true h3)))
    have h3a : ((G.length : Int) == lv) = true := by rw [beq_iff_eq]; exact h3
    have h3b : ((G.length : Int) != lv) = false := by show (!((G.length : Int) == lv)) = false; rw [h3a]; rfl
    replace h3 := Lib.hid h3
    replace hok := Lib.hid hok
    clear hSk
    replace hs := Lib.hid hs
    go_enter Try.func117, Try.ntmps117
    go_wp2
    go_quiet (fail)
    have hgs := Lib.hid (cgr_gs (G := G) (by omega))
    go_wp2_with fail
    refine (countGroups_any _ _ G _ (by omega) (hGh.out.below (by exact (by repeat (first | exact Below.refl _ _ | assumption | refine Below.drew ?_ | refine below_drewN ?_ _ | refine Below.alloc' ?_ _ | (refine Below.setCell ?_ (by first | omega | (simp; done) | (simp; omega) | exact Below.size (by assumption) | exact Nat.le_trans (Below.size (by assumption)) (by simp)) _) | (refine Below.via' ?_ (by assumption)) | (refine Below.alloc ?_ (by first | omega | (simp; done) | (simp; omega) | exact Below.size (by assumption) | exact Nat.le_trans (Below.size (by assumption)) (by simp)) _) | (refine Below.via ?_ (by assumption) (by first | omega | (simp; done) | (simp; omega) | exact Below.size (by assumption) | exact Nat.le_trans (Below.size (by assumption)) (by simp)))))))).mono ?_
    rintro e w2 ⟨rfl, hb2⟩
    cases hcb : cgrB G
    · have hz := Lib.hid (show gvB S k G = false by rw [hv.out, ← hgs.out, hcb]; rfl)
      clear hcb
      go_wp2
      go_ret
      exact ⟨ret_bool hz.out.symm, (by repeat (first | exact Below.refl _ _ | assumption | refine Below.drew ?_ | refine below_drewN ?_ _ | refine Below.alloc' ?_ _ | (refine Below.setCell ?_ (by first | omega | (simp; done) | (simp; omega) | exact Below.size (by assumption) | exact Nat.le_trans (Below.size (by assumption)) (by simp)) _) | (refine Below.via' ?_ (by assumption)) | (refine Below.alloc ?_ (by first | omega | (simp; done) | (simp; omega) | exact Below.size (by assumption) | exact Nat.le_trans (Below.size (by assumption)) (by simp)) _) | (refine Below.via ?_ (by assumption) (by first | omega | (simp; done) | (simp; omega) | exact Below.size (by assumption) | exact Nat.le_trans (Below.size (by assumption)) (by simp)))))⟩
    · have hz := Lib.hid (show gvB S k G = decide (2 ≤ cgrN G) by rw [hv.out, ← hgs.out, hcb, Bool.true_and])
      clear hcb
      go_wp2
      go_ret
      exact ⟨ret_bool hz.out.symm, (by repeat (first | exact Below.refl _ _ | assumption | refine Below.drew ?_ | refine below_drewN ?_ _ | refine Below.alloc' ?_ _ | (refine Below.setCell ?_ (by first | omega | (simp; done) | (simp; omega) | exact Below.size (by assumption) | exact Nat.le_trans (Below.size (by assumption)) (by simp)) _) | (refine Below.via' ?_ (by assumption)) | (refine Below.alloc ?_ (by first | omega | (simp; done) | (simp; omega) | exact Below.size (by assumption) | exact Nat.le_trans (Below.size (by assumption)) (by simp)) _) | (refine Below.via ?_ (by assumption) (by first | omega | (simp; done) | (simp; omega) | exact Below.size (by assumption) | exact Nat.le_trans (Below.size (by assumption)) (by simp)))))⟩
  · have hv := Lib.hid (gv_no (hok.trans (decide_eq_false h3)))
    have h3a : ((G.length : Int) == lv) = false := by rw [beq_eq_false_iff_ne]; exact h3
    have h3b : ((G.length : Int) != lv) = true := by show (!((G.length : Int) == lv)) = true; rw [h3a]; rfl
    replace h3 := Lib.hid h3
    replace hok := Lib.hid hok
    clear hSk
    replace hs := Lib.hid hs
    go_enter Try.func117, Try.ntmps117
    go_wp2
    go_quiet (fail)
    go_wp2
    go_ret
    exact ⟨ret_bool hv.out.symm, (by repeat (first | exact Below.refl _ _ | assumption | refine Below.drew ?_ | refine below_drewN ?_ _ | refine Below.alloc' ?_ _ | (refine Below.setCell ?_ (by first | omega | (simp; done) | (simp; omega) | exact Below.size (by assumption) | exact Nat.le_trans (Below.size (by assumption)) (by simp)) _) | (refine Below.via' ?_ (by assumption)) | (refine Below.alloc ?_ (by first | omega | (simp; done) | (simp; omega) | exact Below.size (by assumption) | exact Nat.le_trans (Below.size (by assumption)) (by simp)) _) | (refine Below.via ?_ (by assumption) (by first | omega | (simp; done) | (simp; omega) | exact Below.size (by assumption) | exact Nat.le_trans (Below.size (by assumption)) (by simp)))))⟩

end Go.Proofs.Ytnmpigedhpdenab
