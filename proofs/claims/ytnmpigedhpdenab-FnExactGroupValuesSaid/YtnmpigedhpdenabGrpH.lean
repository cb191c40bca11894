/-
  The walks of chapter 2: is it a grouping? The program's and the model's.
-/
import Derived.Test.YtnmpigedhpdenabGrpG
namespace Go.Proofs.Ytnmpigedhpdenab
open Go.RowKit
set_option maxRecDepth 100000

theorem gvZ_f {S : List (ByteArray × Int)} {v : Int} {G : List Int} (h : okG S v G = false) : gvZ S v G = 0 := gvZ_no (gv_no h)
theorem gvZ_g {S : List (ByteArray × Int)} {v : Int} {G : List Int} (h : gsB G = false) : gvZ S v G = 0 := gvZ_no (by unfold gvB; rw [h, Bool.and_false])
theorem okG_in {S : List (ByteArray × Int)} {v : Int} {G : List Int} (h : inB v 0 (S.length - 1) = false) : okG S v G = false := by
  rw [inB_no] at h
  rcases (by omega : v < 0 ∨ (S.length : Int) ≤ v) with h' | h'
  · exact okG_neg h'
  · exact okG_far h'

set_option maxHeartbeats 4000000 in
theorem sGroups_no (x y : Option Addr) (c1 c2 : Nat) (S : List (ByteArray × Int)) (v : Int) (G : List Int) (w : World) (hs : schB S = true) (hm : S.length ≤ 1048576) (hS : Rd w x (vC S)) (hG : IIn w y G) (hno : okG S v G = true → inR G 0 7 = false) :
    Calls Try.prog 114 #[.slice x S.length c1, .agg #[.int .i64 v, .slice y G.length c2]] w fun e w' => e = .returned (.int .i64 (gvZ S v G)) ∧ Below w.heap.size w w' := by
  have hSh := Lib.hid hS
  have hGl := hG.1
  have hGh := Lib.hid hG.2.2
  clear hS hG
  replace hno := Lib.hid hno
  have hsl := schB_len hs
  have q1 : IntKind.i64.wrap ((S.length : Int) - 1) = S.length - 1 := IntWalk.i64_in _ (by omega)
  have HG := Lib.hid (hGh.out.alloc (.cells #[.int .i64 v, .slice y G.length c2] 58))
  cases h1 : inB v 0 (S.length - 1)
  · have hv := Lib.hid (gvZ_f (okG_in (G := G) h1))
    go_enter Try.func114, Try.ntmps114
    go_wp2
    go_quiet (first | (go_at_call 101; exact Calls.quiet_of_same ((l1In_any _ _ _ _).mono fun _ _ h => ⟨h.1, h.2.symm⟩)) | (go_at_call 87; exact Calls.quiet_of_same ((l1All_any _ _ _ _ _ _ hGl (HG.out.below (by exact (by repeat (first | exact Below.refl _ _ | assumption | refine Below.drew ?_ | refine below_drewN ?_ _ | refine Below.alloc' ?_ _ | (refine Below.setCell ?_ (by first | omega | (simp; done) | (simp; omega) | exact Below.size (by assumption) | exact Nat.le_trans (Below.size (by assumption)) (by simp)) _) | (refine Below.via' ?_ (by assumption)) | (refine Below.alloc ?_ (by first | omega | (simp; done) | (simp; omega) | exact Below.size (by assumption) | exact Nat.le_trans (Below.size (by assumption)) (by simp)) _) | (refine Below.via ?_ (by assumption) (by first | omega | (simp; done) | (simp; omega) | exact Below.size (by assumption) | exact Nat.le_trans (Below.size (by assumption)) (by simp)))))))).mono fun _ _ h => ⟨h.1, h.2.symm⟩)))
    go_wp2
    go_ret
    exact ⟨ret_int hv.out.symm, (by repeat (first | exact Below.refl _ _ | assumption | refine Below.drew ?_ | refine below_drewN ?_ _ | refine Below.alloc' ?_ _ | (refine Below.setCell ?_ (by first | omega | (simp; done) | (simp; omega) | exact Below.size (by assumption) | exact Nat.le_trans (Below.size (by assumption)) (by simp)) _) | (refine Below.via' ?_ (by assumption)) | (refine Below.alloc ?_ (by first | omega | (simp; done) | (simp; omega) | exact Below.size (by assumption) | exact Nat.le_trans (Below.size (by assumption)) (by simp)) _) | (refine Below.via ?_ (by assumption) (by first | omega | (simp; done) | (simp; omega) | exact Below.size (by assumption) | exact Nat.le_trans (Below.size (by assumption)) (by simp)))))⟩
  have h1b := (inB_iff _ _ _).1 h1
  obtain ⟨k, rfl⟩ := Int.eq_ofNat_of_zero_le (show 0 ≤ v by omega)
  have hk : k < S.length := by omega
  obtain ⟨bl, off, nm, lv, hx, hbl, hSk, hc0, hc1⟩ := hSh.out.var hk
  subst hx
  have hok := okG_at (G := G) hSk
  have hlv := schB_lv hs hSk
  have hk' : (k : Int) < (S.length : Int) := by omega
  have hk0 : (0 : Int) ≤ (k : Int) := by omega
  by_cases h3 : (G.length : Int) = lv
  · have hgl := okG_len hs hSk h3
    have hok2 := Lib.hid (hok.trans (decide_eq_true h3))
    have h3a : ((G.length : Int) == lv) = true := by rw [beq_iff_eq]; exact h3
    have h3b : ((G.length : Int) != lv) = false := by show (!((G.length : Int) == lv)) = false; rw [h3a]; rfl
    replace h3 := Lib.hid h3
    clear hok hSk h1b
    replace hs := Lib.hid hs
    have h4 := hno.out hok2.out
    have hv := Lib.hid (gvZ_g (S := S) (v := k) (gs_out h4))
    go_enter Try.func114, Try.ntmps114
    go_wp2
    go_quiet (first | (go_at_call 101; exact Calls.quiet_of_same ((l1In_any _ _ _ _).mono fun _ _ h => ⟨h.1, h.2.symm⟩)) | (go_at_call 87; exact Calls.quiet_of_same ((l1All_any _ _ _ _ _ _ hGl (HG.out.below (by exact (by repeat (first | exact Below.refl _ _ | assumption | refine Below.drew ?_ | refine below_drewN ?_ _ | refine Below.alloc' ?_ _ | (refine Below.setCell ?_ (by first | omega | (simp; done) | (simp; omega) | exact Below.size (by assumption) | exact Nat.le_trans (Below.size (by assumption)) (by simp)) _) | (refine Below.via' ?_ (by assumption)) | (refine Below.alloc ?_ (by first | omega | (simp; done) | (simp; omega) | exact Below.size (by assumption) | exact Nat.le_trans (Below.size (by assumption)) (by simp)) _) | (refine Below.via ?_ (by assumption) (by first | omega | (simp; done) | (simp; omega) | exact Below.size (by assumption) | exact Nat.le_trans (Below.size (by assumption)) (by simp)))))))).mono fun _ _ h => ⟨h.1, h.2.symm⟩)))
    go_wp2
    go_ret
    exact ⟨ret_int hv.out.symm, (by repeat (first | exact Below.refl _ _ | assumption | refine Below.drew ?_ | refine below_drewN ?_ _ | refine Below.alloc' ?_ _ | (refine Below.setCell ?_ (by first | omega | (simp; done) | (simp; omega) | exact Below.size (by assumption) | exact Nat.le_trans (Below.size (by assumption)) (by simp)) _) | (refine Below.via' ?_ (by assumption)) | (refine Below.alloc ?_ (by first | omega | (simp; done) | (simp; omega) | exact Below.size (by assumption) | exact Nat.le_trans (Below.size (by assumption)) (by simp)) _) | (refine Below.via ?_ (by assumption) (by first | omega | (simp; done) | (simp; omega) | exact Below.size (by assumption) | exact Nat.le_trans (Below.size (by assumption)) (by simp)))))⟩
  · have hv := Lib.hid (gvZ_f (hok.trans (decide_eq_false h3)))
    have h3a : ((G.length : Int) == lv) = false := by rw [beq_eq_false_iff_ne]; exact h3
    have h3b : ((G.length : Int) != lv) = true := by show (!((G.length : Int) == lv)) = true; rw [h3a]; rfl
    replace h3 := Lib.hid h3
    clear hok hSk h1b
    replace hs := Lib.hid hs
    go_enter Try.func114, Try.ntmps114
    go_wp2
    go_quiet (first | (go_at_call 101; exact Calls.quiet_of_same ((l1In_any _ _ _ _).mono fun _ _ h => ⟨h.1, h.2.symm⟩)) | (go_at_call 87; exact Calls.quiet_of_same ((l1All_any _ _ _ _ _ _ hGl (HG.out.below (by exact (by repeat (first | exact Below.refl _ _ | assumption | refine Below.drew ?_ | refine below_drewN ?_ _ | refine Below.alloc' ?_ _ | (refine Below.setCell ?_ (by first | omega | (simp; done) | (simp; omega) | exact Below.size (by assumption) | exact Nat.le_trans (Below.size (by assumption)) (by simp)) _) | (refine Below.via' ?_ (by assumption)) | (refine Below.alloc ?_ (by first | omega | (simp; done) | (simp; omega) | exact Below.size (by assumption) | exact Nat.le_trans (Below.size (by assumption)) (by simp)) _) | (refine Below.via ?_ (by assumption) (by first | omega | (simp; done) | (simp; omega) | exact Below.size (by assumption) | exact Nat.le_trans (Below.size (by assumption)) (by simp)))))))).mono fun _ _ h => ⟨h.1, h.2.symm⟩)))
    go_wp2
    go_ret
    exact ⟨ret_int hv.out.symm, (by repeat (first | exact Below.refl _ _ | assumption | refine Below.drew ?_ | refine below_drewN ?_ _ | refine Below.alloc' ?_ _ | (refine Below.setCell ?_ (by first | omega | (simp; done) | (simp; omega) | exact Below.size (by assumption) | exact Nat.le_trans (Below.size (by assumption)) (by simp)) _) | (refine Below.via' ?_ (by assumption)) | (refine Below.alloc ?_ (by first | omega | (simp; done) | (simp; omega) | exact Below.size (by assumption) | exact Nat.le_trans (Below.size (by assumption)) (by simp)) _) | (refine Below.via ?_ (by assumption) (by first | omega | (simp; done) | (simp; omega) | exact Below.size (by assumption) | exact Nat.le_trans (Below.size (by assumption)) (by simp)))))⟩
end Go.Proofs.Ytnmpigedhpdenab
