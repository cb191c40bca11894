/- The walk of the law of PartsOf: for every slice of integers, every integer, the program's PartsOf answers as the model's, its answer owns its memory, nothing that was there is written, and the arguments read as before. No condition. -/
import Derived.Test.YtnmpigedhpdenaaCbT
import Derived.Test.YtnmpigedhpdenaaCbL
namespace Go.Proofs.Ytnmpigedhpdenaa
open Go.ChangeShapes Go.WideShapes Go.ChangeAt Go.RowKit
set_option maxRecDepth 100000

set_option maxHeartbeats 16000000 in
theorem fnExactPartsOf_any (xZ : Option Addr) (cZ : Nat) (Z : List Int) (ii : Int) (w : World) (hlZ : Z.length ≤ 9223372036854775807) (hnZ : Hid (∀ n ∈ Z, IsI64 n)) (hZ : Hid (Rd w xZ (iC Z))) :
    Calls Try.prog 12 #[.slice xZ Z.length cZ, .int .i64 ii] w fun e w' => e = .returned (.bool true) ∧ Below w.heap.size w w' := by
  by_cases hbigZ : (1048576 : Int) < (Z.length : Int)
  · go_enter Try.func12, Try.ntmps12
    go_wp2
    go_ret
    exact ⟨rfl, (by repeat (first | exact Below.refl _ _ | assumption | refine Below.drew ?_ | refine below_drewN ?_ _ | refine Below.alloc' ?_ _ | (refine Below.setCell ?_ (by first | omega | (simp; done) | (simp; omega) | exact Below.size (by assumption) | exact Nat.le_trans (Below.size (by assumption)) (by simp)) _) | (refine Below.via' ?_ (by assumption)) | (refine Below.alloc ?_ (by first | omega | (simp; done) | (simp; omega) | exact Below.size (by assumption) | exact Nat.le_trans (Below.size (by assumption)) (by simp)) _) | (refine Below.via ?_ (by assumption) (by first | omega | (simp; done) | (simp; omega) | exact Below.size (by assumption) | exact Nat.le_trans (Below.size (by assumption)) (by simp)))))⟩
  have hmZ : Z.length ≤ 1048576 := by omega
  go_enter Try.func12, Try.ntmps12
  have hLl : (ppL Z ii).length ≤ 1048576 := (pp_tot Z ii).1
  have hLt : ((ppL Z ii).map List.length).sum ≤ 1048576 := (pp_tot Z ii).2
  obtain ⟨LL, hLL⟩ : ∃ LL, LL = ppL Z ii := ⟨_, rfl⟩
  rw [← hLL] at hLl hLt
  replace hLL := Lib.hid hLL
  go_wp2_with fail
  refine (toIntS_any xZ cZ Z _ hmZ (hZ.out.below (by exact (by repeat (first | exact Below.refl _ _ | assumption | refine Below.drew ?_ | refine below_drewN ?_ _ | refine Below.alloc' ?_ _ | (refine Below.setCell ?_ (by first | omega | (simp; done) | (simp; omega) | exact Below.size (by assumption) | exact Nat.le_trans (Below.size (by assumption)) (by simp)) _) | (refine Below.via' ?_ (by assumption)) | (refine Below.alloc ?_ (by first | omega | (simp; done) | (simp; omega) | exact Below.size (by assumption) | exact Nat.le_trans (Below.size (by assumption)) (by simp)) _) | (refine Below.via ?_ (by assumption) (by first | omega | (simp; done) | (simp; omega) | exact Below.size (by assumption) | exact Nat.le_trans (Below.size (by assumption)) (by simp)))))))).mono ?_
  rintro e w1 ⟨rfl, ho1, hb1⟩
  have hi1 : Hid (IIn w1 (some ⟨w.heap.size, 0, none⟩) Z) := ⟨hmZ, hnZ.out, Rd.of_own ho1⟩
  have hz1 := hb1.size; (try simp at hz1); (try (have hly1 := Nat.lt_of_succ_le hz1)); (try (have hlx1 := Nat.lt_of_succ_lt hly1)); (try (have hlw1 := Nat.lt_of_succ_lt hlx1)); (try (have hle1 := Nat.le_of_lt hly1))
  go_wp2_with fail
  refine (sPO_x _ _ Z ii _ (hi1.out.below (by exact (by repeat (first | exact Below.refl _ _ | assumption | refine Below.drew ?_ | refine below_drewN ?_ _ | refine Below.alloc' ?_ _ | (refine Below.setCell ?_ (by first | omega | (simp; done) | (simp; omega) | exact Below.size (by assumption) | exact Nat.le_trans (Below.size (by assumption)) (by simp)) _) | (refine Below.via' ?_ (by assumption)) | (refine Below.alloc ?_ (by first | omega | (simp; done) | (simp; omega) | exact Below.size (by assumption) | exact Nat.le_trans (Below.size (by assumption)) (by simp)) _) | (refine Below.via ?_ (by assumption) (by first | omega | (simp; done) | (simp; omega) | exact Below.size (by assumption) | exact Nat.le_trans (Below.size (by assumption)) (by simp)))))))).mono ?_
  rintro e w2 ⟨u2, T2, rfl, hM2, ho2, hb2⟩
  have hz2 := hb2.size; (try simp at hz2); (try (have hly2 := Nat.lt_of_succ_le hz2)); (try (have hlx2 := Nat.lt_of_succ_lt hly2)); (try (have hlw2 := Nat.lt_of_succ_lt hlx2)); (try (have hle2 := Nat.le_of_lt hly2))
  rw [← hLL.out] at hM2
  have tt2 : tot T2 ≤ 1048576 := by rw [tot_eMC, hM2]; exact hLt
  have tl2 : T2.length ≤ 1048576 := by rw [← eM_len, hM2]; exact hLl
  have hM2 := Lib.hid hM2
  have hWr := Lib.hid ho2.owE
  go_wp2_with fail
  refine (toIntS_any xZ cZ Z _ hmZ (hZ.out.below (by exact (by repeat (first | exact Below.refl _ _ | assumption | refine Below.drew ?_ | refine below_drewN ?_ _ | refine Below.alloc' ?_ _ | (refine Below.setCell ?_ (by first | omega | (simp; done) | (simp; omega) | exact Below.size (by assumption) | exact Nat.le_trans (Below.size (by assumption)) (by simp)) _) | (refine Below.via' ?_ (by assumption)) | (refine Below.alloc ?_ (by first | omega | (simp; done) | (simp; omega) | exact Below.size (by assumption) | exact Nat.le_trans (Below.size (by assumption)) (by simp)) _) | (refine Below.via ?_ (by assumption) (by first | omega | (simp; done) | (simp; omega) | exact Below.size (by assumption) | exact Nat.le_trans (Below.size (by assumption)) (by simp)))))))).mono ?_
  rintro e w3 ⟨rfl, ho3, hb3⟩
  have hi3 : Hid (IIn w3 (some ⟨w2.heap.size, 0, none⟩) Z) := ⟨hmZ, hnZ.out, Rd.of_own ho3⟩
  have hz3 := hb3.size; (try simp at hz3); (try (have hly3 := Nat.lt_of_succ_le hz3)); (try (have hlx3 := Nat.lt_of_succ_lt hly3)); (try (have hlw3 := Nat.lt_of_succ_lt hlx3)); (try (have hle3 := Nat.le_of_lt hly3))
  go_wp2_with fail
  refine (iPO_x _ _ Z ii _ (hi3.out.below (by exact (by repeat (first | exact Below.refl _ _ | assumption | refine Below.drew ?_ | refine below_drewN ?_ _ | refine Below.alloc' ?_ _ | (refine Below.setCell ?_ (by first | omega | (simp; done) | (simp; omega) | exact Below.size (by assumption) | exact Nat.le_trans (Below.size (by assumption)) (by simp)) _) | (refine Below.via' ?_ (by assumption)) | (refine Below.alloc ?_ (by first | omega | (simp; done) | (simp; omega) | exact Below.size (by assumption) | exact Nat.le_trans (Below.size (by assumption)) (by simp)) _) | (refine Below.via ?_ (by assumption) (by first | omega | (simp; done) | (simp; omega) | exact Below.size (by assumption) | exact Nat.le_trans (Below.size (by assumption)) (by simp)))))))).mono ?_
  rintro e w4 ⟨u4, T4, rfl, hM4, ho4, hb4⟩
  rw [← hLL.out] at hM4
  have tt4 : tot T4 ≤ 1048576 := by rw [tot_eMC, hM4]; exact hLt
  have tl4 : T4.length ≤ 1048576 := by rw [← eM_len, hM4]; exact hLl
  have hM4 := Lib.hid hM4
  have hRr := Lib.hid ho4.owE
  have hz4 := hb4.size; (try simp at hz4); (try (have hly4 := Nat.lt_of_succ_le hz4)); (try (have hlx4 := Nat.lt_of_succ_lt hly4)); (try (have hlw4 := Nat.lt_of_succ_lt hlx4)); (try (have hle4 := Nat.le_of_lt hly4))
  obtain ⟨xW, nW, rfl, -, -⟩ := hWr.out.form
  obtain ⟨xR, nR, rfl, -, -⟩ := hRr.out.form
  have hW4 := Lib.hid (hWr.out.below (show Below w2.heap.size w2 w4 from (by repeat (first | exact Below.refl _ _ | assumption | refine Below.drew ?_ | refine below_drewN ?_ _ | refine Below.alloc' ?_ _ | (refine Below.setCell ?_ (by first | omega | (simp; done) | (simp; omega) | exact Below.size (by assumption) | exact Nat.le_trans (Below.size (by assumption)) (by simp)) _) | (refine Below.via' ?_ (by assumption)) | (refine Below.alloc ?_ (by first | omega | (simp; done) | (simp; omega) | exact Below.size (by assumption) | exact Nat.le_trans (Below.size (by assumption)) (by simp)) _) | (refine Below.via ?_ (by assumption) (by first | omega | (simp; done) | (simp; omega) | exact Below.size (by assumption) | exact Nat.le_trans (Below.size (by assumption)) (by simp)))))))
  go_wp2_with fail
  refine (eqIntSS_any _ _ _ _ T4 T2 _ (by omega) (fun q hq => by have := tot_mem hq; omega) (hM2.out.trans hM4.out.symm) hRr.out.1.rd (fun q hq => (hRr.out.2.1.1 q hq).rd) hW4.out.1.rd (fun q hq => (hW4.out.2.1.1 q hq).rd)).mono ?_
  rintro e w5 ⟨rfl, hb5⟩
  go_wp2_with fail
  refine (toIntS_any xZ cZ Z _ hmZ (hZ.out.below (by exact (by repeat (first | exact Below.refl _ _ | assumption | refine Below.drew ?_ | refine below_drewN ?_ _ | refine Below.alloc' ?_ _ | (refine Below.setCell ?_ (by first | omega | (simp; done) | (simp; omega) | exact Below.size (by assumption) | exact Nat.le_trans (Below.size (by assumption)) (by simp)) _) | (refine Below.via' ?_ (by assumption)) | (refine Below.alloc ?_ (by first | omega | (simp; done) | (simp; omega) | exact Below.size (by assumption) | exact Nat.le_trans (Below.size (by assumption)) (by simp)) _) | (refine Below.via ?_ (by assumption) (by first | omega | (simp; done) | (simp; omega) | exact Below.size (by assumption) | exact Nat.le_trans (Below.size (by assumption)) (by simp)))))))).mono ?_
  rintro e w6 ⟨rfl, ho6, hb6⟩
  have hi6 : Hid (IIn w6 (some ⟨w5.heap.size, 0, none⟩) Z) := ⟨hmZ, hnZ.out, Rd.of_own ho6⟩
  have hz6 := hb6.size; (try simp at hz6); (try (have hly6 := Nat.lt_of_succ_le hz6)); (try (have hlx6 := Nat.lt_of_succ_lt hly6)); (try (have hlw6 := Nat.lt_of_succ_lt hlx6)); (try (have hle6 := Nat.le_of_lt hly6))
  go_wp2_with fail
  refine (eqIntS_any _ _ _ _ Z _ hlZ (hi3.out.2.2.below (by exact (by repeat (first | exact Below.refl _ _ | assumption | refine Below.drew ?_ | refine below_drewN ?_ _ | refine Below.alloc' ?_ _ | (refine Below.setCell ?_ (by first | omega | (simp; done) | (simp; omega) | exact Below.size (by assumption) | exact Nat.le_trans (Below.size (by assumption)) (by simp)) _) | (refine Below.via' ?_ (by assumption)) | (refine Below.alloc ?_ (by first | omega | (simp; done) | (simp; omega) | exact Below.size (by assumption) | exact Nat.le_trans (Below.size (by assumption)) (by simp)) _) | (refine Below.via ?_ (by assumption) (by first | omega | (simp; done) | (simp; omega) | exact Below.size (by assumption) | exact Nat.le_trans (Below.size (by assumption)) (by simp))))))) hi6.out.2.2).mono ?_
  rintro e w7 ⟨rfl, hb7⟩
  have cc0 : w.heap.size ≤ w2.heap.size := (show Below w.heap.size w w2 from (by repeat (first | exact Below.refl _ _ | assumption | refine Below.drew ?_ | refine below_drewN ?_ _ | refine Below.alloc' ?_ _ | (refine Below.setCell ?_ (by first | omega | (simp; done) | (simp; omega) | exact Below.size (by assumption) | exact Nat.le_trans (Below.size (by assumption)) (by simp)) _) | (refine Below.via' ?_ (by assumption)) | (refine Below.alloc ?_ (by first | omega | (simp; done) | (simp; omega) | exact Below.size (by assumption) | exact Nat.le_trans (Below.size (by assumption)) (by simp)) _) | (refine Below.via ?_ (by assumption) (by first | omega | (simp; done) | (simp; omega) | exact Below.size (by assumption) | exact Nat.le_trans (Below.size (by assumption)) (by simp)))))).size
  have cc1 : w2.heap.size ≤ w3.heap.size := (show Below w2.heap.size w2 w3 from (by repeat (first | exact Below.refl _ _ | assumption | refine Below.drew ?_ | refine below_drewN ?_ _ | refine Below.alloc' ?_ _ | (refine Below.setCell ?_ (by first | omega | (simp; done) | (simp; omega) | exact Below.size (by assumption) | exact Nat.le_trans (Below.size (by assumption)) (by simp)) _) | (refine Below.via' ?_ (by assumption)) | (refine Below.alloc ?_ (by first | omega | (simp; done) | (simp; omega) | exact Below.size (by assumption) | exact Nat.le_trans (Below.size (by assumption)) (by simp)) _) | (refine Below.via ?_ (by assumption) (by first | omega | (simp; done) | (simp; omega) | exact Below.size (by assumption) | exact Nat.le_trans (Below.size (by assumption)) (by simp)))))).size
  have cc2 : w3.heap.size ≤ w4.heap.size := (show Below w3.heap.size w3 w4 from (by repeat (first | exact Below.refl _ _ | assumption | refine Below.drew ?_ | refine below_drewN ?_ _ | refine Below.alloc' ?_ _ | (refine Below.setCell ?_ (by first | omega | (simp; done) | (simp; omega) | exact Below.size (by assumption) | exact Nat.le_trans (Below.size (by assumption)) (by simp)) _) | (refine Below.via' ?_ (by assumption)) | (refine Below.alloc ?_ (by first | omega | (simp; done) | (simp; omega) | exact Below.size (by assumption) | exact Nat.le_trans (Below.size (by assumption)) (by simp)) _) | (refine Below.via ?_ (by assumption) (by first | omega | (simp; done) | (simp; omega) | exact Below.size (by assumption) | exact Nat.le_trans (Below.size (by assumption)) (by simp)))))).size
  have cc3 : w4.heap.size ≤ w7.heap.size := (show Below w4.heap.size w4 w7 from (by repeat (first | exact Below.refl _ _ | assumption | refine Below.drew ?_ | refine below_drewN ?_ _ | refine Below.alloc' ?_ _ | (refine Below.setCell ?_ (by first | omega | (simp; done) | (simp; omega) | exact Below.size (by assumption) | exact Nat.le_trans (Below.size (by assumption)) (by simp)) _) | (refine Below.via' ?_ (by assumption)) | (refine Below.alloc ?_ (by first | omega | (simp; done) | (simp; omega) | exact Below.size (by assumption) | exact Nat.le_trans (Below.size (by assumption)) (by simp)) _) | (refine Below.via ?_ (by assumption) (by first | omega | (simp; done) | (simp; omega) | exact Below.size (by assumption) | exact Nat.le_trans (Below.size (by assumption)) (by simp)))))).size
  have XZ_7 := (OwR.of ho3).below (show Below w3.heap.size w3 w7 from (by repeat (first | exact Below.refl _ _ | assumption | refine Below.drew ?_ | refine below_drewN ?_ _ | refine Below.alloc' ?_ _ | (refine Below.setCell ?_ (by first | omega | (simp; done) | (simp; omega) | exact Below.size (by assumption) | exact Nat.le_trans (Below.size (by assumption)) (by simp)) _) | (refine Below.via' ?_ (by assumption)) | (refine Below.alloc ?_ (by first | omega | (simp; done) | (simp; omega) | exact Below.size (by assumption) | exact Nat.le_trans (Below.size (by assumption)) (by simp)) _) | (refine Below.via ?_ (by assumption) (by first | omega | (simp; done) | (simp; omega) | exact Below.size (by assumption) | exact Nat.le_trans (Below.size (by assumption)) (by simp))))))
  have R_7 := hRr.out.below (show Below w4.heap.size w4 w7 from (by repeat (first | exact Below.refl _ _ | assumption | refine Below.drew ?_ | refine below_drewN ?_ _ | refine Below.alloc' ?_ _ | (refine Below.setCell ?_ (by first | omega | (simp; done) | (simp; omega) | exact Below.size (by assumption) | exact Nat.le_trans (Below.size (by assumption)) (by simp)) _) | (refine Below.via' ?_ (by assumption)) | (refine Below.alloc ?_ (by first | omega | (simp; done) | (simp; omega) | exact Below.size (by assumption) | exact Nat.le_trans (Below.size (by assumption)) (by simp)) _) | (refine Below.via ?_ (by assumption) (by first | omega | (simp; done) | (simp; omega) | exact Below.size (by assumption) | exact Nat.le_trans (Below.size (by assumption)) (by simp))))))
  have W_7 := hW4.out.below (show Below w4.heap.size w4 w7 from (by repeat (first | exact Below.refl _ _ | assumption | refine Below.drew ?_ | refine below_drewN ?_ _ | refine Below.alloc' ?_ _ | (refine Below.setCell ?_ (by first | omega | (simp; done) | (simp; omega) | exact Below.size (by assumption) | exact Nat.le_trans (Below.size (by assumption)) (by simp)) _) | (refine Below.via' ?_ (by assumption)) | (refine Below.alloc ?_ (by first | omega | (simp; done) | (simp; omega) | exact Below.size (by assumption) | exact Nat.le_trans (Below.size (by assumption)) (by simp)) _) | (refine Below.via ?_ (by assumption) (by first | omega | (simp; done) | (simp; omega) | exact Below.size (by assumption) | exact Nat.le_trans (Below.size (by assumption)) (by simp))))))
  have B0 : Below w.heap.size w w7 := (by repeat (first | exact Below.refl _ _ | assumption | refine Below.drew ?_ | refine below_drewN ?_ _ | refine Below.alloc' ?_ _ | (refine Below.setCell ?_ (by first | omega | (simp; done) | (simp; omega) | exact Below.size (by assumption) | exact Nat.le_trans (Below.size (by assumption)) (by simp)) _) | (refine Below.via' ?_ (by assumption)) | (refine Below.alloc ?_ (by first | omega | (simp; done) | (simp; omega) | exact Below.size (by assumption) | exact Nat.le_trans (Below.size (by assumption)) (by simp)) _) | (refine Below.via ?_ (by assumption) (by first | omega | (simp; done) | (simp; omega) | exact Below.size (by assumption) | exact Nat.le_trans (Below.size (by assumption)) (by simp)))))
  go_wp2_with fail
  refine (markIntS_any _ _ _ _ _ _ _ (by omega) (by omega) hmZ XZ_7.1).mono ?_
  rintro e w8 ⟨rfl, -, hg8⟩
  have B8 := Below.mark B0 XZ_7 hg8 (by omega)
  have of8 := Off.of_grown hg8 (fun k hk => XZ_7.2 k hk)
  have R_8 := R_7.off of8 (by omega)
  have W_8 := W_7.off of8 (by omega)
  have hkk : ¬ (1 + (Z.length : Int) < 0) := by omega
  go_wp2_with fail
  refine (eqIntSS_any _ _ _ _ T4 T2 _ (by omega) (fun q hq => by have := tot_mem hq; omega) (hM2.out.trans hM4.out.symm) R_8.1.rd (fun q hq => (R_8.2.1.1 q hq).rd) W_8.1.rd (fun q hq => (W_8.2.1.1 q hq).rd)).mono ?_
  rintro e w9 ⟨rfl, hb9⟩
  have R_9 := R_8.below (show Below w8.heap.size w8 w9 from (by repeat (first | exact Below.refl _ _ | assumption | refine Below.drew ?_ | refine below_drewN ?_ _ | refine Below.alloc' ?_ _ | (refine Below.setCell ?_ (by first | omega | (simp; done) | (simp; omega) | exact Below.size (by assumption) | exact Nat.le_trans (Below.size (by assumption)) (by simp)) _) | (refine Below.via' ?_ (by assumption)) | (refine Below.alloc ?_ (by first | omega | (simp; done) | (simp; omega) | exact Below.size (by assumption) | exact Nat.le_trans (Below.size (by assumption)) (by simp)) _) | (refine Below.via ?_ (by assumption) (by first | omega | (simp; done) | (simp; omega) | exact Below.size (by assumption) | exact Nat.le_trans (Below.size (by assumption)) (by simp))))))
  have W_9 := W_8.below (show Below w8.heap.size w8 w9 from (by repeat (first | exact Below.refl _ _ | assumption | refine Below.drew ?_ | refine below_drewN ?_ _ | refine Below.alloc' ?_ _ | (refine Below.setCell ?_ (by first | omega | (simp; done) | (simp; omega) | exact Below.size (by assumption) | exact Nat.le_trans (Below.size (by assumption)) (by simp)) _) | (refine Below.via' ?_ (by assumption)) | (refine Below.alloc ?_ (by first | omega | (simp; done) | (simp; omega) | exact Below.size (by assumption) | exact Nat.le_trans (Below.size (by assumption)) (by simp)) _) | (refine Below.via ?_ (by assumption) (by first | omega | (simp; done) | (simp; omega) | exact Below.size (by assumption) | exact Nat.le_trans (Below.size (by assumption)) (by simp))))))
  have B9 : Below w.heap.size w w9 := Below.via' B8 hb9
  go_wp2_with fail
  refine (markIntSS_any _ _ _ _ _ T4 _ (by omega) (by omega) tl4 tt4 R_9).mono ?_
  rintro e w10 ⟨rfl, hmk10, hg10⟩
  have B10 := Below.off B9 hg10 (by omega)
  have W_10 := W_9.off hg10 (by omega)
  have kq10 := hg10.size
  have hkq : ¬ (1 + (tot T4 : Int) < 0) := by omega
  have hk10 := Lib.hid hmk10
  have W10 := Lib.hid W_10
  clear hmk10 W_10
  go_wp2_with fail
  refine (heldIntSS_any _ _ _ T4 _ (by omega) (by omega) tl4 tt4 (by have h0 := hk10.out.1; rw [mE_len] at h0; exact h0.rd) (fun q hq => (hk10.out.2.1.1 q hq).rd)).mono ?_
  rintro e w11 ⟨rfl, hb11⟩
  have B11 : Below w.heap.size w w11 := Below.via' B10 hb11
  have W11 := Lib.hid (W10.out.below hb11)
  have hk11 := Lib.hid (hk10.out.below hb11)
  go_wp2_with fail
  refine (toIntS_any xZ cZ Z _ hmZ (hZ.out.below (by exact (by repeat (first | exact Below.refl _ _ | assumption | refine Below.drew ?_ | refine below_drewN ?_ _ | refine Below.alloc' ?_ _ | (refine Below.setCell ?_ (by first | omega | (simp; done) | (simp; omega) | exact Below.size (by assumption) | exact Nat.le_trans (Below.size (by assumption)) (by simp)) _) | (refine Below.via' ?_ (by assumption)) | (refine Below.alloc ?_ (by first | omega | (simp; done) | (simp; omega) | exact Below.size (by assumption) | exact Nat.le_trans (Below.size (by assumption)) (by simp)) _) | (refine Below.via ?_ (by assumption) (by first | omega | (simp; done) | (simp; omega) | exact Below.size (by assumption) | exact Nat.le_trans (Below.size (by assumption)) (by simp)))))))).mono ?_
  rintro e w12 ⟨rfl, ho12, hb12⟩
  have hi12 : Hid (IIn w12 (some ⟨w11.heap.size, 0, none⟩) Z) := ⟨hmZ, hnZ.out, Rd.of_own ho12⟩
  have hz12 := hb12.size; (try simp at hz12); (try (have hly12 := Nat.lt_of_succ_le hz12)); (try (have hlx12 := Nat.lt_of_succ_lt hly12)); (try (have hlw12 := Nat.lt_of_succ_lt hlx12)); (try (have hle12 := Nat.le_of_lt hly12))
  go_wp2_with fail
  refine (iPO_x _ _ Z ii _ (hi12.out.below (by exact (by repeat (first | exact Below.refl _ _ | assumption | refine Below.drew ?_ | refine below_drewN ?_ _ | refine Below.alloc' ?_ _ | (refine Below.setCell ?_ (by first | omega | (simp; done) | (simp; omega) | exact Below.size (by assumption) | exact Nat.le_trans (Below.size (by assumption)) (by simp)) _) | (refine Below.via' ?_ (by assumption)) | (refine Below.alloc ?_ (by first | omega | (simp; done) | (simp; omega) | exact Below.size (by assumption) | exact Nat.le_trans (Below.size (by assumption)) (by simp)) _) | (refine Below.via ?_ (by assumption) (by first | omega | (simp; done) | (simp; omega) | exact Below.size (by assumption) | exact Nat.le_trans (Below.size (by assumption)) (by simp)))))))).mono ?_
  rintro e w13 ⟨u13, T13, rfl, hM13, ho13, hb13⟩
  have hz13 := hb13.size; (try simp at hz13); (try (have hly13 := Nat.lt_of_succ_le hz13)); (try (have hlx13 := Nat.lt_of_succ_lt hly13)); (try (have hlw13 := Nat.lt_of_succ_lt hlx13)); (try (have hle13 := Nat.le_of_lt hly13))
  rw [← hLL.out] at hM13
  have tt13 : tot T13 ≤ 1048576 := by rw [tot_eMC, hM13]; exact hLt
  have tl13 : T13.length ≤ 1048576 := by rw [← eM_len, hM13]; exact hLl
  have hM13 := Lib.hid hM13
  have H := Lib.hid ho13.owE
  obtain ⟨xH, nH, rfl, -, -⟩ := H.out.form
  have W13 := Lib.hid (W11.out.below (show Below w11.heap.size w11 w13 from (by repeat (first | exact Below.refl _ _ | assumption | refine Below.drew ?_ | refine below_drewN ?_ _ | refine Below.alloc' ?_ _ | (refine Below.setCell ?_ (by first | omega | (simp; done) | (simp; omega) | exact Below.size (by assumption) | exact Nat.le_trans (Below.size (by assumption)) (by simp)) _) | (refine Below.via' ?_ (by assumption)) | (refine Below.alloc ?_ (by first | omega | (simp; done) | (simp; omega) | exact Below.size (by assumption) | exact Nat.le_trans (Below.size (by assumption)) (by simp)) _) | (refine Below.via ?_ (by assumption) (by first | omega | (simp; done) | (simp; omega) | exact Below.size (by assumption) | exact Nat.le_trans (Below.size (by assumption)) (by simp)))))))
  have hk13 := Lib.hid (hk11.out.below (show Below w11.heap.size w11 w13 from (by repeat (first | exact Below.refl _ _ | assumption | refine Below.drew ?_ | refine below_drewN ?_ _ | refine Below.alloc' ?_ _ | (refine Below.setCell ?_ (by first | omega | (simp; done) | (simp; omega) | exact Below.size (by assumption) | exact Nat.le_trans (Below.size (by assumption)) (by simp)) _) | (refine Below.via' ?_ (by assumption)) | (refine Below.alloc ?_ (by first | omega | (simp; done) | (simp; omega) | exact Below.size (by assumption) | exact Nat.le_trans (Below.size (by assumption)) (by simp)) _) | (refine Below.via ?_ (by assumption) (by first | omega | (simp; done) | (simp; omega) | exact Below.size (by assumption) | exact Nat.le_trans (Below.size (by assumption)) (by simp)))))))
  go_wp2_with fail
  refine (eqIntSS_any _ _ _ _ T13 T2 _ (by omega) (fun q hq => by have := tot_mem hq; omega) (hM2.out.trans hM13.out.symm) H.out.1.rd (fun q hq => (H.out.2.1.1 q hq).rd) W13.out.1.rd (fun q hq => (W13.out.2.1.1 q hq).rd)).mono ?_
  rintro e w14 ⟨rfl, hb14⟩
  have hk14 := Lib.hid (hk13.out.below hb14)
  go_wp2_with fail
  refine (heldIntSS_any _ _ _ T4 _ (by omega) (by omega) tl4 tt4 (by have h0 := hk14.out.1; rw [mE_len] at h0; exact h0.rd) (fun q hq => (hk14.out.2.1.1 q hq).rd)).mono ?_
  rintro e w15 ⟨rfl, hb15⟩
  go_wp2
  go_ret
  exact ⟨rfl, (by repeat (first | exact Below.refl _ _ | assumption | refine Below.drew ?_ | refine below_drewN ?_ _ | refine Below.alloc' ?_ _ | (refine Below.setCell ?_ (by first | omega | (simp; done) | (simp; omega) | exact Below.size (by assumption) | exact Nat.le_trans (Below.size (by assumption)) (by simp)) _) | (refine Below.via' ?_ (by assumption)) | (refine Below.alloc ?_ (by first | omega | (simp; done) | (simp; omega) | exact Below.size (by assumption) | exact Nat.le_trans (Below.size (by assumption)) (by simp)) _) | (refine Below.via ?_ (by assumption) (by first | omega | (simp; done) | (simp; omega) | exact Below.size (by assumption) | exact Nat.le_trans (Below.size (by assumption)) (by simp)))))⟩

end Go.Proofs.Ytnmpigedhpdenaa
