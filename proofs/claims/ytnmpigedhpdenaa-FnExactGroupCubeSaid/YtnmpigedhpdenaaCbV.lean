/-
  The walks of chapter 10: valid cubes, the first break; the program's and the model's.
-/
import Derived.Test.YtnmpigedhpdenaaCbU
import Derived.Deep.RegionHeld
namespace Go.Proofs.Ytnmpigedhpdenaa
open Go.RowKit
set_option maxRecDepth 100000

set_option maxHeartbeats 4000000 in
theorem cbFirst_any (x y : Option Addr) (c d : Nat) (Z C : List Int) (w : World) (hf : cfB Z C = true) (h : CIn w x y Z C) :
    Calls Try.prog 59 #[.agg #[.slice x Z.length c, .slice y C.length d]] w fun e w' => e = .returned (.int .i64 (fbN Z C)) ∧ Below w.heap.size w w' := by
  have hh := Lib.hid h
  have hfh := Lib.hid hf
  have hq0 := Lib.hid (CQ.new w x Z.length c y C.length d 27)
  obtain ⟨qa, qb, qc⟩ := hq0.out
  have hB0 : Below w.heap.size w (w.alloc (.cells #[.slice x Z.length c, .slice y C.length d] 27)) := (by repeat (first | exact Below.refl _ _ | assumption | refine Below.drew ?_ | refine below_drewN ?_ _ | refine Below.alloc' ?_ _ | (refine Below.setCell ?_ (by first | omega | (simp; done) | (simp; omega) | exact Below.size (by assumption) | exact Nat.le_trans (Below.size (by assumption)) (by simp)) _) | (refine Below.via' ?_ (by assumption)) | (refine Below.alloc ?_ (by first | omega | (simp; done) | (simp; omega) | exact Below.size (by assumption) | exact Nat.le_trans (Below.size (by assumption)) (by simp)) _) | (refine Below.via ?_ (by assumption) (by first | omega | (simp; done) | (simp; omega) | exact Below.size (by assumption) | exact Nat.le_trans (Below.size (by assumption)) (by simp)))))
  have hlen := cf_len hf
  clear h hf
  go_enter Try.func59, Try.ntmps59
  go_wp2
  clear qa qb qc
  go_loopw [7] (fun q wr => ∃ i : Nat, i ≤ C.length ∧ q = .int .i64 i ∧ Hid (∀ j, j < i → brB Z C j = false) ∧ Hid (CQ wr w.heap.size x Z.length c y C.length d) ∧ Below w.heap.size w wr) (fun q _ => C.length - (intOf q).toNat)
  case atStart => exact ⟨0, by omega, by go_num, (fun j hj => absurd hj (by omega)), hq0.out, hB0⟩
  case round =>
    clear hq0 hB0
    obtain ⟨i, hi, rfl, hall, hq, hB⟩ := hrel
    obtain ⟨qa, qb, qc⟩ := hq.out
    by_cases hlt : i < C.length
    · have hlt' : (i : Int) < (C.length : Int) := by omega
      go_wp2_with fail
      refine (cbBroken_any _ _ _ _ Z C i _ hfh.out hlt (hh.out.below hB)).mono ?_
      rintro e w2 ⟨rfl, hb2⟩
      have hq2 := Lib.hid (hq.out.below hb2)
      have hB2 : Below w.heap.size w w2 := Below.via' hB hb2
      clear qa qb qc hb2
      cases hbr : brB Z C i
      · have hbh := Lib.hid hbr
        clear hbr
        go_wp2
        go_roundw
        case rel =>
          refine ⟨i + 1, by omega, by go_num, fun j hj => ?_, hq2, hB2⟩
          rcases Nat.lt_or_ge j i with hj2 | hj2
          · exact hall.out j hj2
          · obtain rfl : j = i := by omega
            exact hbh.out
        case measure => simp [intOf]; omega
      · have hv := Lib.hid (fbN_hit hlt hbr hall.out)
        clear hbr
        go_wp2
        go_ret
        exact ⟨ret_int (by rw [hv.out]), hB2⟩
    · have hij : i = C.length := by omega
      subst hij
      have hv := Lib.hid (fbN_miss hall.out)
      go_wp2
      go_ret
      exact ⟨ret_int (by rw [hv.out]), hB⟩

set_option maxHeartbeats 4000000 in
theorem iCu_any (x y : Option Addr) (c d : Nat) (Z C : List Int) (w : World) (h : CIn w x y Z C) :
    Calls Try.prog 17 #[.agg #[.slice x Z.length c, .slice y C.length d]] w fun e w' => e = .returned (.bool (cgB Z C)) ∧ Below w.heap.size w w' := by
  have hh := Lib.hid h
  have hq := CQ.new w x Z.length c y C.length d 27
  obtain ⟨qa, qb, qc⟩ := hq
  have hB0 : Below w.heap.size w (w.alloc (.cells #[.slice x Z.length c, .slice y C.length d] 27)) := (by repeat (first | exact Below.refl _ _ | assumption | refine Below.drew ?_ | refine below_drewN ?_ _ | refine Below.alloc' ?_ _ | (refine Below.setCell ?_ (by first | omega | (simp; done) | (simp; omega) | exact Below.size (by assumption) | exact Nat.le_trans (Below.size (by assumption)) (by simp)) _) | (refine Below.via' ?_ (by assumption)) | (refine Below.alloc ?_ (by first | omega | (simp; done) | (simp; omega) | exact Below.size (by assumption) | exact Nat.le_trans (Below.size (by assumption)) (by simp)) _) | (refine Below.via ?_ (by assumption) (by first | omega | (simp; done) | (simp; omega) | exact Below.size (by assumption) | exact Nat.le_trans (Below.size (by assumption)) (by simp)))))
  obtain ⟨w0, hw0⟩ : ∃ w0, w.alloc (.cells #[.slice x Z.length c, .slice y C.length d] 27) = w0 := ⟨_, rfl⟩
  rw [hw0] at qa qb qc hB0
  clear h
  cases hf : cfB Z C
  · have hv := Lib.hid (cg_no1 hf)
    have hfh := Lib.hid hf
    clear hf
    go_enter Try.func17, Try.ntmps17
    go_wp2_with fail
    try rw [hw0]
    replace hw0 := Lib.hid hw0
    first
      | go_region_with (go_at_call 56; refine (hasForm_any _ _ _ _ Z C _ (hh.out.below (by exact (by repeat (first | exact Below.refl _ _ | assumption | refine Below.drew ?_ | refine below_drewN ?_ _ | refine Below.alloc' ?_ _ | (refine Below.setCell ?_ (by first | omega | (simp; done) | (simp; omega) | exact Below.size (by assumption) | exact Nat.le_trans (Below.size (by assumption)) (by simp)) _) | (refine Below.via' ?_ (by assumption)) | (refine Below.alloc ?_ (by first | omega | (simp; done) | (simp; omega) | exact Below.size (by assumption) | exact Nat.le_trans (Below.size (by assumption)) (by simp)) _) | (refine Below.via ?_ (by assumption) (by first | omega | (simp; done) | (simp; omega) | exact Below.size (by assumption) | exact Nat.le_trans (Below.size (by assumption)) (by simp)))))))).mono ?_; rintro e w1 ⟨rfl, hb1⟩; rw [hfh.out])
      | fail
    all_goals
      go_wp2
      go_ret
      exact ⟨ret_bool hv.out.symm, (by repeat (first | exact Below.refl _ _ | assumption | refine Below.drew ?_ | refine below_drewN ?_ _ | refine Below.alloc' ?_ _ | (refine Below.setCell ?_ (by first | omega | (simp; done) | (simp; omega) | exact Below.size (by assumption) | exact Nat.le_trans (Below.size (by assumption)) (by simp)) _) | (refine Below.via' ?_ (by assumption)) | (refine Below.alloc ?_ (by first | omega | (simp; done) | (simp; omega) | exact Below.size (by assumption) | exact Nat.le_trans (Below.size (by assumption)) (by simp)) _) | (refine Below.via ?_ (by assumption) (by first | omega | (simp; done) | (simp; omega) | exact Below.size (by assumption) | exact Nat.le_trans (Below.size (by assumption)) (by simp)))))⟩
  · have hv := Lib.hid (cg_eq hf)
    have hfh := Lib.hid hf
    clear hf
    go_enter Try.func17, Try.ntmps17
    go_wp2_with fail
    try rw [hw0]
    replace hw0 := Lib.hid hw0
    go_region_held3 (fun w' => Below (w0).heap.size (w0) w' ∧ (∀ b o, b < (w0).heap.size → w'.cell? ⟨b, o, none⟩ = (w0).cell? ⟨b, o, none⟩)) (first | exact keep_of (Below.refl _ _) | ((try go_split_ands); exact keep_of (by repeat (first | exact Below.refl _ _ | assumption | refine Below.drew ?_ | refine below_drewN ?_ _ | refine Below.alloc' ?_ _ | (refine Below.setCell ?_ (by first | omega | (simp; done) | (simp; omega) | exact Below.size (by assumption) | exact Nat.le_trans (Below.size (by assumption)) (by simp)) _) | (refine Below.via' ?_ (by assumption)) | (refine Below.alloc ?_ (by first | omega | (simp; done) | (simp; omega) | exact Below.size (by assumption) | exact Nat.le_trans (Below.size (by assumption)) (by simp)) _) | (refine Below.via ?_ (by assumption) (by first | omega | (simp; done) | (simp; omega) | exact Below.size (by assumption) | exact Nat.le_trans (Below.size (by assumption)) (by simp))))))) (first | (go_at_call 56; refine (hasForm_any _ _ _ _ Z C _ (hh.out.below (by exact (by repeat (first | exact Below.refl _ _ | assumption | refine Below.drew ?_ | refine below_drewN ?_ _ | refine Below.alloc' ?_ _ | (refine Below.setCell ?_ (by first | omega | (simp; done) | (simp; omega) | exact Below.size (by assumption) | exact Nat.le_trans (Below.size (by assumption)) (by simp)) _) | (refine Below.via' ?_ (by assumption)) | (refine Below.alloc ?_ (by first | omega | (simp; done) | (simp; omega) | exact Below.size (by assumption) | exact Nat.le_trans (Below.size (by assumption)) (by simp)) _) | (refine Below.via ?_ (by assumption) (by first | omega | (simp; done) | (simp; omega) | exact Below.size (by assumption) | exact Nat.le_trans (Below.size (by assumption)) (by simp)))))))).mono ?_; rintro e w1 ⟨rfl, hb1⟩; rw [hfh.out]) | (go_at_call 57; refine (fbreak_any _ _ _ _ Z C _ hfh.out (hh.out.below (by exact (by repeat (first | exact Below.refl _ _ | assumption | refine Below.drew ?_ | refine below_drewN ?_ _ | refine Below.alloc' ?_ _ | (refine Below.setCell ?_ (by first | omega | (simp; done) | (simp; omega) | exact Below.size (by assumption) | exact Nat.le_trans (Below.size (by assumption)) (by simp)) _) | (refine Below.via' ?_ (by assumption)) | (refine Below.alloc ?_ (by first | omega | (simp; done) | (simp; omega) | exact Below.size (by assumption) | exact Nat.le_trans (Below.size (by assumption)) (by simp)) _) | (refine Below.via ?_ (by assumption) (by first | omega | (simp; done) | (simp; omega) | exact Below.size (by assumption) | exact Nat.le_trans (Below.size (by assumption)) (by simp)))))))).mono ?_; rintro e w2 ⟨rfl, hb2⟩)); rename_i hH; obtain ⟨hb2, hcl2⟩ := hH; have hz2 := hb2.size; (try simp at hz2); (try (have hly2 := Nat.lt_of_succ_le hz2)); (try (have hlx2 := Nat.lt_of_succ_lt hly2)); (try (have hlw2 := Nat.lt_of_succ_lt hlx2)); (try (have hle2 := Nat.le_of_lt hly2)); (try (have hya2 : w.heap.size < w2.heap.size := by omega)); (try (have hyb2 : w.heap.size + 1 < w2.heap.size := by omega)); (try (have hyc2 : w.heap.size + 1 + 1 < w2.heap.size := by omega)); (try (have hyd2 : wa.heap.size < w2.heap.size := by omega))
    go_wp2
    go_ret
    exact ⟨ret_bool (by rw [hv.out]; rw [Bool.eq_iff_iff]; simp; try omega), (by repeat (first | exact Below.refl _ _ | assumption | refine Below.drew ?_ | refine below_drewN ?_ _ | refine Below.alloc' ?_ _ | (refine Below.setCell ?_ (by first | omega | (simp; done) | (simp; omega) | exact Below.size (by assumption) | exact Nat.le_trans (Below.size (by assumption)) (by simp)) _) | (refine Below.via' ?_ (by assumption)) | (refine Below.alloc ?_ (by first | omega | (simp; done) | (simp; omega) | exact Below.size (by assumption) | exact Nat.le_trans (Below.size (by assumption)) (by simp)) _) | (refine Below.via ?_ (by assumption) (by first | omega | (simp; done) | (simp; omega) | exact Below.size (by assumption) | exact Nat.le_trans (Below.size (by assumption)) (by simp)))))⟩
set_option maxHeartbeats 4000000 in
theorem cbGood_any (x y : Option Addr) (c d : Nat) (Z C : List Int) (w : World) (h : CIn w x y Z C) :
    Calls Try.prog 55 #[.agg #[.slice x Z.length c, .slice y C.length d]] w fun e w' => e = .returned (.bool (cgB Z C)) ∧ Below w.heap.size w w' := by
  have hh := Lib.hid h
  have hq := CQ.new w x Z.length c y C.length d 27
  obtain ⟨qa, qb, qc⟩ := hq
  have hB0 : Below w.heap.size w (w.alloc (.cells #[.slice x Z.length c, .slice y C.length d] 27)) := (by repeat (first | exact Below.refl _ _ | assumption | refine Below.drew ?_ | refine below_drewN ?_ _ | refine Below.alloc' ?_ _ | (refine Below.setCell ?_ (by first | omega | (simp; done) | (simp; omega) | exact Below.size (by assumption) | exact Nat.le_trans (Below.size (by assumption)) (by simp)) _) | (refine Below.via' ?_ (by assumption)) | (refine Below.alloc ?_ (by first | omega | (simp; done) | (simp; omega) | exact Below.size (by assumption) | exact Nat.le_trans (Below.size (by assumption)) (by simp)) _) | (refine Below.via ?_ (by assumption) (by first | omega | (simp; done) | (simp; omega) | exact Below.size (by assumption) | exact Nat.le_trans (Below.size (by assumption)) (by simp)))))
  obtain ⟨w0, hw0⟩ : ∃ w0, w.alloc (.cells #[.slice x Z.length c, .slice y C.length d] 27) = w0 := ⟨_, rfl⟩
  rw [hw0] at qa qb qc hB0
  clear h
  cases hf : cfB Z C
  · have hv := Lib.hid (cg_no1 hf)
    have hfh := Lib.hid hf
    clear hf
    go_enter Try.func55, Try.ntmps55
    go_wp2_with fail
    try rw [hw0]
    replace hw0 := Lib.hid hw0
    first
      | go_region_with (go_at_call 58; refine (cbForm_any _ _ _ _ Z C _ (hh.out.below (by exact (by repeat (first | exact Below.refl _ _ | assumption | refine Below.drew ?_ | refine below_drewN ?_ _ | refine Below.alloc' ?_ _ | (refine Below.setCell ?_ (by first | omega | (simp; done) | (simp; omega) | exact Below.size (by assumption) | exact Nat.le_trans (Below.size (by assumption)) (by simp)) _) | (refine Below.via' ?_ (by assumption)) | (refine Below.alloc ?_ (by first | omega | (simp; done) | (simp; omega) | exact Below.size (by assumption) | exact Nat.le_trans (Below.size (by assumption)) (by simp)) _) | (refine Below.via ?_ (by assumption) (by first | omega | (simp; done) | (simp; omega) | exact Below.size (by assumption) | exact Nat.le_trans (Below.size (by assumption)) (by simp)))))))).mono ?_; rintro e w1 ⟨rfl, hb1⟩; rw [hfh.out])
      | fail
    all_goals
      go_wp2
      go_ret
      exact ⟨ret_bool hv.out.symm, (by repeat (first | exact Below.refl _ _ | assumption | refine Below.drew ?_ | refine below_drewN ?_ _ | refine Below.alloc' ?_ _ | (refine Below.setCell ?_ (by first | omega | (simp; done) | (simp; omega) | exact Below.size (by assumption) | exact Nat.le_trans (Below.size (by assumption)) (by simp)) _) | (refine Below.via' ?_ (by assumption)) | (refine Below.alloc ?_ (by first | omega | (simp; done) | (simp; omega) | exact Below.size (by assumption) | exact Nat.le_trans (Below.size (by assumption)) (by simp)) _) | (refine Below.via ?_ (by assumption) (by first | omega | (simp; done) | (simp; omega) | exact Below.size (by assumption) | exact Nat.le_trans (Below.size (by assumption)) (by simp)))))⟩
  · have hv := Lib.hid (cg_eq hf)
    have hfh := Lib.hid hf
    clear hf
    go_enter Try.func55, Try.ntmps55
    go_wp2_with fail
    try rw [hw0]
    replace hw0 := Lib.hid hw0
    go_region_held3 (fun w' => Below (w0).heap.size (w0) w' ∧ (∀ b o, b < (w0).heap.size → w'.cell? ⟨b, o, none⟩ = (w0).cell? ⟨b, o, none⟩)) (first | exact keep_of (Below.refl _ _) | ((try go_split_ands); exact keep_of (by repeat (first | exact Below.refl _ _ | assumption | refine Below.drew ?_ | refine below_drewN ?_ _ | refine Below.alloc' ?_ _ | (refine Below.setCell ?_ (by first | omega | (simp; done) | (simp; omega) | exact Below.size (by assumption) | exact Nat.le_trans (Below.size (by assumption)) (by simp)) _) | (refine Below.via' ?_ (by assumption)) | (refine Below.alloc ?_ (by first | omega | (simp; done) | (simp; omega) | exact Below.size (by assumption) | exact Nat.le_trans (Below.size (by assumption)) (by simp)) _) | (refine Below.via ?_ (by assumption) (by first | omega | (simp; done) | (simp; omega) | exact Below.size (by assumption) | exact Nat.le_trans (Below.size (by assumption)) (by simp))))))) (first | (go_at_call 58; refine (cbForm_any _ _ _ _ Z C _ (hh.out.below (by exact (by repeat (first | exact Below.refl _ _ | assumption | refine Below.drew ?_ | refine below_drewN ?_ _ | refine Below.alloc' ?_ _ | (refine Below.setCell ?_ (by first | omega | (simp; done) | (simp; omega) | exact Below.size (by assumption) | exact Nat.le_trans (Below.size (by assumption)) (by simp)) _) | (refine Below.via' ?_ (by assumption)) | (refine Below.alloc ?_ (by first | omega | (simp; done) | (simp; omega) | exact Below.size (by assumption) | exact Nat.le_trans (Below.size (by assumption)) (by simp)) _) | (refine Below.via ?_ (by assumption) (by first | omega | (simp; done) | (simp; omega) | exact Below.size (by assumption) | exact Nat.le_trans (Below.size (by assumption)) (by simp)))))))).mono ?_; rintro e w1 ⟨rfl, hb1⟩; rw [hfh.out]) | (go_at_call 59; refine (cbFirst_any _ _ _ _ Z C _ hfh.out (hh.out.below (by exact (by repeat (first | exact Below.refl _ _ | assumption | refine Below.drew ?_ | refine below_drewN ?_ _ | refine Below.alloc' ?_ _ | (refine Below.setCell ?_ (by first | omega | (simp; done) | (simp; omega) | exact Below.size (by assumption) | exact Nat.le_trans (Below.size (by assumption)) (by simp)) _) | (refine Below.via' ?_ (by assumption)) | (refine Below.alloc ?_ (by first | omega | (simp; done) | (simp; omega) | exact Below.size (by assumption) | exact Nat.le_trans (Below.size (by assumption)) (by simp)) _) | (refine Below.via ?_ (by assumption) (by first | omega | (simp; done) | (simp; omega) | exact Below.size (by assumption) | exact Nat.le_trans (Below.size (by assumption)) (by simp)))))))).mono ?_; rintro e w2 ⟨rfl, hb2⟩)); rename_i hH; obtain ⟨hb2, hcl2⟩ := hH; have hz2 := hb2.size; (try simp at hz2); (try (have hly2 := Nat.lt_of_succ_le hz2)); (try (have hlx2 := Nat.lt_of_succ_lt hly2)); (try (have hlw2 := Nat.lt_of_succ_lt hlx2)); (try (have hle2 := Nat.le_of_lt hly2)); (try (have hya2 : w.heap.size < w2.heap.size := by omega)); (try (have hyb2 : w.heap.size + 1 < w2.heap.size := by omega)); (try (have hyc2 : w.heap.size + 1 + 1 < w2.heap.size := by omega)); (try (have hyd2 : wa.heap.size < w2.heap.size := by omega))
    go_wp2
    go_ret
    exact ⟨ret_bool (by rw [hv.out]; rw [Bool.eq_iff_iff]; simp; try omega), (by repeat (first | exact Below.refl _ _ | assumption | refine Below.drew ?_ | refine below_drewN ?_ _ | refine Below.alloc' ?_ _ | (refine Below.setCell ?_ (by first | omega | (simp; done) | (simp; omega) | exact Below.size (by assumption) | exact Nat.le_trans (Below.size (by assumption)) (by simp)) _) | (refine Below.via' ?_ (by assumption)) | (refine Below.alloc ?_ (by first | omega | (simp; done) | (simp; omega) | exact Below.size (by assumption) | exact Nat.le_trans (Below.size (by assumption)) (by simp)) _) | (refine Below.via ?_ (by assumption) (by first | omega | (simp; done) | (simp; omega) | exact Below.size (by assumption) | exact Nat.le_trans (Below.size (by assumption)) (by simp)))))⟩
set_option maxHeartbeats 1000000 in
theorem sCu_any (x y : Option Addr) (c d : Nat) (Z C : List Int) (w : World) (h : CIn w x y Z C) :
    Calls Try.prog 15 #[.agg #[.slice x Z.length c, .slice y C.length d]] w fun e w' => e = .returned (.bool (cgB Z C)) ∧ Below w.heap.size w w' := by
  have hh := Lib.hid h
  obtain ⟨qa, qb, qc⟩ := CQ.new w x Z.length c y C.length d 27
  clear h
  go_enter Try.func15, Try.ntmps15
  go_wp2_with fail
  refine (cbGood_any _ _ _ _ Z C _ (hh.out.below (by exact (by repeat (first | exact Below.refl _ _ | assumption | refine Below.drew ?_ | refine below_drewN ?_ _ | refine Below.alloc' ?_ _ | (refine Below.setCell ?_ (by first | omega | (simp; done) | (simp; omega) | exact Below.size (by assumption) | exact Nat.le_trans (Below.size (by assumption)) (by simp)) _) | (refine Below.via' ?_ (by assumption)) | (refine Below.alloc ?_ (by first | omega | (simp; done) | (simp; omega) | exact Below.size (by assumption) | exact Nat.le_trans (Below.size (by assumption)) (by simp)) _) | (refine Below.via ?_ (by assumption) (by first | omega | (simp; done) | (simp; omega) | exact Below.size (by assumption) | exact Nat.le_trans (Below.size (by assumption)) (by simp)))))))).mono ?_
  rintro e w1 ⟨rfl, hb1⟩
  go_wp2
  go_ret
  exact ⟨rfl, (by repeat (first | exact Below.refl _ _ | assumption | refine Below.drew ?_ | refine below_drewN ?_ _ | refine Below.alloc' ?_ _ | (refine Below.setCell ?_ (by first | omega | (simp; done) | (simp; omega) | exact Below.size (by assumption) | exact Nat.le_trans (Below.size (by assumption)) (by simp)) _) | (refine Below.via' ?_ (by assumption)) | (refine Below.alloc ?_ (by first | omega | (simp; done) | (simp; omega) | exact Below.size (by assumption) | exact Nat.le_trans (Below.size (by assumption)) (by simp)) _) | (refine Below.via ?_ (by assumption) (by first | omega | (simp; done) | (simp; omega) | exact Below.size (by assumption) | exact Nat.le_trans (Below.size (by assumption)) (by simp)))))⟩
set_option maxHeartbeats 4000000 in
theorem iFB_any (x y : Option Addr) (c d : Nat) (Z C : List Int) (w : World) (h : CIn w x y Z C) :
    Calls Try.prog 20 #[.agg #[.slice x Z.length c, .slice y C.length d]] w fun e w' => e = .returned (.tuple #[.int .i64 (fbZ Z C), .bool (cfB Z C)]) ∧ Below w.heap.size w w' := by
  have hh := Lib.hid h
  have hq := Lib.hid (CQ.new w x Z.length c y C.length d 27)
  obtain ⟨qa, qb, qc⟩ := hq.out
  have hB0 : Below w.heap.size w (w.alloc (.cells #[.slice x Z.length c, .slice y C.length d] 27)) := (by repeat (first | exact Below.refl _ _ | assumption | refine Below.drew ?_ | refine below_drewN ?_ _ | refine Below.alloc' ?_ _ | (refine Below.setCell ?_ (by first | omega | (simp; done) | (simp; omega) | exact Below.size (by assumption) | exact Nat.le_trans (Below.size (by assumption)) (by simp)) _) | (refine Below.via' ?_ (by assumption)) | (refine Below.alloc ?_ (by first | omega | (simp; done) | (simp; omega) | exact Below.size (by assumption) | exact Nat.le_trans (Below.size (by assumption)) (by simp)) _) | (refine Below.via ?_ (by assumption) (by first | omega | (simp; done) | (simp; omega) | exact Below.size (by assumption) | exact Nat.le_trans (Below.size (by assumption)) (by simp)))))
  clear h
  go_enter Try.func20, Try.ntmps20
  go_wp2_with fail
  refine (hasForm_any _ _ _ _ Z C _ (hh.out.below hB0)).mono ?_
  rintro e w1 ⟨rfl, hb1⟩
  have hB1 : Below w.heap.size w w1 := Below.via' hB0 hb1
  have hq1 := Lib.hid (hq.out.below hb1)
  clear qa qb qc hb1 hB0
  obtain ⟨qa, qb, qc⟩ := hq1.out
  cases hf : cfB Z C
  · have hv := Lib.hid (fbZ_no hf)
    have hfn := Lib.hid hf
    clear hf
    go_wp2
    go_ret2
    exact ⟨ret_in hv.out.symm hfn.out.symm, hB1⟩
  · have hv := Lib.hid (fbZ_yes hf)
    have hfh := Lib.hid hf
    clear hf
    go_wp2_with fail
    refine (fbreak_any _ _ _ _ Z C _ hfh.out (hh.out.below hB1)).mono ?_
    rintro e w2 ⟨rfl, hb2⟩
    go_wp2
    go_ret2
    exact ⟨ret_in hv.out.symm hfh.out.symm, Below.via' hB1 hb2⟩
set_option maxHeartbeats 4000000 in
theorem sFB_any (x y : Option Addr) (c d : Nat) (Z C : List Int) (w : World) (h : CIn w x y Z C) :
    Calls Try.prog 19 #[.agg #[.slice x Z.length c, .slice y C.length d]] w fun e w' => e = .returned (.tuple #[.int .i64 (fbZ Z C), .bool (cfB Z C)]) ∧ Below w.heap.size w w' := by
  have hh := Lib.hid h
  have hq := Lib.hid (CQ.new w x Z.length c y C.length d 27)
  obtain ⟨qa, qb, qc⟩ := hq.out
  have hB0 : Below w.heap.size w (w.alloc (.cells #[.slice x Z.length c, .slice y C.length d] 27)) := (by repeat (first | exact Below.refl _ _ | assumption | refine Below.drew ?_ | refine below_drewN ?_ _ | refine Below.alloc' ?_ _ | (refine Below.setCell ?_ (by first | omega | (simp; done) | (simp; omega) | exact Below.size (by assumption) | exact Nat.le_trans (Below.size (by assumption)) (by simp)) _) | (refine Below.via' ?_ (by assumption)) | (refine Below.alloc ?_ (by first | omega | (simp; done) | (simp; omega) | exact Below.size (by assumption) | exact Nat.le_trans (Below.size (by assumption)) (by simp)) _) | (refine Below.via ?_ (by assumption) (by first | omega | (simp; done) | (simp; omega) | exact Below.size (by assumption) | exact Nat.le_trans (Below.size (by assumption)) (by simp)))))
  clear h
  go_enter Try.func19, Try.ntmps19
  go_wp2_with fail
  refine (cbForm_any _ _ _ _ Z C _ (hh.out.below hB0)).mono ?_
  rintro e w1 ⟨rfl, hb1⟩
  have hB1 : Below w.heap.size w w1 := Below.via' hB0 hb1
  have hq1 := Lib.hid (hq.out.below hb1)
  clear qa qb qc hb1 hB0
  obtain ⟨qa, qb, qc⟩ := hq1.out
  cases hf : cfB Z C
  · have hv := Lib.hid (fbZ_no hf)
    have hfn := Lib.hid hf
    clear hf
    go_wp2
    go_ret2
    exact ⟨ret_in hv.out.symm hfn.out.symm, hB1⟩
  · have hv := Lib.hid (fbZ_yes hf)
    have hfh := Lib.hid hf
    clear hf
    go_wp2_with fail
    refine (cbFirst_any _ _ _ _ Z C _ hfh.out (hh.out.below hB1)).mono ?_
    rintro e w2 ⟨rfl, hb2⟩
    go_wp2
    go_ret2
    exact ⟨ret_in hv.out.symm hfh.out.symm, Below.via' hB1 hb2⟩
end Go.Proofs.Ytnmpigedhpdenaa
