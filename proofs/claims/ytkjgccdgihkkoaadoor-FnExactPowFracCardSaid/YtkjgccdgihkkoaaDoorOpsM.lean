/-
  The walks of chapter 1: making a fraction; equality of two.
-/
import Derived.Test.YtkjgccdgihkkoaaDoorOpsS
namespace Go.Proofs.YtkjgccdgihkkoaaDoor
open Go.RowKit
set_option maxRecDepth 100000

theorem bne_of_beq {n m : Int} {b : Bool} (h : (n == m) = b) : (n != m) = !b := by unfold bne; rw [h]
theorem eqFrac_any (n d m c : Int) (w : World) :
    Calls Tryd.prog 36 #[.agg #[.int .i64 n, .int .i64 d], .agg #[.int .i64 m, .int .i64 c]] w fun e w' => e = .returned (.bool (n == m && d == c)) ∧ Below w.heap.size w w' := by
  cases h1 : (n == m) <;> cases h2 : (d == c)
  all_goals
    have h3 := bne_of_beq h1
    have h4 := bne_of_beq h2
    go_enter Tryd.func36, Tryd.ntmps36
    go_wp2
    go_ret
    exact ⟨rfl, (by repeat (first | exact Below.refl _ _ | assumption | refine Below.drew ?_ | refine below_drewN ?_ _ | refine Below.alloc' ?_ _ | (refine Below.setCell ?_ (by first | omega | (simp; done) | (simp; omega) | exact Below.size (by assumption) | exact Nat.le_trans (Below.size (by assumption)) (by simp)) _) | (refine Below.via' ?_ (by assumption)) | (refine Below.alloc ?_ (by first | omega | (simp; done) | (simp; omega) | exact Below.size (by assumption) | exact Nat.le_trans (Below.size (by assumption)) (by simp)) _) | (refine Below.via ?_ (by assumption) (by first | omega | (simp; done) | (simp; omega) | exact Below.size (by assumption) | exact Nat.le_trans (Below.size (by assumption)) (by simp)))))⟩

/-- May MakeFrac be called so? -/
def partOK (n d : Int) : Bool := inB n (-1000000000000000000) 1000000000000000000 && inB d (-1000000000000000000) 1000000000000000000 && decide (d ≠ 0)
set_option maxHeartbeats 1000000 in
theorem iMake_any (n d : Int) (w : World) (hT : Tab w) :
    Calls Tryd.prog 35 #[.int .i64 n, .int .i64 d] w fun e w' => e = .returned (fracV (okN (partOK n d) n d) (okD (partOK n d) n d) (okB (partOK n d) n d)) ∧ Below w.heap.size w w' := by
  cases h1 : inB n (-1000000000000000000) 1000000000000000000
  · rw [show partOK n d = false by unfold partOK; rw [h1]; rfl]
    go_enter Tryd.func35, Tryd.ntmps35
    go_wp2_with (go_at_call 62; refine (isPart_any _ _).mono ?_; rintro e w1 ⟨rfl, rfl⟩)
    refine bodyPost_ret (v := .tuple #[.agg #[.int .i64 0, .int .i64 0], .bool false]) (by simp [results, Tryd.results35, go_sem, *]) rfl ⟨?_, ?_⟩
    · exact ret_v (ok_f _ _).symm
    · exact (by repeat (first | exact Below.refl _ _ | assumption | refine Below.drew ?_ | refine below_drewN ?_ _ | refine Below.alloc' ?_ _ | (refine Below.setCell ?_ (by first | omega | (simp; done) | (simp; omega) | exact Below.size (by assumption) | exact Nat.le_trans (Below.size (by assumption)) (by simp)) _) | (refine Below.via' ?_ (by assumption)) | (refine Below.alloc ?_ (by first | omega | (simp; done) | (simp; omega) | exact Below.size (by assumption) | exact Nat.le_trans (Below.size (by assumption)) (by simp)) _) | (refine Below.via ?_ (by assumption) (by first | omega | (simp; done) | (simp; omega) | exact Below.size (by assumption) | exact Nat.le_trans (Below.size (by assumption)) (by simp)))))
  cases h2 : inB d (-1000000000000000000) 1000000000000000000
  · rw [show partOK n d = false by unfold partOK; rw [h1, h2]; rfl]
    go_enter Tryd.func35, Tryd.ntmps35
    go_wp2_with (go_at_call 62; refine (isPart_any _ _).mono ?_; rintro e w1 ⟨rfl, rfl⟩)
    refine bodyPost_ret (v := .tuple #[.agg #[.int .i64 0, .int .i64 0], .bool false]) (by simp [results, Tryd.results35, go_sem, *]) rfl ⟨?_, ?_⟩
    · exact ret_v (ok_f _ _).symm
    · exact (by repeat (first | exact Below.refl _ _ | assumption | refine Below.drew ?_ | refine below_drewN ?_ _ | refine Below.alloc' ?_ _ | (refine Below.setCell ?_ (by first | omega | (simp; done) | (simp; omega) | exact Below.size (by assumption) | exact Nat.le_trans (Below.size (by assumption)) (by simp)) _) | (refine Below.via' ?_ (by assumption)) | (refine Below.alloc ?_ (by first | omega | (simp; done) | (simp; omega) | exact Below.size (by assumption) | exact Nat.le_trans (Below.size (by assumption)) (by simp)) _) | (refine Below.via ?_ (by assumption) (by first | omega | (simp; done) | (simp; omega) | exact Below.size (by assumption) | exact Nat.le_trans (Below.size (by assumption)) (by simp)))))
  cases h3 : (d == 0)
  · rw [show partOK n d = true by unfold partOK; rw [h1, h2]; simpa using h3]
    obtain ⟨a1, a2⟩ := (inB_iff _ _ _).1 h1
    obtain ⟨b1, b2⟩ := (inB_iff _ _ _).1 h2
    have hd0 : d ≠ 0 := by simpa using h3
    go_enter Tryd.func35, Tryd.ntmps35
    go_wp2_with (first | (go_at_call 62; refine (isPart_any _ _).mono ?_; rintro e w1 ⟨rfl, rfl⟩) | (go_at_call 41; refine (lowestTerms_x _ _ _ (by omega) (by omega) (by omega) (by omega) hd0 (hT.below (by exact (by repeat (first | exact Below.refl _ _ | assumption | refine Below.drew ?_ | refine below_drewN ?_ _ | refine Below.alloc' ?_ _ | (refine Below.setCell ?_ (by first | omega | (simp; done) | (simp; omega) | exact Below.size (by assumption) | exact Nat.le_trans (Below.size (by assumption)) (by simp)) _) | (refine Below.via' ?_ (by assumption)) | (refine Below.alloc ?_ (by first | omega | (simp; done) | (simp; omega) | exact Below.size (by assumption) | exact Nat.le_trans (Below.size (by assumption)) (by simp)) _) | (refine Below.via ?_ (by assumption) (by first | omega | (simp; done) | (simp; omega) | exact Below.size (by assumption) | exact Nat.le_trans (Below.size (by assumption)) (by simp)))))))).mono ?_; rintro e w4 ⟨rfl, hb4⟩; obtain ⟨hcl4, hfr4⟩ := bcell hb4; have c0 : w4.cell? ⟨w.heap.size, 0, none⟩ = some (.int .i64 0) := ((show Below (w.alloc (.cells #[.int .i64 0, .int .i64 0] 24)).heap.size (w.alloc (.cells #[.int .i64 0, .int .i64 0] 24)) w4 from (by repeat (first | exact Below.refl _ _ | assumption | refine Below.drew ?_ | refine below_drewN ?_ _ | refine Below.alloc' ?_ _ | (refine Below.setCell ?_ (by first | omega | (simp; done) | (simp; omega) | exact Below.size (by assumption) | exact Nat.le_trans (Below.size (by assumption)) (by simp)) _) | (refine Below.via' ?_ (by assumption)) | (refine Below.alloc ?_ (by first | omega | (simp; done) | (simp; omega) | exact Below.size (by assumption) | exact Nat.le_trans (Below.size (by assumption)) (by simp)) _) | (refine Below.via ?_ (by assumption) (by first | omega | (simp; done) | (simp; omega) | exact Below.size (by assumption) | exact Nat.le_trans (Below.size (by assumption)) (by simp)))))).cell (by first | omega | (simp; done) | (simp; omega))).trans (by go_simp); have c1 : w4.cell? ⟨w.heap.size, 1, none⟩ = some (.int .i64 0) := ((show Below (w.alloc (.cells #[.int .i64 0, .int .i64 0] 24)).heap.size (w.alloc (.cells #[.int .i64 0, .int .i64 0] 24)) w4 from (by repeat (first | exact Below.refl _ _ | assumption | refine Below.drew ?_ | refine below_drewN ?_ _ | refine Below.alloc' ?_ _ | (refine Below.setCell ?_ (by first | omega | (simp; done) | (simp; omega) | exact Below.size (by assumption) | exact Nat.le_trans (Below.size (by assumption)) (by simp)) _) | (refine Below.via' ?_ (by assumption)) | (refine Below.alloc ?_ (by first | omega | (simp; done) | (simp; omega) | exact Below.size (by assumption) | exact Nat.le_trans (Below.size (by assumption)) (by simp)) _) | (refine Below.via ?_ (by assumption) (by first | omega | (simp; done) | (simp; omega) | exact Below.size (by assumption) | exact Nat.le_trans (Below.size (by assumption)) (by simp)))))).cell (by first | omega | (simp; done) | (simp; omega))).trans (by go_simp)))
    refine bodyPost_ret (v := .tuple #[.agg #[.int .i64 (mkN n d), .int .i64 (mkD n d)], .bool (mkB n d)]) (by simp [results, Tryd.results35, go_sem, *]) rfl ⟨?_, ?_⟩
    · exact ret_v (ok_t _ _).symm
    · exact (by repeat (first | exact Below.refl _ _ | assumption | refine Below.drew ?_ | refine below_drewN ?_ _ | refine Below.alloc' ?_ _ | (refine Below.setCell ?_ (by first | omega | (simp; done) | (simp; omega) | exact Below.size (by assumption) | exact Nat.le_trans (Below.size (by assumption)) (by simp)) _) | (refine Below.via' ?_ (by assumption)) | (refine Below.alloc ?_ (by first | omega | (simp; done) | (simp; omega) | exact Below.size (by assumption) | exact Nat.le_trans (Below.size (by assumption)) (by simp)) _) | (refine Below.via ?_ (by assumption) (by first | omega | (simp; done) | (simp; omega) | exact Below.size (by assumption) | exact Nat.le_trans (Below.size (by assumption)) (by simp)))))
  · rw [show partOK n d = false by unfold partOK; rw [h1, h2]; simpa using h3]
    go_enter Tryd.func35, Tryd.ntmps35
    go_wp2_with (go_at_call 62; refine (isPart_any _ _).mono ?_; rintro e w1 ⟨rfl, rfl⟩)
    refine bodyPost_ret (v := .tuple #[.agg #[.int .i64 0, .int .i64 0], .bool false]) (by simp [results, Tryd.results35, go_sem, *]) rfl ⟨?_, ?_⟩
    · exact ret_v (ok_f _ _).symm
    · exact (by repeat (first | exact Below.refl _ _ | assumption | refine Below.drew ?_ | refine below_drewN ?_ _ | refine Below.alloc' ?_ _ | (refine Below.setCell ?_ (by first | omega | (simp; done) | (simp; omega) | exact Below.size (by assumption) | exact Nat.le_trans (Below.size (by assumption)) (by simp)) _) | (refine Below.via' ?_ (by assumption)) | (refine Below.alloc ?_ (by first | omega | (simp; done) | (simp; omega) | exact Below.size (by assumption) | exact Nat.le_trans (Below.size (by assumption)) (by simp)) _) | (refine Below.via ?_ (by assumption) (by first | omega | (simp; done) | (simp; omega) | exact Below.size (by assumption) | exact Nat.le_trans (Below.size (by assumption)) (by simp)))))

set_option maxHeartbeats 1000000 in
theorem sMake_any (n d : Int) (w : World) :
    Calls Tryd.prog 34 #[.int .i64 n, .int .i64 d] w fun e w' => e = .returned (fracV (okN (partOK n d) n d) (okD (partOK n d) n d) (okB (partOK n d) n d)) ∧ Below w.heap.size w w' := by
  cases h3 : (d == 0)
  · cases h1 : inB n (-1000000000000000000) 1000000000000000000
    · rw [show partOK n d = false by unfold partOK; rw [h1]; rfl]
      go_enter Tryd.func34, Tryd.ntmps34
      go_wp2_with (go_at_call 55; refine (l1In_any _ _ _ _).mono ?_; rintro e w1 ⟨rfl, rfl⟩)
      refine bodyPost_ret (v := .tuple #[.agg #[.int .i64 0, .int .i64 0], .bool false]) (by simp [results, Tryd.results34, go_sem, *]) rfl ⟨?_, ?_⟩
      · exact ret_v (ok_f _ _).symm
      · exact (by repeat (first | exact Below.refl _ _ | assumption | refine Below.drew ?_ | refine below_drewN ?_ _ | refine Below.alloc' ?_ _ | (refine Below.setCell ?_ (by first | omega | (simp; done) | (simp; omega) | exact Below.size (by assumption) | exact Nat.le_trans (Below.size (by assumption)) (by simp)) _) | (refine Below.via' ?_ (by assumption)) | (refine Below.alloc ?_ (by first | omega | (simp; done) | (simp; omega) | exact Below.size (by assumption) | exact Nat.le_trans (Below.size (by assumption)) (by simp)) _) | (refine Below.via ?_ (by assumption) (by first | omega | (simp; done) | (simp; omega) | exact Below.size (by assumption) | exact Nat.le_trans (Below.size (by assumption)) (by simp)))))
    cases h2 : inB d (-1000000000000000000) 1000000000000000000
    · rw [show partOK n d = false by unfold partOK; rw [h1, h2]; rfl]
      go_enter Tryd.func34, Tryd.ntmps34
      go_wp2_with (go_at_call 55; refine (l1In_any _ _ _ _).mono ?_; rintro e w1 ⟨rfl, rfl⟩)
      refine bodyPost_ret (v := .tuple #[.agg #[.int .i64 0, .int .i64 0], .bool false]) (by simp [results, Tryd.results34, go_sem, *]) rfl ⟨?_, ?_⟩
      · exact ret_v (ok_f _ _).symm
      · exact (by repeat (first | exact Below.refl _ _ | assumption | refine Below.drew ?_ | refine below_drewN ?_ _ | refine Below.alloc' ?_ _ | (refine Below.setCell ?_ (by first | omega | (simp; done) | (simp; omega) | exact Below.size (by assumption) | exact Nat.le_trans (Below.size (by assumption)) (by simp)) _) | (refine Below.via' ?_ (by assumption)) | (refine Below.alloc ?_ (by first | omega | (simp; done) | (simp; omega) | exact Below.size (by assumption) | exact Nat.le_trans (Below.size (by assumption)) (by simp)) _) | (refine Below.via ?_ (by assumption) (by first | omega | (simp; done) | (simp; omega) | exact Below.size (by assumption) | exact Nat.le_trans (Below.size (by assumption)) (by simp)))))
    rw [show partOK n d = true by unfold partOK; rw [h1, h2]; simpa using h3]
    obtain ⟨a1, a2⟩ := (inB_iff _ _ _).1 h1
    obtain ⟨b1, b2⟩ := (inB_iff _ _ _).1 h2
    go_enter Tryd.func34, Tryd.ntmps34
    go_wp2_with (first | (go_at_call 55; refine (l1In_any _ _ _ _).mono ?_; rintro e w1 ⟨rfl, rfl⟩) | (go_at_call 48; refine (fMake_x _ _ _ (by omega) (by omega) (by omega) (by omega)).mono ?_; rintro e w4 ⟨rfl, hb4⟩; obtain ⟨hcl4, hfr4⟩ := bcell hb4; have c0 : w4.cell? ⟨w.heap.size, 0, none⟩ = some (.int .i64 0) := ((show Below (w.alloc (.cells #[.int .i64 0, .int .i64 0] 24)).heap.size (w.alloc (.cells #[.int .i64 0, .int .i64 0] 24)) w4 from (by repeat (first | exact Below.refl _ _ | assumption | refine Below.drew ?_ | refine below_drewN ?_ _ | refine Below.alloc' ?_ _ | (refine Below.setCell ?_ (by first | omega | (simp; done) | (simp; omega) | exact Below.size (by assumption) | exact Nat.le_trans (Below.size (by assumption)) (by simp)) _) | (refine Below.via' ?_ (by assumption)) | (refine Below.alloc ?_ (by first | omega | (simp; done) | (simp; omega) | exact Below.size (by assumption) | exact Nat.le_trans (Below.size (by assumption)) (by simp)) _) | (refine Below.via ?_ (by assumption) (by first | omega | (simp; done) | (simp; omega) | exact Below.size (by assumption) | exact Nat.le_trans (Below.size (by assumption)) (by simp)))))).cell (by first | omega | (simp; done) | (simp; omega))).trans (by go_simp); have c1 : w4.cell? ⟨w.heap.size, 1, none⟩ = some (.int .i64 0) := ((show Below (w.alloc (.cells #[.int .i64 0, .int .i64 0] 24)).heap.size (w.alloc (.cells #[.int .i64 0, .int .i64 0] 24)) w4 from (by repeat (first | exact Below.refl _ _ | assumption | refine Below.drew ?_ | refine below_drewN ?_ _ | refine Below.alloc' ?_ _ | (refine Below.setCell ?_ (by first | omega | (simp; done) | (simp; omega) | exact Below.size (by assumption) | exact Nat.le_trans (Below.size (by assumption)) (by simp)) _) | (refine Below.via' ?_ (by assumption)) | (refine Below.alloc ?_ (by first | omega | (simp; done) | (simp; omega) | exact Below.size (by assumption) | exact Nat.le_trans (Below.size (by assumption)) (by simp)) _) | (refine Below.via ?_ (by assumption) (by first | omega | (simp; done) | (simp; omega) | exact Below.size (by assumption) | exact Nat.le_trans (Below.size (by assumption)) (by simp)))))).cell (by first | omega | (simp; done) | (simp; omega))).trans (by go_simp)))
    refine bodyPost_ret (v := .tuple #[.agg #[.int .i64 (mkN n d), .int .i64 (mkD n d)], .bool (mkB n d)]) (by simp [results, Tryd.results34, go_sem, *]) rfl ⟨?_, ?_⟩
    · exact ret_v (ok_t _ _).symm
    · exact (by repeat (first | exact Below.refl _ _ | assumption | refine Below.drew ?_ | refine below_drewN ?_ _ | refine Below.alloc' ?_ _ | (refine Below.setCell ?_ (by first | omega | (simp; done) | (simp; omega) | exact Below.size (by assumption) | exact Nat.le_trans (Below.size (by assumption)) (by simp)) _) | (refine Below.via' ?_ (by assumption)) | (refine Below.alloc ?_ (by first | omega | (simp; done) | (simp; omega) | exact Below.size (by assumption) | exact Nat.le_trans (Below.size (by assumption)) (by simp)) _) | (refine Below.via ?_ (by assumption) (by first | omega | (simp; done) | (simp; omega) | exact Below.size (by assumption) | exact Nat.le_trans (Below.size (by assumption)) (by simp)))))
  · rw [show partOK n d = false by unfold partOK; rw [Bool.and_eq_false_iff]; right; simpa using h3]
    go_enter Tryd.func34, Tryd.ntmps34
    go_wp2
    refine bodyPost_ret (v := .tuple #[.agg #[.int .i64 0, .int .i64 0], .bool false]) (by simp [results, Tryd.results34, go_sem, *]) rfl ⟨?_, ?_⟩
    · exact ret_v (ok_f _ _).symm
    · exact (by repeat (first | exact Below.refl _ _ | assumption | refine Below.drew ?_ | refine below_drewN ?_ _ | refine Below.alloc' ?_ _ | (refine Below.setCell ?_ (by first | omega | (simp; done) | (simp; omega) | exact Below.size (by assumption) | exact Nat.le_trans (Below.size (by assumption)) (by simp)) _) | (refine Below.via' ?_ (by assumption)) | (refine Below.alloc ?_ (by first | omega | (simp; done) | (simp; omega) | exact Below.size (by assumption) | exact Nat.le_trans (Below.size (by assumption)) (by simp)) _) | (refine Below.via ?_ (by assumption) (by first | omega | (simp; done) | (simp; omega) | exact Below.size (by assumption) | exact Nat.le_trans (Below.size (by assumption)) (by simp)))))

/-! The same, their results written out. -/
theorem iAdd_x (n d m c : Int) (w : World) (hT : Tab w) :
    Calls Tryd.prog 12 #[.agg #[.int .i64 n, .int .i64 d], .agg #[.int .i64 m, .int .i64 c]] w fun e w' => e = .returned (.tuple #[.agg #[.int .i64 (okN (fOK n d && fOK m c) (n * c + m * d) (d * c)), .int .i64 (okD (fOK n d && fOK m c) (n * c + m * d) (d * c))], .bool (okB (fOK n d && fOK m c) (n * c + m * d) (d * c))]) ∧ Below w.heap.size w w' := iAdd_any n d m c w hT
theorem sAdd_x (n d m c : Int) (w : World) :
    Calls Tryd.prog 13 #[.agg #[.int .i64 n, .int .i64 d], .agg #[.int .i64 m, .int .i64 c]] w fun e w' => e = .returned (.tuple #[.agg #[.int .i64 (okN (fOK n d && fOK m c) (n * c + m * d) (d * c)), .int .i64 (okD (fOK n d && fOK m c) (n * c + m * d) (d * c))], .bool (okB (fOK n d && fOK m c) (n * c + m * d) (d * c))]) ∧ Below w.heap.size w w' := sAdd_any n d m c w
theorem iSub_x (n d m c : Int) (w : World) (hT : Tab w) :
    Calls Tryd.prog 19 #[.agg #[.int .i64 n, .int .i64 d], .agg #[.int .i64 m, .int .i64 c]] w fun e w' => e = .returned (.tuple #[.agg #[.int .i64 (okN (fOK n d && fOK m c) (n * c - m * d) (d * c)), .int .i64 (okD (fOK n d && fOK m c) (n * c - m * d) (d * c))], .bool (okB (fOK n d && fOK m c) (n * c - m * d) (d * c))]) ∧ Below w.heap.size w w' := iSub_any n d m c w hT
theorem sSub_x (n d m c : Int) (w : World) :
    Calls Tryd.prog 38 #[.agg #[.int .i64 n, .int .i64 d], .agg #[.int .i64 m, .int .i64 c]] w fun e w' => e = .returned (.tuple #[.agg #[.int .i64 (okN (fOK n d && fOK m c) (n * c - m * d) (d * c)), .int .i64 (okD (fOK n d && fOK m c) (n * c - m * d) (d * c))], .bool (okB (fOK n d && fOK m c) (n * c - m * d) (d * c))]) ∧ Below w.heap.size w w' := sSub_any n d m c w
theorem iMul_x (n d m c : Int) (w : World) (hT : Tab w) :
    Calls Tryd.prog 17 #[.agg #[.int .i64 n, .int .i64 d], .agg #[.int .i64 m, .int .i64 c]] w fun e w' => e = .returned (.tuple #[.agg #[.int .i64 (okN (fOK n d && fOK m c) (n * m) (d * c)), .int .i64 (okD (fOK n d && fOK m c) (n * m) (d * c))], .bool (okB (fOK n d && fOK m c) (n * m) (d * c))]) ∧ Below w.heap.size w w' := iMul_any n d m c w hT
theorem sMul_x (n d m c : Int) (w : World) :
    Calls Tryd.prog 39 #[.agg #[.int .i64 n, .int .i64 d], .agg #[.int .i64 m, .int .i64 c]] w fun e w' => e = .returned (.tuple #[.agg #[.int .i64 (okN (fOK n d && fOK m c) (n * m) (d * c)), .int .i64 (okD (fOK n d && fOK m c) (n * m) (d * c))], .bool (okB (fOK n d && fOK m c) (n * m) (d * c))]) ∧ Below w.heap.size w w' := sMul_any n d m c w
/-- Not 0 (closed to the walk). -/
def neZ (m : Int) : Bool := decide (m ≠ 0)
theorem iDiv_x (n d m c : Int) (w : World) (hT : Tab w) :
    Calls Tryd.prog 15 #[.agg #[.int .i64 n, .int .i64 d], .agg #[.int .i64 m, .int .i64 c]] w fun e w' => e = .returned (.tuple #[.agg #[.int .i64 (okN (fOK n d && fOK m c && neZ m) (n * c) (d * m)), .int .i64 (okD (fOK n d && fOK m c && neZ m) (n * c) (d * m))], .bool (okB (fOK n d && fOK m c && neZ m) (n * c) (d * m))]) ∧ Below w.heap.size w w' := iDiv_any n d m c w hT
theorem sDiv_x (n d m c : Int) (w : World) :
    Calls Tryd.prog 16 #[.agg #[.int .i64 n, .int .i64 d], .agg #[.int .i64 m, .int .i64 c]] w fun e w' => e = .returned (.tuple #[.agg #[.int .i64 (okN (fOK n d && fOK m c && neZ m) (n * c) (d * m)), .int .i64 (okD (fOK n d && fOK m c && neZ m) (n * c) (d * m))], .bool (okB (fOK n d && fOK m c && neZ m) (n * c) (d * m))]) ∧ Below w.heap.size w w' := sDiv_any n d m c w
theorem iMake_x (n d : Int) (w : World) (hT : Tab w) :
    Calls Tryd.prog 35 #[.int .i64 n, .int .i64 d] w fun e w' => e = .returned (.tuple #[.agg #[.int .i64 (okN (partOK n d) n d), .int .i64 (okD (partOK n d) n d)], .bool (okB (partOK n d) n d)]) ∧ Below w.heap.size w w' := iMake_any n d w hT
theorem sMake_x (n d : Int) (w : World) :
    Calls Tryd.prog 34 #[.int .i64 n, .int .i64 d] w fun e w' => e = .returned (.tuple #[.agg #[.int .i64 (okN (partOK n d) n d), .int .i64 (okD (partOK n d) n d)], .bool (okB (partOK n d) n d)]) ∧ Below w.heap.size w w' := sMake_any n d w
end Go.Proofs.YtkjgccdgihkkoaaDoor
