/-
  The walks of chapter 5: sets of levels, IsEdit; the program's and the model's.
-/
import Derived.Test.YtgkaalonmkcclabEdM
import Derived.Test.YtgkaalonmkcclabEdL
namespace Go.Proofs.Ytgkaalonmkcclab
open Go.RowKit
set_option maxRecDepth 100000

theorem fl_eq {lv : Int} (h : 2 ≤ lv ∧ lv ≤ 8) : wrap64 (wrap64 (2 ^ lv.toNat) - 1) = flZ lv := by
  have b := flZ_bd h
  unfold flZ at b ⊢
  generalize (2 : Int) ^ lv.toNat = z at b ⊢
  rw [IntWalk.wrap64_in z (by omega), IntWalk.wrap64_in _ (by omega)]
set_option maxHeartbeats 1000000 in
theorem setOfAll_any (nm : ByteArray) (lv : Int) (w : World) (h : 2 ≤ lv ∧ lv ≤ 8) :
    Calls Try.prog 165 #[.agg #[.string nm, .int .i64 lv]] w fun e w' => e = .returned (.int .i64 (flZ lv)) ∧ Below w.heap.size w w' := by
  have h1 := h.1
  have h2 := h.2
  go_enter Try.func165, Try.ntmps165
  go_wp2
  go_ret
  exact ⟨ret_int (fl_eq h), (by repeat (first | exact Below.refl _ _ | assumption | refine Below.drew ?_ | refine below_drewN ?_ _ | refine Below.alloc' ?_ _ | (refine Below.setCell ?_ (by first | omega | (simp; done) | (simp; omega) | exact Below.size (by assumption) | exact Nat.le_trans (Below.size (by assumption)) (by simp)) _) | (refine Below.via' ?_ (by assumption)) | (refine Below.alloc ?_ (by first | omega | (simp; done) | (simp; omega) | exact Below.size (by assumption) | exact Nat.le_trans (Below.size (by assumption)) (by simp)) _) | (refine Below.via ?_ (by assumption) (by first | omega | (simp; done) | (simp; omega) | exact Below.size (by assumption) | exact Nat.le_trans (Below.size (by assumption)) (by simp)))))⟩
set_option maxHeartbeats 1000000 in
theorem eFull_any (x : Option Addr) (cap : Nat) (S : List (ByteArray × Int)) (i : Nat) (nm : ByteArray) (lv : Int) (w : World) (h : 2 ≤ lv ∧ lv ≤ 8) (hi : S[i]? = some (nm, lv)) (hS : Rd w x (vC S)) :
    Calls Try.prog 115 #[.slice x S.length cap, .int .i64 i] w fun e w' => e = .returned (.int .i64 (flZ lv)) ∧ w = w' := by
  have h1 := h.1
  have h2 := h.2
  have hl := (List.getElem?_eq_some_iff.1 hi).1
  obtain ⟨b, off, nm2, lv2, rfl, hbl, hSi, hc0, hc1⟩ := hS.var hl
  obtain ⟨rfl, rfl⟩ : nm2 = nm ∧ lv2 = lv := by
    have := Option.some.inj (hSi.symm.trans hi)
    injection this with a b
    exact ⟨a, b⟩
  have hl' : (i : Int) < (S.length : Int) := by omega
  have hi0 : (0 : Int) ≤ (i : Int) := by omega
  have hv := Lib.hid (fl_eq h)
  clear hS hi hSi
  go_enter Try.func115, Try.ntmps115
  go_wp2
  go_ret
  exact ⟨ret_int hv.out, rfl⟩

/-- What a number is for a variable: no set, some levels, all levels. -/
def kdZ (lv x : Int) : Int := if x ≤ 0 ∨ flZ lv < x then 0 else if x = flZ lv then 2 else 1
theorem kdZ_no {lv x : Int} (h : ¬ (1 ≤ x ∧ x ≤ flZ lv)) : kdZ lv x = 0 := if_pos (by omega)
theorem kdZ_all {lv x : Int} (h : 2 ≤ lv ∧ lv ≤ 8) (hx : x = flZ lv) : kdZ lv x = 2 := by
  have := flZ_bd h
  unfold kdZ
  rw [if_neg (by omega), if_pos hx]
theorem kdZ_some {lv x : Int} (h : 1 ≤ x ∧ x ≤ flZ lv) (hx : x ≠ flZ lv) : kdZ lv x = 1 := by
  unfold kdZ
  rw [if_neg (by omega), if_neg hx]
theorem kdZ_yes {lv x : Int} (h : 1 ≤ x ∧ x ≤ flZ lv) : kdZ lv x = 1 ∨ kdZ lv x = 2 := by
  unfold kdZ
  rw [if_neg (by omega)]
  split
  · exact Or.inr rfl
  · exact Or.inl rfl
set_option maxHeartbeats 1000000 in
theorem kindOfSet_any (nm : ByteArray) (lv x : Int) (w : World) (h : 2 ≤ lv ∧ lv ≤ 8) :
    Calls Try.prog 125 #[.agg #[.string nm, .int .i64 lv], .int .i64 x] w fun e w' => e = .returned (.int .i64 (kdZ lv x)) ∧ Below w.heap.size w w' := by
  have hf := flZ_bd h
  by_cases h0 : x ≤ 0
  · have hv := Lib.hid (kdZ_no (lv := lv) (x := x) (by omega))
    go_enter Try.func125, Try.ntmps125
    go_wp2_with (go_at_call 165; refine (setOfAll_any _ _ _ h).mono ?_; rintro e w1 ⟨rfl, hb1⟩; obtain ⟨hcl1, hfr1⟩ := bcell hb1; have hz1 := hb1.size; (try simp at hz1); (try (have hly1 := Nat.lt_of_succ_le hz1)); (try (have hlx1 := Nat.lt_of_succ_lt hly1)); (try (have hlw1 := Nat.lt_of_succ_lt hlx1)); (try (have hle1 := Nat.le_of_lt hly1)); (try (have hya1 : w.heap.size < w1.heap.size := by omega)); (try (have hyb1 : w.heap.size + 1 < w1.heap.size := by omega)); (try (have hyc1 : w.heap.size + 1 + 1 < w1.heap.size := by omega)); (try (have hyd1 : wa.heap.size < w1.heap.size := by omega)))
    go_ret
    exact ⟨ret_int hv.out.symm, (by repeat (first | exact Below.refl _ _ | assumption | refine Below.drew ?_ | refine below_drewN ?_ _ | refine Below.alloc' ?_ _ | (refine Below.setCell ?_ (by first | omega | (simp; done) | (simp; omega) | exact Below.size (by assumption) | exact Nat.le_trans (Below.size (by assumption)) (by simp)) _) | (refine Below.via' ?_ (by assumption)) | (refine Below.alloc ?_ (by first | omega | (simp; done) | (simp; omega) | exact Below.size (by assumption) | exact Nat.le_trans (Below.size (by assumption)) (by simp)) _) | (refine Below.via ?_ (by assumption) (by first | omega | (simp; done) | (simp; omega) | exact Below.size (by assumption) | exact Nat.le_trans (Below.size (by assumption)) (by simp)))))⟩
  by_cases h1 : flZ lv < x
  · have hv := Lib.hid (kdZ_no (lv := lv) (x := x) (by omega))
    go_enter Try.func125, Try.ntmps125
    go_wp2_with (go_at_call 165; refine (setOfAll_any _ _ _ h).mono ?_; rintro e w1 ⟨rfl, hb1⟩; obtain ⟨hcl1, hfr1⟩ := bcell hb1; have hz1 := hb1.size; (try simp at hz1); (try (have hly1 := Nat.lt_of_succ_le hz1)); (try (have hlx1 := Nat.lt_of_succ_lt hly1)); (try (have hlw1 := Nat.lt_of_succ_lt hlx1)); (try (have hle1 := Nat.le_of_lt hly1)); (try (have hya1 : w.heap.size < w1.heap.size := by omega)); (try (have hyb1 : w.heap.size + 1 < w1.heap.size := by omega)); (try (have hyc1 : w.heap.size + 1 + 1 < w1.heap.size := by omega)); (try (have hyd1 : wa.heap.size < w1.heap.size := by omega)))
    go_ret
    exact ⟨ret_int hv.out.symm, (by repeat (first | exact Below.refl _ _ | assumption | refine Below.drew ?_ | refine below_drewN ?_ _ | refine Below.alloc' ?_ _ | (refine Below.setCell ?_ (by first | omega | (simp; done) | (simp; omega) | exact Below.size (by assumption) | exact Nat.le_trans (Below.size (by assumption)) (by simp)) _) | (refine Below.via' ?_ (by assumption)) | (refine Below.alloc ?_ (by first | omega | (simp; done) | (simp; omega) | exact Below.size (by assumption) | exact Nat.le_trans (Below.size (by assumption)) (by simp)) _) | (refine Below.via ?_ (by assumption) (by first | omega | (simp; done) | (simp; omega) | exact Below.size (by assumption) | exact Nat.le_trans (Below.size (by assumption)) (by simp)))))⟩
  by_cases h2 : x = flZ lv
  · have hv := Lib.hid (kdZ_all h h2)
    have h3 : (x == flZ lv) = true := by rw [beq_iff_eq]; exact h2
    replace h2 := Lib.hid h2
    go_enter Try.func125, Try.ntmps125
    go_wp2_with (go_at_call 165; refine (setOfAll_any _ _ _ h).mono ?_; rintro e w1 ⟨rfl, hb1⟩; obtain ⟨hcl1, hfr1⟩ := bcell hb1; have hz1 := hb1.size; (try simp at hz1); (try (have hly1 := Nat.lt_of_succ_le hz1)); (try (have hlx1 := Nat.lt_of_succ_lt hly1)); (try (have hlw1 := Nat.lt_of_succ_lt hlx1)); (try (have hle1 := Nat.le_of_lt hly1)); (try (have hya1 : w.heap.size < w1.heap.size := by omega)); (try (have hyb1 : w.heap.size + 1 < w1.heap.size := by omega)); (try (have hyc1 : w.heap.size + 1 + 1 < w1.heap.size := by omega)); (try (have hyd1 : wa.heap.size < w1.heap.size := by omega)))
    go_ret
    exact ⟨ret_int hv.out.symm, (by repeat (first | exact Below.refl _ _ | assumption | refine Below.drew ?_ | refine below_drewN ?_ _ | refine Below.alloc' ?_ _ | (refine Below.setCell ?_ (by first | omega | (simp; done) | (simp; omega) | exact Below.size (by assumption) | exact Nat.le_trans (Below.size (by assumption)) (by simp)) _) | (refine Below.via' ?_ (by assumption)) | (refine Below.alloc ?_ (by first | omega | (simp; done) | (simp; omega) | exact Below.size (by assumption) | exact Nat.le_trans (Below.size (by assumption)) (by simp)) _) | (refine Below.via ?_ (by assumption) (by first | omega | (simp; done) | (simp; omega) | exact Below.size (by assumption) | exact Nat.le_trans (Below.size (by assumption)) (by simp)))))⟩
  · have hv := Lib.hid (kdZ_some (lv := lv) (x := x) (by omega) h2)
    have h3 : (x == flZ lv) = false := by rw [beq_eq_false_iff_ne]; exact h2
    go_enter Try.func125, Try.ntmps125
    go_wp2_with (go_at_call 165; refine (setOfAll_any _ _ _ h).mono ?_; rintro e w1 ⟨rfl, hb1⟩; obtain ⟨hcl1, hfr1⟩ := bcell hb1; have hz1 := hb1.size; (try simp at hz1); (try (have hly1 := Nat.lt_of_succ_le hz1)); (try (have hlx1 := Nat.lt_of_succ_lt hly1)); (try (have hlw1 := Nat.lt_of_succ_lt hlx1)); (try (have hle1 := Nat.le_of_lt hly1)); (try (have hya1 : w.heap.size < w1.heap.size := by omega)); (try (have hyb1 : w.heap.size + 1 < w1.heap.size := by omega)); (try (have hyc1 : w.heap.size + 1 + 1 < w1.heap.size := by omega)); (try (have hyd1 : wa.heap.size < w1.heap.size := by omega)))
    go_ret
    exact ⟨ret_int hv.out.symm, (by repeat (first | exact Below.refl _ _ | assumption | refine Below.drew ?_ | refine below_drewN ?_ _ | refine Below.alloc' ?_ _ | (refine Below.setCell ?_ (by first | omega | (simp; done) | (simp; omega) | exact Below.size (by assumption) | exact Nat.le_trans (Below.size (by assumption)) (by simp)) _) | (refine Below.via' ?_ (by assumption)) | (refine Below.alloc ?_ (by first | omega | (simp; done) | (simp; omega) | exact Below.size (by assumption) | exact Nat.le_trans (Below.size (by assumption)) (by simp)) _) | (refine Below.via ?_ (by assumption) (by first | omega | (simp; done) | (simp; omega) | exact Below.size (by assumption) | exact Nat.le_trans (Below.size (by assumption)) (by simp)))))⟩
end Go.Proofs.Ytgkaalonmkcclab
