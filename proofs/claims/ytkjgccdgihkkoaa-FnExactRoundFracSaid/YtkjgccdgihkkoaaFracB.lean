/-
  The walks of chapter 1: comparing, rounding down, rounding.
-/
import Derived.Test.YtkjgccdgihkkoaaFracW
import Derived.Deep.QuietTactic
import Derived.BigQuiet
namespace Go.Proofs.Ytkjgccdgihkkoaa
open Go.RowKit
set_option maxRecDepth 100000

theorem fFloor_any (n d : Int) (w : World) (h1 : 1 ≤ d) (h2 : d ≤ 1000000000) (h3 : -1000000000 ≤ n) (h4 : n ≤ 1000000000) :
    Calls Try.prog 21 #[.agg #[.int .i64 n, .int .i64 d]] w fun e w' => e = .returned (.int .i64 (n / d)) ∧ Below w.heap.size w w' := by
  by_cases hn : 0 ≤ n
  · have := Int.emod_nonneg n (show d ≠ 0 by omega)
    go_enter Try.func21, Try.ntmps21
    go_wp2
    go_ret
    exact ⟨rfl, (by repeat (first | exact Below.refl _ _ | assumption | refine Below.drew ?_ | refine below_drewN ?_ _ | (refine Below.alloc ?_ (by simp; try omega) _) | (refine Below.setCell ?_ (by simp; try omega) _) | (refine Below.via ?_ (by assumption) (by first | omega | (simp; done) | (simp; omega)))))⟩
  · by_cases hr : n.tmod d < 0
    · have e := Lib.hid (floor_rem_neg n d (by omega) hr)
      obtain ⟨q1, q2⟩ := fdiv_bd n d h1 1000000000 (by omega) h3 h4
      have q3 : -1000000000 ≤ n.tdiv d - 1 := by rw [← e.out]; exact q1
      have q4 : n.tdiv d - 1 ≤ 1000000000 := by rw [← e.out]; exact q2
      go_enter Try.func21, Try.ntmps21
      go_wp2
      go_ret
      exact ⟨ret_int e.out.symm, (by repeat (first | exact Below.refl _ _ | assumption | refine Below.drew ?_ | refine below_drewN ?_ _ | (refine Below.alloc ?_ (by simp; try omega) _) | (refine Below.setCell ?_ (by simp; try omega) _) | (refine Below.via ?_ (by assumption) (by first | omega | (simp; done) | (simp; omega)))))⟩
    · have e := Lib.hid (floor_rem_zero n d (by omega) (by omega) hr)
      go_enter Try.func21, Try.ntmps21
      go_wp2
      go_ret
      exact ⟨ret_int e.out.symm, (by repeat (first | exact Below.refl _ _ | assumption | refine Below.drew ?_ | refine below_drewN ?_ _ | (refine Below.alloc ?_ (by simp; try omega) _) | (refine Below.setCell ?_ (by simp; try omega) _) | (refine Below.via ?_ (by assumption) (by first | omega | (simp; done) | (simp; omega)))))⟩

/-- What FloorFrac gives. -/
def floorR (n d : Int) : Value := if fOK n d then .tuple #[.int .i64 (n / d), .bool true] else .tuple #[.int .i64 0, .bool false]
def roundR (n d : Int) : Value := if fOK n d then .tuple #[.int .i64 (roundZ n d), .bool true] else .tuple #[.int .i64 0, .bool false]
def cmpR (n d m c : Int) : Value := if fOK n d && fOK m c then .tuple #[.int .i64 (sgnZ (n * c - m * d)), .bool true] else .tuple #[.int .i64 0, .bool false]
theorem floorR_yes {n d : Int} (h : fOK n d = true) : Ending.returned (.tuple #[.int .i64 (n / d), .bool true]) = .returned (floorR n d) := by unfold floorR; rw [if_pos h]
theorem floorR_no {n d : Int} (h : fOK n d = false) : Ending.returned (.tuple #[.int .i64 0, .bool false]) = .returned (floorR n d) := by unfold floorR; rw [h]; rfl
theorem roundR_yes {n d x : Int} (h : fOK n d = true) (hx : x = roundZ n d) : Ending.returned (.tuple #[.int .i64 x, .bool true]) = .returned (roundR n d) := by unfold roundR; rw [if_pos h, hx]
theorem roundR_no {n d : Int} (h : fOK n d = false) : Ending.returned (.tuple #[.int .i64 0, .bool false]) = .returned (roundR n d) := by unfold roundR; rw [h]; rfl

theorem floorR_t {n d : Int} (h : fOK n d = true) : floorR n d = .tuple #[.int .i64 (n / d), .bool true] := by unfold floorR; rw [if_pos h]
theorem floorR_f {n d : Int} (h : fOK n d = false) : floorR n d = .tuple #[.int .i64 0, .bool false] := by unfold floorR; rw [h]; rfl
theorem roundR_t {n d : Int} (h : fOK n d = true) : roundR n d = .tuple #[.int .i64 (roundZ n d), .bool true] := by unfold roundR; rw [if_pos h]
theorem roundR_f {n d : Int} (h : fOK n d = false) : roundR n d = .tuple #[.int .i64 0, .bool false] := by unfold roundR; rw [h]; rfl
theorem cmpR_t {n d m c : Int} (h : (fOK n d && fOK m c) = true) : cmpR n d m c = .tuple #[.int .i64 (sgnZ (n * c - m * d)), .bool true] := by unfold cmpR; rw [if_pos h]
theorem cmpR_f {n d m c : Int} (h : (fOK n d && fOK m c) = false) : cmpR n d m c = .tuple #[.int .i64 0, .bool false] := by unfold cmpR; rw [h]; rfl

theorem floorFrac_any (n d : Int) (w : World) :
    Calls Try.prog 13 #[.agg #[.int .i64 n, .int .i64 d]] w fun e w' => e = .returned (floorR n d) ∧ Below w.heap.size w w' := by
  cases hf : fOK n d
  · go_enter Try.func13, Try.ntmps13
    go_wp2_with (go_at_call 9; refine (IsFrac_any _ _ _).mono ?_; rintro e w1 ⟨rfl, hb1⟩; obtain ⟨hcl1, hfr1⟩ := bcell hb1; have hz1 := hb1.size; try simp at hz1; try (have hya1 : w.heap.size < w1.heap.size := by omega); try (have hyb1 : w.heap.size + 1 < w1.heap.size := by omega); try (have hyc1 : w.heap.size + 1 + 1 < w1.heap.size := by omega))
    go_ret2
    exact ⟨floorR_no hf, (by repeat (first | exact Below.refl _ _ | assumption | refine Below.drew ?_ | refine below_drewN ?_ _ | (refine Below.alloc ?_ (by simp; try omega) _) | (refine Below.setCell ?_ (by simp; try omega) _) | (refine Below.via ?_ (by assumption) (by first | omega | (simp; done) | (simp; omega)))))⟩
  · obtain ⟨⟨a1, a2, a3, a4⟩, hg⟩ := (fOK_iff n d).1 hf
    clear hg
    go_enter Try.func13, Try.ntmps13
    go_wp2_with (first | (go_at_call 9; refine (IsFrac_any _ _ _).mono ?_; rintro e w1 ⟨rfl, hb1⟩; obtain ⟨hcl1, hfr1⟩ := bcell hb1; have hz1 := hb1.size; try simp at hz1; try (have hya1 : w.heap.size < w1.heap.size := by omega); try (have hyb1 : w.heap.size + 1 < w1.heap.size := by omega); try (have hyc1 : w.heap.size + 1 + 1 < w1.heap.size := by omega)) | (go_at_call 22; refine (floorOf_any _ _ _ (by assumption) (by assumption) (by assumption) (by assumption)).mono ?_; rintro e w2 ⟨rfl, hb2⟩; obtain ⟨hcl2, hfr2⟩ := bcell hb2; have hz2 := hb2.size; try simp at hz2; try (have hya2 : w.heap.size < w2.heap.size := by omega); try (have hyb2 : w.heap.size + 1 < w2.heap.size := by omega); try (have hyc2 : w.heap.size + 1 + 1 < w2.heap.size := by omega)))
    go_ret2
    exact ⟨floorR_yes hf, (by repeat (first | exact Below.refl _ _ | assumption | refine Below.drew ?_ | refine below_drewN ?_ _ | (refine Below.alloc ?_ (by simp; try omega) _) | (refine Below.setCell ?_ (by simp; try omega) _) | (refine Below.via ?_ (by assumption) (by first | omega | (simp; done) | (simp; omega)))))⟩

theorem sFloorFrac_any (n d : Int) (w : World) :
    Calls Try.prog 12 #[.agg #[.int .i64 n, .int .i64 d]] w fun e w' => e = .returned (floorR n d) ∧ Below w.heap.size w w' := by
  cases hf : fOK n d
  · go_enter Try.func12, Try.ntmps12
    go_wp2_with (go_at_call 16; refine (fGood_any _ _ _).mono ?_; rintro e w1 ⟨rfl, hb1⟩; obtain ⟨hcl1, hfr1⟩ := bcell hb1; have hz1 := hb1.size; try simp at hz1; try (have hya1 : w.heap.size < w1.heap.size := by omega); try (have hyb1 : w.heap.size + 1 < w1.heap.size := by omega); try (have hyc1 : w.heap.size + 1 + 1 < w1.heap.size := by omega))
    go_ret2
    exact ⟨floorR_no hf, (by repeat (first | exact Below.refl _ _ | assumption | refine Below.drew ?_ | refine below_drewN ?_ _ | (refine Below.alloc ?_ (by simp; try omega) _) | (refine Below.setCell ?_ (by simp; try omega) _) | (refine Below.via ?_ (by assumption) (by first | omega | (simp; done) | (simp; omega)))))⟩
  · obtain ⟨⟨a1, a2, a3, a4⟩, hg⟩ := (fOK_iff n d).1 hf
    clear hg
    go_enter Try.func12, Try.ntmps12
    go_wp2_with (first | (go_at_call 16; refine (fGood_any _ _ _).mono ?_; rintro e w1 ⟨rfl, hb1⟩; obtain ⟨hcl1, hfr1⟩ := bcell hb1; have hz1 := hb1.size; try simp at hz1; try (have hya1 : w.heap.size < w1.heap.size := by omega); try (have hyb1 : w.heap.size + 1 < w1.heap.size := by omega); try (have hyc1 : w.heap.size + 1 + 1 < w1.heap.size := by omega)) | (go_at_call 21; refine (fFloor_any _ _ _ (by assumption) (by assumption) (by assumption) (by assumption)).mono ?_; rintro e w2 ⟨rfl, hb2⟩; obtain ⟨hcl2, hfr2⟩ := bcell hb2; have hz2 := hb2.size; try simp at hz2; try (have hya2 : w.heap.size < w2.heap.size := by omega); try (have hyb2 : w.heap.size + 1 < w2.heap.size := by omega); try (have hyc2 : w.heap.size + 1 + 1 < w2.heap.size := by omega)))
    go_ret2
    exact ⟨floorR_yes hf, (by repeat (first | exact Below.refl _ _ | assumption | refine Below.drew ?_ | refine below_drewN ?_ _ | (refine Below.alloc ?_ (by simp; try omega) _) | (refine Below.setCell ?_ (by simp; try omega) _) | (refine Below.via ?_ (by assumption) (by first | omega | (simp; done) | (simp; omega)))))⟩

set_option maxHeartbeats 400000 in
theorem roundFrac_any (n d : Int) (w : World) :
    Calls Try.prog 15 #[.agg #[.int .i64 n, .int .i64 d]] w fun e w' => e = .returned (roundR n d) ∧ Below w.heap.size w w' := by
  cases hf : fOK n d
  · go_enter Try.func15, Try.ntmps15
    go_wp2_with (go_at_call 9; refine (IsFrac_any _ _ _).mono ?_; rintro e w1 ⟨rfl, hb1⟩; obtain ⟨hcl1, hfr1⟩ := bcell hb1; have hz1 := hb1.size; try simp at hz1; try (have hya1 : w.heap.size < w1.heap.size := by omega); try (have hyb1 : w.heap.size + 1 < w1.heap.size := by omega); try (have hyc1 : w.heap.size + 1 + 1 < w1.heap.size := by omega))
    go_ret2
    exact ⟨roundR_no hf, (by repeat (first | exact Below.refl _ _ | assumption | refine Below.drew ?_ | refine below_drewN ?_ _ | (refine Below.alloc ?_ (by simp; try omega) _) | (refine Below.setCell ?_ (by simp; try omega) _) | (refine Below.via ?_ (by assumption) (by first | omega | (simp; done) | (simp; omega)))))⟩
  · obtain ⟨⟨a1, a2, a3, a4⟩, hg⟩ := (fOK_iff n d).1 hf
    clear hg
    obtain ⟨q1, q2⟩ := fdiv_bd n d a1 1000000000 (by omega) a3 a4
    obtain ⟨q3, q4⟩ := fdiv_mul n d (by omega)
    by_cases c1 : d < 2 * (n - n / d * d)
    · have hx : Hid (n / d + 1 = roundZ n d) := by unfold Hid roundZ; rw [if_pos (Or.inl c1)]
      go_enter Try.func15, Try.ntmps15
      go_wp2_with (first | (go_at_call 9; refine (IsFrac_any _ _ _).mono ?_; rintro e w1 ⟨rfl, hb1⟩; obtain ⟨hcl1, hfr1⟩ := bcell hb1; have hz1 := hb1.size; try simp at hz1; try (have hya1 : w.heap.size < w1.heap.size := by omega); try (have hyb1 : w.heap.size + 1 < w1.heap.size := by omega); try (have hyc1 : w.heap.size + 1 + 1 < w1.heap.size := by omega)) | (go_at_call 22; refine (floorOf_any _ _ _ (by assumption) (by assumption) (by assumption) (by assumption)).mono ?_; rintro e w2 ⟨rfl, hb2⟩; obtain ⟨hcl2, hfr2⟩ := bcell hb2; have hz2 := hb2.size; try simp at hz2; try (have hya2 : w.heap.size < w2.heap.size := by omega); try (have hyb2 : w.heap.size + 1 < w2.heap.size := by omega); try (have hyc2 : w.heap.size + 1 + 1 < w2.heap.size := by omega)))
      go_ret2
      exact ⟨roundR_yes hf hx.out, (by repeat (first | exact Below.refl _ _ | assumption | refine Below.drew ?_ | refine below_drewN ?_ _ | (refine Below.alloc ?_ (by simp; try omega) _) | (refine Below.setCell ?_ (by simp; try omega) _) | (refine Below.via ?_ (by assumption) (by first | omega | (simp; done) | (simp; omega)))))⟩
    · by_cases c2 : 2 * (n - n / d * d) = d
      · cases c3 : ((n / d).tmod 2 != 0)
        · have hx : Hid (n / d = roundZ n d) := by unfold Hid roundZ; rw [if_neg (by simp at c3; omega)]
          have c2' := Lib.hid c2
          have c2 := beq_iff_eq.2 c2'.out
          go_enter Try.func15, Try.ntmps15
          go_wp2_with (first | (go_at_call 9; refine (IsFrac_any _ _ _).mono ?_; rintro e w1 ⟨rfl, hb1⟩; obtain ⟨hcl1, hfr1⟩ := bcell hb1; have hz1 := hb1.size; try simp at hz1; try (have hya1 : w.heap.size < w1.heap.size := by omega); try (have hyb1 : w.heap.size + 1 < w1.heap.size := by omega); try (have hyc1 : w.heap.size + 1 + 1 < w1.heap.size := by omega)) | (go_at_call 22; refine (floorOf_any _ _ _ (by assumption) (by assumption) (by assumption) (by assumption)).mono ?_; rintro e w2 ⟨rfl, hb2⟩; obtain ⟨hcl2, hfr2⟩ := bcell hb2; have hz2 := hb2.size; try simp at hz2; try (have hya2 : w.heap.size < w2.heap.size := by omega); try (have hyb2 : w.heap.size + 1 < w2.heap.size := by omega); try (have hyc2 : w.heap.size + 1 + 1 < w2.heap.size := by omega)))
          go_ret2
          exact ⟨roundR_yes hf hx.out, (by repeat (first | exact Below.refl _ _ | assumption | refine Below.drew ?_ | refine below_drewN ?_ _ | (refine Below.alloc ?_ (by simp; try omega) _) | (refine Below.setCell ?_ (by simp; try omega) _) | (refine Below.via ?_ (by assumption) (by first | omega | (simp; done) | (simp; omega)))))⟩
        · have hx : Hid (n / d + 1 = roundZ n d) := by unfold Hid roundZ; rw [if_pos (Or.inr ⟨c2, by simpa using c3⟩)]
          have c2' := Lib.hid c2
          have c2 := beq_iff_eq.2 c2'.out
          go_enter Try.func15, Try.ntmps15
          go_wp2_with (first | (go_at_call 9; refine (IsFrac_any _ _ _).mono ?_; rintro e w1 ⟨rfl, hb1⟩; obtain ⟨hcl1, hfr1⟩ := bcell hb1; have hz1 := hb1.size; try simp at hz1; try (have hya1 : w.heap.size < w1.heap.size := by omega); try (have hyb1 : w.heap.size + 1 < w1.heap.size := by omega); try (have hyc1 : w.heap.size + 1 + 1 < w1.heap.size := by omega)) | (go_at_call 22; refine (floorOf_any _ _ _ (by assumption) (by assumption) (by assumption) (by assumption)).mono ?_; rintro e w2 ⟨rfl, hb2⟩; obtain ⟨hcl2, hfr2⟩ := bcell hb2; have hz2 := hb2.size; try simp at hz2; try (have hya2 : w.heap.size < w2.heap.size := by omega); try (have hyb2 : w.heap.size + 1 < w2.heap.size := by omega); try (have hyc2 : w.heap.size + 1 + 1 < w2.heap.size := by omega)))
          go_ret2
          exact ⟨roundR_yes hf hx.out, (by repeat (first | exact Below.refl _ _ | assumption | refine Below.drew ?_ | refine below_drewN ?_ _ | (refine Below.alloc ?_ (by simp; try omega) _) | (refine Below.setCell ?_ (by simp; try omega) _) | (refine Below.via ?_ (by assumption) (by first | omega | (simp; done) | (simp; omega)))))⟩
      · have hx : Hid (n / d = roundZ n d) := by unfold Hid roundZ; rw [if_neg (by omega)]
        go_enter Try.func15, Try.ntmps15
        go_wp2_with (first | (go_at_call 9; refine (IsFrac_any _ _ _).mono ?_; rintro e w1 ⟨rfl, hb1⟩; obtain ⟨hcl1, hfr1⟩ := bcell hb1; have hz1 := hb1.size; try simp at hz1; try (have hya1 : w.heap.size < w1.heap.size := by omega); try (have hyb1 : w.heap.size + 1 < w1.heap.size := by omega); try (have hyc1 : w.heap.size + 1 + 1 < w1.heap.size := by omega)) | (go_at_call 22; refine (floorOf_any _ _ _ (by assumption) (by assumption) (by assumption) (by assumption)).mono ?_; rintro e w2 ⟨rfl, hb2⟩; obtain ⟨hcl2, hfr2⟩ := bcell hb2; have hz2 := hb2.size; try simp at hz2; try (have hya2 : w.heap.size < w2.heap.size := by omega); try (have hyb2 : w.heap.size + 1 < w2.heap.size := by omega); try (have hyc2 : w.heap.size + 1 + 1 < w2.heap.size := by omega)))
        go_ret2
        exact ⟨roundR_yes hf hx.out, (by repeat (first | exact Below.refl _ _ | assumption | refine Below.drew ?_ | refine below_drewN ?_ _ | (refine Below.alloc ?_ (by simp; try omega) _) | (refine Below.setCell ?_ (by simp; try omega) _) | (refine Below.via ?_ (by assumption) (by first | omega | (simp; done) | (simp; omega)))))⟩

set_option maxHeartbeats 400000 in
theorem fRound_any (n d : Int) (w : World) (a1 : 1 ≤ d) (a2 : d ≤ 1000000000) (a3 : -1000000000 ≤ n) (a4 : n ≤ 1000000000) :
    Calls Try.prog 23 #[.agg #[.int .i64 n, .int .i64 d]] w fun e w' => e = .returned (.int .i64 (roundZ n d)) ∧ Below w.heap.size w w' := by
  obtain ⟨q1, q2⟩ := fdiv_bd n d a1 1000000000 (by omega) a3 a4
  obtain ⟨q3, q4⟩ := fdiv_mul n d (by omega)
  by_cases c1 : d < 2 * (n - n / d * d)
  · have hx : Hid (n / d + 1 = roundZ n d) := by unfold Hid roundZ; rw [if_pos (Or.inl c1)]
    go_enter Try.func23, Try.ntmps23
    go_wp2_with (go_at_call 21; refine (fFloor_any _ _ _ (by assumption) (by assumption) (by assumption) (by assumption)).mono ?_; rintro e w2 ⟨rfl, hb2⟩; obtain ⟨hcl2, hfr2⟩ := bcell hb2; have hz2 := hb2.size; try simp at hz2; try (have hya2 : w.heap.size < w2.heap.size := by omega); try (have hyb2 : w.heap.size + 1 < w2.heap.size := by omega); try (have hyc2 : w.heap.size + 1 + 1 < w2.heap.size := by omega))
    go_ret
    exact ⟨ret_int hx.out, (by repeat (first | exact Below.refl _ _ | assumption | refine Below.drew ?_ | refine below_drewN ?_ _ | (refine Below.alloc ?_ (by simp; try omega) _) | (refine Below.setCell ?_ (by simp; try omega) _) | (refine Below.via ?_ (by assumption) (by first | omega | (simp; done) | (simp; omega)))))⟩
  · by_cases c2 : 2 * (n - n / d * d) = d
    · cases c3 : ((n / d).tmod 2 != 0)
      · have hx : Hid (n / d = roundZ n d) := by unfold Hid roundZ; rw [if_neg (by simp at c3; omega)]
        have c2' := Lib.hid c2
        have c2 := beq_iff_eq.2 c2'.out
        go_enter Try.func23, Try.ntmps23
        go_wp2_with (go_at_call 21; refine (fFloor_any _ _ _ (by assumption) (by assumption) (by assumption) (by assumption)).mono ?_; rintro e w2 ⟨rfl, hb2⟩; obtain ⟨hcl2, hfr2⟩ := bcell hb2; have hz2 := hb2.size; try simp at hz2; try (have hya2 : w.heap.size < w2.heap.size := by omega); try (have hyb2 : w.heap.size + 1 < w2.heap.size := by omega); try (have hyc2 : w.heap.size + 1 + 1 < w2.heap.size := by omega))
        go_ret
        exact ⟨ret_int hx.out, (by repeat (first | exact Below.refl _ _ | assumption | refine Below.drew ?_ | refine below_drewN ?_ _ | (refine Below.alloc ?_ (by simp; try omega) _) | (refine Below.setCell ?_ (by simp; try omega) _) | (refine Below.via ?_ (by assumption) (by first | omega | (simp; done) | (simp; omega)))))⟩
      · have hx : Hid (n / d + 1 = roundZ n d) := by unfold Hid roundZ; rw [if_pos (Or.inr ⟨c2, by simpa using c3⟩)]
        have c2' := Lib.hid c2
        have c2 := beq_iff_eq.2 c2'.out
        go_enter Try.func23, Try.ntmps23
        go_wp2_with (go_at_call 21; refine (fFloor_any _ _ _ (by assumption) (by assumption) (by assumption) (by assumption)).mono ?_; rintro e w2 ⟨rfl, hb2⟩; obtain ⟨hcl2, hfr2⟩ := bcell hb2; have hz2 := hb2.size; try simp at hz2; try (have hya2 : w.heap.size < w2.heap.size := by omega); try (have hyb2 : w.heap.size + 1 < w2.heap.size := by omega); try (have hyc2 : w.heap.size + 1 + 1 < w2.heap.size := by omega))
        go_ret
        exact ⟨ret_int hx.out, (by repeat (first | exact Below.refl _ _ | assumption | refine Below.drew ?_ | refine below_drewN ?_ _ | (refine Below.alloc ?_ (by simp; try omega) _) | (refine Below.setCell ?_ (by simp; try omega) _) | (refine Below.via ?_ (by assumption) (by first | omega | (simp; done) | (simp; omega)))))⟩
    · have hx : Hid (n / d = roundZ n d) := by unfold Hid roundZ; rw [if_neg (by omega)]
      go_enter Try.func23, Try.ntmps23
      go_wp2_with (go_at_call 21; refine (fFloor_any _ _ _ (by assumption) (by assumption) (by assumption) (by assumption)).mono ?_; rintro e w2 ⟨rfl, hb2⟩; obtain ⟨hcl2, hfr2⟩ := bcell hb2; have hz2 := hb2.size; try simp at hz2; try (have hya2 : w.heap.size < w2.heap.size := by omega); try (have hyb2 : w.heap.size + 1 < w2.heap.size := by omega); try (have hyc2 : w.heap.size + 1 + 1 < w2.heap.size := by omega))
      go_ret
      exact ⟨ret_int hx.out, (by repeat (first | exact Below.refl _ _ | assumption | refine Below.drew ?_ | refine below_drewN ?_ _ | (refine Below.alloc ?_ (by simp; try omega) _) | (refine Below.setCell ?_ (by simp; try omega) _) | (refine Below.via ?_ (by assumption) (by first | omega | (simp; done) | (simp; omega)))))⟩

theorem sRoundFrac_any (n d : Int) (w : World) :
    Calls Try.prog 14 #[.agg #[.int .i64 n, .int .i64 d]] w fun e w' => e = .returned (roundR n d) ∧ Below w.heap.size w w' := by
  cases hf : fOK n d
  · go_enter Try.func14, Try.ntmps14
    go_wp2_with (go_at_call 16; refine (fGood_any _ _ _).mono ?_; rintro e w1 ⟨rfl, hb1⟩; obtain ⟨hcl1, hfr1⟩ := bcell hb1; have hz1 := hb1.size; try simp at hz1; try (have hya1 : w.heap.size < w1.heap.size := by omega); try (have hyb1 : w.heap.size + 1 < w1.heap.size := by omega); try (have hyc1 : w.heap.size + 1 + 1 < w1.heap.size := by omega))
    go_ret2
    exact ⟨roundR_no hf, (by repeat (first | exact Below.refl _ _ | assumption | refine Below.drew ?_ | refine below_drewN ?_ _ | (refine Below.alloc ?_ (by simp; try omega) _) | (refine Below.setCell ?_ (by simp; try omega) _) | (refine Below.via ?_ (by assumption) (by first | omega | (simp; done) | (simp; omega)))))⟩
  · obtain ⟨⟨a1, a2, a3, a4⟩, hg⟩ := (fOK_iff n d).1 hf
    clear hg
    go_enter Try.func14, Try.ntmps14
    go_wp2_with (first | (go_at_call 16; refine (fGood_any _ _ _).mono ?_; rintro e w1 ⟨rfl, hb1⟩; obtain ⟨hcl1, hfr1⟩ := bcell hb1; have hz1 := hb1.size; try simp at hz1; try (have hya1 : w.heap.size < w1.heap.size := by omega); try (have hyb1 : w.heap.size + 1 < w1.heap.size := by omega); try (have hyc1 : w.heap.size + 1 + 1 < w1.heap.size := by omega)) | (go_at_call 23; refine (fRound_any _ _ _ (by assumption) (by assumption) (by assumption) (by assumption)).mono ?_; rintro e w2 ⟨rfl, hb2⟩; obtain ⟨hcl2, hfr2⟩ := bcell hb2; have hz2 := hb2.size; try simp at hz2; try (have hya2 : w.heap.size < w2.heap.size := by omega); try (have hyb2 : w.heap.size + 1 < w2.heap.size := by omega); try (have hyc2 : w.heap.size + 1 + 1 < w2.heap.size := by omega)))
    go_ret2
    exact ⟨roundR_yes hf rfl, (by repeat (first | exact Below.refl _ _ | assumption | refine Below.drew ?_ | refine below_drewN ?_ _ | (refine Below.alloc ?_ (by simp; try omega) _) | (refine Below.setCell ?_ (by simp; try omega) _) | (refine Below.via ?_ (by assumption) (by first | omega | (simp; done) | (simp; omega)))))⟩

theorem cmpR_yes {n d m c x : Int} (h : fOK n d = true) (k : fOK m c = true) (hx : x = sgnZ (n * c - m * d)) : Ending.returned (.tuple #[.int .i64 x, .bool true]) = .returned (cmpR n d m c) := by unfold cmpR; rw [h, k, hx]; rfl
theorem cmpR_no {n d m c : Int} (h : (fOK n d && fOK m c) = false) : Ending.returned (.tuple #[.int .i64 0, .bool false]) = .returned (cmpR n d m c) := by unfold cmpR; rw [h]; rfl

set_option maxHeartbeats 400000 in
theorem compareFrac_any (n d m c : Int) (w : World) :
    Calls Try.prog 11 #[.agg #[.int .i64 n, .int .i64 d], .agg #[.int .i64 m, .int .i64 c]] w fun e w' => e = .returned (cmpR n d m c) ∧ Below w.heap.size w w' := by
  cases hf : fOK n d
  · go_enter Try.func11, Try.ntmps11
    go_wp2_with (go_at_call 9; refine (IsFrac_any _ _ _).mono ?_; rintro e w1 ⟨rfl, hb1⟩; obtain ⟨hcl1, hfr1⟩ := bcell hb1; have hz1 := hb1.size; try simp at hz1; try (have hya1 : w.heap.size < w1.heap.size := by omega); try (have hyb1 : w.heap.size + 1 < w1.heap.size := by omega); try (have hyc1 : w.heap.size + 1 + 1 < w1.heap.size := by omega))
    go_ret2
    exact ⟨cmpR_no (by rw [hf]; rfl), (by repeat (first | exact Below.refl _ _ | assumption | refine Below.drew ?_ | refine below_drewN ?_ _ | (refine Below.alloc ?_ (by simp; try omega) _) | (refine Below.setCell ?_ (by simp; try omega) _) | (refine Below.via ?_ (by assumption) (by first | omega | (simp; done) | (simp; omega)))))⟩
  · cases hf2 : fOK m c
    · go_enter Try.func11, Try.ntmps11
      go_wp2_with (go_at_call 9; refine (IsFrac_any _ _ _).mono ?_; rintro e w1 ⟨rfl, hb1⟩; obtain ⟨hcl1, hfr1⟩ := bcell hb1; have hz1 := hb1.size; try simp at hz1; try (have hya1 : w.heap.size < w1.heap.size := by omega); try (have hyb1 : w.heap.size + 1 < w1.heap.size := by omega); try (have hyc1 : w.heap.size + 1 + 1 < w1.heap.size := by omega))
      go_ret2
      exact ⟨cmpR_no (by rw [hf, hf2]; rfl), (by repeat (first | exact Below.refl _ _ | assumption | refine Below.drew ?_ | refine below_drewN ?_ _ | (refine Below.alloc ?_ (by simp; try omega) _) | (refine Below.setCell ?_ (by simp; try omega) _) | (refine Below.via ?_ (by assumption) (by first | omega | (simp; done) | (simp; omega)))))⟩
    · obtain ⟨⟨a1, a2, a3, a4⟩, hg⟩ := (fOK_iff n d).1 hf
      clear hg
      obtain ⟨⟨b1, b2, b3, b4⟩, hg⟩ := (fOK_iff m c).1 hf2
      clear hg
      obtain ⟨p1, p2⟩ := mul_bd9 a3 a4 (show -1000000000 ≤ c by omega) b2
      obtain ⟨p3, p4⟩ := mul_bd9 b3 b4 (show -1000000000 ≤ d by omega) a2
      go_enter Try.func11, Try.ntmps11
      go_wp2_with (go_at_call 9; refine (IsFrac_any _ _ _).mono ?_; rintro e w1 ⟨rfl, hb1⟩; obtain ⟨hcl1, hfr1⟩ := bcell hb1; have hz1 := hb1.size; try simp at hz1; try (have hya1 : w.heap.size < w1.heap.size := by omega); try (have hyb1 : w.heap.size + 1 < w1.heap.size := by omega); try (have hyc1 : w.heap.size + 1 + 1 < w1.heap.size := by omega))
      go_quiet (fail)
      go_wp2
      all_goals
        go_ret2
        exact ⟨cmpR_yes hf hf2 (by unfold sgnZ; (repeat' split) <;> omega), (by repeat (first | exact Below.refl _ _ | assumption | refine Below.drew ?_ | refine below_drewN ?_ _ | (refine Below.alloc ?_ (by simp; try omega) _) | (refine Below.setCell ?_ (by simp; try omega) _) | (refine Below.via ?_ (by assumption) (by first | omega | (simp; done) | (simp; omega)))))⟩

theorem fCmp_any (n d m c : Int) (w : World) (hf : fOK n d = true) (hf2 : fOK m c = true) :
    Calls Try.prog 20 #[.agg #[.int .i64 n, .int .i64 d], .agg #[.int .i64 m, .int .i64 c]] w fun e w' => e = .returned (.int .i64 (sgnZ (n * c - m * d))) ∧ Below w.heap.size w w' := by
  obtain ⟨⟨a1, a2, a3, a4⟩, hg⟩ := (fOK_iff n d).1 hf
  clear hg
  obtain ⟨⟨b1, b2, b3, b4⟩, hg⟩ := (fOK_iff m c).1 hf2
  clear hg
  obtain ⟨p1, p2⟩ := mul_bd9 a3 a4 (show -1000000000 ≤ c by omega) b2
  obtain ⟨p3, p4⟩ := mul_bd9 b3 b4 (show -1000000000 ≤ d by omega) a2
  go_enter Try.func20, Try.ntmps20
  go_wp2_with (go_at_call 26; refine (l1Sign_any _ _).mono ?_; rintro e w1 ⟨rfl, rfl⟩)
  go_ret
  exact ⟨rfl, (by repeat (first | exact Below.refl _ _ | assumption | refine Below.drew ?_ | refine below_drewN ?_ _ | (refine Below.alloc ?_ (by simp; try omega) _) | (refine Below.setCell ?_ (by simp; try omega) _) | (refine Below.via ?_ (by assumption) (by first | omega | (simp; done) | (simp; omega)))))⟩

theorem sCompareFrac_any (n d m c : Int) (w : World) :
    Calls Try.prog 10 #[.agg #[.int .i64 n, .int .i64 d], .agg #[.int .i64 m, .int .i64 c]] w fun e w' => e = .returned (cmpR n d m c) ∧ Below w.heap.size w w' := by
  cases hf : (fOK n d && fOK m c)
  · go_enter Try.func10, Try.ntmps10
    go_wp2_with (go_at_call 19; refine (fTwo_any _ _ _ _ _).mono ?_; rintro e w1 ⟨rfl, hb1⟩; obtain ⟨hcl1, hfr1⟩ := bcell hb1; have hz1 := hb1.size; try simp at hz1; try (have hya1 : w.heap.size < w1.heap.size := by omega); try (have hyb1 : w.heap.size + 1 < w1.heap.size := by omega); try (have hyc1 : w.heap.size + 1 + 1 < w1.heap.size := by omega))
    go_ret2
    exact ⟨cmpR_no hf, (by repeat (first | exact Below.refl _ _ | assumption | refine Below.drew ?_ | refine below_drewN ?_ _ | (refine Below.alloc ?_ (by simp; try omega) _) | (refine Below.setCell ?_ (by simp; try omega) _) | (refine Below.via ?_ (by assumption) (by first | omega | (simp; done) | (simp; omega)))))⟩
  · obtain ⟨hf1, hf2⟩ := Bool.and_eq_true_iff.1 hf
    go_enter Try.func10, Try.ntmps10
    go_wp2_with (first | (go_at_call 19; refine (fTwo_any _ _ _ _ _).mono ?_; rintro e w1 ⟨rfl, hb1⟩; obtain ⟨hcl1, hfr1⟩ := bcell hb1; have hz1 := hb1.size; try simp at hz1; try (have hya1 : w.heap.size < w1.heap.size := by omega); try (have hyb1 : w.heap.size + 1 < w1.heap.size := by omega); try (have hyc1 : w.heap.size + 1 + 1 < w1.heap.size := by omega)) | (go_at_call 20; refine (fCmp_any _ _ _ _ _ (by assumption) (by assumption)).mono ?_; rintro e w2 ⟨rfl, hb2⟩; obtain ⟨hcl2, hfr2⟩ := bcell hb2; have hz2 := hb2.size; try simp at hz2; try (have hya2 : w.heap.size < w2.heap.size := by omega); try (have hyb2 : w.heap.size + 1 < w2.heap.size := by omega); try (have hyc2 : w.heap.size + 1 + 1 < w2.heap.size := by omega)))
    go_ret2
    exact ⟨cmpR_yes hf1 hf2 rfl, (by repeat (first | exact Below.refl _ _ | assumption | refine Below.drew ?_ | refine below_drewN ?_ _ | (refine Below.alloc ?_ (by simp; try omega) _) | (refine Below.setCell ?_ (by simp; try omega) _) | (refine Below.via ?_ (by assumption) (by first | omega | (simp; done) | (simp; omega)))))⟩
end Go.Proofs.Ytkjgccdgihkkoaa
