/-
  The walks of chapter 1: lowest terms and the four operations, the program's and the model's.
-/
import Derived.Test.YtbglogaljjfnnabDoorFracW
import Derived.Test.YtbglogaljjfnnabDoorLow
namespace Go.Proofs.YtbglogaljjfnnabDoor
open Go.RowKit
set_option maxRecDepth 100000

/-- The program's table of small divisors lies in its variable. -/
def Tab (w : World) : Prop :=
  w.cell? ⟨0, 0, none⟩ = some (.int .i64 2) ∧ w.cell? ⟨0, 1, none⟩ = some (.int .i64 3) ∧
  w.cell? ⟨0, 2, none⟩ = some (.int .i64 5) ∧ w.cell? ⟨0, 3, none⟩ = some (.int .i64 7) ∧ 0 < w.heap.size
theorem Tab.below {w w' : World} (h : Tab w) (hb : Below w.heap.size w w') : Tab w' := by
  obtain ⟨h1, h2, h3, h4, h5⟩ := h
  exact ⟨(hb.cell h5).trans h1, (hb.cell h5).trans h2, (hb.cell h5).trans h3, (hb.cell h5).trans h4, Nat.lt_of_lt_of_le h5 hb.size⟩

/-- What cancelSmall gives: a pair with the same lowest terms. -/
def CancelPost (n d : Int) (w : World) (e : Ending) (w' : World) : Prop :=
  ∃ x y : Int, e = .returned (.tuple #[.int .i64 x, .int .i64 y]) ∧ -2305843009213693952 ≤ x ∧ x ≤ 2305843009213693952 ∧ 1 ≤ y ∧ y ≤ 2305843009213693952 ∧ lowN x y = lowN n d ∧ lowD x y = lowD n d ∧ Below w.heap.size w w'

set_option maxHeartbeats 1000000 in
theorem cancelSmall_any (n d : Int) (w : World) (h1 : -2305843009213693952 ≤ n) (h2 : n ≤ 2305843009213693952) (h3 : 1 ≤ d) (h4 : d ≤ 2305843009213693952) (hT : Tab w) :
    Calls Tryd.prog 54 #[.int .i64 n, .int .i64 d] w (CancelPost n d w) := by
  go_enter Tryd.func54, Tryd.ntmps54
  go_wp2
  go_loopw [0, 1, 6, 7] (fun a b i _ wr => ∃ (x y : Int) (k : Nat), -2305843009213693952 ≤ x ∧ x ≤ 2305843009213693952 ∧ 1 ≤ y ∧ y ≤ 2305843009213693952 ∧ k ≤ 4 ∧ a = .int .i64 x ∧ b = .int .i64 y ∧ i = .int .i64 k ∧ Hid (lowN x y = lowN n d) ∧ Hid (lowD x y = lowD n d) ∧ Below w.heap.size w wr) (fun _ _ i _ _ => 4 - (intOf i).toNat)
  case atStart => exact ⟨n, d, 0, by omega, by omega, by omega, by omega, by omega, rfl, rfl, rfl, rfl, rfl, Below.refl _ _⟩
  case round =>
    obtain ⟨x, y, k, x1, x2, y1, y2, hk, rfl, rfl, rfl, e1, e2, hb⟩ := hrel
    by_cases hlt : k < 4
    · obtain ⟨p, p1, p2, hc⟩ : ∃ p : Int, 2 ≤ p ∧ p ≤ 7 ∧ wr.cell? ⟨0, k, none⟩ = some (.int .i64 p) := by
        obtain ⟨t0, t1, t2, t3, t4⟩ := hT.below hb
        rcases (show k = 0 ∨ k = 1 ∨ k = 2 ∨ k = 3 by omega) with rfl | rfl | rfl | rfl
        · exact ⟨2, by omega, by omega, t0⟩
        · exact ⟨3, by omega, by omega, t1⟩
        · exact ⟨5, by omega, by omega, t2⟩
        · exact ⟨7, by omega, by omega, t3⟩
      go_wp2
      obtain ⟨wo, rfl⟩ : ∃ wo : World, wo = wr := ⟨_, rfl⟩
      go_loopw [0, 1] (fun a b wr => ∃ u v : Int, -2305843009213693952 ≤ u ∧ u ≤ 2305843009213693952 ∧ 1 ≤ v ∧ v ≤ 2305843009213693952 ∧ a = .int .i64 u ∧ b = .int .i64 v ∧ Hid (lowN u v = lowN n d) ∧ Hid (lowD u v = lowD n d) ∧ Below w.heap.size w wr) (fun _ b _ => (intOf b).toNat)
      case atStart => exact ⟨x, y, x1, x2, y1, y2, rfl, rfl, e1, e2, hb⟩
      case round =>
        clear hc hb e1 e2
        obtain ⟨u, v, u1, u2, v1, v2, rfl, rfl, e1, e2, hb⟩ := hrel
        by_cases c : u.tmod p = 0 ∧ v % p = 0
        · obtain ⟨c1, c2⟩ := c
          obtain ⟨k1, k2⟩ := low_cancel u v p (by omega) c1 c2
          have v3 : v / p < v := Int.ediv_lt_self_of_pos_of_ne_one (by omega) (by omega)
          have v4 : 1 ≤ v / p := by
            have := Int.le_of_dvd (by omega) (Int.dvd_of_emod_eq_zero c2)
            exact Int.le_ediv_of_mul_le (by omega) (by omega)
          have u3 := Int.natAbs_tdiv_le_natAbs u p
          obtain ⟨u4, u5⟩ : -2305843009213693952 ≤ u.tdiv p ∧ u.tdiv p ≤ 2305843009213693952 := by omega
          have k1 := Lib.hid k1
          have k2 := Lib.hid k2
          have b1 := beq_iff_eq.2 c1
          have b2 := beq_iff_eq.2 c2
          clear c1 c2 u3
          go_wp2
          go_quiet (fail)
          go_wp2
          go_roundw
          case rel => exact ⟨u.tdiv p, v / p, u4, u5, v4, by omega, rfl, rfl, by unfold Hid; rw [k1.out, e1.out], by unfold Hid; rw [k2.out, e2.out], (by repeat (first | exact Below.refl _ _ | assumption | refine Below.drew ?_ | refine below_drewN ?_ _ | refine Below.alloc' ?_ _ | (refine Below.setCell ?_ (by first | omega | (simp; done) | (simp; omega) | exact Below.size (by assumption) | exact Nat.le_trans (Below.size (by assumption)) (by simp)) _) | (refine Below.via' ?_ (by assumption)) | (refine Below.alloc ?_ (by first | omega | (simp; done) | (simp; omega) | exact Below.size (by assumption) | exact Nat.le_trans (Below.size (by assumption)) (by simp)) _) | (refine Below.via ?_ (by assumption) (by first | omega | (simp; done) | (simp; omega) | exact Below.size (by assumption) | exact Nat.le_trans (Below.size (by assumption)) (by simp)))))⟩
          case measure => simp [intOf]; omega
        · by_cases c1 : u.tmod p = 0
          · have b1 := beq_iff_eq.2 c1
            have b2 := beq_eq_false_iff_ne.2 (show v % p ≠ 0 from fun h => c ⟨c1, h⟩)
            clear c1 c
            go_wp2
            go_roundw
            case rel => exact ⟨u, v, k + 1, u1, u2, v1, v2, by omega, rfl, rfl, by go_num, e1, e2, hb⟩
            case measure => simp [intOf]; omega
          · have b1 := beq_eq_false_iff_ne.2 c1
            clear c1 c
            go_wp2
            go_roundw
            case rel => exact ⟨u, v, k + 1, u1, u2, v1, v2, by omega, rfl, rfl, by go_num, e1, e2, hb⟩
            case measure => simp [intOf]; omega
    · go_wp2
      go_ret2
      exact ⟨x, y, rfl, x1, x2, y1, y2, e1.out, e2.out, hb⟩

set_option maxHeartbeats 1000000 in
theorem lowestTerms_any (n d : Int) (w : World) (h1 : -2000000000000000000 ≤ n) (h2 : n ≤ 2000000000000000000) (h3 : -2000000000000000000 ≤ d) (h4 : d ≤ 2000000000000000000) (hd : d ≠ 0) (hT : Tab w) :
    Calls Tryd.prog 32 #[.int .i64 n, .int .i64 d] w fun e w' => e = .returned (fracV (mkN n d) (mkD n d) (mkB n d)) ∧ Below w.heap.size w w' := by
  rcases Int.lt_or_gt_of_ne hd with hneg | hpos
  · obtain ⟨ea, ec⟩ := mkA_neg n d hneg
    have hB := Lib.hid (mkB_of n d hd)
    have ea := Lib.hid ea
    have ec := Lib.hid ec
    clear hd
    go_enter Tryd.func32, Tryd.ntmps32
    go_wp2_with (go_at_call 54; refine (cancelSmall_any _ _ _ (by omega) (by omega) (by omega) (by omega) (hT.below (by exact (by repeat (first | exact Below.refl _ _ | assumption | refine Below.drew ?_ | refine below_drewN ?_ _ | refine Below.alloc' ?_ _ | (refine Below.setCell ?_ (by first | omega | (simp; done) | (simp; omega) | exact Below.size (by assumption) | exact Nat.le_trans (Below.size (by assumption)) (by simp)) _) | (refine Below.via' ?_ (by assumption)) | (refine Below.alloc ?_ (by first | omega | (simp; done) | (simp; omega) | exact Below.size (by assumption) | exact Nat.le_trans (Below.size (by assumption)) (by simp)) _) | (refine Below.via ?_ (by assumption) (by first | omega | (simp; done) | (simp; omega) | exact Below.size (by assumption) | exact Nat.le_trans (Below.size (by assumption)) (by simp)))))))).mono ?_; rintro e w1 ⟨x, y, rfl, x1, x2, y1, y2, e1, e2, hb1⟩)
    have fa : Hid (mkA n d = x.tdiv (gcdZ x y)) := by unfold Hid; rw [ea.out, ← e1]; rfl
    have fc : Hid (mkC n d = y / gcdZ x y) := by unfold Hid; rw [ec.out, ← e2]; rfl
    clear e1 e2 ea ec
    have g1 := gcdZ_pos x y (by omega)
    have g2 := gcdZ_le x y (by omega)
    obtain ⟨m1, m2⟩ : -2305843009213693952 ≤ x.tdiv (gcdZ x y) ∧ x.tdiv (gcdZ x y) ≤ 2305843009213693952 := lowN_bd x y _ x1 x2
    obtain ⟨m3, m4⟩ : 1 ≤ y / gcdZ x y ∧ y / gcdZ x y ≤ y := lowD_pos x y (by omega)
    generalize hgg : gcdZ x y = g at fa fc g1 g2 m1 m2 m3 m4
    have hgg := Lib.hid hgg
    obtain ⟨hcl1, hfr1⟩ := bcell hb1
    have hz1 := hb1.size
    simp at hz1
    have hya1 : w.heap.size < w1.heap.size := by omega
    go_wp2_with (go_at_call 37; refine (commonDivisor_any _ _ _ (by omega) (by omega) (by omega) (by omega)).mono ?_; rintro e w2 ⟨rfl, rfl⟩; rw [hgg.out])
    go_region
    cases hf : fIn (x.tdiv g) (y / g)
    · have hv : Hid (fracV (mkN n d) (mkD n d) (mkB n d) = fracV 0 0 false) := by
        have hb : mkB n d = false := by rw [hB.out, fa.out, fc.out]; exact hf
        unfold Hid
        rw [(mk_f hb).1, (mk_f hb).2, hb]
      go_wp2_with ((go_at_call 36; refine (isWithin_any _ _ _).mono ?_; rintro e w3 ⟨rfl, hb3⟩; obtain ⟨hcl3, hfr3⟩ := bcell hb3; have hz3 := hb3.size; (try simp at hz3); (try (have hly3 := Nat.lt_of_succ_le hz3)); (try (have hlx3 := Nat.lt_of_succ_lt hly3)); (try (have hlw3 := Nat.lt_of_succ_lt hlx3)); (try (have hle3 := Nat.le_of_lt hly3)); (try (have hya3 : w.heap.size < w3.heap.size := by omega)); (try (have hyb3 : w.heap.size + 1 < w3.heap.size := by omega)); (try (have hyc3 : w.heap.size + 1 + 1 < w3.heap.size := by omega)); (try (have hyd3 : wa.heap.size < w3.heap.size := by omega))); have c0 : w3.cell? ⟨w.heap.size, 0, none⟩ = some (.int .i64 0) := ((show Below (w.alloc (.cells #[.int .i64 0, .int .i64 0] 24)).heap.size (w.alloc (.cells #[.int .i64 0, .int .i64 0] 24)) w3 from (by repeat (first | exact Below.refl _ _ | assumption | refine Below.drew ?_ | refine below_drewN ?_ _ | refine Below.alloc' ?_ _ | (refine Below.setCell ?_ (by first | omega | (simp; done) | (simp; omega) | exact Below.size (by assumption) | exact Nat.le_trans (Below.size (by assumption)) (by simp)) _) | (refine Below.via' ?_ (by assumption)) | (refine Below.alloc ?_ (by first | omega | (simp; done) | (simp; omega) | exact Below.size (by assumption) | exact Nat.le_trans (Below.size (by assumption)) (by simp)) _) | (refine Below.via ?_ (by assumption) (by first | omega | (simp; done) | (simp; omega) | exact Below.size (by assumption) | exact Nat.le_trans (Below.size (by assumption)) (by simp)))))).cell (by first | omega | (simp; done) | (simp; omega))).trans (by go_simp); have c1 : w3.cell? ⟨w.heap.size, 1, none⟩ = some (.int .i64 0) := ((show Below (w.alloc (.cells #[.int .i64 0, .int .i64 0] 24)).heap.size (w.alloc (.cells #[.int .i64 0, .int .i64 0] 24)) w3 from (by repeat (first | exact Below.refl _ _ | assumption | refine Below.drew ?_ | refine below_drewN ?_ _ | refine Below.alloc' ?_ _ | (refine Below.setCell ?_ (by first | omega | (simp; done) | (simp; omega) | exact Below.size (by assumption) | exact Nat.le_trans (Below.size (by assumption)) (by simp)) _) | (refine Below.via' ?_ (by assumption)) | (refine Below.alloc ?_ (by first | omega | (simp; done) | (simp; omega) | exact Below.size (by assumption) | exact Nat.le_trans (Below.size (by assumption)) (by simp)) _) | (refine Below.via ?_ (by assumption) (by first | omega | (simp; done) | (simp; omega) | exact Below.size (by assumption) | exact Nat.le_trans (Below.size (by assumption)) (by simp)))))).cell (by first | omega | (simp; done) | (simp; omega))).trans (by go_simp))
      refine bodyPost_ret (v := .tuple #[.agg #[.int .i64 0, .int .i64 0], .bool false]) (by simp [results, Tryd.results32, go_sem, *]) rfl ⟨?_, ?_⟩
      · rw [hv.out]; rfl
      · exact (by repeat (first | exact Below.refl _ _ | assumption | refine Below.drew ?_ | refine below_drewN ?_ _ | refine Below.alloc' ?_ _ | (refine Below.setCell ?_ (by first | omega | (simp; done) | (simp; omega) | exact Below.size (by assumption) | exact Nat.le_trans (Below.size (by assumption)) (by simp)) _) | (refine Below.via' ?_ (by assumption)) | (refine Below.alloc ?_ (by first | omega | (simp; done) | (simp; omega) | exact Below.size (by assumption) | exact Nat.le_trans (Below.size (by assumption)) (by simp)) _) | (refine Below.via ?_ (by assumption) (by first | omega | (simp; done) | (simp; omega) | exact Below.size (by assumption) | exact Nat.le_trans (Below.size (by assumption)) (by simp)))))
    · have hv : Hid (fracV (mkN n d) (mkD n d) (mkB n d) = fracV (x.tdiv g) (y / g) true) := by
        have hb : mkB n d = true := by rw [hB.out, fa.out, fc.out]; exact hf
        unfold Hid
        rw [(mk_t hb).1, (mk_t hb).2, hb, fa.out, fc.out]
      go_wp2_with ((go_at_call 36; refine (isWithin_any _ _ _).mono ?_; rintro e w3 ⟨rfl, hb3⟩; obtain ⟨hcl3, hfr3⟩ := bcell hb3; have hz3 := hb3.size; (try simp at hz3); (try (have hly3 := Nat.lt_of_succ_le hz3)); (try (have hlx3 := Nat.lt_of_succ_lt hly3)); (try (have hlw3 := Nat.lt_of_succ_lt hlx3)); (try (have hle3 := Nat.le_of_lt hly3)); (try (have hya3 : w.heap.size < w3.heap.size := by omega)); (try (have hyb3 : w.heap.size + 1 < w3.heap.size := by omega)); (try (have hyc3 : w.heap.size + 1 + 1 < w3.heap.size := by omega)); (try (have hyd3 : wa.heap.size < w3.heap.size := by omega))); have c0 : w3.cell? ⟨w.heap.size, 0, none⟩ = some (.int .i64 0) := ((show Below (w.alloc (.cells #[.int .i64 0, .int .i64 0] 24)).heap.size (w.alloc (.cells #[.int .i64 0, .int .i64 0] 24)) w3 from (by repeat (first | exact Below.refl _ _ | assumption | refine Below.drew ?_ | refine below_drewN ?_ _ | refine Below.alloc' ?_ _ | (refine Below.setCell ?_ (by first | omega | (simp; done) | (simp; omega) | exact Below.size (by assumption) | exact Nat.le_trans (Below.size (by assumption)) (by simp)) _) | (refine Below.via' ?_ (by assumption)) | (refine Below.alloc ?_ (by first | omega | (simp; done) | (simp; omega) | exact Below.size (by assumption) | exact Nat.le_trans (Below.size (by assumption)) (by simp)) _) | (refine Below.via ?_ (by assumption) (by first | omega | (simp; done) | (simp; omega) | exact Below.size (by assumption) | exact Nat.le_trans (Below.size (by assumption)) (by simp)))))).cell (by first | omega | (simp; done) | (simp; omega))).trans (by go_simp); have c1 : w3.cell? ⟨w.heap.size, 1, none⟩ = some (.int .i64 0) := ((show Below (w.alloc (.cells #[.int .i64 0, .int .i64 0] 24)).heap.size (w.alloc (.cells #[.int .i64 0, .int .i64 0] 24)) w3 from (by repeat (first | exact Below.refl _ _ | assumption | refine Below.drew ?_ | refine below_drewN ?_ _ | refine Below.alloc' ?_ _ | (refine Below.setCell ?_ (by first | omega | (simp; done) | (simp; omega) | exact Below.size (by assumption) | exact Nat.le_trans (Below.size (by assumption)) (by simp)) _) | (refine Below.via' ?_ (by assumption)) | (refine Below.alloc ?_ (by first | omega | (simp; done) | (simp; omega) | exact Below.size (by assumption) | exact Nat.le_trans (Below.size (by assumption)) (by simp)) _) | (refine Below.via ?_ (by assumption) (by first | omega | (simp; done) | (simp; omega) | exact Below.size (by assumption) | exact Nat.le_trans (Below.size (by assumption)) (by simp)))))).cell (by first | omega | (simp; done) | (simp; omega))).trans (by go_simp))
      refine bodyPost_ret (v := .tuple #[.agg #[.int .i64 (x.tdiv g), .int .i64 (y / g)], .bool true]) (by simp [results, Tryd.results32, go_sem, *]) rfl ⟨?_, ?_⟩
      · rw [hv.out]; rfl
      · exact (by repeat (first | exact Below.refl _ _ | assumption | refine Below.drew ?_ | refine below_drewN ?_ _ | refine Below.alloc' ?_ _ | (refine Below.setCell ?_ (by first | omega | (simp; done) | (simp; omega) | exact Below.size (by assumption) | exact Nat.le_trans (Below.size (by assumption)) (by simp)) _) | (refine Below.via' ?_ (by assumption)) | (refine Below.alloc ?_ (by first | omega | (simp; done) | (simp; omega) | exact Below.size (by assumption) | exact Nat.le_trans (Below.size (by assumption)) (by simp)) _) | (refine Below.via ?_ (by assumption) (by first | omega | (simp; done) | (simp; omega) | exact Below.size (by assumption) | exact Nat.le_trans (Below.size (by assumption)) (by simp)))))
  · obtain ⟨ea, ec⟩ := mkA_pos n d hpos
    have hB := Lib.hid (mkB_of n d hd)
    have ea := Lib.hid ea
    have ec := Lib.hid ec
    clear hd
    go_enter Tryd.func32, Tryd.ntmps32
    go_wp2_with (go_at_call 54; refine (cancelSmall_any _ _ _ (by omega) (by omega) (by omega) (by omega) (hT.below (by exact (by repeat (first | exact Below.refl _ _ | assumption | refine Below.drew ?_ | refine below_drewN ?_ _ | refine Below.alloc' ?_ _ | (refine Below.setCell ?_ (by first | omega | (simp; done) | (simp; omega) | exact Below.size (by assumption) | exact Nat.le_trans (Below.size (by assumption)) (by simp)) _) | (refine Below.via' ?_ (by assumption)) | (refine Below.alloc ?_ (by first | omega | (simp; done) | (simp; omega) | exact Below.size (by assumption) | exact Nat.le_trans (Below.size (by assumption)) (by simp)) _) | (refine Below.via ?_ (by assumption) (by first | omega | (simp; done) | (simp; omega) | exact Below.size (by assumption) | exact Nat.le_trans (Below.size (by assumption)) (by simp)))))))).mono ?_; rintro e w1 ⟨x, y, rfl, x1, x2, y1, y2, e1, e2, hb1⟩)
    have fa : Hid (mkA n d = x.tdiv (gcdZ x y)) := by unfold Hid; rw [ea.out, ← e1]; rfl
    have fc : Hid (mkC n d = y / gcdZ x y) := by unfold Hid; rw [ec.out, ← e2]; rfl
    clear e1 e2 ea ec
    have g1 := gcdZ_pos x y (by omega)
    have g2 := gcdZ_le x y (by omega)
    obtain ⟨m1, m2⟩ : -2305843009213693952 ≤ x.tdiv (gcdZ x y) ∧ x.tdiv (gcdZ x y) ≤ 2305843009213693952 := lowN_bd x y _ x1 x2
    obtain ⟨m3, m4⟩ : 1 ≤ y / gcdZ x y ∧ y / gcdZ x y ≤ y := lowD_pos x y (by omega)
    generalize hgg : gcdZ x y = g at fa fc g1 g2 m1 m2 m3 m4
    have hgg := Lib.hid hgg
    obtain ⟨hcl1, hfr1⟩ := bcell hb1
    have hz1 := hb1.size
    simp at hz1
    have hya1 : w.heap.size < w1.heap.size := by omega
    go_wp2_with (go_at_call 37; refine (commonDivisor_any _ _ _ (by omega) (by omega) (by omega) (by omega)).mono ?_; rintro e w2 ⟨rfl, rfl⟩; rw [hgg.out])
    go_region
    cases hf : fIn (x.tdiv g) (y / g)
    · have hv : Hid (fracV (mkN n d) (mkD n d) (mkB n d) = fracV 0 0 false) := by
        have hb : mkB n d = false := by rw [hB.out, fa.out, fc.out]; exact hf
        unfold Hid
        rw [(mk_f hb).1, (mk_f hb).2, hb]
      go_wp2_with ((go_at_call 36; refine (isWithin_any _ _ _).mono ?_; rintro e w3 ⟨rfl, hb3⟩; obtain ⟨hcl3, hfr3⟩ := bcell hb3; have hz3 := hb3.size; (try simp at hz3); (try (have hly3 := Nat.lt_of_succ_le hz3)); (try (have hlx3 := Nat.lt_of_succ_lt hly3)); (try (have hlw3 := Nat.lt_of_succ_lt hlx3)); (try (have hle3 := Nat.le_of_lt hly3)); (try (have hya3 : w.heap.size < w3.heap.size := by omega)); (try (have hyb3 : w.heap.size + 1 < w3.heap.size := by omega)); (try (have hyc3 : w.heap.size + 1 + 1 < w3.heap.size := by omega)); (try (have hyd3 : wa.heap.size < w3.heap.size := by omega))); have c0 : w3.cell? ⟨w.heap.size, 0, none⟩ = some (.int .i64 0) := ((show Below (w.alloc (.cells #[.int .i64 0, .int .i64 0] 24)).heap.size (w.alloc (.cells #[.int .i64 0, .int .i64 0] 24)) w3 from (by repeat (first | exact Below.refl _ _ | assumption | refine Below.drew ?_ | refine below_drewN ?_ _ | refine Below.alloc' ?_ _ | (refine Below.setCell ?_ (by first | omega | (simp; done) | (simp; omega) | exact Below.size (by assumption) | exact Nat.le_trans (Below.size (by assumption)) (by simp)) _) | (refine Below.via' ?_ (by assumption)) | (refine Below.alloc ?_ (by first | omega | (simp; done) | (simp; omega) | exact Below.size (by assumption) | exact Nat.le_trans (Below.size (by assumption)) (by simp)) _) | (refine Below.via ?_ (by assumption) (by first | omega | (simp; done) | (simp; omega) | exact Below.size (by assumption) | exact Nat.le_trans (Below.size (by assumption)) (by simp)))))).cell (by first | omega | (simp; done) | (simp; omega))).trans (by go_simp); have c1 : w3.cell? ⟨w.heap.size, 1, none⟩ = some (.int .i64 0) := ((show Below (w.alloc (.cells #[.int .i64 0, .int .i64 0] 24)).heap.size (w.alloc (.cells #[.int .i64 0, .int .i64 0] 24)) w3 from (by repeat (first | exact Below.refl _ _ | assumption | refine Below.drew ?_ | refine below_drewN ?_ _ | refine Below.alloc' ?_ _ | (refine Below.setCell ?_ (by first | omega | (simp; done) | (simp; omega) | exact Below.size (by assumption) | exact Nat.le_trans (Below.size (by assumption)) (by simp)) _) | (refine Below.via' ?_ (by assumption)) | (refine Below.alloc ?_ (by first | omega | (simp; done) | (simp; omega) | exact Below.size (by assumption) | exact Nat.le_trans (Below.size (by assumption)) (by simp)) _) | (refine Below.via ?_ (by assumption) (by first | omega | (simp; done) | (simp; omega) | exact Below.size (by assumption) | exact Nat.le_trans (Below.size (by assumption)) (by simp)))))).cell (by first | omega | (simp; done) | (simp; omega))).trans (by go_simp))
      refine bodyPost_ret (v := .tuple #[.agg #[.int .i64 0, .int .i64 0], .bool false]) (by simp [results, Tryd.results32, go_sem, *]) rfl ⟨?_, ?_⟩
      · rw [hv.out]; rfl
      · exact (by repeat (first | exact Below.refl _ _ | assumption | refine Below.drew ?_ | refine below_drewN ?_ _ | refine Below.alloc' ?_ _ | (refine Below.setCell ?_ (by first | omega | (simp; done) | (simp; omega) | exact Below.size (by assumption) | exact Nat.le_trans (Below.size (by assumption)) (by simp)) _) | (refine Below.via' ?_ (by assumption)) | (refine Below.alloc ?_ (by first | omega | (simp; done) | (simp; omega) | exact Below.size (by assumption) | exact Nat.le_trans (Below.size (by assumption)) (by simp)) _) | (refine Below.via ?_ (by assumption) (by first | omega | (simp; done) | (simp; omega) | exact Below.size (by assumption) | exact Nat.le_trans (Below.size (by assumption)) (by simp)))))
    · have hv : Hid (fracV (mkN n d) (mkD n d) (mkB n d) = fracV (x.tdiv g) (y / g) true) := by
        have hb : mkB n d = true := by rw [hB.out, fa.out, fc.out]; exact hf
        unfold Hid
        rw [(mk_t hb).1, (mk_t hb).2, hb, fa.out, fc.out]
      go_wp2_with ((go_at_call 36; refine (isWithin_any _ _ _).mono ?_; rintro e w3 ⟨rfl, hb3⟩; obtain ⟨hcl3, hfr3⟩ := bcell hb3; have hz3 := hb3.size; (try simp at hz3); (try (have hly3 := Nat.lt_of_succ_le hz3)); (try (have hlx3 := Nat.lt_of_succ_lt hly3)); (try (have hlw3 := Nat.lt_of_succ_lt hlx3)); (try (have hle3 := Nat.le_of_lt hly3)); (try (have hya3 : w.heap.size < w3.heap.size := by omega)); (try (have hyb3 : w.heap.size + 1 < w3.heap.size := by omega)); (try (have hyc3 : w.heap.size + 1 + 1 < w3.heap.size := by omega)); (try (have hyd3 : wa.heap.size < w3.heap.size := by omega))); have c0 : w3.cell? ⟨w.heap.size, 0, none⟩ = some (.int .i64 0) := ((show Below (w.alloc (.cells #[.int .i64 0, .int .i64 0] 24)).heap.size (w.alloc (.cells #[.int .i64 0, .int .i64 0] 24)) w3 from (by repeat (first | exact Below.refl _ _ | assumption | refine Below.drew ?_ | refine below_drewN ?_ _ | refine Below.alloc' ?_ _ | (refine Below.setCell ?_ (by first | omega | (simp; done) | (simp; omega) | exact Below.size (by assumption) | exact Nat.le_trans (Below.size (by assumption)) (by simp)) _) | (refine Below.via' ?_ (by assumption)) | (refine Below.alloc ?_ (by first | omega | (simp; done) | (simp; omega) | exact Below.size (by assumption) | exact Nat.le_trans (Below.size (by assumption)) (by simp)) _) | (refine Below.via ?_ (by assumption) (by first | omega | (simp; done) | (simp; omega) | exact Below.size (by assumption) | exact Nat.le_trans (Below.size (by assumption)) (by simp)))))).cell (by first | omega | (simp; done) | (simp; omega))).trans (by go_simp); have c1 : w3.cell? ⟨w.heap.size, 1, none⟩ = some (.int .i64 0) := ((show Below (w.alloc (.cells #[.int .i64 0, .int .i64 0] 24)).heap.size (w.alloc (.cells #[.int .i64 0, .int .i64 0] 24)) w3 from (by repeat (first | exact Below.refl _ _ | assumption | refine Below.drew ?_ | refine below_drewN ?_ _ | refine Below.alloc' ?_ _ | (refine Below.setCell ?_ (by first | omega | (simp; done) | (simp; omega) | exact Below.size (by assumption) | exact Nat.le_trans (Below.size (by assumption)) (by simp)) _) | (refine Below.via' ?_ (by assumption)) | (refine Below.alloc ?_ (by first | omega | (simp; done) | (simp; omega) | exact Below.size (by assumption) | exact Nat.le_trans (Below.size (by assumption)) (by simp)) _) | (refine Below.via ?_ (by assumption) (by first | omega | (simp; done) | (simp; omega) | exact Below.size (by assumption) | exact Nat.le_trans (Below.size (by assumption)) (by simp)))))).cell (by first | omega | (simp; done) | (simp; omega))).trans (by go_simp))
      refine bodyPost_ret (v := .tuple #[.agg #[.int .i64 (x.tdiv g), .int .i64 (y / g)], .bool true]) (by simp [results, Tryd.results32, go_sem, *]) rfl ⟨?_, ?_⟩
      · rw [hv.out]; rfl
      · exact (by repeat (first | exact Below.refl _ _ | assumption | refine Below.drew ?_ | refine below_drewN ?_ _ | refine Below.alloc' ?_ _ | (refine Below.setCell ?_ (by first | omega | (simp; done) | (simp; omega) | exact Below.size (by assumption) | exact Nat.le_trans (Below.size (by assumption)) (by simp)) _) | (refine Below.via' ?_ (by assumption)) | (refine Below.alloc ?_ (by first | omega | (simp; done) | (simp; omega) | exact Below.size (by assumption) | exact Nat.le_trans (Below.size (by assumption)) (by simp)) _) | (refine Below.via ?_ (by assumption) (by first | omega | (simp; done) | (simp; omega) | exact Below.size (by assumption) | exact Nat.le_trans (Below.size (by assumption)) (by simp)))))

set_option maxHeartbeats 1000000 in
theorem fMake_any (n d : Int) (w : World) (h1 : -2000000000000000000 ≤ n) (h2 : n ≤ 2000000000000000000) (h3 : -2000000000000000000 ≤ d) (h4 : d ≤ 2000000000000000000) :
    Calls Tryd.prog 39 #[.int .i64 n, .int .i64 d] w fun e w' => e = .returned (fracV (mkN n d) (mkD n d) (mkB n d)) ∧ Below w.heap.size w w' := by
  by_cases hd : d = 0
  · subst hd
    have hb := mkB_zero n
    have hv : Hid (fracV (mkN n 0) (mkD n 0) (mkB n 0) = fracV 0 0 false) := by unfold Hid; rw [(mk_f hb).1, (mk_f hb).2, hb]
    clear hb
    go_enter Tryd.func39, Tryd.ntmps39
    go_wp2
    refine bodyPost_ret (v := .tuple #[.agg #[.int .i64 0, .int .i64 0], .bool false]) (by simp [results, Tryd.results39, go_sem, *]) rfl ⟨?_, ?_⟩
    · rw [hv.out]; rfl
    · exact (by repeat (first | exact Below.refl _ _ | assumption | refine Below.drew ?_ | refine below_drewN ?_ _ | refine Below.alloc' ?_ _ | (refine Below.setCell ?_ (by first | omega | (simp; done) | (simp; omega) | exact Below.size (by assumption) | exact Nat.le_trans (Below.size (by assumption)) (by simp)) _) | (refine Below.via' ?_ (by assumption)) | (refine Below.alloc ?_ (by first | omega | (simp; done) | (simp; omega) | exact Below.size (by assumption) | exact Nat.le_trans (Below.size (by assumption)) (by simp)) _) | (refine Below.via ?_ (by assumption) (by first | omega | (simp; done) | (simp; omega) | exact Below.size (by assumption) | exact Nat.le_trans (Below.size (by assumption)) (by simp)))))
  have hdne := beq_eq_false_iff_ne.2 hd
  have g1 := gcdZ_pos n d hd
  have g2 : gcdZ n d ≤ 2000000000000000000 := by
    have := gcdZ_le n (if d < 0 then -d else d) (by split <;> omega)
    split at this
    · rw [gcdZ_neg_right] at this; omega
    · omega
  have q1 := lowN_bd n d _ h1 h2
  unfold lowN at q1
  obtain ⟨m1, m2⟩ := q1
  rcases Int.lt_or_gt_of_ne hd with hneg | hpos
  · obtain ⟨m6, m7⟩ : -2000000000000000000 ≤ d.tdiv (gcdZ n d) ∧ d.tdiv (gcdZ n d) ≤ 2000000000000000000 := by
      have := Int.natAbs_tdiv_le_natAbs d (gcdZ n d)
      omega
    have fa : Hid (mkA n d = -(n.tdiv (gcdZ n d))) := by unfold Hid; rw [← (mkA_go n d hneg).1, Int.tdiv_neg]
    have fc : Hid (mkC n d = -(d.tdiv (gcdZ n d))) := by unfold Hid; rw [← (mkA_go n d hneg).2, Int.tdiv_neg]
    have hB := Lib.hid (mkB_of n d hd)
    have hK := Lib.hid (mk_ok n d hd)
    clear hd
    go_enter Tryd.func39, Tryd.ntmps39
    go_wp2_with (go_at_call 55; refine (fGcd_any _ _ _ (by omega) (by omega) (by omega) (by omega)).mono ?_; rintro e w2 ⟨rfl, rfl⟩)
    go_region
    cases hf : fOK (-(n.tdiv (gcdZ n d))) (-(d.tdiv (gcdZ n d)))
    · have hv : Hid (fracV (mkN n d) (mkD n d) (mkB n d) = fracV 0 0 false) := by
        have hb : mkB n d = false := by rw [hB.out, ← hK.out, fa.out, fc.out]; exact hf
        unfold Hid
        rw [(mk_f hb).1, (mk_f hb).2, hb]
      go_wp2_with ((go_at_call 42; refine (fGood_any _ _ _).mono ?_; rintro e w3 ⟨rfl, hb3⟩; obtain ⟨hcl3, hfr3⟩ := bcell hb3; have hz3 := hb3.size; (try simp at hz3); (try (have hly3 := Nat.lt_of_succ_le hz3)); (try (have hlx3 := Nat.lt_of_succ_lt hly3)); (try (have hlw3 := Nat.lt_of_succ_lt hlx3)); (try (have hle3 := Nat.le_of_lt hly3)); (try (have hya3 : w.heap.size < w3.heap.size := by omega)); (try (have hyb3 : w.heap.size + 1 < w3.heap.size := by omega)); (try (have hyc3 : w.heap.size + 1 + 1 < w3.heap.size := by omega)); (try (have hyd3 : wa.heap.size < w3.heap.size := by omega))); have c0 : w3.cell? ⟨w.heap.size, 0, none⟩ = some (.int .i64 0) := ((show Below (w.alloc (.cells #[.int .i64 0, .int .i64 0] 24)).heap.size (w.alloc (.cells #[.int .i64 0, .int .i64 0] 24)) w3 from (by repeat (first | exact Below.refl _ _ | assumption | refine Below.drew ?_ | refine below_drewN ?_ _ | refine Below.alloc' ?_ _ | (refine Below.setCell ?_ (by first | omega | (simp; done) | (simp; omega) | exact Below.size (by assumption) | exact Nat.le_trans (Below.size (by assumption)) (by simp)) _) | (refine Below.via' ?_ (by assumption)) | (refine Below.alloc ?_ (by first | omega | (simp; done) | (simp; omega) | exact Below.size (by assumption) | exact Nat.le_trans (Below.size (by assumption)) (by simp)) _) | (refine Below.via ?_ (by assumption) (by first | omega | (simp; done) | (simp; omega) | exact Below.size (by assumption) | exact Nat.le_trans (Below.size (by assumption)) (by simp)))))).cell (by first | omega | (simp; done) | (simp; omega))).trans (by go_simp); have c1 : w3.cell? ⟨w.heap.size, 1, none⟩ = some (.int .i64 0) := ((show Below (w.alloc (.cells #[.int .i64 0, .int .i64 0] 24)).heap.size (w.alloc (.cells #[.int .i64 0, .int .i64 0] 24)) w3 from (by repeat (first | exact Below.refl _ _ | assumption | refine Below.drew ?_ | refine below_drewN ?_ _ | refine Below.alloc' ?_ _ | (refine Below.setCell ?_ (by first | omega | (simp; done) | (simp; omega) | exact Below.size (by assumption) | exact Nat.le_trans (Below.size (by assumption)) (by simp)) _) | (refine Below.via' ?_ (by assumption)) | (refine Below.alloc ?_ (by first | omega | (simp; done) | (simp; omega) | exact Below.size (by assumption) | exact Nat.le_trans (Below.size (by assumption)) (by simp)) _) | (refine Below.via ?_ (by assumption) (by first | omega | (simp; done) | (simp; omega) | exact Below.size (by assumption) | exact Nat.le_trans (Below.size (by assumption)) (by simp)))))).cell (by first | omega | (simp; done) | (simp; omega))).trans (by go_simp))
      refine bodyPost_ret (v := .tuple #[.agg #[.int .i64 0, .int .i64 0], .bool false]) (by simp [results, Tryd.results39, go_sem, *]) rfl ⟨?_, ?_⟩
      · rw [hv.out]; rfl
      · exact (by repeat (first | exact Below.refl _ _ | assumption | refine Below.drew ?_ | refine below_drewN ?_ _ | refine Below.alloc' ?_ _ | (refine Below.setCell ?_ (by first | omega | (simp; done) | (simp; omega) | exact Below.size (by assumption) | exact Nat.le_trans (Below.size (by assumption)) (by simp)) _) | (refine Below.via' ?_ (by assumption)) | (refine Below.alloc ?_ (by first | omega | (simp; done) | (simp; omega) | exact Below.size (by assumption) | exact Nat.le_trans (Below.size (by assumption)) (by simp)) _) | (refine Below.via ?_ (by assumption) (by first | omega | (simp; done) | (simp; omega) | exact Below.size (by assumption) | exact Nat.le_trans (Below.size (by assumption)) (by simp)))))
    · have hv : Hid (fracV (mkN n d) (mkD n d) (mkB n d) = fracV (-(n.tdiv (gcdZ n d))) (-(d.tdiv (gcdZ n d))) true) := by
        have hb : mkB n d = true := by rw [hB.out, ← hK.out, fa.out, fc.out]; exact hf
        unfold Hid
        rw [(mk_t hb).1, (mk_t hb).2, hb, fa.out, fc.out]
      go_wp2_with ((go_at_call 42; refine (fGood_any _ _ _).mono ?_; rintro e w3 ⟨rfl, hb3⟩; obtain ⟨hcl3, hfr3⟩ := bcell hb3; have hz3 := hb3.size; (try simp at hz3); (try (have hly3 := Nat.lt_of_succ_le hz3)); (try (have hlx3 := Nat.lt_of_succ_lt hly3)); (try (have hlw3 := Nat.lt_of_succ_lt hlx3)); (try (have hle3 := Nat.le_of_lt hly3)); (try (have hya3 : w.heap.size < w3.heap.size := by omega)); (try (have hyb3 : w.heap.size + 1 < w3.heap.size := by omega)); (try (have hyc3 : w.heap.size + 1 + 1 < w3.heap.size := by omega)); (try (have hyd3 : wa.heap.size < w3.heap.size := by omega))); have c0 : w3.cell? ⟨w.heap.size, 0, none⟩ = some (.int .i64 0) := ((show Below (w.alloc (.cells #[.int .i64 0, .int .i64 0] 24)).heap.size (w.alloc (.cells #[.int .i64 0, .int .i64 0] 24)) w3 from (by repeat (first | exact Below.refl _ _ | assumption | refine Below.drew ?_ | refine below_drewN ?_ _ | refine Below.alloc' ?_ _ | (refine Below.setCell ?_ (by first | omega | (simp; done) | (simp; omega) | exact Below.size (by assumption) | exact Nat.le_trans (Below.size (by assumption)) (by simp)) _) | (refine Below.via' ?_ (by assumption)) | (refine Below.alloc ?_ (by first | omega | (simp; done) | (simp; omega) | exact Below.size (by assumption) | exact Nat.le_trans (Below.size (by assumption)) (by simp)) _) | (refine Below.via ?_ (by assumption) (by first | omega | (simp; done) | (simp; omega) | exact Below.size (by assumption) | exact Nat.le_trans (Below.size (by assumption)) (by simp)))))).cell (by first | omega | (simp; done) | (simp; omega))).trans (by go_simp); have c1 : w3.cell? ⟨w.heap.size, 1, none⟩ = some (.int .i64 0) := ((show Below (w.alloc (.cells #[.int .i64 0, .int .i64 0] 24)).heap.size (w.alloc (.cells #[.int .i64 0, .int .i64 0] 24)) w3 from (by repeat (first | exact Below.refl _ _ | assumption | refine Below.drew ?_ | refine below_drewN ?_ _ | refine Below.alloc' ?_ _ | (refine Below.setCell ?_ (by first | omega | (simp; done) | (simp; omega) | exact Below.size (by assumption) | exact Nat.le_trans (Below.size (by assumption)) (by simp)) _) | (refine Below.via' ?_ (by assumption)) | (refine Below.alloc ?_ (by first | omega | (simp; done) | (simp; omega) | exact Below.size (by assumption) | exact Nat.le_trans (Below.size (by assumption)) (by simp)) _) | (refine Below.via ?_ (by assumption) (by first | omega | (simp; done) | (simp; omega) | exact Below.size (by assumption) | exact Nat.le_trans (Below.size (by assumption)) (by simp)))))).cell (by first | omega | (simp; done) | (simp; omega))).trans (by go_simp))
      refine bodyPost_ret (v := .tuple #[.agg #[.int .i64 (-(n.tdiv (gcdZ n d))), .int .i64 (-(d.tdiv (gcdZ n d)))], .bool true]) (by simp [results, Tryd.results39, go_sem, *]) rfl ⟨?_, ?_⟩
      · rw [hv.out]; rfl
      · exact (by repeat (first | exact Below.refl _ _ | assumption | refine Below.drew ?_ | refine below_drewN ?_ _ | refine Below.alloc' ?_ _ | (refine Below.setCell ?_ (by first | omega | (simp; done) | (simp; omega) | exact Below.size (by assumption) | exact Nat.le_trans (Below.size (by assumption)) (by simp)) _) | (refine Below.via' ?_ (by assumption)) | (refine Below.alloc ?_ (by first | omega | (simp; done) | (simp; omega) | exact Below.size (by assumption) | exact Nat.le_trans (Below.size (by assumption)) (by simp)) _) | (refine Below.via ?_ (by assumption) (by first | omega | (simp; done) | (simp; omega) | exact Below.size (by assumption) | exact Nat.le_trans (Below.size (by assumption)) (by simp)))))
  · obtain ⟨m3, m4⟩ : 1 ≤ d / gcdZ n d ∧ d / gcdZ n d ≤ d := lowD_pos n d hpos
    have fa : Hid (mkA n d = n.tdiv (gcdZ n d)) := by unfold Hid; rw [(mkA_pos n d hpos).1]; rfl
    have fc : Hid (mkC n d = d / gcdZ n d) := by unfold Hid; rw [(mkA_pos n d hpos).2]; rfl
    have hB := Lib.hid (mkB_of n d hd)
    have hK := Lib.hid (mk_ok n d hd)
    clear hd
    go_enter Tryd.func39, Tryd.ntmps39
    go_wp2_with (go_at_call 55; refine (fGcd_any _ _ _ (by omega) (by omega) (by omega) (by omega)).mono ?_; rintro e w2 ⟨rfl, rfl⟩)
    go_region
    cases hf : fOK (n.tdiv (gcdZ n d)) (d / gcdZ n d)
    · have hv : Hid (fracV (mkN n d) (mkD n d) (mkB n d) = fracV 0 0 false) := by
        have hb : mkB n d = false := by rw [hB.out, ← hK.out, fa.out, fc.out]; exact hf
        unfold Hid
        rw [(mk_f hb).1, (mk_f hb).2, hb]
      go_wp2_with ((go_at_call 42; refine (fGood_any _ _ _).mono ?_; rintro e w3 ⟨rfl, hb3⟩; obtain ⟨hcl3, hfr3⟩ := bcell hb3; have hz3 := hb3.size; (try simp at hz3); (try (have hly3 := Nat.lt_of_succ_le hz3)); (try (have hlx3 := Nat.lt_of_succ_lt hly3)); (try (have hlw3 := Nat.lt_of_succ_lt hlx3)); (try (have hle3 := Nat.le_of_lt hly3)); (try (have hya3 : w.heap.size < w3.heap.size := by omega)); (try (have hyb3 : w.heap.size + 1 < w3.heap.size := by omega)); (try (have hyc3 : w.heap.size + 1 + 1 < w3.heap.size := by omega)); (try (have hyd3 : wa.heap.size < w3.heap.size := by omega))); have c0 : w3.cell? ⟨w.heap.size, 0, none⟩ = some (.int .i64 0) := ((show Below (w.alloc (.cells #[.int .i64 0, .int .i64 0] 24)).heap.size (w.alloc (.cells #[.int .i64 0, .int .i64 0] 24)) w3 from (by repeat (first | exact Below.refl _ _ | assumption | refine Below.drew ?_ | refine below_drewN ?_ _ | refine Below.alloc' ?_ _ | (refine Below.setCell ?_ (by first | omega | (simp; done) | (simp; omega) | exact Below.size (by assumption) | exact Nat.le_trans (Below.size (by assumption)) (by simp)) _) | (refine Below.via' ?_ (by assumption)) | (refine Below.alloc ?_ (by first | omega | (simp; done) | (simp; omega) | exact Below.size (by assumption) | exact Nat.le_trans (Below.size (by assumption)) (by simp)) _) | (refine Below.via ?_ (by assumption) (by first | omega | (simp; done) | (simp; omega) | exact Below.size (by assumption) | exact Nat.le_trans (Below.size (by assumption)) (by simp)))))).cell (by first | omega | (simp; done) | (simp; omega))).trans (by go_simp); have c1 : w3.cell? ⟨w.heap.size, 1, none⟩ = some (.int .i64 0) := ((show Below (w.alloc (.cells #[.int .i64 0, .int .i64 0] 24)).heap.size (w.alloc (.cells #[.int .i64 0, .int .i64 0] 24)) w3 from (by repeat (first | exact Below.refl _ _ | assumption | refine Below.drew ?_ | refine below_drewN ?_ _ | refine Below.alloc' ?_ _ | (refine Below.setCell ?_ (by first | omega | (simp; done) | (simp; omega) | exact Below.size (by assumption) | exact Nat.le_trans (Below.size (by assumption)) (by simp)) _) | (refine Below.via' ?_ (by assumption)) | (refine Below.alloc ?_ (by first | omega | (simp; done) | (simp; omega) | exact Below.size (by assumption) | exact Nat.le_trans (Below.size (by assumption)) (by simp)) _) | (refine Below.via ?_ (by assumption) (by first | omega | (simp; done) | (simp; omega) | exact Below.size (by assumption) | exact Nat.le_trans (Below.size (by assumption)) (by simp)))))).cell (by first | omega | (simp; done) | (simp; omega))).trans (by go_simp))
      refine bodyPost_ret (v := .tuple #[.agg #[.int .i64 0, .int .i64 0], .bool false]) (by simp [results, Tryd.results39, go_sem, *]) rfl ⟨?_, ?_⟩
      · rw [hv.out]; rfl
      · exact (by repeat (first | exact Below.refl _ _ | assumption | refine Below.drew ?_ | refine below_drewN ?_ _ | refine Below.alloc' ?_ _ | (refine Below.setCell ?_ (by first | omega | (simp; done) | (simp; omega) | exact Below.size (by assumption) | exact Nat.le_trans (Below.size (by assumption)) (by simp)) _) | (refine Below.via' ?_ (by assumption)) | (refine Below.alloc ?_ (by first | omega | (simp; done) | (simp; omega) | exact Below.size (by assumption) | exact Nat.le_trans (Below.size (by assumption)) (by simp)) _) | (refine Below.via ?_ (by assumption) (by first | omega | (simp; done) | (simp; omega) | exact Below.size (by assumption) | exact Nat.le_trans (Below.size (by assumption)) (by simp)))))
    · have hv : Hid (fracV (mkN n d) (mkD n d) (mkB n d) = fracV (n.tdiv (gcdZ n d)) (d / gcdZ n d) true) := by
        have hb : mkB n d = true := by rw [hB.out, ← hK.out, fa.out, fc.out]; exact hf
        unfold Hid
        rw [(mk_t hb).1, (mk_t hb).2, hb, fa.out, fc.out]
      go_wp2_with ((go_at_call 42; refine (fGood_any _ _ _).mono ?_; rintro e w3 ⟨rfl, hb3⟩; obtain ⟨hcl3, hfr3⟩ := bcell hb3; have hz3 := hb3.size; (try simp at hz3); (try (have hly3 := Nat.lt_of_succ_le hz3)); (try (have hlx3 := Nat.lt_of_succ_lt hly3)); (try (have hlw3 := Nat.lt_of_succ_lt hlx3)); (try (have hle3 := Nat.le_of_lt hly3)); (try (have hya3 : w.heap.size < w3.heap.size := by omega)); (try (have hyb3 : w.heap.size + 1 < w3.heap.size := by omega)); (try (have hyc3 : w.heap.size + 1 + 1 < w3.heap.size := by omega)); (try (have hyd3 : wa.heap.size < w3.heap.size := by omega))); have c0 : w3.cell? ⟨w.heap.size, 0, none⟩ = some (.int .i64 0) := ((show Below (w.alloc (.cells #[.int .i64 0, .int .i64 0] 24)).heap.size (w.alloc (.cells #[.int .i64 0, .int .i64 0] 24)) w3 from (by repeat (first | exact Below.refl _ _ | assumption | refine Below.drew ?_ | refine below_drewN ?_ _ | refine Below.alloc' ?_ _ | (refine Below.setCell ?_ (by first | omega | (simp; done) | (simp; omega) | exact Below.size (by assumption) | exact Nat.le_trans (Below.size (by assumption)) (by simp)) _) | (refine Below.via' ?_ (by assumption)) | (refine Below.alloc ?_ (by first | omega | (simp; done) | (simp; omega) | exact Below.size (by assumption) | exact Nat.le_trans (Below.size (by assumption)) (by simp)) _) | (refine Below.via ?_ (by assumption) (by first | omega | (simp; done) | (simp; omega) | exact Below.size (by assumption) | exact Nat.le_trans (Below.size (by assumption)) (by simp)))))).cell (by first | omega | (simp; done) | (simp; omega))).trans (by go_simp); have c1 : w3.cell? ⟨w.heap.size, 1, none⟩ = some (.int .i64 0) := ((show Below (w.alloc (.cells #[.int .i64 0, .int .i64 0] 24)).heap.size (w.alloc (.cells #[.int .i64 0, .int .i64 0] 24)) w3 from (by repeat (first | exact Below.refl _ _ | assumption | refine Below.drew ?_ | refine below_drewN ?_ _ | refine Below.alloc' ?_ _ | (refine Below.setCell ?_ (by first | omega | (simp; done) | (simp; omega) | exact Below.size (by assumption) | exact Nat.le_trans (Below.size (by assumption)) (by simp)) _) | (refine Below.via' ?_ (by assumption)) | (refine Below.alloc ?_ (by first | omega | (simp; done) | (simp; omega) | exact Below.size (by assumption) | exact Nat.le_trans (Below.size (by assumption)) (by simp)) _) | (refine Below.via ?_ (by assumption) (by first | omega | (simp; done) | (simp; omega) | exact Below.size (by assumption) | exact Nat.le_trans (Below.size (by assumption)) (by simp)))))).cell (by first | omega | (simp; done) | (simp; omega))).trans (by go_simp))
      refine bodyPost_ret (v := .tuple #[.agg #[.int .i64 (n.tdiv (gcdZ n d)), .int .i64 (d / gcdZ n d)], .bool true]) (by simp [results, Tryd.results39, go_sem, *]) rfl ⟨?_, ?_⟩
      · rw [hv.out]; rfl
      · exact (by repeat (first | exact Below.refl _ _ | assumption | refine Below.drew ?_ | refine below_drewN ?_ _ | refine Below.alloc' ?_ _ | (refine Below.setCell ?_ (by first | omega | (simp; done) | (simp; omega) | exact Below.size (by assumption) | exact Nat.le_trans (Below.size (by assumption)) (by simp)) _) | (refine Below.via' ?_ (by assumption)) | (refine Below.alloc ?_ (by first | omega | (simp; done) | (simp; omega) | exact Below.size (by assumption) | exact Nat.le_trans (Below.size (by assumption)) (by simp)) _) | (refine Below.via ?_ (by assumption) (by first | omega | (simp; done) | (simp; omega) | exact Below.size (by assumption) | exact Nat.le_trans (Below.size (by assumption)) (by simp)))))
end Go.Proofs.YtbglogaljjfnnabDoor
