/-
  The walks of chapter 1: powers, the program's and the model's.
-/
import Derived.Test.YtbglogaljjfnnabDoorOpsM
namespace Go.Proofs.YtbglogaljjfnnabDoor
open Go.RowKit
set_option maxRecDepth 100000

/-- A block of two cells that may be written. -/
def Blk (w : World) (b : Nat) (x y : Value) : Prop :=
  w.cell? ⟨b, 0, none⟩ = some x ∧ w.cell? ⟨b, 1, none⟩ = some y ∧ w.frozen? ⟨b, 0, none⟩ = false ∧ w.frozen? ⟨b, 1, none⟩ = false ∧ b < w.heap.size
theorem Blk.below {w w' : World} {b : Nat} {x y : Value} (h : Blk w b x y) (hb : Below w.heap.size w w') : Blk w' b x y := by
  obtain ⟨h1, h2, h3, h4, h5⟩ := h
  exact ⟨(hb.cell h5).trans h1, (hb.cell h5).trans h2, (hb.frozen h5).trans h3, (hb.frozen h5).trans h4, Nat.lt_of_lt_of_le h5 hb.size⟩
theorem Blk.set {w : World} {b : Nat} {x y : Value} (h : Blk w b x y) (x' y' : Value) : Blk ((w.setCell ⟨b, 0, none⟩ x').setCell ⟨b, 1, none⟩ y') b x' y' := by
  obtain ⟨h1, h2, h3, h4, h5⟩ := h
  have e1 : (w.setCell ⟨b, 0, none⟩ x').cell? ⟨b, 1, none⟩ = some y := by rw [World.cell?_setCell_other _ _ _ _ (by simp), h2]
  refine ⟨?_, ?_, ?_, ?_, ?_⟩
  · rw [World.cell?_setCell_other _ _ _ _ (by simp)]
    exact World.cell?_setCell_same _ _ _ h1
  · exact World.cell?_setCell_same _ _ _ e1
  · rw [World.frozen?_setCell, World.frozen?_setCell, h3]
  · rw [World.frozen?_setCell, World.frozen?_setCell, h4]
  · simpa [World.setCell] using h5
theorem Blk.setFar {w : World} {b c : Nat} {x y : Value} (h : Blk w b x y) (hc : c ≠ b) (o : Nat) (v : Value) : Blk (w.setCell ⟨c, o, none⟩ v) b x y := by
  obtain ⟨h1, h2, h3, h4, h5⟩ := h
  refine ⟨?_, ?_, ?_, ?_, ?_⟩
  · rw [World.cell?_setCell_far _ _ _ _ hc, h1]
  · rw [World.cell?_setCell_far _ _ _ _ hc, h2]
  · rw [World.frozen?_setCell, h3]
  · rw [World.frozen?_setCell, h4]
  · simpa [World.setCell] using h5

theorem Blk.alloc {w : World} {b : Nat} {x y : Value} (h : Blk w b x y) (o : Obj) : Blk (w.alloc o) b x y := h.below ((Below.refl _ _).alloc (Nat.le_refl _) o)

/-- The i-th power of n/d, if it and all lower ones are valid. -/
def powS (n d : Int) : Nat → Option (Int × Int)
  | 0 => some (1, 1)
  | i + 1 => match powS n d i with
    | none => none
    | some (a, b) => if mkB (a * n) (b * d) then some (mkN (a * n) (b * d), mkD (a * n) (b * d)) else none
theorem powS_valid (n d : Int) : ∀ (i : Nat) (a b : Int), powS n d i = some (a, b) → fOK a b = true
  | 0, a, b, h => by
    simp [powS] at h
    obtain ⟨rfl, rfl⟩ := h
    decide +kernel
  | i + 1, a, b, h => by
    unfold powS at h
    cases hp : powS n d i with
    | none => rw [hp] at h; cases h
    | some p =>
      obtain ⟨x, y⟩ := p
      rw [hp] at h
      simp only at h
      cases hm : mkB (x * n) (y * d) with
      | false => rw [hm] at h; cases h
      | true =>
        rw [hm] at h
        simp at h
        obtain ⟨rfl, rfl⟩ := h
        exact mk_valid hm
theorem powS_none (n d : Int) (i : Nat) (h : powS n d i = none) : ∀ j, powS n d (i + j) = none
  | 0 => h
  | j + 1 => by
    show powS n d ((i + j) + 1) = none
    unfold powS
    rw [powS_none n d i h j]
theorem powS_t {n d : Int} {i : Nat} {a b : Int} (h : powS n d i = some (a, b)) (hm : mkB (a * n) (b * d) = true) : powS n d (i + 1) = some (mkN (a * n) (b * d), mkD (a * n) (b * d)) := by
  unfold powS
  rw [h]
  simp [hm]
theorem powS_f {n d : Int} {i : Nat} {a b : Int} (h : powS n d i = some (a, b)) (hm : mkB (a * n) (b * d) = false) : powS n d (i + 1) = none := by
  unfold powS
  rw [h]
  simp [hm]
/-- What PowFrac gives, part by part. -/
def pwN (n d : Int) (k : Nat) : Int := match powS n d k with | none => 0 | some (a, _) => a
def pwD (n d : Int) (k : Nat) : Int := match powS n d k with | none => 0 | some (_, b) => b
def pwB (n d : Int) (k : Nat) : Bool := (powS n d k).isSome
theorem pw_some {n d : Int} {k : Nat} {a b : Int} (h : powS n d k = some (a, b)) : pwN n d k = a ∧ pwD n d k = b ∧ pwB n d k = true := by unfold pwN pwD pwB; rw [h]; exact ⟨rfl, rfl, rfl⟩
theorem pw_none {n d : Int} {k : Nat} (h : powS n d k = none) : pwN n d k = 0 ∧ pwD n d k = 0 ∧ pwB n d k = false := by unfold pwN pwD pwB; rw [h]; exact ⟨rfl, rfl, rfl⟩

theorem fInt_any (n : Int) (w : World) :
    Calls Tryd.prog 49 #[.int .i64 n] w fun e w' => e = .returned (.agg #[.int .i64 n, .int .i64 1]) ∧ Below w.heap.size w w' := by
  go_enter Tryd.func49, Tryd.ntmps49
  go_wp2
  refine bodyPost_ret (v := .agg #[.int .i64 n, .int .i64 1]) (by simp [results, Tryd.results49, go_sem, *]) rfl ⟨rfl, ?_⟩
  exact (by repeat (first | exact Below.refl _ _ | assumption | refine Below.drew ?_ | refine below_drewN ?_ _ | refine Below.alloc' ?_ _ | (refine Below.setCell ?_ (by first | omega | (simp; done) | (simp; omega) | exact Below.size (by assumption) | exact Nat.le_trans (Below.size (by assumption)) (by simp)) _) | (refine Below.via' ?_ (by assumption)) | (refine Below.alloc ?_ (by first | omega | (simp; done) | (simp; omega) | exact Below.size (by assumption) | exact Nat.le_trans (Below.size (by assumption)) (by simp)) _) | (refine Below.via ?_ (by assumption) (by first | omega | (simp; done) | (simp; omega) | exact Below.size (by assumption) | exact Nat.le_trans (Below.size (by assumption)) (by simp)))))

set_option maxHeartbeats 1000000 in
theorem fPow_any (n d : Int) (k : Nat) (w : World) (hf : fOK n d = true) (hk : k ≤ 60) :
    Calls Tryd.prog 47 #[.agg #[.int .i64 n, .int .i64 d], .int .i64 k] w fun e w' => e = .returned (.tuple #[.agg #[.int .i64 (pwN n d k), .int .i64 (pwD n d k)], .bool (pwB n d k)]) ∧ Below w.heap.size w w' := by
  go_enter Tryd.func47, Tryd.ntmps47
  go_wp2_with (go_at_call 49; refine (fInt_any _ _).mono ?_; rintro e w1 ⟨rfl, hb1⟩; obtain ⟨hcl1, hfr1⟩ := bcell hb1; have hz1 := hb1.size; (try simp at hz1); (try (have hly1 := Nat.lt_of_succ_le hz1)); (try (have hlx1 := Nat.lt_of_succ_lt hly1)); (try (have hlw1 := Nat.lt_of_succ_lt hlx1)); (try (have hle1 := Nat.le_of_lt hly1)); (try (have hya1 : w.heap.size < w1.heap.size := by omega)); (try (have hyb1 : w.heap.size + 1 < w1.heap.size := by omega)); (try (have hyc1 : w.heap.size + 1 + 1 < w1.heap.size := by omega)); (try (have hyd1 : wa.heap.size < w1.heap.size := by omega)))
  have B0 : Blk ((w.alloc (.cells #[.int .i64 n, .int .i64 d] 24)).alloc (.cells #[.int .i64 0, .int .i64 0] 24)) w.heap.size (.int .i64 n) (.int .i64 d) := ⟨by go_simp, by go_simp, by go_simp, by go_simp, by simp; omega⟩
  have B1 : Blk ((w.alloc (.cells #[.int .i64 n, .int .i64 d] 24)).alloc (.cells #[.int .i64 0, .int .i64 0] 24)) (w.heap.size + 1) (.int .i64 0) (.int .i64 0) := ⟨by go_simp, by go_simp, by go_simp, by go_simp, by simp⟩
  have B2 : Blk (w1.alloc (.cells #[.int .i64 1, .int .i64 1] 24)) w1.heap.size (.int .i64 1) (.int .i64 1) := ⟨by go_simp, by go_simp, by go_simp, by go_simp, by simp⟩
  go_loopw [1] (fun c wr => ∃ (i : Nat) (a b : Int), i ≤ k ∧ c = .int .i64 i ∧ Hid (powS n d (k - i) = some (a, b)) ∧ Blk wr w1.heap.size (.int .i64 a) (.int .i64 b) ∧ Blk wr w.heap.size (.int .i64 n) (.int .i64 d) ∧ Blk wr (w.heap.size + 1) (.int .i64 0) (.int .i64 0) ∧ Below w.heap.size w wr) (fun c _ => (intOf c).toNat)
  case atStart => exact ⟨k, 1, 1, by omega, rfl, by unfold Hid; rw [Nat.sub_self]; rfl, B2, B0.below (by repeat (first | exact Below.refl _ _ | assumption | refine Below.drew ?_ | refine below_drewN ?_ _ | refine Below.alloc' ?_ _ | (refine Below.setCell ?_ (by first | omega | (simp; done) | (simp; omega) | exact Below.size (by assumption) | exact Nat.le_trans (Below.size (by assumption)) (by simp)) _) | (refine Below.via' ?_ (by assumption)) | (refine Below.alloc ?_ (by first | omega | (simp; done) | (simp; omega) | exact Below.size (by assumption) | exact Nat.le_trans (Below.size (by assumption)) (by simp)) _) | (refine Below.via ?_ (by assumption) (by first | omega | (simp; done) | (simp; omega) | exact Below.size (by assumption) | exact Nat.le_trans (Below.size (by assumption)) (by simp))))), B1.below (by repeat (first | exact Below.refl _ _ | assumption | refine Below.drew ?_ | refine below_drewN ?_ _ | refine Below.alloc' ?_ _ | (refine Below.setCell ?_ (by first | omega | (simp; done) | (simp; omega) | exact Below.size (by assumption) | exact Nat.le_trans (Below.size (by assumption)) (by simp)) _) | (refine Below.via' ?_ (by assumption)) | (refine Below.alloc ?_ (by first | omega | (simp; done) | (simp; omega) | exact Below.size (by assumption) | exact Nat.le_trans (Below.size (by assumption)) (by simp)) _) | (refine Below.via ?_ (by assumption) (by first | omega | (simp; done) | (simp; omega) | exact Below.size (by assumption) | exact Nat.le_trans (Below.size (by assumption)) (by simp))))), (by repeat (first | exact Below.refl _ _ | assumption | refine Below.drew ?_ | refine below_drewN ?_ _ | refine Below.alloc' ?_ _ | (refine Below.setCell ?_ (by first | omega | (simp; done) | (simp; omega) | exact Below.size (by assumption) | exact Nat.le_trans (Below.size (by assumption)) (by simp)) _) | (refine Below.via' ?_ (by assumption)) | (refine Below.alloc ?_ (by first | omega | (simp; done) | (simp; omega) | exact Below.size (by assumption) | exact Nat.le_trans (Below.size (by assumption)) (by simp)) _) | (refine Below.via ?_ (by assumption) (by first | omega | (simp; done) | (simp; omega) | exact Below.size (by assumption) | exact Nat.le_trans (Below.size (by assumption)) (by simp)))))⟩
  case round =>
    clear B0 B1 B2
    obtain ⟨i, a, b, hi, rfl, hp, hP, hN, hR, hb⟩ := hrel
    by_cases h0 : i = 0
    · subst h0
      have hv := pw_some hp.out
      obtain ⟨p0, p1, p2, p3, p4⟩ := hP
      obtain ⟨r0, r1, r2, r3, r4⟩ := hR
      rw [show k - 0 = k from rfl] at hv
      have hv := Lib.hid hv
      clear hN
      go_wp2
      refine bodyPost_ret (v := .tuple #[.agg #[.int .i64 a, .int .i64 b], .bool true]) (by simp [results, Tryd.results47, go_sem, *]) rfl ⟨?_, ?_⟩
      · rw [hv.out.1, hv.out.2.1, hv.out.2.2]
      · exact (by repeat (first | exact Below.refl _ _ | assumption | refine Below.drew ?_ | refine below_drewN ?_ _ | refine Below.alloc' ?_ _ | (refine Below.setCell ?_ (by first | omega | (simp; done) | (simp; omega) | exact Below.size (by assumption) | exact Nat.le_trans (Below.size (by assumption)) (by simp)) _) | (refine Below.via' ?_ (by assumption)) | (refine Below.alloc ?_ (by first | omega | (simp; done) | (simp; omega) | exact Below.size (by assumption) | exact Nat.le_trans (Below.size (by assumption)) (by simp)) _) | (refine Below.via ?_ (by assumption) (by first | omega | (simp; done) | (simp; omega) | exact Below.size (by assumption) | exact Nat.le_trans (Below.size (by assumption)) (by simp)))))
    · have hab := powS_valid _ _ _ _ _ hp.out
      have hks : k - (i - 1) = k - i + 1 := by omega
      have hks := Lib.hid hks
      have hi1 : (1 : Int) ≤ (i : Int) := by omega
      cases hm : mkB (a * n) (b * d)
      · have hq := powS_f hp.out hm
        have hn := powS_none n d _ hq (i - 1)
        rw [show k - i + 1 + (i - 1) = k by omega] at hn
        have hv := Lib.hid (pw_none hn)
        clear hq hn
        obtain ⟨p0, p1, p2, p3, p4⟩ := hP
        obtain ⟨n0, n1, n2, n3, n4⟩ := hN
        obtain ⟨r0, r1, r2, r3, r4⟩ := hR
        go_wp2_with ((go_at_call 57; refine (fMul_any _ _ _ _ _ (by assumption) (by assumption)).mono ?_; rintro e w2 ⟨rfl, hb2⟩; obtain ⟨hcl2, hfr2⟩ := bcell hb2; have hz2 := hb2.size; (try simp at hz2); (try (have hly2 := Nat.lt_of_succ_le hz2)); (try (have hlx2 := Nat.lt_of_succ_lt hly2)); (try (have hlw2 := Nat.lt_of_succ_lt hlx2)); (try (have hle2 := Nat.le_of_lt hly2)); (try (have hya2 : w.heap.size < w2.heap.size := by omega)); (try (have hyb2 : w.heap.size + 1 < w2.heap.size := by omega)); (try (have hyc2 : w.heap.size + 1 + 1 < w2.heap.size := by omega)); (try (have hyd2 : wa.heap.size < w2.heap.size := by omega))); have hq2 : w1.heap.size < w2.heap.size := by omega)
        refine bodyPost_ret (v := .tuple #[.agg #[.int .i64 0, .int .i64 0], .bool false]) (by simp [results, Tryd.results47, go_sem, *]) rfl ⟨?_, ?_⟩
        · rw [hv.out.1, hv.out.2.1, hv.out.2.2]
        · exact (by repeat (first | exact Below.refl _ _ | assumption | refine Below.drew ?_ | refine below_drewN ?_ _ | refine Below.alloc' ?_ _ | (refine Below.setCell ?_ (by first | omega | (simp; done) | (simp; omega) | exact Below.size (by assumption) | exact Nat.le_trans (Below.size (by assumption)) (by simp)) _) | (refine Below.via' ?_ (by assumption)) | (refine Below.alloc ?_ (by first | omega | (simp; done) | (simp; omega) | exact Below.size (by assumption) | exact Nat.le_trans (Below.size (by assumption)) (by simp)) _) | (refine Below.via ?_ (by assumption) (by first | omega | (simp; done) | (simp; omega) | exact Below.size (by assumption) | exact Nat.le_trans (Below.size (by assumption)) (by simp)))))
      · have hq := Lib.hid (powS_t hp.out hm)
        have kP := hP
        have kN := hN
        have kR := hR
        obtain ⟨p0, p1, p2, p3, p4⟩ := hP
        obtain ⟨n0, n1, n2, n3, n4⟩ := hN
        obtain ⟨r0, r1, r2, r3, r4⟩ := hR
        go_wp2_with ((go_at_call 57; refine (fMul_any _ _ _ _ _ (by assumption) (by assumption)).mono ?_; rintro e w2 ⟨rfl, hb2⟩; obtain ⟨hcl2, hfr2⟩ := bcell hb2; have hz2 := hb2.size; (try simp at hz2); (try (have hly2 := Nat.lt_of_succ_le hz2)); (try (have hlx2 := Nat.lt_of_succ_lt hly2)); (try (have hlw2 := Nat.lt_of_succ_lt hlx2)); (try (have hle2 := Nat.le_of_lt hly2)); (try (have hya2 : w.heap.size < w2.heap.size := by omega)); (try (have hyb2 : w.heap.size + 1 < w2.heap.size := by omega)); (try (have hyc2 : w.heap.size + 1 + 1 < w2.heap.size := by omega)); (try (have hyd2 : wa.heap.size < w2.heap.size := by omega))); have hq2 : w1.heap.size < w2.heap.size := by omega)
        go_roundw
        case rel => exact ⟨i - 1, _, _, by omega, by go_num, by unfold Hid; rw [hks.out]; exact hq.out, (Blk.set (kP.below hb2) _ _).alloc _, (Blk.setFar (Blk.setFar (kN.below hb2) (by omega) _ _) (by omega) _ _).alloc _, (Blk.setFar (Blk.setFar (kR.below hb2) (by omega) _ _) (by omega) _ _).alloc _, (by repeat (first | exact Below.refl _ _ | assumption | refine Below.drew ?_ | refine below_drewN ?_ _ | refine Below.alloc' ?_ _ | (refine Below.setCell ?_ (by first | omega | (simp; done) | (simp; omega) | exact Below.size (by assumption) | exact Nat.le_trans (Below.size (by assumption)) (by simp)) _) | (refine Below.via' ?_ (by assumption)) | (refine Below.alloc ?_ (by first | omega | (simp; done) | (simp; omega) | exact Below.size (by assumption) | exact Nat.le_trans (Below.size (by assumption)) (by simp)) _) | (refine Below.via ?_ (by assumption) (by first | omega | (simp; done) | (simp; omega) | exact Below.size (by assumption) | exact Nat.le_trans (Below.size (by assumption)) (by simp)))))⟩
        case measure => simp [intOf]; omega
end Go.Proofs.YtbglogaljjfnnabDoor
