/-
  The walks of chapter 1: sums of lists of fractions, the program's and the model's.
-/
import Derived.Test.YtbglogaljjfnnabDoorPow
namespace Go.Proofs.YtbglogaljjfnnabDoor
open Go.RowKit
set_option maxRecDepth 100000

/-- The sum of a list of fractions, begun with a/b; none if a part is not valid. -/
def sumS : List (Int × Int) → Int → Int → Option (Int × Int)
  | [], a, b => some (a, b)
  | (n, d) :: r, a, b => if fOK n d && mkB (a * d + n * b) (b * d) then sumS r (mkN (a * d + n * b) (b * d)) (mkD (a * d + n * b) (b * d)) else none
theorem sumS_t {n d a b : Int} {r : List (Int × Int)} (h : fOK n d = true) (k : mkB (a * d + n * b) (b * d) = true) : sumS ((n, d) :: r) a b = sumS r (mkN (a * d + n * b) (b * d)) (mkD (a * d + n * b) (b * d)) := by show (if (fOK n d && mkB (a * d + n * b) (b * d)) = true then _ else _) = _; rw [h, k]; rfl
theorem sumS_f {n d a b : Int} {r : List (Int × Int)} (h : (fOK n d && mkB (a * d + n * b) (b * d)) = false) : sumS ((n, d) :: r) a b = none := by show (if (fOK n d && mkB (a * d + n * b) (b * d)) = true then _ else _) = _; rw [h]; rfl
theorem sumS_all : ∀ (L : List (Int × Int)) (a b : Int), sumS L a b ≠ none → ∀ p ∈ L, fOK p.1 p.2 = true
  | [], _, _, _, p, hp => by cases hp
  | (n, d) :: r, a, b, h, p, hp => by
    cases hc : (fOK n d && mkB (a * d + n * b) (b * d)) with
    | false => rw [sumS_f hc] at h; exact absurd rfl h
    | true =>
      obtain ⟨h1, h2⟩ := Bool.and_eq_true_iff.1 hc
      rw [sumS_t h1 h2] at h
      rcases List.mem_cons.1 hp with rfl | hp
      · exact h1
      · exact sumS_all r _ _ h p hp
/-- What SumFracs gives, part by part. -/
def smN (L : List (Int × Int)) : Int := match sumS L 0 1 with | none => 0 | some (a, _) => if L.length ≤ 100 then a else 0
def smD (L : List (Int × Int)) : Int := match sumS L 0 1 with | none => 0 | some (_, b) => if L.length ≤ 100 then b else 0
def smB (L : List (Int × Int)) : Bool := (sumS L 0 1).isSome && decide (L.length ≤ 100)
def smV (L : List (Int × Int)) : Value := .tuple #[.agg #[.int .i64 (smN L), .int .i64 (smD L)], .bool (smB L)]
theorem sm_some {L : List (Int × Int)} {a b : Int} (h : sumS L 0 1 = some (a, b)) (hl : L.length ≤ 100) : smV L = .tuple #[.agg #[.int .i64 a, .int .i64 b], .bool true] := by unfold smV smN smD smB; rw [h]; simp [hl]
theorem sm_none {L : List (Int × Int)} (h : sumS L 0 1 = none) : smV L = .tuple #[.agg #[.int .i64 0, .int .i64 0], .bool false] := by unfold smV smN smD smB; rw [h]; simp
theorem sm_long {L : List (Int × Int)} (hl : 100 < L.length) : smV L = .tuple #[.agg #[.int .i64 0, .int .i64 0], .bool false] := by
  unfold smV smN smD smB
  cases sumS L 0 1 with
  | none => simp
  | some p => simp [show ¬ L.length ≤ 100 by omega]

/-- The fractions that a slice of structs of two integers holds. -/
def FrRd (w : World) (x : Option Addr) (L : List (Int × Int)) : Prop :=
  L = [] ∨ ∃ b off, x = some ⟨b, off, none⟩ ∧ b < w.heap.size ∧ ∀ i n d, L[i]? = some (n, d) → w.cell? ⟨b, off + i * 2, none⟩ = some (.int .i64 n) ∧ w.cell? ⟨b, off + i * 2 + 1, none⟩ = some (.int .i64 d)
theorem FrRd.below {w w' : World} {x : Option Addr} {L : List (Int × Int)} (h : FrRd w x L) (hb : Below w.heap.size w w') : FrRd w' x L := by
  rcases h with h | ⟨b, off, e, hl, hc⟩
  · exact Or.inl h
  · exact Or.inr ⟨b, off, e, Nat.lt_of_lt_of_le hl hb.size, fun i n d hi => ⟨(hb.cell hl).trans (hc i n d hi).1, (hb.cell hl).trans (hc i n d hi).2⟩⟩

theorem iAdd_t (n d m c : Int) (w : World) (hT : Tab w) (hf : fOK n d = true) :
    Calls Tryd.prog 7 #[.agg #[.int .i64 n, .int .i64 d], .agg #[.int .i64 m, .int .i64 c]] w fun e w' => e = .returned (.tuple #[.agg #[.int .i64 (okN (fOK m c) (n * c + m * d) (d * c)), .int .i64 (okD (fOK m c) (n * c + m * d) (d * c))], .bool (okB (fOK m c) (n * c + m * d) (d * c))]) ∧ Below w.heap.size w w' := by
  have h := iAdd_any n d m c w hT
  rw [hf] at h
  simp only [Bool.true_and] at h
  exact h

set_option maxHeartbeats 2000000 in
theorem iSum_any (x : Option Addr) (cap : Nat) (L : List (Int × Int)) (w : World) (hm : L.length ≤ 140737488351232) (hT : Tab w) (hL : FrRd w x L) :
    Calls Tryd.prog 25 #[.slice x L.length cap] w fun e w' => e = .returned (smV L) ∧ Below w.heap.size w w' := by
  by_cases hlen : 100 < L.length
  · have hv := Lib.hid (sm_long hlen)
    have hlen' : (100 : Int) < (L.length : Int) := by omega
    clear hL
    go_enter Tryd.func25, Tryd.ntmps25
    go_wp2
    refine bodyPost_ret (v := .tuple #[.agg #[.int .i64 0, .int .i64 0], .bool false]) (by simp [results, Tryd.results25, go_sem, *]) rfl ⟨?_, ?_⟩
    · rw [hv.out]
    · exact (by repeat (first | exact Below.refl _ _ | assumption | refine Below.drew ?_ | refine below_drewN ?_ _ | refine Below.alloc' ?_ _ | (refine Below.setCell ?_ (by first | omega | (simp; done) | (simp; omega) | exact Below.size (by assumption) | exact Nat.le_trans (Below.size (by assumption)) (by simp)) _) | (refine Below.via' ?_ (by assumption)) | (refine Below.alloc ?_ (by first | omega | (simp; done) | (simp; omega) | exact Below.size (by assumption) | exact Nat.le_trans (Below.size (by assumption)) (by simp)) _) | (refine Below.via ?_ (by assumption) (by first | omega | (simp; done) | (simp; omega) | exact Below.size (by assumption) | exact Nat.le_trans (Below.size (by assumption)) (by simp)))))
  have hlen1 : L.length ≤ 100 := by omega
  go_enter Tryd.func25, Tryd.ntmps25
  go_wp2
  have B0 : Blk (w.alloc (.cells #[.int .i64 0, .int .i64 0] 24)) w.heap.size (.int .i64 0) (.int .i64 0) := ⟨by go_simp, by go_simp, by go_simp, by go_simp, by simp⟩
  have B1 : Blk ((w.alloc (.cells #[.int .i64 0, .int .i64 0] 24)).alloc (.cells #[.int .i64 0, .int .i64 1] 24)) (w.heap.size + 1) (.int .i64 0) (.int .i64 1) := ⟨by go_simp, by go_simp, by go_simp, by go_simp, by simp⟩
  go_loopw [16] (fun c wr => ∃ (i : Nat) (a b : Int), i ≤ L.length ∧ c = .int .i64 i ∧ Hid (sumS (L.drop i) a b = sumS L 0 1) ∧ Hid (fOK a b = true) ∧ Blk wr w.heap.size (.int .i64 0) (.int .i64 0) ∧ Blk wr (w.heap.size + 1) (.int .i64 a) (.int .i64 b) ∧ Below w.heap.size w wr) (fun c _ => L.length - (intOf c).toNat)
  case atStart => exact ⟨0, 0, 1, by omega, rfl, rfl, by unfold Hid; decide +kernel, B0.alloc _, B1, (by repeat (first | exact Below.refl _ _ | assumption | refine Below.drew ?_ | refine below_drewN ?_ _ | refine Below.alloc' ?_ _ | (refine Below.setCell ?_ (by first | omega | (simp; done) | (simp; omega) | exact Below.size (by assumption) | exact Nat.le_trans (Below.size (by assumption)) (by simp)) _) | (refine Below.via' ?_ (by assumption)) | (refine Below.alloc ?_ (by first | omega | (simp; done) | (simp; omega) | exact Below.size (by assumption) | exact Nat.le_trans (Below.size (by assumption)) (by simp)) _) | (refine Below.via ?_ (by assumption) (by first | omega | (simp; done) | (simp; omega) | exact Below.size (by assumption) | exact Nat.le_trans (Below.size (by assumption)) (by simp)))))⟩
  case round =>
    clear B0 B1
    obtain ⟨i, a, b, hi, rfl, hs, hv, hR, hP, hb⟩ := hrel
    by_cases hlt : i < L.length
    · rcases hL.below hb with hnil | ⟨bl, off, rfl, hbl, hcell⟩
      · rw [hnil] at hlt; simp at hlt
      obtain ⟨n, d, hnd⟩ : ∃ n d, L[i]? = some (n, d) := ⟨L[i].1, L[i].2, by simp [hlt]⟩
      obtain ⟨hc0, hc1⟩ := hcell i n d hnd
      clear hcell
      have hlt' : (i : Int) < (L.length : Int) := by omega
      have hdrop : L.drop i = (n, d) :: L.drop (i + 1) := by
        rw [List.drop_eq_getElem_cons hlt]
        have := (List.getElem?_eq_some_iff.1 hnd).2
        rw [this]
      have hfab := hv.out
      have hq1 : w.heap.size < wr.heap.size := hR.2.2.2.2
      have hq2 : w.heap.size + 1 < wr.heap.size := hP.2.2.2.2
      have hTr := hT.below (hb.alloc (by omega) (.cells #[.int .i64 n, .int .i64 d] 24))
      cases hc : (fOK n d && mkB (a * d + n * b) (b * d))
      · have e0 : okB (fOK n d) (a * d + n * b) (b * d) = false := hc
        have hvv : Hid (smV L = .tuple #[.agg #[.int .i64 0, .int .i64 0], .bool false]) := by
          have h1 := hs.out
          rw [hdrop, sumS_f hc] at h1
          exact sm_none h1.symm
        clear hdrop hc hnd
        have kR := hR
        obtain ⟨p0, p1, p2, p3, p4⟩ := hP
        obtain ⟨r0, r1, r2, r3, r4⟩ := hR
        go_wp2_with ((go_at_call 7; refine (iAdd_t _ _ _ _ _ (by assumption) (by assumption)).mono ?_; rintro e w2 ⟨rfl, hb2⟩; obtain ⟨hcl2, hfr2⟩ := bcell hb2; have hz2 := hb2.size; (try simp at hz2); (try (have hly2 := Nat.lt_of_succ_le hz2)); (try (have hlx2 := Nat.lt_of_succ_lt hly2)); (try (have hlw2 := Nat.lt_of_succ_lt hlx2)); (try (have hle2 := Nat.le_of_lt hly2)); (try (have hya2 : w.heap.size < w2.heap.size := by omega)); (try (have hyb2 : w.heap.size + 1 < w2.heap.size := by omega)); (try (have hyc2 : w.heap.size + 1 + 1 < w2.heap.size := by omega)); (try (have hyd2 : wa.heap.size < w2.heap.size := by omega))); have hq3 : wr.heap.size < w2.heap.size := by omega)
        have hch : Below wr.heap.size wr w2 := (by repeat (first | exact Below.refl _ _ | assumption | refine Below.drew ?_ | refine below_drewN ?_ _ | refine Below.alloc' ?_ _ | (refine Below.setCell ?_ (by first | omega | (simp; done) | (simp; omega) | exact Below.size (by assumption) | exact Nat.le_trans (Below.size (by assumption)) (by simp)) _) | (refine Below.via' ?_ (by assumption)) | (refine Below.alloc ?_ (by first | omega | (simp; done) | (simp; omega) | exact Below.size (by assumption) | exact Nat.le_trans (Below.size (by assumption)) (by simp)) _) | (refine Below.via ?_ (by assumption) (by first | omega | (simp; done) | (simp; omega) | exact Below.size (by assumption) | exact Nat.le_trans (Below.size (by assumption)) (by simp)))))
        obtain ⟨s0, s1, s2, s3, s4⟩ := kR.below hch
        refine bodyPost_ret (v := .tuple #[.agg #[.int .i64 0, .int .i64 0], .bool false]) (by simp [results, Tryd.results25, go_sem, *]) rfl ⟨?_, ?_⟩
        · rw [hvv.out]
        · exact (by repeat (first | exact Below.refl _ _ | assumption | refine Below.drew ?_ | refine below_drewN ?_ _ | refine Below.alloc' ?_ _ | (refine Below.setCell ?_ (by first | omega | (simp; done) | (simp; omega) | exact Below.size (by assumption) | exact Nat.le_trans (Below.size (by assumption)) (by simp)) _) | (refine Below.via' ?_ (by assumption)) | (refine Below.alloc ?_ (by first | omega | (simp; done) | (simp; omega) | exact Below.size (by assumption) | exact Nat.le_trans (Below.size (by assumption)) (by simp)) _) | (refine Below.via ?_ (by assumption) (by first | omega | (simp; done) | (simp; omega) | exact Below.size (by assumption) | exact Nat.le_trans (Below.size (by assumption)) (by simp)))))
      · obtain ⟨hc1, hc2⟩ := Bool.and_eq_true_iff.1 hc
        have e0 : okB (fOK n d) (a * d + n * b) (b * d) = true := hc
        have hval := Lib.hid (ok_valid e0)
        have hs2 : Hid (sumS (L.drop (i + 1)) (okN (fOK n d) (a * d + n * b) (b * d)) (okD (fOK n d) (a * d + n * b) (b * d)) = sumS L 0 1) := by
          have h1 := hs.out
          rw [hdrop, sumS_t hc1 hc2] at h1
          unfold Hid okN okD
          rw [if_pos hc1, if_pos hc1]
          exact h1
        clear hdrop hc hnd hc1 hc2
        have kP := hP
        have kR := hR
        obtain ⟨p0, p1, p2, p3, p4⟩ := hP
        obtain ⟨r0, r1, r2, r3, r4⟩ := hR
        go_wp2_with ((go_at_call 7; refine (iAdd_t _ _ _ _ _ (by assumption) (by assumption)).mono ?_; rintro e w2 ⟨rfl, hb2⟩; obtain ⟨hcl2, hfr2⟩ := bcell hb2; have hz2 := hb2.size; (try simp at hz2); (try (have hly2 := Nat.lt_of_succ_le hz2)); (try (have hlx2 := Nat.lt_of_succ_lt hly2)); (try (have hlw2 := Nat.lt_of_succ_lt hlx2)); (try (have hle2 := Nat.le_of_lt hly2)); (try (have hya2 : w.heap.size < w2.heap.size := by omega)); (try (have hyb2 : w.heap.size + 1 < w2.heap.size := by omega)); (try (have hyc2 : w.heap.size + 1 + 1 < w2.heap.size := by omega)); (try (have hyd2 : wa.heap.size < w2.heap.size := by omega))); have hq3 : wr.heap.size < w2.heap.size := by omega)
        have hch : Below wr.heap.size wr w2 := (by repeat (first | exact Below.refl _ _ | assumption | refine Below.drew ?_ | refine below_drewN ?_ _ | refine Below.alloc' ?_ _ | (refine Below.setCell ?_ (by first | omega | (simp; done) | (simp; omega) | exact Below.size (by assumption) | exact Nat.le_trans (Below.size (by assumption)) (by simp)) _) | (refine Below.via' ?_ (by assumption)) | (refine Below.alloc ?_ (by first | omega | (simp; done) | (simp; omega) | exact Below.size (by assumption) | exact Nat.le_trans (Below.size (by assumption)) (by simp)) _) | (refine Below.via ?_ (by assumption) (by first | omega | (simp; done) | (simp; omega) | exact Below.size (by assumption) | exact Nat.le_trans (Below.size (by assumption)) (by simp)))))
        go_roundw
        case rel => exact ⟨i + 1, _, _, by omega, by go_num, hs2, hval, (Blk.setFar (Blk.setFar (kR.below hch) (by omega) _ _) (by omega) _ _).alloc _, (Blk.set (kP.below hch) _ _).alloc _, (by repeat (first | exact Below.refl _ _ | assumption | refine Below.drew ?_ | refine below_drewN ?_ _ | refine Below.alloc' ?_ _ | (refine Below.setCell ?_ (by first | omega | (simp; done) | (simp; omega) | exact Below.size (by assumption) | exact Nat.le_trans (Below.size (by assumption)) (by simp)) _) | (refine Below.via' ?_ (by assumption)) | (refine Below.alloc ?_ (by first | omega | (simp; done) | (simp; omega) | exact Below.size (by assumption) | exact Nat.le_trans (Below.size (by assumption)) (by simp)) _) | (refine Below.via ?_ (by assumption) (by first | omega | (simp; done) | (simp; omega) | exact Below.size (by assumption) | exact Nat.le_trans (Below.size (by assumption)) (by simp)))))⟩
        case measure => simp [intOf]; omega
    · have hij : i = L.length := by omega
      subst hij
      have hvv : Hid (smV L = .tuple #[.agg #[.int .i64 a, .int .i64 b], .bool true]) := by
        have h1 := hs.out
        rw [List.drop_length] at h1
        exact sm_some h1.symm hlen1
      clear hs hv
      obtain ⟨p0, p1, p2, p3, p4⟩ := hP
      obtain ⟨r0, r1, r2, r3, r4⟩ := hR
      go_wp2
      refine bodyPost_ret (v := .tuple #[.agg #[.int .i64 a, .int .i64 b], .bool true]) (by simp [results, Tryd.results25, go_sem, *]) rfl ⟨?_, ?_⟩
      · rw [hvv.out]
      · exact (by repeat (first | exact Below.refl _ _ | assumption | refine Below.drew ?_ | refine below_drewN ?_ _ | refine Below.alloc' ?_ _ | (refine Below.setCell ?_ (by first | omega | (simp; done) | (simp; omega) | exact Below.size (by assumption) | exact Nat.le_trans (Below.size (by assumption)) (by simp)) _) | (refine Below.via' ?_ (by assumption)) | (refine Below.alloc ?_ (by first | omega | (simp; done) | (simp; omega) | exact Below.size (by assumption) | exact Nat.le_trans (Below.size (by assumption)) (by simp)) _) | (refine Below.via ?_ (by assumption) (by first | omega | (simp; done) | (simp; omega) | exact Below.size (by assumption) | exact Nat.le_trans (Below.size (by assumption)) (by simp)))))
set_option maxHeartbeats 2000000 in
theorem fSum_any (x : Option Addr) (cap : Nat) (L : List (Int × Int)) (w : World) (hlen1 : L.length ≤ 100) (hL : FrRd w x L) (hall : ∀ p ∈ L, fOK p.1 p.2 = true) :
    Calls Tryd.prog 50 #[.slice x L.length cap] w fun e w' => e = .returned (.tuple #[.agg #[.int .i64 (smN L), .int .i64 (smD L)], .bool (smB L)]) ∧ Below w.heap.size w w' := by
  have hallh := Lib.hid hall
  clear hall
  go_enter Tryd.func50, Tryd.ntmps50
  go_wp2_with (go_at_call 49; refine (fInt_any _ _).mono ?_; rintro e w1 ⟨rfl, hb1⟩; obtain ⟨hcl1, hfr1⟩ := bcell hb1; have hz1 := hb1.size; (try simp at hz1); (try (have hly1 := Nat.lt_of_succ_le hz1)); (try (have hlx1 := Nat.lt_of_succ_lt hly1)); (try (have hlw1 := Nat.lt_of_succ_lt hlx1)); (try (have hle1 := Nat.le_of_lt hly1)); (try (have hya1 : w.heap.size < w1.heap.size := by omega)); (try (have hyb1 : w.heap.size + 1 < w1.heap.size := by omega)); (try (have hyc1 : w.heap.size + 1 + 1 < w1.heap.size := by omega)); (try (have hyd1 : wa.heap.size < w1.heap.size := by omega)))
  have B0 : Blk (w.alloc (.cells #[.int .i64 0, .int .i64 0] 24)) w.heap.size (.int .i64 0) (.int .i64 0) := ⟨by go_simp, by go_simp, by go_simp, by go_simp, by simp⟩
  have B1 : Blk (w1.alloc (.cells #[.int .i64 0, .int .i64 1] 24)) w1.heap.size (.int .i64 0) (.int .i64 1) := ⟨by go_simp, by go_simp, by go_simp, by go_simp, by simp⟩
  go_loopw [12] (fun c wr => ∃ (i : Nat) (a b : Int), i ≤ L.length ∧ c = .int .i64 i ∧ Hid (sumS (L.drop i) a b = sumS L 0 1) ∧ Hid (fOK a b = true) ∧ Blk wr w.heap.size (.int .i64 0) (.int .i64 0) ∧ Blk wr w1.heap.size (.int .i64 a) (.int .i64 b) ∧ Below w.heap.size w wr) (fun c _ => L.length - (intOf c).toNat)
  case atStart => exact ⟨0, 0, 1, by omega, rfl, rfl, by unfold Hid; decide +kernel, B0.below (by repeat (first | exact Below.refl _ _ | assumption | refine Below.drew ?_ | refine below_drewN ?_ _ | refine Below.alloc' ?_ _ | (refine Below.setCell ?_ (by first | omega | (simp; done) | (simp; omega) | exact Below.size (by assumption) | exact Nat.le_trans (Below.size (by assumption)) (by simp)) _) | (refine Below.via' ?_ (by assumption)) | (refine Below.alloc ?_ (by first | omega | (simp; done) | (simp; omega) | exact Below.size (by assumption) | exact Nat.le_trans (Below.size (by assumption)) (by simp)) _) | (refine Below.via ?_ (by assumption) (by first | omega | (simp; done) | (simp; omega) | exact Below.size (by assumption) | exact Nat.le_trans (Below.size (by assumption)) (by simp))))), B1, (by repeat (first | exact Below.refl _ _ | assumption | refine Below.drew ?_ | refine below_drewN ?_ _ | refine Below.alloc' ?_ _ | (refine Below.setCell ?_ (by first | omega | (simp; done) | (simp; omega) | exact Below.size (by assumption) | exact Nat.le_trans (Below.size (by assumption)) (by simp)) _) | (refine Below.via' ?_ (by assumption)) | (refine Below.alloc ?_ (by first | omega | (simp; done) | (simp; omega) | exact Below.size (by assumption) | exact Nat.le_trans (Below.size (by assumption)) (by simp)) _) | (refine Below.via ?_ (by assumption) (by first | omega | (simp; done) | (simp; omega) | exact Below.size (by assumption) | exact Nat.le_trans (Below.size (by assumption)) (by simp)))))⟩
  case round =>
    clear B0 B1
    obtain ⟨i, a, b, hi, rfl, hs, hv, hR, hP, hb⟩ := hrel
    by_cases hlt : i < L.length
    · rcases hL.below hb with hnil | ⟨bl, off, rfl, hbl, hcell⟩
      · rw [hnil] at hlt; simp at hlt
      obtain ⟨n, d, hnd⟩ : ∃ n d, L[i]? = some (n, d) := ⟨L[i].1, L[i].2, by simp [hlt]⟩
      obtain ⟨hc0, hc1⟩ := hcell i n d hnd
      clear hcell
      have hlt' : (i : Int) < (L.length : Int) := by omega
      have hdrop : L.drop i = (n, d) :: L.drop (i + 1) := by
        rw [List.drop_eq_getElem_cons hlt]
        have := (List.getElem?_eq_some_iff.1 hnd).2
        rw [this]
      have hfab := hv.out
      have hq1 : w.heap.size < wr.heap.size := hR.2.2.2.2
      have hq2 : w1.heap.size < wr.heap.size := hP.2.2.2.2
      have hd1 : fOK n d = true := hallh.out (n, d) (List.mem_of_getElem? hnd)
      cases hc : mkB (a * d + n * b) (b * d)
      · have hvv : Hid (smV L = .tuple #[.agg #[.int .i64 0, .int .i64 0], .bool false]) := by
          have h1 := hs.out
          rw [hdrop, sumS_f (by rw [hd1, hc]; rfl)] at h1
          exact sm_none h1.symm
        clear hdrop hnd
        have kR := hR
        obtain ⟨p0, p1, p2, p3, p4⟩ := hP
        obtain ⟨r0, r1, r2, r3, r4⟩ := hR
        go_wp2_with ((go_at_call 34; refine (fAdd_any _ _ _ _ _ (by assumption) (by assumption)).mono ?_; rintro e w2 ⟨rfl, hb2⟩; obtain ⟨hcl2, hfr2⟩ := bcell hb2; have hz2 := hb2.size; (try simp at hz2); (try (have hly2 := Nat.lt_of_succ_le hz2)); (try (have hlx2 := Nat.lt_of_succ_lt hly2)); (try (have hlw2 := Nat.lt_of_succ_lt hlx2)); (try (have hle2 := Nat.le_of_lt hly2)); (try (have hya2 : w.heap.size < w2.heap.size := by omega)); (try (have hyb2 : w.heap.size + 1 < w2.heap.size := by omega)); (try (have hyc2 : w.heap.size + 1 + 1 < w2.heap.size := by omega)); (try (have hyd2 : wa.heap.size < w2.heap.size := by omega))); go_must (have hq3 : wr.heap.size < w2.heap.size := by omega); go_must (have hq4 : w1.heap.size < w2.heap.size := by omega))
        have hch : Below wr.heap.size wr w2 := (by repeat (first | exact Below.refl _ _ | assumption | refine Below.drew ?_ | refine below_drewN ?_ _ | refine Below.alloc' ?_ _ | (refine Below.setCell ?_ (by first | omega | (simp; done) | (simp; omega) | exact Below.size (by assumption) | exact Nat.le_trans (Below.size (by assumption)) (by simp)) _) | (refine Below.via' ?_ (by assumption)) | (refine Below.alloc ?_ (by first | omega | (simp; done) | (simp; omega) | exact Below.size (by assumption) | exact Nat.le_trans (Below.size (by assumption)) (by simp)) _) | (refine Below.via ?_ (by assumption) (by first | omega | (simp; done) | (simp; omega) | exact Below.size (by assumption) | exact Nat.le_trans (Below.size (by assumption)) (by simp)))))
        obtain ⟨s0, s1, s2, s3, s4⟩ := kR.below hch
        refine bodyPost_ret (v := .tuple #[.agg #[.int .i64 0, .int .i64 0], .bool false]) (by simp [results, Tryd.results50, go_sem, *]) rfl ⟨?_, ?_⟩
        · exact ret_v hvv.out.symm
        · exact (by repeat (first | exact Below.refl _ _ | assumption | refine Below.drew ?_ | refine below_drewN ?_ _ | refine Below.alloc' ?_ _ | (refine Below.setCell ?_ (by first | omega | (simp; done) | (simp; omega) | exact Below.size (by assumption) | exact Nat.le_trans (Below.size (by assumption)) (by simp)) _) | (refine Below.via' ?_ (by assumption)) | (refine Below.alloc ?_ (by first | omega | (simp; done) | (simp; omega) | exact Below.size (by assumption) | exact Nat.le_trans (Below.size (by assumption)) (by simp)) _) | (refine Below.via ?_ (by assumption) (by first | omega | (simp; done) | (simp; omega) | exact Below.size (by assumption) | exact Nat.le_trans (Below.size (by assumption)) (by simp)))))
      · have hval := Lib.hid (mk_valid hc)
        have hs2 : Hid (sumS (L.drop (i + 1)) (mkN (a * d + n * b) (b * d)) (mkD (a * d + n * b) (b * d)) = sumS L 0 1) := by
          have h1 := hs.out
          rw [hdrop, sumS_t hd1 hc] at h1
          exact h1
        clear hdrop hnd
        have kP := hP
        have kR := hR
        obtain ⟨p0, p1, p2, p3, p4⟩ := hP
        obtain ⟨r0, r1, r2, r3, r4⟩ := hR
        go_wp2_with ((go_at_call 34; refine (fAdd_any _ _ _ _ _ (by assumption) (by assumption)).mono ?_; rintro e w2 ⟨rfl, hb2⟩; obtain ⟨hcl2, hfr2⟩ := bcell hb2; have hz2 := hb2.size; (try simp at hz2); (try (have hly2 := Nat.lt_of_succ_le hz2)); (try (have hlx2 := Nat.lt_of_succ_lt hly2)); (try (have hlw2 := Nat.lt_of_succ_lt hlx2)); (try (have hle2 := Nat.le_of_lt hly2)); (try (have hya2 : w.heap.size < w2.heap.size := by omega)); (try (have hyb2 : w.heap.size + 1 < w2.heap.size := by omega)); (try (have hyc2 : w.heap.size + 1 + 1 < w2.heap.size := by omega)); (try (have hyd2 : wa.heap.size < w2.heap.size := by omega))); go_must (have hq3 : wr.heap.size < w2.heap.size := by omega); go_must (have hq4 : w1.heap.size < w2.heap.size := by omega))
        have hch : Below wr.heap.size wr w2 := (by repeat (first | exact Below.refl _ _ | assumption | refine Below.drew ?_ | refine below_drewN ?_ _ | refine Below.alloc' ?_ _ | (refine Below.setCell ?_ (by first | omega | (simp; done) | (simp; omega) | exact Below.size (by assumption) | exact Nat.le_trans (Below.size (by assumption)) (by simp)) _) | (refine Below.via' ?_ (by assumption)) | (refine Below.alloc ?_ (by first | omega | (simp; done) | (simp; omega) | exact Below.size (by assumption) | exact Nat.le_trans (Below.size (by assumption)) (by simp)) _) | (refine Below.via ?_ (by assumption) (by first | omega | (simp; done) | (simp; omega) | exact Below.size (by assumption) | exact Nat.le_trans (Below.size (by assumption)) (by simp)))))
        go_roundw
        case rel => exact ⟨i + 1, _, _, by omega, by go_num, hs2, hval, (Blk.setFar (Blk.setFar (kR.below hch) (by omega) _ _) (by omega) _ _).alloc _, (Blk.set (kP.below hch) _ _).alloc _, (by repeat (first | exact Below.refl _ _ | assumption | refine Below.drew ?_ | refine below_drewN ?_ _ | refine Below.alloc' ?_ _ | (refine Below.setCell ?_ (by first | omega | (simp; done) | (simp; omega) | exact Below.size (by assumption) | exact Nat.le_trans (Below.size (by assumption)) (by simp)) _) | (refine Below.via' ?_ (by assumption)) | (refine Below.alloc ?_ (by first | omega | (simp; done) | (simp; omega) | exact Below.size (by assumption) | exact Nat.le_trans (Below.size (by assumption)) (by simp)) _) | (refine Below.via ?_ (by assumption) (by first | omega | (simp; done) | (simp; omega) | exact Below.size (by assumption) | exact Nat.le_trans (Below.size (by assumption)) (by simp)))))⟩
        case measure => simp [intOf]; omega
    · have hij : i = L.length := by omega
      subst hij
      have hvv : Hid (smV L = .tuple #[.agg #[.int .i64 a, .int .i64 b], .bool true]) := by
        have h1 := hs.out
        rw [List.drop_length] at h1
        exact sm_some h1.symm hlen1
      clear hs hv
      have hq2 : w1.heap.size < wr.heap.size := hP.2.2.2.2
      obtain ⟨p0, p1, p2, p3, p4⟩ := hP
      obtain ⟨r0, r1, r2, r3, r4⟩ := hR
      go_wp2
      refine bodyPost_ret (v := .tuple #[.agg #[.int .i64 a, .int .i64 b], .bool true]) (by simp [results, Tryd.results50, go_sem, *]) rfl ⟨?_, ?_⟩
      · exact ret_v hvv.out.symm
      · exact (by repeat (first | exact Below.refl _ _ | assumption | refine Below.drew ?_ | refine below_drewN ?_ _ | refine Below.alloc' ?_ _ | (refine Below.setCell ?_ (by first | omega | (simp; done) | (simp; omega) | exact Below.size (by assumption) | exact Nat.le_trans (Below.size (by assumption)) (by simp)) _) | (refine Below.via' ?_ (by assumption)) | (refine Below.alloc ?_ (by first | omega | (simp; done) | (simp; omega) | exact Below.size (by assumption) | exact Nat.le_trans (Below.size (by assumption)) (by simp)) _) | (refine Below.via ?_ (by assumption) (by first | omega | (simp; done) | (simp; omega) | exact Below.size (by assumption) | exact Nat.le_trans (Below.size (by assumption)) (by simp)))))

set_option maxHeartbeats 2000000 in
theorem sSum_any (x : Option Addr) (cap : Nat) (L : List (Int × Int)) (w : World) (hm : L.length ≤ 140737488351232) (hL : FrRd w x L) :
    Calls Tryd.prog 26 #[.slice x L.length cap] w fun e w' => e = .returned (smV L) ∧ Below w.heap.size w w' := by
  by_cases hlen : 100 < L.length
  · have hv := Lib.hid (sm_long hlen)
    have hlen' : (100 : Int) < (L.length : Int) := by omega
    clear hL
    go_enter Tryd.func26, Tryd.ntmps26
    go_wp2
    refine bodyPost_ret (v := .tuple #[.agg #[.int .i64 0, .int .i64 0], .bool false]) (by simp [results, Tryd.results26, go_sem, *]) rfl ⟨?_, ?_⟩
    · rw [hv.out]
    · exact (by repeat (first | exact Below.refl _ _ | assumption | refine Below.drew ?_ | refine below_drewN ?_ _ | refine Below.alloc' ?_ _ | (refine Below.setCell ?_ (by first | omega | (simp; done) | (simp; omega) | exact Below.size (by assumption) | exact Nat.le_trans (Below.size (by assumption)) (by simp)) _) | (refine Below.via' ?_ (by assumption)) | (refine Below.alloc ?_ (by first | omega | (simp; done) | (simp; omega) | exact Below.size (by assumption) | exact Nat.le_trans (Below.size (by assumption)) (by simp)) _) | (refine Below.via ?_ (by assumption) (by first | omega | (simp; done) | (simp; omega) | exact Below.size (by assumption) | exact Nat.le_trans (Below.size (by assumption)) (by simp)))))
  have hlen1 : L.length ≤ 100 := by omega
  have B0 : Blk (w.alloc (.cells #[.int .i64 0, .int .i64 0] 24)) w.heap.size (.int .i64 0) (.int .i64 0) := ⟨by go_simp, by go_simp, by go_simp, by go_simp, by simp⟩
  have B0 := Lib.hid B0
  go_enter Tryd.func26, Tryd.ntmps26
  go_wp2
  go_loopw [12] (fun c wr => ∃ i : Nat, i ≤ L.length ∧ c = .int .i64 i ∧ Hid (∀ p ∈ L.take i, fOK p.1 p.2 = true) ∧ Blk wr w.heap.size (.int .i64 0) (.int .i64 0) ∧ Below w.heap.size w wr) (fun c _ => L.length - (intOf c).toNat)
  case atStart => exact ⟨0, by omega, rfl, (fun p hp => by simp at hp), B0.out, (by repeat (first | exact Below.refl _ _ | assumption | refine Below.drew ?_ | refine below_drewN ?_ _ | refine Below.alloc' ?_ _ | (refine Below.setCell ?_ (by first | omega | (simp; done) | (simp; omega) | exact Below.size (by assumption) | exact Nat.le_trans (Below.size (by assumption)) (by simp)) _) | (refine Below.via' ?_ (by assumption)) | (refine Below.alloc ?_ (by first | omega | (simp; done) | (simp; omega) | exact Below.size (by assumption) | exact Nat.le_trans (Below.size (by assumption)) (by simp)) _) | (refine Below.via ?_ (by assumption) (by first | omega | (simp; done) | (simp; omega) | exact Below.size (by assumption) | exact Nat.le_trans (Below.size (by assumption)) (by simp)))))⟩
  case round =>
    clear B0
    obtain ⟨i, hi, rfl, hs, hR, hb⟩ := hrel
    by_cases hlt : i < L.length
    · rcases hL.below hb with hnil | ⟨bl, off, rfl, hbl, hcell⟩
      · rw [hnil] at hlt; simp at hlt
      obtain ⟨n, d, hnd⟩ : ∃ n d, L[i]? = some (n, d) := ⟨L[i].1, L[i].2, by simp [hlt]⟩
      obtain ⟨hc0, hc1⟩ := hcell i n d hnd
      clear hcell
      have hlt' : (i : Int) < (L.length : Int) := by omega
      have hmem := List.mem_of_getElem? hnd
      have htake : Hid (L.take (i + 1) = L.take i ++ [(n, d)]) := by
        unfold Hid
        rw [List.take_succ_eq_append_getElem hlt, (List.getElem?_eq_some_iff.1 hnd).2]
      have kR := hR
      obtain ⟨r0, r1, r2, r3, r4⟩ := hR
      clear hnd
      cases hf : fOK n d
      · have hvv : Hid (smV L = .tuple #[.agg #[.int .i64 0, .int .i64 0], .bool false]) := by
          refine sm_none ?_
          cases hq : sumS L 0 1 with
          | none => rfl
          | some p =>
            have := sumS_all L 0 1 (by rw [hq]; simp) _ hmem
            rw [show ((n, d) : Int × Int).1 = n from rfl, show ((n, d) : Int × Int).2 = d from rfl, hf] at this
            cases this
        clear hmem
        go_wp2_with (go_at_call 42; refine (fGood_any _ _ _).mono ?_; rintro e w2 ⟨rfl, hb2⟩; obtain ⟨hcl2, hfr2⟩ := bcell hb2; have hz2 := hb2.size; (try simp at hz2); (try (have hly2 := Nat.lt_of_succ_le hz2)); (try (have hlx2 := Nat.lt_of_succ_lt hly2)); (try (have hlw2 := Nat.lt_of_succ_lt hlx2)); (try (have hle2 := Nat.le_of_lt hly2)); (try (have hya2 : w.heap.size < w2.heap.size := by omega)); (try (have hyb2 : w.heap.size + 1 < w2.heap.size := by omega)); (try (have hyc2 : w.heap.size + 1 + 1 < w2.heap.size := by omega)); (try (have hyd2 : wa.heap.size < w2.heap.size := by omega)))
        have hch : Below wr.heap.size wr w2 := (by repeat (first | exact Below.refl _ _ | assumption | refine Below.drew ?_ | refine below_drewN ?_ _ | refine Below.alloc' ?_ _ | (refine Below.setCell ?_ (by first | omega | (simp; done) | (simp; omega) | exact Below.size (by assumption) | exact Nat.le_trans (Below.size (by assumption)) (by simp)) _) | (refine Below.via' ?_ (by assumption)) | (refine Below.alloc ?_ (by first | omega | (simp; done) | (simp; omega) | exact Below.size (by assumption) | exact Nat.le_trans (Below.size (by assumption)) (by simp)) _) | (refine Below.via ?_ (by assumption) (by first | omega | (simp; done) | (simp; omega) | exact Below.size (by assumption) | exact Nat.le_trans (Below.size (by assumption)) (by simp)))))
        obtain ⟨s0, s1, s2, s3, s4⟩ := kR.below hch
        refine bodyPost_ret (v := .tuple #[.agg #[.int .i64 0, .int .i64 0], .bool false]) (by simp [results, Tryd.results26, go_sem, *]) rfl ⟨?_, ?_⟩
        · rw [hvv.out]
        · exact (by repeat (first | exact Below.refl _ _ | assumption | refine Below.drew ?_ | refine below_drewN ?_ _ | refine Below.alloc' ?_ _ | (refine Below.setCell ?_ (by first | omega | (simp; done) | (simp; omega) | exact Below.size (by assumption) | exact Nat.le_trans (Below.size (by assumption)) (by simp)) _) | (refine Below.via' ?_ (by assumption)) | (refine Below.alloc ?_ (by first | omega | (simp; done) | (simp; omega) | exact Below.size (by assumption) | exact Nat.le_trans (Below.size (by assumption)) (by simp)) _) | (refine Below.via ?_ (by assumption) (by first | omega | (simp; done) | (simp; omega) | exact Below.size (by assumption) | exact Nat.le_trans (Below.size (by assumption)) (by simp)))))
      · clear hmem
        go_wp2_with (go_at_call 42; refine (fGood_any _ _ _).mono ?_; rintro e w2 ⟨rfl, hb2⟩; obtain ⟨hcl2, hfr2⟩ := bcell hb2; have hz2 := hb2.size; (try simp at hz2); (try (have hly2 := Nat.lt_of_succ_le hz2)); (try (have hlx2 := Nat.lt_of_succ_lt hly2)); (try (have hlw2 := Nat.lt_of_succ_lt hlx2)); (try (have hle2 := Nat.le_of_lt hly2)); (try (have hya2 : w.heap.size < w2.heap.size := by omega)); (try (have hyb2 : w.heap.size + 1 < w2.heap.size := by omega)); (try (have hyc2 : w.heap.size + 1 + 1 < w2.heap.size := by omega)); (try (have hyd2 : wa.heap.size < w2.heap.size := by omega)))
        have hch : Below wr.heap.size wr w2 := (by repeat (first | exact Below.refl _ _ | assumption | refine Below.drew ?_ | refine below_drewN ?_ _ | refine Below.alloc' ?_ _ | (refine Below.setCell ?_ (by first | omega | (simp; done) | (simp; omega) | exact Below.size (by assumption) | exact Nat.le_trans (Below.size (by assumption)) (by simp)) _) | (refine Below.via' ?_ (by assumption)) | (refine Below.alloc ?_ (by first | omega | (simp; done) | (simp; omega) | exact Below.size (by assumption) | exact Nat.le_trans (Below.size (by assumption)) (by simp)) _) | (refine Below.via ?_ (by assumption) (by first | omega | (simp; done) | (simp; omega) | exact Below.size (by assumption) | exact Nat.le_trans (Below.size (by assumption)) (by simp)))))
        go_roundw
        case rel => exact ⟨i + 1, by omega, by go_num, by
          unfold Hid
          rw [htake.out]
          intro p hp
          rcases List.mem_append.1 hp with hp | hp
          · exact hs.out p hp
          · simp at hp; subst hp; exact hf, kR.below hch, (by repeat (first | exact Below.refl _ _ | assumption | refine Below.drew ?_ | refine below_drewN ?_ _ | refine Below.alloc' ?_ _ | (refine Below.setCell ?_ (by first | omega | (simp; done) | (simp; omega) | exact Below.size (by assumption) | exact Nat.le_trans (Below.size (by assumption)) (by simp)) _) | (refine Below.via' ?_ (by assumption)) | (refine Below.alloc ?_ (by first | omega | (simp; done) | (simp; omega) | exact Below.size (by assumption) | exact Nat.le_trans (Below.size (by assumption)) (by simp)) _) | (refine Below.via ?_ (by assumption) (by first | omega | (simp; done) | (simp; omega) | exact Below.size (by assumption) | exact Nat.le_trans (Below.size (by assumption)) (by simp)))))⟩
        case measure => simp [intOf]; omega
    · have hij : i = L.length := by omega
      subst hij
      have hall : ∀ p ∈ L, fOK p.1 p.2 = true := by
        have := hs.out
        rwa [List.take_length] at this
      have hall := Lib.hid hall
      clear hs
      have hLr := Lib.hid (hL.below hb)
      have kR := hR
      obtain ⟨r0, r1, r2, r3, r4⟩ := hR
      go_wp2_with ((go_at_call 50; refine (fSum_any _ _ _ _ hlen1 hLr.out hall.out).mono ?_; rintro e w2 ⟨rfl, hb2⟩; obtain ⟨hcl2, hfr2⟩ := bcell hb2; have hz2 := hb2.size; (try simp at hz2); (try (have hly2 := Nat.lt_of_succ_le hz2)); (try (have hlx2 := Nat.lt_of_succ_lt hly2)); (try (have hlw2 := Nat.lt_of_succ_lt hlx2)); (try (have hle2 := Nat.le_of_lt hly2)); (try (have hya2 : w.heap.size < w2.heap.size := by omega)); (try (have hyb2 : w.heap.size + 1 < w2.heap.size := by omega)); (try (have hyc2 : w.heap.size + 1 + 1 < w2.heap.size := by omega)); (try (have hyd2 : wa.heap.size < w2.heap.size := by omega))); obtain ⟨s0, s1, s2, s3, s4⟩ := kR.below hb2)
      refine bodyPost_ret (v := .tuple #[.agg #[.int .i64 (smN L), .int .i64 (smD L)], .bool (smB L)]) (by simp [results, Tryd.results26, go_sem, *]) rfl ⟨?_, ?_⟩
      · rfl
      · exact (by repeat (first | exact Below.refl _ _ | assumption | refine Below.drew ?_ | refine below_drewN ?_ _ | refine Below.alloc' ?_ _ | (refine Below.setCell ?_ (by first | omega | (simp; done) | (simp; omega) | exact Below.size (by assumption) | exact Nat.le_trans (Below.size (by assumption)) (by simp)) _) | (refine Below.via' ?_ (by assumption)) | (refine Below.alloc ?_ (by first | omega | (simp; done) | (simp; omega) | exact Below.size (by assumption) | exact Nat.le_trans (Below.size (by assumption)) (by simp)) _) | (refine Below.via ?_ (by assumption) (by first | omega | (simp; done) | (simp; omega) | exact Below.size (by assumption) | exact Nat.le_trans (Below.size (by assumption)) (by simp)))))
end Go.Proofs.YtbglogaljjfnnabDoor
