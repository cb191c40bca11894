/-
  The walks of chapter 2: the distance of values; the program's and the model's.
-/
import Derived.Test.YtcmfoclalcmamabGreatDoorSchV
namespace Go.Proofs.YtcmfoclalcmamabGreatDoor
open Go.RowKit
set_option maxRecDepth 100000

theorem vd_no1 {S : List (ByteArray × Int)} {A B : List Int} (h : schB S = false) : vdB S A B = false ∧ vdN S A B = 0 := by
  have e : vdB S A B = false := by unfold vdB; rw [h]; rfl
  exact ⟨e, if_f e⟩
theorem vd_no2 {S : List (ByteArray × Int)} {A B : List Int} (h : fitB S A = false) : vdB S A B = false ∧ vdN S A B = 0 := by
  have e : vdB S A B = false := by unfold vdB; rw [h, Bool.and_false]; rfl
  exact ⟨e, if_f e⟩
theorem vd_no3 {S : List (ByteArray × Int)} {A B : List Int} (h : fitB S B = false) : vdB S A B = false ∧ vdN S A B = 0 := by
  have e : vdB S A B = false := by unfold vdB; rw [h, Bool.and_false]
  exact ⟨e, if_f e⟩
theorem vd_yes {S : List (ByteArray × Int)} {A B : List Int} (h : schB S = true) (k : fitB S A = true) (l : fitB S B = true) : vdB S A B = true ∧ vdN S A B = diZ A B := by
  have e : vdB S A B = true := by unfold vdB; rw [h, k, l]; rfl
  exact ⟨e, if_t e⟩

set_option maxHeartbeats 2000000 in
theorem iVD_x (x y z : Option Addr) (c1 c2 c3 : Nat) (S : List (ByteArray × Int)) (A B : List Int) (w : World) (h : SIn w x c1 S) (hA : IIn w y A) (hB : IIn w z B) :
    Calls Tryz.prog 18 #[.slice x S.length c1, .slice y A.length c2, .slice z B.length c3] w fun e w' => e = .returned (.tuple #[.int .i64 (vdN S A B), .bool (vdB S A B)]) ∧ Below w.heap.size w w' := by
  have hm := h.1
  have hAl := hA.1
  have hh := Lib.hid h
  have hAI := Lib.hid hA
  have hBI := Lib.hid hB
  clear h hA hB
  cases hs : schB S
  · have hv := Lib.hid (vd_no1 (A := A) (B := B) hs)
    go_enter Tryz.func18, Tryz.ntmps18
    go_wp2_with (go_at_call 53; refine (isSch_x _ _ _ _ hh.out).mono ?_; rintro e w1 ⟨rfl, hb1⟩; obtain ⟨hcl1, hfr1⟩ := bcell hb1; have hz1 := hb1.size; (try simp at hz1); (try (have hly1 := Nat.lt_of_succ_le hz1)); (try (have hlx1 := Nat.lt_of_succ_lt hly1)); (try (have hlw1 := Nat.lt_of_succ_lt hlx1)); (try (have hle1 := Nat.le_of_lt hly1)); (try (have hya1 : w.heap.size < w1.heap.size := by omega)); (try (have hyb1 : w.heap.size + 1 < w1.heap.size := by omega)); (try (have hyc1 : w.heap.size + 1 + 1 < w1.heap.size := by omega)); (try (have hyd1 : wa.heap.size < w1.heap.size := by omega)))
    go_ret2
    exact ⟨ret_in hv.out.2.symm hv.out.1.symm, (by repeat (first | exact Below.refl _ _ | assumption | refine Below.drew ?_ | refine below_drewN ?_ _ | refine Below.alloc' ?_ _ | (refine Below.setCell ?_ (by first | omega | (simp; done) | (simp; omega) | exact Below.size (by assumption) | exact Nat.le_trans (Below.size (by assumption)) (by simp)) _) | (refine Below.via' ?_ (by assumption)) | (refine Below.alloc ?_ (by first | omega | (simp; done) | (simp; omega) | exact Below.size (by assumption) | exact Nat.le_trans (Below.size (by assumption)) (by simp)) _) | (refine Below.via ?_ (by assumption) (by first | omega | (simp; done) | (simp; omega) | exact Below.size (by assumption) | exact Nat.le_trans (Below.size (by assumption)) (by simp)))))⟩
  cases hf : fitB S A
  · have hv := Lib.hid (vd_no2 (B := B) hf)
    go_enter Tryz.func18, Tryz.ntmps18
    go_wp2_with (first | (go_at_call 53; refine (isSch_x _ _ _ _ hh.out).mono ?_; rintro e w1 ⟨rfl, hb1⟩; obtain ⟨hcl1, hfr1⟩ := bcell hb1; have hz1 := hb1.size; (try simp at hz1); (try (have hly1 := Nat.lt_of_succ_le hz1)); (try (have hlx1 := Nat.lt_of_succ_lt hly1)); (try (have hlw1 := Nat.lt_of_succ_lt hlx1)); (try (have hle1 := Nat.le_of_lt hly1)); (try (have hya1 : w.heap.size < w1.heap.size := by omega)); (try (have hyb1 : w.heap.size + 1 < w1.heap.size := by omega)); (try (have hyc1 : w.heap.size + 1 + 1 < w1.heap.size := by omega)); (try (have hyd1 : wa.heap.size < w1.heap.size := by omega))) | (go_at_call 62; refine (areValues_any _ _ _ _ _ _ _ hs hm (hh.out.rd.below (by assumption)) (hAI.out.below (by assumption))).mono ?_; rintro e w2 ⟨rfl, hb2⟩; obtain ⟨hcl2, hfr2⟩ := bcell hb2; have hz2 := hb2.size; (try simp at hz2); (try (have hly2 := Nat.lt_of_succ_le hz2)); (try (have hlx2 := Nat.lt_of_succ_lt hly2)); (try (have hlw2 := Nat.lt_of_succ_lt hlx2)); (try (have hle2 := Nat.le_of_lt hly2)); (try (have hya2 : w.heap.size < w2.heap.size := by omega)); (try (have hyb2 : w.heap.size + 1 < w2.heap.size := by omega)); (try (have hyc2 : w.heap.size + 1 + 1 < w2.heap.size := by omega)); (try (have hyd2 : wa.heap.size < w2.heap.size := by omega))))
    go_ret2
    exact ⟨ret_in hv.out.2.symm hv.out.1.symm, (by repeat (first | exact Below.refl _ _ | assumption | refine Below.drew ?_ | refine below_drewN ?_ _ | refine Below.alloc' ?_ _ | (refine Below.setCell ?_ (by first | omega | (simp; done) | (simp; omega) | exact Below.size (by assumption) | exact Nat.le_trans (Below.size (by assumption)) (by simp)) _) | (refine Below.via' ?_ (by assumption)) | (refine Below.alloc ?_ (by first | omega | (simp; done) | (simp; omega) | exact Below.size (by assumption) | exact Nat.le_trans (Below.size (by assumption)) (by simp)) _) | (refine Below.via ?_ (by assumption) (by first | omega | (simp; done) | (simp; omega) | exact Below.size (by assumption) | exact Nat.le_trans (Below.size (by assumption)) (by simp)))))⟩
  cases hg : fitB S B
  · have hv := Lib.hid (vd_no3 (A := A) hg)
    go_enter Tryz.func18, Tryz.ntmps18
    go_wp2_with fail
    refine (isSch_x _ _ _ _ hh.out).mono ?_
    rintro e w1 ⟨rfl, hb1⟩
    go_wp2_with fail
    refine (areValues_any _ _ _ _ _ _ _ hs hm (hh.out.rd.below hb1) (hAI.out.below hb1)).mono ?_
    rintro e w2 ⟨rfl, hb2⟩
    go_wp2_with fail
    refine (areValues_any _ _ _ _ _ _ _ hs hm (hh.out.rd.below (by exact (by repeat (first | exact Below.refl _ _ | assumption | refine Below.drew ?_ | refine below_drewN ?_ _ | refine Below.alloc' ?_ _ | (refine Below.setCell ?_ (by first | omega | (simp; done) | (simp; omega) | exact Below.size (by assumption) | exact Nat.le_trans (Below.size (by assumption)) (by simp)) _) | (refine Below.via' ?_ (by assumption)) | (refine Below.alloc ?_ (by first | omega | (simp; done) | (simp; omega) | exact Below.size (by assumption) | exact Nat.le_trans (Below.size (by assumption)) (by simp)) _) | (refine Below.via ?_ (by assumption) (by first | omega | (simp; done) | (simp; omega) | exact Below.size (by assumption) | exact Nat.le_trans (Below.size (by assumption)) (by simp))))))) (hBI.out.below (by exact (by repeat (first | exact Below.refl _ _ | assumption | refine Below.drew ?_ | refine below_drewN ?_ _ | refine Below.alloc' ?_ _ | (refine Below.setCell ?_ (by first | omega | (simp; done) | (simp; omega) | exact Below.size (by assumption) | exact Nat.le_trans (Below.size (by assumption)) (by simp)) _) | (refine Below.via' ?_ (by assumption)) | (refine Below.alloc ?_ (by first | omega | (simp; done) | (simp; omega) | exact Below.size (by assumption) | exact Nat.le_trans (Below.size (by assumption)) (by simp)) _) | (refine Below.via ?_ (by assumption) (by first | omega | (simp; done) | (simp; omega) | exact Below.size (by assumption) | exact Nat.le_trans (Below.size (by assumption)) (by simp)))))))).mono ?_
    rintro e w3 ⟨rfl, hb3⟩
    go_wp2_with fail
    go_ret2
    exact ⟨ret_in hv.out.2.symm hv.out.1.symm, (by repeat (first | exact Below.refl _ _ | assumption | refine Below.drew ?_ | refine below_drewN ?_ _ | refine Below.alloc' ?_ _ | (refine Below.setCell ?_ (by first | omega | (simp; done) | (simp; omega) | exact Below.size (by assumption) | exact Nat.le_trans (Below.size (by assumption)) (by simp)) _) | (refine Below.via' ?_ (by assumption)) | (refine Below.alloc ?_ (by first | omega | (simp; done) | (simp; omega) | exact Below.size (by assumption) | exact Nat.le_trans (Below.size (by assumption)) (by simp)) _) | (refine Below.via ?_ (by assumption) (by first | omega | (simp; done) | (simp; omega) | exact Below.size (by assumption) | exact Nat.le_trans (Below.size (by assumption)) (by simp)))))⟩
  have hv := Lib.hid (vd_yes hs hf hg)
  go_enter Tryz.func18, Tryz.ntmps18
  go_wp2_with fail
  refine (isSch_x _ _ _ _ hh.out).mono ?_
  rintro e w1 ⟨rfl, hb1⟩
  go_wp2_with fail
  refine (areValues_any _ _ _ _ _ _ _ hs hm (hh.out.rd.below hb1) (hAI.out.below hb1)).mono ?_
  rintro e w2 ⟨rfl, hb2⟩
  go_wp2_with fail
  refine (areValues_any _ _ _ _ _ _ _ hs hm (hh.out.rd.below (by exact (by repeat (first | exact Below.refl _ _ | assumption | refine Below.drew ?_ | refine below_drewN ?_ _ | refine Below.alloc' ?_ _ | (refine Below.setCell ?_ (by first | omega | (simp; done) | (simp; omega) | exact Below.size (by assumption) | exact Nat.le_trans (Below.size (by assumption)) (by simp)) _) | (refine Below.via' ?_ (by assumption)) | (refine Below.alloc ?_ (by first | omega | (simp; done) | (simp; omega) | exact Below.size (by assumption) | exact Nat.le_trans (Below.size (by assumption)) (by simp)) _) | (refine Below.via ?_ (by assumption) (by first | omega | (simp; done) | (simp; omega) | exact Below.size (by assumption) | exact Nat.le_trans (Below.size (by assumption)) (by simp))))))) (hBI.out.below (by exact (by repeat (first | exact Below.refl _ _ | assumption | refine Below.drew ?_ | refine below_drewN ?_ _ | refine Below.alloc' ?_ _ | (refine Below.setCell ?_ (by first | omega | (simp; done) | (simp; omega) | exact Below.size (by assumption) | exact Nat.le_trans (Below.size (by assumption)) (by simp)) _) | (refine Below.via' ?_ (by assumption)) | (refine Below.alloc ?_ (by first | omega | (simp; done) | (simp; omega) | exact Below.size (by assumption) | exact Nat.le_trans (Below.size (by assumption)) (by simp)) _) | (refine Below.via ?_ (by assumption) (by first | omega | (simp; done) | (simp; omega) | exact Below.size (by assumption) | exact Nat.le_trans (Below.size (by assumption)) (by simp)))))))).mono ?_
  rintro e w3 ⟨rfl, hb3⟩
  go_wp2_with fail
  have hAh := Lib.hid hAI.out.2.2
  have hBh := Lib.hid hBI.out.2.2
  have hla := Lib.hid (fit_len hf)
  have hlb := Lib.hid (fit_len hg)
  replace hs := Lib.hid hs
  replace hf := Lib.hid hf
  replace hg := Lib.hid hg
  go_loopw [8, 27] (fun q c wr => ∃ i : Nat, i ≤ S.length ∧ c = .int .i64 i ∧ q = .int .i64 (diF ((A.zip B).take i)) ∧ Below w.heap.size w wr) (fun _ c _ => S.length - (intOf c).toNat)
  case atStart => exact ⟨0, by omega, rfl, rfl, (by repeat (first | exact Below.refl _ _ | assumption | refine Below.drew ?_ | refine below_drewN ?_ _ | refine Below.alloc' ?_ _ | (refine Below.setCell ?_ (by first | omega | (simp; done) | (simp; omega) | exact Below.size (by assumption) | exact Nat.le_trans (Below.size (by assumption)) (by simp)) _) | (refine Below.via' ?_ (by assumption)) | (refine Below.alloc ?_ (by first | omega | (simp; done) | (simp; omega) | exact Below.size (by assumption) | exact Nat.le_trans (Below.size (by assumption)) (by simp)) _) | (refine Below.via ?_ (by assumption) (by first | omega | (simp; done) | (simp; omega) | exact Below.size (by assumption) | exact Nat.le_trans (Below.size (by assumption)) (by simp)))))⟩
  case round =>
    try clear hcl1 hfr1 hcl2 hfr2 hcl3 hfr3
    obtain ⟨i, hi, rfl, rfl, hb⟩ := hrel
    by_cases hlt : i < S.length
    · obtain ⟨bl, off, a, hx, hbl, hAi, hc0⟩ := (hAh.out.below hb).int (i := i) (by have := hla.out; have := hlb.out; omega)
      obtain ⟨bl2, off2, b, hy, hbl2, hBi, hc2⟩ := (hBh.out.below hb).int (i := i) (by have := hla.out; have := hlb.out; omega)
      subst hx hy
      have e := Lib.hid (di_step hAi hBi)
      obtain ⟨b1, b2⟩ := di_bd (Z := A.zip B) i
      clear hAi hBi
      have hlt' : (i : Int) < (S.length : Int) := by omega
      have hlt2 : (i : Int) < (A.length : Int) := by have := hla.out; have := hlb.out; omega
      have hlt3 : (i : Int) < (B.length : Int) := by have := hla.out; have := hlb.out; omega
      have hi0 : (0 : Int) ≤ (i : Int) := by omega
      by_cases hab : a = b
      · subst hab
        go_wp2
        go_quiet (fail)
        go_wp2
        go_roundw
        case rel => exact ⟨i + 1, by omega, by go_num, by rw [e.out]; simp, (by repeat (first | exact Below.refl _ _ | assumption | refine Below.drew ?_ | refine below_drewN ?_ _ | refine Below.alloc' ?_ _ | (refine Below.setCell ?_ (by first | omega | (simp; done) | (simp; omega) | exact Below.size (by assumption) | exact Nat.le_trans (Below.size (by assumption)) (by simp)) _) | (refine Below.via' ?_ (by assumption)) | (refine Below.alloc ?_ (by first | omega | (simp; done) | (simp; omega) | exact Below.size (by assumption) | exact Nat.le_trans (Below.size (by assumption)) (by simp)) _) | (refine Below.via ?_ (by assumption) (by first | omega | (simp; done) | (simp; omega) | exact Below.size (by assumption) | exact Nat.le_trans (Below.size (by assumption)) (by simp)))))⟩
        case measure => simp [intOf]; omega
      · have hab1 : (a == b) = false := by rw [beq_eq_false_iff_ne]; exact hab
        have hab2 : (a != b) = true := by show (!(a == b)) = true; rw [hab1]; rfl
        replace hab := Lib.hid hab
        go_wp2
        go_quiet (fail)
        go_wp2
        go_roundw
        case rel => exact ⟨i + 1, by omega, by go_num, by rw [e.out, if_neg hab.out], (by repeat (first | exact Below.refl _ _ | assumption | refine Below.drew ?_ | refine below_drewN ?_ _ | refine Below.alloc' ?_ _ | (refine Below.setCell ?_ (by first | omega | (simp; done) | (simp; omega) | exact Below.size (by assumption) | exact Nat.le_trans (Below.size (by assumption)) (by simp)) _) | (refine Below.via' ?_ (by assumption)) | (refine Below.alloc ?_ (by first | omega | (simp; done) | (simp; omega) | exact Below.size (by assumption) | exact Nat.le_trans (Below.size (by assumption)) (by simp)) _) | (refine Below.via ?_ (by assumption) (by first | omega | (simp; done) | (simp; omega) | exact Below.size (by assumption) | exact Nat.le_trans (Below.size (by assumption)) (by simp)))))⟩
        case measure => simp [intOf]; omega
    · have hij : i = S.length := by omega
      subst hij
      have hz : Hid (diF ((A.zip B).take S.length) = diZ A B) := by
        unfold Hid diZ
        rw [List.take_of_length_le (by rw [List.length_zip]; have := hla.out; have := hlb.out; omega)]
      go_wp2
      go_ret2
      exact ⟨ret_in (hz.out.trans hv.out.2.symm) hv.out.1.symm, hb⟩
end Go.Proofs.YtcmfoclalcmamabGreatDoor
