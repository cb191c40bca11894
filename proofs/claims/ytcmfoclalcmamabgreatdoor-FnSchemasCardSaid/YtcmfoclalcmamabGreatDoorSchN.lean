/-
  The walks of chapter 2: counts, indices, distances; the program's and the model's.
-/
import Derived.Test.YtcmfoclalcmamabGreatDoorSchM
import Derived.Test.YtcmfoclalcmamabGreatDoorSchI
namespace Go.Proofs.YtcmfoclalcmamabGreatDoor
open Go.RowKit
set_option maxRecDepth 100000

theorem ret_in {a b : Int} {p q : Bool} (h : a = b) (k : p = q) : Ending.returned (.tuple #[.int .i64 a, .bool p]) = .returned (.tuple #[.int .i64 b, .bool q]) := by rw [h, k]

set_option maxHeartbeats 1000000 in
theorem countCombinations_any (x : Option Addr) (cap : Nat) (S : List (ByteArray × Int)) (w : World) (hs : schB S = true) (hm : S.length ≤ 1048576) (hS : Rd w x (vC S)) :
    Calls Tryz.prog 54 #[.slice x S.length cap] w fun e w' => e = .returned (.int .i64 (cnZ S)) ∧ Below w.heap.size w w' := by
  have hsh := Lib.hid hs
  clear hs
  go_enter Tryz.func54, Tryz.ntmps54
  go_wp2
  go_loopw [3, 8] (fun q c wr => ∃ i : Nat, i ≤ S.length ∧ c = .int .i64 i ∧ q = .int .i64 (cnZ (S.take i)) ∧ Below w.heap.size w wr) (fun _ c _ => S.length - (intOf c).toNat)
  case atStart => exact ⟨0, by omega, rfl, rfl, Below.refl _ _⟩
  case round =>
    obtain ⟨i, hi, rfl, rfl, hb⟩ := hrel
    have hcn := cn_le hsh.out hi
    by_cases hlt : i < S.length
    · obtain ⟨bl, off, nm, lv, rfl, hbl, hSi, hc0, hc1⟩ := (hS.below hb).var hlt
      obtain ⟨e, m1, m2⟩ := cn_step hsh.out hSi
      have e := Lib.hid e
      clear hS hSi
      have hlt' : (i : Int) < (S.length : Int) := by omega
      go_wp2
      go_roundw
      case rel => exact ⟨i + 1, by omega, by go_num, by rw [e.out], (by repeat (first | exact Below.refl _ _ | assumption | refine Below.drew ?_ | refine below_drewN ?_ _ | refine Below.alloc' ?_ _ | (refine Below.setCell ?_ (by first | omega | (simp; done) | (simp; omega) | exact Below.size (by assumption) | exact Nat.le_trans (Below.size (by assumption)) (by simp)) _) | (refine Below.via' ?_ (by assumption)) | (refine Below.alloc ?_ (by first | omega | (simp; done) | (simp; omega) | exact Below.size (by assumption) | exact Nat.le_trans (Below.size (by assumption)) (by simp)) _) | (refine Below.via ?_ (by assumption) (by first | omega | (simp; done) | (simp; omega) | exact Below.size (by assumption) | exact Nat.le_trans (Below.size (by assumption)) (by simp)))))⟩
      case measure => simp [intOf]; omega
    · have hij : i = S.length := by omega
      subst hij
      clear hS hcn
      go_wp2
      go_ret
      exact ⟨ret_int (by rw [List.take_length]), hb⟩
set_option maxHeartbeats 1000000 in
theorem sCount_any (x : Option Addr) (cap : Nat) (S : List (ByteArray × Int)) (w : World) (hs : schB S = true) (hm : S.length ≤ 1048576) (hS : Rd w x (vC S)) :
    Calls Tryz.prog 51 #[.slice x S.length cap] w fun e w' => e = .returned (.int .i64 (cnZ S)) ∧ Below w.heap.size w w' := by
  have hsh := Lib.hid hs
  clear hs
  go_enter Tryz.func51, Tryz.ntmps51
  go_wp2
  go_loopw [3, 8] (fun q c wr => ∃ i : Nat, i ≤ S.length ∧ c = .int .i64 i ∧ q = .int .i64 (cnZ (S.take i)) ∧ Below w.heap.size w wr) (fun _ c _ => S.length - (intOf c).toNat)
  case atStart => exact ⟨0, by omega, rfl, rfl, Below.refl _ _⟩
  case round =>
    obtain ⟨i, hi, rfl, rfl, hb⟩ := hrel
    have hcn := cn_le hsh.out hi
    by_cases hlt : i < S.length
    · obtain ⟨bl, off, nm, lv, rfl, hbl, hSi, hc0, hc1⟩ := (hS.below hb).var hlt
      obtain ⟨e, m1, m2⟩ := cn_step hsh.out hSi
      have e := Lib.hid e
      clear hS hSi
      have hlt' : (i : Int) < (S.length : Int) := by omega
      go_wp2
      go_roundw
      case rel => exact ⟨i + 1, by omega, by go_num, by rw [e.out], (by repeat (first | exact Below.refl _ _ | assumption | refine Below.drew ?_ | refine below_drewN ?_ _ | refine Below.alloc' ?_ _ | (refine Below.setCell ?_ (by first | omega | (simp; done) | (simp; omega) | exact Below.size (by assumption) | exact Nat.le_trans (Below.size (by assumption)) (by simp)) _) | (refine Below.via' ?_ (by assumption)) | (refine Below.alloc ?_ (by first | omega | (simp; done) | (simp; omega) | exact Below.size (by assumption) | exact Nat.le_trans (Below.size (by assumption)) (by simp)) _) | (refine Below.via ?_ (by assumption) (by first | omega | (simp; done) | (simp; omega) | exact Below.size (by assumption) | exact Nat.le_trans (Below.size (by assumption)) (by simp)))))⟩
      case measure => simp [intOf]; omega
    · have hij : i = S.length := by omega
      subst hij
      clear hS hcn
      go_wp2
      go_ret
      exact ⟨ret_int (by rw [List.take_length]), hb⟩

/-- What is asked of a schema that comes in: its names and numbers are those of Go; its cells can be read. -/
def SIn (w : World) (x : Option Addr) (cap : Nat) (S : List (ByteArray × Int)) : Prop :=
  S.length ≤ 1048576 ∧ S.length ≤ cap ∧ (∀ p ∈ S, p.1.size ≤ 9223372036854775807 ∧ IsI64 p.2) ∧ Rd w x (vC S)
theorem SIn.below {w w' : World} {x : Option Addr} {cap : Nat} {S : List (ByteArray × Int)} (h : SIn w x cap S) (hb : Below w.heap.size w w') : SIn w' x cap S := ⟨h.1, h.2.1, h.2.2.1, h.2.2.2.below hb⟩
theorem SIn.rd {w : World} {x : Option Addr} {cap : Nat} {S : List (ByteArray × Int)} (h : SIn w x cap S) : Rd w x (vC S) := h.2.2.2
theorem isSch_x (x : Option Addr) (cap : Nat) (S : List (ByteArray × Int)) (w : World) (h : SIn w x cap S) :
    Calls Tryz.prog 53 #[.slice x S.length cap] w fun e w' => e = .returned (.bool (schB S)) ∧ Below w.heap.size w w' := IsSchema_any x cap S w h.1 h.2.2.1 h.2.2.2
theorem sGood_x (x : Option Addr) (cap : Nat) (S : List (ByteArray × Int)) (w : World) (h : SIn w x cap S) :
    Calls Tryz.prog 56 #[.slice x S.length cap] w fun e w' => e = .returned (.bool (schB S)) ∧ Below w.heap.size w w' := sGood_any x cap S w h.1 h.2.1 (fun p hp => (h.2.2.1 p hp).1) h.2.2.2
theorem iCC_x (x : Option Addr) (cap : Nat) (S : List (ByteArray × Int)) (w : World) (h : SIn w x cap S) :
    Calls Tryz.prog 15 #[.slice x S.length cap] w fun e w' => e = .returned (.tuple #[.int .i64 (ccN S), .bool (schB S)]) ∧ Below w.heap.size w w' := by
  have hh := Lib.hid h
  clear h
  cases hs : schB S
  · have hv := Lib.hid (show ccN S = 0 from if_f hs)
    go_enter Tryz.func15, Tryz.ntmps15
    go_wp2_with (go_at_call 53; refine (isSch_x _ _ _ _ hh.out).mono ?_; rintro e w1 ⟨rfl, hb1⟩; obtain ⟨hcl1, hfr1⟩ := bcell hb1; have hz1 := hb1.size; (try simp at hz1); (try (have hly1 := Nat.lt_of_succ_le hz1)); (try (have hlx1 := Nat.lt_of_succ_lt hly1)); (try (have hlw1 := Nat.lt_of_succ_lt hlx1)); (try (have hle1 := Nat.le_of_lt hly1)); (try (have hya1 : w.heap.size < w1.heap.size := by omega)); (try (have hyb1 : w.heap.size + 1 < w1.heap.size := by omega)); (try (have hyc1 : w.heap.size + 1 + 1 < w1.heap.size := by omega)); (try (have hyd1 : wa.heap.size < w1.heap.size := by omega)))
    go_ret2
    exact ⟨ret_in hv.out.symm rfl, (by repeat (first | exact Below.refl _ _ | assumption | refine Below.drew ?_ | refine below_drewN ?_ _ | refine Below.alloc' ?_ _ | (refine Below.setCell ?_ (by first | omega | (simp; done) | (simp; omega) | exact Below.size (by assumption) | exact Nat.le_trans (Below.size (by assumption)) (by simp)) _) | (refine Below.via' ?_ (by assumption)) | (refine Below.alloc ?_ (by first | omega | (simp; done) | (simp; omega) | exact Below.size (by assumption) | exact Nat.le_trans (Below.size (by assumption)) (by simp)) _) | (refine Below.via ?_ (by assumption) (by first | omega | (simp; done) | (simp; omega) | exact Below.size (by assumption) | exact Nat.le_trans (Below.size (by assumption)) (by simp)))))⟩
  · have hv := Lib.hid (show ccN S = cnZ S from if_t hs)
    go_enter Tryz.func15, Tryz.ntmps15
    go_wp2_with (first | (go_at_call 53; refine (isSch_x _ _ _ _ hh.out).mono ?_; rintro e w1 ⟨rfl, hb1⟩; obtain ⟨hcl1, hfr1⟩ := bcell hb1; have hz1 := hb1.size; (try simp at hz1); (try (have hly1 := Nat.lt_of_succ_le hz1)); (try (have hlx1 := Nat.lt_of_succ_lt hly1)); (try (have hlw1 := Nat.lt_of_succ_lt hlx1)); (try (have hle1 := Nat.le_of_lt hly1)); (try (have hya1 : w.heap.size < w1.heap.size := by omega)); (try (have hyb1 : w.heap.size + 1 < w1.heap.size := by omega)); (try (have hyc1 : w.heap.size + 1 + 1 < w1.heap.size := by omega)); (try (have hyd1 : wa.heap.size < w1.heap.size := by omega))) | (go_at_call 54; refine (countCombinations_any _ _ _ _ hs hh.out.1 (hh.out.rd.below (by assumption))).mono ?_; rintro e w2 ⟨rfl, hb2⟩; obtain ⟨hcl2, hfr2⟩ := bcell hb2; have hz2 := hb2.size; (try simp at hz2); (try (have hly2 := Nat.lt_of_succ_le hz2)); (try (have hlx2 := Nat.lt_of_succ_lt hly2)); (try (have hlw2 := Nat.lt_of_succ_lt hlx2)); (try (have hle2 := Nat.le_of_lt hly2)); (try (have hya2 : w.heap.size < w2.heap.size := by omega)); (try (have hyb2 : w.heap.size + 1 < w2.heap.size := by omega)); (try (have hyc2 : w.heap.size + 1 + 1 < w2.heap.size := by omega)); (try (have hyd2 : wa.heap.size < w2.heap.size := by omega))))
    go_ret2
    exact ⟨ret_in hv.out.symm rfl, (by repeat (first | exact Below.refl _ _ | assumption | refine Below.drew ?_ | refine below_drewN ?_ _ | refine Below.alloc' ?_ _ | (refine Below.setCell ?_ (by first | omega | (simp; done) | (simp; omega) | exact Below.size (by assumption) | exact Nat.le_trans (Below.size (by assumption)) (by simp)) _) | (refine Below.via' ?_ (by assumption)) | (refine Below.alloc ?_ (by first | omega | (simp; done) | (simp; omega) | exact Below.size (by assumption) | exact Nat.le_trans (Below.size (by assumption)) (by simp)) _) | (refine Below.via ?_ (by assumption) (by first | omega | (simp; done) | (simp; omega) | exact Below.size (by assumption) | exact Nat.le_trans (Below.size (by assumption)) (by simp)))))⟩
end Go.Proofs.YtcmfoclalcmamabGreatDoor
