/-
  The walks of chapter 2: counts, indices, distances; the program's and the model's.
-/
import Derived.Test.YtmbchahjgefbpaaDoorSchM
import Derived.Test.YtmbchahjgefbpaaDoorSchI
namespace Go.Proofs.YtmbchahjgefbpaaDoor
open Go.RowKit
set_option maxRecDepth 100000

theorem ret_in {a b : Int} {p q : Bool} (h : a = b) (k : p = q) : Ending.returned (.tuple #[.int .i64 a, .bool p]) = .returned (.tuple #[.int .i64 b, .bool q]) := by rw [h, k]

/-- What is asked of a schema that comes in: its names and numbers are those of Go; its cells can be read. -/
def SIn (w : World) (x : Option Addr) (cap : Nat) (S : List (ByteArray × Int)) : Prop :=
  S.length ≤ 1048576 ∧ S.length ≤ cap ∧ (∀ p ∈ S, p.1.size ≤ 9223372036854775807 ∧ IsI64 p.2) ∧ Rd w x (vC S)
theorem SIn.below {w w' : World} {x : Option Addr} {cap : Nat} {S : List (ByteArray × Int)} (h : SIn w x cap S) (hb : Below w.heap.size w w') : SIn w' x cap S := ⟨h.1, h.2.1, h.2.2.1, h.2.2.2.below hb⟩
theorem SIn.rd {w : World} {x : Option Addr} {cap : Nat} {S : List (ByteArray × Int)} (h : SIn w x cap S) : Rd w x (vC S) := h.2.2.2
theorem isSch_x (x : Option Addr) (cap : Nat) (S : List (ByteArray × Int)) (w : World) (h : SIn w x cap S) :
    Calls Tryd.prog 24 #[.slice x S.length cap] w fun e w' => e = .returned (.bool (schB S)) ∧ Below w.heap.size w w' := IsSchema_any x cap S w h.1 h.2.2.1 h.2.2.2
theorem sGood_x (x : Option Addr) (cap : Nat) (S : List (ByteArray × Int)) (w : World) (h : SIn w x cap S) :
    Calls Tryd.prog 31 #[.slice x S.length cap] w fun e w' => e = .returned (.bool (schB S)) ∧ Below w.heap.size w w' := sGood_any x cap S w h.1 h.2.1 (fun p hp => (h.2.2.1 p hp).1) h.2.2.2
set_option maxHeartbeats 1000000 in
theorem iVI_x (x : Option Addr) (cap : Nat) (S : List (ByteArray × Int)) (nm : ByteArray) (w : World) (h : SIn w x cap S) :
    Calls Tryd.prog 57 #[.slice x S.length cap, .string nm] w fun e w' => e = .returned (.tuple #[.int .i64 (viN S (nmL nm)), .bool (viB S (nmL nm))]) ∧ Below w.heap.size w w' := by
  have hm := h.1
  have hh := Lib.hid h
  clear h
  cases hs : schB S
  · have hv := Lib.hid (show viB S (nmL nm) = false by unfold viB; rw [hs]; rfl)
    have hu := Lib.hid (show viN S (nmL nm) = 0 from if_f hv.out)
    go_enter Tryd.func57, Tryd.ntmps57
    go_wp2_with (go_at_call 24; refine (isSch_x _ _ _ _ hh.out).mono ?_; rintro e w1 ⟨rfl, hb1⟩; obtain ⟨hcl1, hfr1⟩ := bcell hb1; have hz1 := hb1.size; (try simp at hz1); (try (have hly1 := Nat.lt_of_succ_le hz1)); (try (have hlx1 := Nat.lt_of_succ_lt hly1)); (try (have hlw1 := Nat.lt_of_succ_lt hlx1)); (try (have hle1 := Nat.le_of_lt hly1)); (try (have hya1 : w.heap.size < w1.heap.size := by omega)); (try (have hyb1 : w.heap.size + 1 < w1.heap.size := by omega)); (try (have hyc1 : w.heap.size + 1 + 1 < w1.heap.size := by omega)); (try (have hyd1 : wa.heap.size < w1.heap.size := by omega)))
    go_ret2
    exact ⟨ret_in hu.out.symm hv.out.symm, (by repeat (first | exact Below.refl _ _ | assumption | refine Below.drew ?_ | refine below_drewN ?_ _ | refine Below.alloc' ?_ _ | (refine Below.setCell ?_ (by first | omega | (simp; done) | (simp; omega) | exact Below.size (by assumption) | exact Nat.le_trans (Below.size (by assumption)) (by simp)) _) | (refine Below.via' ?_ (by assumption)) | (refine Below.alloc ?_ (by first | omega | (simp; done) | (simp; omega) | exact Below.size (by assumption) | exact Nat.le_trans (Below.size (by assumption)) (by simp)) _) | (refine Below.via ?_ (by assumption) (by first | omega | (simp; done) | (simp; omega) | exact Below.size (by assumption) | exact Nat.le_trans (Below.size (by assumption)) (by simp)))))⟩
  go_enter Tryd.func57, Tryd.ntmps57
  go_wp2_with (go_at_call 24; refine (isSch_x _ _ _ _ hh.out).mono ?_; rintro e w1 ⟨rfl, hb1⟩; obtain ⟨hcl1, hfr1⟩ := bcell hb1; have hz1 := hb1.size; (try simp at hz1); (try (have hly1 := Nat.lt_of_succ_le hz1)); (try (have hlx1 := Nat.lt_of_succ_lt hly1)); (try (have hlw1 := Nat.lt_of_succ_lt hlx1)); (try (have hle1 := Nat.le_of_lt hly1)); (try (have hya1 : w.heap.size < w1.heap.size := by omega)); (try (have hyb1 : w.heap.size + 1 < w1.heap.size := by omega)); (try (have hyc1 : w.heap.size + 1 + 1 < w1.heap.size := by omega)); (try (have hyd1 : wa.heap.size < w1.heap.size := by omega)))
  have hs := Lib.hid hs
  go_loopw [13] (fun c wr => ∃ i : Nat, i ≤ S.length ∧ c = .int .i64 i ∧ Hid (hasB (S.take i) (nmL nm) = false) ∧ Below w.heap.size w wr) (fun c _ => S.length - (intOf c).toNat)
  case atStart => exact ⟨0, by omega, rfl, rfl, hb1⟩
  case round =>
    clear hcl1 hfr1 hb1
    obtain ⟨i, hi, rfl, hno, hb⟩ := hrel
    by_cases hlt : i < S.length
    · obtain ⟨bl, off, n2, lv, rfl, hbl, hSi, hc0, hc1⟩ := (hh.out.rd.below hb).var hlt
      have hSi := Lib.hid hSi
      have hlt' : (i : Int) < (S.length : Int) := by omega
      cases he : (n2.toList == nm.toList)
      · have hno2 : Hid (hasB (S.take (i + 1)) (nmL nm) = false) := by
          unfold Hid
          rw [take_snoc hSi.out, hasB_snoc, hno.out]
          rw [str_eq] at he
          simpa [nmL] using he
        go_wp2
        go_roundw
        case rel => exact ⟨i + 1, by omega, by go_num, hno2, (by repeat (first | exact Below.refl _ _ | assumption | refine Below.drew ?_ | refine below_drewN ?_ _ | refine Below.alloc' ?_ _ | (refine Below.setCell ?_ (by first | omega | (simp; done) | (simp; omega) | exact Below.size (by assumption) | exact Nat.le_trans (Below.size (by assumption)) (by simp)) _) | (refine Below.via' ?_ (by assumption)) | (refine Below.alloc ?_ (by first | omega | (simp; done) | (simp; omega) | exact Below.size (by assumption) | exact Nat.le_trans (Below.size (by assumption)) (by simp)) _) | (refine Below.via ?_ (by assumption) (by first | omega | (simp; done) | (simp; omega) | exact Below.size (by assumption) | exact Nat.le_trans (Below.size (by assumption)) (by simp)))))⟩
        case measure => simp [intOf]; omega
      · have e : nmL nm = nmL n2 := by
          rw [str_eq] at he
          exact (of_decide_eq_true he).symm
        have hf : Hid (fdZ S (nmL nm) = i) := by
          unfold Hid
          rw [e]
          exact fdZ_hit hSi.out (by rw [← e]; exact hno.out)
        have hv : Hid (viB S (nmL nm) = true) := by
          unfold Hid viB
          rw [hs.out, fdZ_neg.1 (by rw [hf.out]; omega)]
          rfl
        have hu := Lib.hid ((show viN S (nmL nm) = fdZ S (nmL nm) from if_t hv.out).trans hf.out)
        clear e
        go_wp2
        go_ret2
        exact ⟨ret_in hu.out.symm hv.out.symm, (by repeat (first | exact Below.refl _ _ | assumption | refine Below.drew ?_ | refine below_drewN ?_ _ | refine Below.alloc' ?_ _ | (refine Below.setCell ?_ (by first | omega | (simp; done) | (simp; omega) | exact Below.size (by assumption) | exact Nat.le_trans (Below.size (by assumption)) (by simp)) _) | (refine Below.via' ?_ (by assumption)) | (refine Below.alloc ?_ (by first | omega | (simp; done) | (simp; omega) | exact Below.size (by assumption) | exact Nat.le_trans (Below.size (by assumption)) (by simp)) _) | (refine Below.via ?_ (by assumption) (by first | omega | (simp; done) | (simp; omega) | exact Below.size (by assumption) | exact Nat.le_trans (Below.size (by assumption)) (by simp)))))⟩
    · have hij : i = S.length := by omega
      subst hij
      have hv : Hid (viB S (nmL nm) = false) := by
        unfold Hid viB
        have := hno.out
        rw [List.take_length] at this
        rw [this, Bool.and_false]
      have hu := Lib.hid (show viN S (nmL nm) = 0 from if_f hv.out)
      clear hno
      go_wp2
      go_ret2
      exact ⟨ret_in hu.out.symm hv.out.symm, hb⟩
end Go.Proofs.YtmbchahjgefbpaaDoor
