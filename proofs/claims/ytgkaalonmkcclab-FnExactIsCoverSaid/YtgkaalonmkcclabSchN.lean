/-
  The walks of chapter 2: counts, indices, distances; the program's and the model's.
-/
import Derived.Test.YtgkaalonmkcclabSchM
import Derived.Test.YtgkaalonmkcclabSchI
namespace Go.Proofs.Ytgkaalonmkcclab
open Go.RowKit
set_option maxRecDepth 100000

theorem ret_in {a b : Int} {p q : Bool} (h : a = b) (k : p = q) : Ending.returned (.tuple #[.int .i64 a, .bool p]) = .returned (.tuple #[.int .i64 b, .bool q]) := by rw [h, k]

set_option maxHeartbeats 1000000 in
theorem countCombinations_any (x : Option Addr) (cap : Nat) (S : List (ByteArray × Int)) (w : World) (hs : schB S = true) (hm : S.length ≤ 1048576) (hS : Rd w x (vC S)) :
    Calls Try.prog 116 #[.slice x S.length cap] w fun e w' => e = .returned (.int .i64 (cnZ S)) ∧ Below w.heap.size w w' := by
  have hsh := Lib.hid hs
  clear hs
  go_enter Try.func116, Try.ntmps116
  go_wp2
  go_loopw [3, 8] (fun q c wr => ∃ i : Nat, i ≤ S.length ∧ c = .int .i64 i ∧ q = .int .i64 (cnZ (S.take i)) ∧ Below w.heap.size w wr) (fun _ c _ => S.length - (intOf c).toNat)
  case atStart => exact ⟨0, by omega, rfl, rfl, Below.refl _ _⟩
  case round =>
    obtain ⟨i, hi, rfl, rfl, hb⟩ := hrel
    have hcn := cn_le hsh.out hi
    by_cases hlt : i < S.length
    · obtain ⟨bl, off, nm, lv, rfl, hbl, hSi, hc0, hc1⟩ := (hS.below hb).var hlt
      obtain ⟨e, m1, m2⟩ := cn_step hsh.out hSi
      have e := Lib.hid e
      clear hS hSi
      have hlt' : (i : Int) < (S.length : Int) := by omega
      go_wp2
      go_roundw
      case rel => exact ⟨i + 1, by omega, by go_num, by rw [e.out], (by repeat (first | exact Below.refl _ _ | assumption | refine Below.drew ?_ | refine below_drewN ?_ _ | refine Below.alloc' ?_ _ | (refine Below.setCell ?_ (by first | omega | (simp; done) | (simp; omega) | exact Below.size (by assumption) | exact Nat.le_trans (Below.size (by assumption)) (by simp)) _) | (refine Below.via' ?_ (by assumption)) | (refine Below.alloc ?_ (by first | omega | (simp; done) | (simp; omega) | exact Below.size (by assumption) | exact Nat.le_trans (Below.size (by assumption)) (by simp)) _) | (refine Below.via ?_ (by assumption) (by first | omega | (simp; done) | (simp; omega) | exact Below.size (by assumption) | exact Nat.le_trans (Below.size (by assumption)) (by simp)))))⟩
      case measure => simp [intOf]; omega
    · have hij : i = S.length := by omega
      subst hij
      clear hS hcn
      go_wp2
      go_ret
      exact ⟨ret_int (by rw [List.take_length]), hb⟩
set_option maxHeartbeats 1000000 in
theorem sCount_any (x : Option Addr) (cap : Nat) (S : List (ByteArray × Int)) (w : World) (hs : schB S = true) (hm : S.length ≤ 1048576) (hS : Rd w x (vC S)) :
    Calls Try.prog 112 #[.slice x S.length cap] w fun e w' => e = .returned (.int .i64 (cnZ S)) ∧ Below w.heap.size w w' := by
  have hsh := Lib.hid hs
  clear hs
  go_enter Try.func112, Try.ntmps112
  go_wp2
  go_loopw [3, 8] (fun q c wr => ∃ i : Nat, i ≤ S.length ∧ c = .int .i64 i ∧ q = .int .i64 (cnZ (S.take i)) ∧ Below w.heap.size w wr) (fun _ c _ => S.length - (intOf c).toNat)
  case atStart => exact ⟨0, by omega, rfl, rfl, Below.refl _ _⟩
  case round =>
    obtain ⟨i, hi, rfl, rfl, hb⟩ := hrel
    have hcn := cn_le hsh.out hi
    by_cases hlt : i < S.length
    · obtain ⟨bl, off, nm, lv, rfl, hbl, hSi, hc0, hc1⟩ := (hS.below hb).var hlt
      obtain ⟨e, m1, m2⟩ := cn_step hsh.out hSi
      have e := Lib.hid e
      clear hS hSi
      have hlt' : (i : Int) < (S.length : Int) := by omega
      go_wp2
      go_roundw
      case rel => exact ⟨i + 1, by omega, by go_num, by rw [e.out], (by repeat (first | exact Below.refl _ _ | assumption | refine Below.drew ?_ | refine below_drewN ?_ _ | refine Below.alloc' ?_ _ | (refine Below.setCell ?_ (by first | omega | (simp; done) | (simp; omega) | exact Below.size (by assumption) | exact Nat.le_trans (Below.size (by assumption)) (by simp)) _) | (refine Below.via' ?_ (by assumption)) | (refine Below.alloc ?_ (by first | omega | (simp; done) | (simp; omega) | exact Below.size (by assumption) | exact Nat.le_trans (Below.size (by assumption)) (by simp)) _) | (refine Below.via ?_ (by assumption) (by first | omega | (simp; done) | (simp; omega) | exact Below.size (by assumption) | exact Nat.le_trans (Below.size (by assumption)) (by simp)))))⟩
      case measure => simp [intOf]; omega
    · have hij : i = S.length := by omega
      subst hij
      clear hS hcn
      go_wp2
      go_ret
      exact ⟨ret_int (by rw [List.take_length]), hb⟩

/-- What is asked of a schema that comes in: its names and numbers are those of Go; its cells can be read. -/
def SIn (w : World) (x : Option Addr) (cap : Nat) (S : List (ByteArray × Int)) : Prop :=
  S.length ≤ 1048576 ∧ S.length ≤ cap ∧ (∀ p ∈ S, p.1.size ≤ 9223372036854775807 ∧ IsI64 p.2) ∧ Rd w x (vC S)
theorem SIn.below {w w' : World} {x : Option Addr} {cap : Nat} {S : List (ByteArray × Int)} (h : SIn w x cap S) (hb : Below w.heap.size w w') : SIn w' x cap S := ⟨h.1, h.2.1, h.2.2.1, h.2.2.2.below hb⟩
theorem SIn.rd {w : World} {x : Option Addr} {cap : Nat} {S : List (ByteArray × Int)} (h : SIn w x cap S) : Rd w x (vC S) := h.2.2.2
theorem isSch_x (x : Option Addr) (cap : Nat) (S : List (ByteArray × Int)) (w : World) (h : SIn w x cap S) :
    Calls Try.prog 74 #[.slice x S.length cap] w fun e w' => e = .returned (.bool (schB S)) ∧ Below w.heap.size w w' := IsSchema_any x cap S w h.1 h.2.2.1 h.2.2.2
theorem sGood_x (x : Option Addr) (cap : Nat) (S : List (ByteArray × Int)) (w : World) (h : SIn w x cap S) :
    Calls Try.prog 89 #[.slice x S.length cap] w fun e w' => e = .returned (.bool (schB S)) ∧ Below w.heap.size w w' := sGood_any x cap S w h.1 h.2.1 (fun p hp => (h.2.2.1 p hp).1) h.2.2.2
end Go.Proofs.Ytgkaalonmkcclab
