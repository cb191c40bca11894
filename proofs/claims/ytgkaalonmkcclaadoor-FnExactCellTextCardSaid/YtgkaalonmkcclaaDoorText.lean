/-
  The walks of chapter 1: texts of fractions, the program's and the model's.
-/
import Derived.Test.YtgkaalonmkcclaaDoorFracW
import Derived.Test.YtgkaalonmkcclaaDoorShelf
import Derived.Test.YtgkaalonmkcclaaDoorTxt
namespace Go.Proofs.YtgkaalonmkcclaaDoor
open Go.RowKit
set_option maxRecDepth 100000

theorem decDigits_small {u : Nat} (h : u < 10) : Lib.decDigits u = [UInt8.ofNat (48 + u)] := by rw [Lib.decDigits, dif_pos h]
theorem decDigits_big {u : Nat} (h : ¬ u < 10) : Lib.decDigits u = Lib.decDigits (u / 10) ++ [UInt8.ofNat (48 + u % 10)] := by rw [Lib.decDigits, dif_neg h]

/-- A number's decimal text, as the model writes it. -/
def numT (n : Nat) : ByteArray := ⟨(Lib.decDigits n).toArray⟩
theorem numT_small {n : Nat} (h : n < 10) : numT n = byteT (48 + n) := by
  unfold numT byteT
  rw [decDigits_small h]
  have : (48 + (n : Int)).toNat = 48 + n := by omega
  rw [this]
theorem numT_big {n : Nat} (h : ¬ n < 10) : numT n = numT (n / 10) ++ byteT (48 + (n : Int) % 10) := by
  unfold numT byteT
  rw [decDigits_big h]
  have : (48 + (n : Int) % 10).toNat = 48 + n % 10 := by omega
  rw [this]
  apply ByteArray.ext
  simp

theorem ret_str {a b : ByteArray} (h : a = b) : Ending.returned (.string a) = .returned (.string b) := by rw [h]
/-- The same over the integers. -/
def numZ (n : Int) : ByteArray := numT n.toNat
theorem numZ_small {n : Int} (h0 : 0 ≤ n) (h : n < 10) : numZ n = byteT (48 + n) := by
  unfold numZ
  rw [numT_small (by omega)]
  congr 1
  omega
theorem numZ_big {n : Int} (h : ¬ n < 10) : numZ n = numZ (n / 10) ++ byteT (48 + n % 10) := by
  unfold numZ
  rw [numT_big (show ¬ n.toNat < 10 by omega), show ((n.toNat : Nat) : Int) = n by omega, show n.toNat / 10 = (n / 10).toNat by omega]

theorem decDigits_len : ∀ u : Nat, (Lib.decDigits u).length ≤ u + 1
  | u => by
    by_cases h : u < 10
    · rw [decDigits_small h]; simp
    · rw [decDigits_big h]
      have := decDigits_len (u / 10)
      simp
      omega
termination_by u => u
decreasing_by omega
theorem numZ_len (n : Int) (h : n ≤ 1000000000000000000) : (numZ n).size ≤ 1000000000000000001 := by
  have := decDigits_len n.toNat
  show (Lib.decDigits n.toNat).toArray.size ≤ _
  simp
  omega

set_option maxHeartbeats 400000 in
theorem l1Num_any (k : Nat) : ∀ (n : Int) (w : World), 0 ≤ n → n.toNat ≤ k → n ≤ 1000000000000000000 →
    Calls Tryd.prog 39 #[.int .i64 n] w fun e w' => e = .returned (.string (numZ n)) ∧ Below w.heap.size w w' := by
  induction k with
  | zero =>
    intro n w h0 hk hb
    have hlt : n < 10 := by omega
    have hv := Lib.hid (numZ_small h0 hlt)
    have hcv := conv_byte (48 + n) (by omega) (by omega)
    clear hk
    go_enter Tryd.func39, Tryd.ntmps39
    go_wp2_with fail
    go_ret
    exact ⟨ret_str hv.out.symm, (by repeat (first | exact Below.refl _ _ | assumption | refine Below.drew ?_ | refine below_drewN ?_ _ | refine Below.alloc' ?_ _ | (refine Below.setCell ?_ (by first | omega | (simp; done) | (simp; omega) | exact Below.size (by assumption) | exact Nat.le_trans (Below.size (by assumption)) (by simp)) _) | (refine Below.via' ?_ (by assumption)) | (refine Below.alloc ?_ (by first | omega | (simp; done) | (simp; omega) | exact Below.size (by assumption) | exact Nat.le_trans (Below.size (by assumption)) (by simp)) _) | (refine Below.via ?_ (by assumption) (by first | omega | (simp; done) | (simp; omega) | exact Below.size (by assumption) | exact Nat.le_trans (Below.size (by assumption)) (by simp)))))⟩
  | succ k ih =>
    intro n w h0 hk hb
    by_cases h : n < 10
    · have hv := Lib.hid (numZ_small h0 h)
      have hcv := conv_byte (48 + n) (by omega) (by omega)
      clear hk ih
      go_enter Tryd.func39, Tryd.ntmps39
      go_wp2_with fail
      go_ret
      exact ⟨ret_str hv.out.symm, (by repeat (first | exact Below.refl _ _ | assumption | refine Below.drew ?_ | refine below_drewN ?_ _ | refine Below.alloc' ?_ _ | (refine Below.setCell ?_ (by first | omega | (simp; done) | (simp; omega) | exact Below.size (by assumption) | exact Nat.le_trans (Below.size (by assumption)) (by simp)) _) | (refine Below.via' ?_ (by assumption)) | (refine Below.alloc ?_ (by first | omega | (simp; done) | (simp; omega) | exact Below.size (by assumption) | exact Nat.le_trans (Below.size (by assumption)) (by simp)) _) | (refine Below.via ?_ (by assumption) (by first | omega | (simp; done) | (simp; omega) | exact Below.size (by assumption) | exact Nat.le_trans (Below.size (by assumption)) (by simp)))))⟩
    · have hv := Lib.hid (numZ_big h)
      have hcv := conv_byte (48 + n % 10) (by omega) (by omega)
      have hih := Lib.hid ih
      clear ih
      have k1 : 0 ≤ n / 10 := by omega
      have k2 : (n / 10).toNat ≤ k := by omega
      have k3 : n / 10 ≤ 1000000000000000000 := by omega
      have hsz : ¬ 9223372036854775807 < (numZ (n / 10)).size + (byteT (48 + n % 10)).size := by
        have := numZ_len (n / 10) k3
        rw [byteT_len]
        omega
      have q1 : n.tdiv 10 = n / 10 := Int.tdiv_eq_ediv_of_nonneg h0
      have q2 : n.tmod 10 = n % 10 := Int.tmod_eq_emod_of_nonneg h0
      have q3 : IntKind.i64.wrap (48 + n % 10) = 48 + n % 10 := IntWalk.i64_in _ (by omega)
      have q4 : IntKind.i64.wrap (n / 10) = n / 10 := IntWalk.i64_in _ (by omega)
      have q5 : IntKind.i64.wrap (n % 10) = n % 10 := IntWalk.i64_in _ (by omega)
      have q6 : IntKind.u8.wrap (48 + n % 10) = 48 + n % 10 := by simp [IntKind.wrap, IntKind.bits, IntKind.signed]; omega
      go_enter Tryd.func39, Tryd.ntmps39
      go_wp2_with fail
      go_region_with (first | (go_at_call 39; refine (hih.out _ _ k1 k2 k3).mono ?_; rintro e w1 ⟨rfl, hb1⟩; obtain ⟨hcl1, hfr1⟩ := bcell hb1))
      all_goals
        go_wp2
        go_ret
        exact ⟨ret_str hv.out.symm, (by repeat (first | exact Below.refl _ _ | assumption | refine Below.drew ?_ | refine below_drewN ?_ _ | refine Below.alloc' ?_ _ | (refine Below.setCell ?_ (by first | omega | (simp; done) | (simp; omega) | exact Below.size (by assumption) | exact Nat.le_trans (Below.size (by assumption)) (by simp)) _) | (refine Below.via' ?_ (by assumption)) | (refine Below.alloc ?_ (by first | omega | (simp; done) | (simp; omega) | exact Below.size (by assumption) | exact Nat.le_trans (Below.size (by assumption)) (by simp)) _) | (refine Below.via ?_ (by assumption) (by first | omega | (simp; done) | (simp; omega) | exact Below.size (by assumption) | exact Nat.le_trans (Below.size (by assumption)) (by simp)))))⟩

/-- An integer's decimal text. -/
def numI (n : Int) : ByteArray := ⟨(Lib.itoa n).toArray⟩
theorem numI_pos {n : Int} (h : 0 ≤ n) : numI n = numZ n := by
  unfold numI numZ numT Lib.itoa
  rw [if_neg (by omega)]
theorem numI_neg {n : Int} (h : n < 0) : numI n = ⟨#[45]⟩ ++ numZ (-n) := by
  unfold numI numZ numT Lib.itoa
  rw [if_pos h, show n.natAbs = (-n).toNat by omega]
  apply ByteArray.ext
  simp
theorem numI_len (n : Int) (h1 : -1000000000 ≤ n) (h2 : n ≤ 1000000000) : (numI n).size ≤ 1000000000000000002 := by
  by_cases h : 0 ≤ n
  · rw [numI_pos h]
    have := numZ_len n (by omega)
    omega
  · rw [numI_neg (by omega)]
    have := numZ_len (-n) (by omega)
    have e : (⟨#[45]⟩ : ByteArray).size = 1 := rfl
    rw [ByteArray.size_append, e]
    omega
/-- A fraction's text. -/
def frT (n d : Int) : ByteArray := if d = 1 then numI n else numI n ++ ⟨#[47]⟩ ++ numI d

end Go.Proofs.YtgkaalonmkcclaaDoor
