/-
  The walks of chapter 1: texts of fractions, the program's and the model's.
-/
import Derived.Test.YtbglogaljjfnnaaGreatDoorFracW
import Derived.Test.YtbglogaljjfnnaaGreatDoorShelf
namespace Go.Proofs.YtbglogaljjfnnaaGreatDoor
open Go.RowKit
set_option maxRecDepth 100000

theorem decDigits_small {u : Nat} (h : u < 10) : Lib.decDigits u = [UInt8.ofNat (48 + u)] := by rw [Lib.decDigits, dif_pos h]
theorem decDigits_big {u : Nat} (h : ¬ u < 10) : Lib.decDigits u = Lib.decDigits (u / 10) ++ [UInt8.ofNat (48 + u % 10)] := by rw [Lib.decDigits, dif_neg h]

/-- A number's decimal text, as the model writes it. -/
def numT (n : Nat) : ByteArray := ⟨(Lib.decDigits n).toArray⟩
/-- One byte, read back as a string. -/
def byteT (n : Int) : ByteArray := ⟨#[UInt8.ofNat n.toNat]⟩
theorem conv_byte (n : Int) (h0 : 0 ≤ n) (h1 : n < 256) : ∀ (W : World) (g : Nat), W.cell? ⟨g, 0, none⟩ = some (.int .u8 n) →
    (convert 22 9 (.slice (some ⟨g, 0, none⟩) 1 1)).run Tryz.prog W = .ok (.string (byteT n)) W := by
  intro W g h
  have e : ((UInt8.ofNat n.toNat).toNat : Int) = n := by simp; omega
  exact run_convert_bytes_back W 22 9 5 ⟨g, 0, none⟩ 1 [UInt8.ofNat n.toNat] Tryz.underlying22 Tryz.underlying5 Tryz.underlying9 (fun j hj => by
    obtain rfl : j = 0 := by simpa using hj
    show W.cell? ((⟨g, 0, none⟩ : Addr).add 0) = some (.int .u8 ((UInt8.ofNat n.toNat).toNat : Int))
    rw [e]
    simpa [Addr.add] using h)
theorem numT_small {n : Nat} (h : n < 10) : numT n = byteT (48 + n) := by
  unfold numT byteT
  rw [decDigits_small h]
  have : (48 + (n : Int)).toNat = 48 + n := by omega
  rw [this]
theorem numT_big {n : Nat} (h : ¬ n < 10) : numT n = numT (n / 10) ++ byteT (48 + (n : Int) % 10) := by
  unfold numT byteT
  rw [decDigits_big h]
  have : (48 + (n : Int) % 10).toNat = 48 + n % 10 := by omega
  rw [this]
  apply ByteArray.ext
  simp

theorem ret_str {a b : ByteArray} (h : a = b) : Ending.returned (.string a) = .returned (.string b) := by rw [h]
/-- The same over the integers. -/
def numZ (n : Int) : ByteArray := numT n.toNat
theorem numZ_small {n : Int} (h0 : 0 ≤ n) (h : n < 10) : numZ n = byteT (48 + n) := by
  unfold numZ
  rw [numT_small (by omega)]
  congr 1
  omega
theorem numZ_big {n : Int} (h : ¬ n < 10) : numZ n = numZ (n / 10) ++ byteT (48 + n % 10) := by
  unfold numZ
  rw [numT_big (show ¬ n.toNat < 10 by omega), show ((n.toNat : Nat) : Int) = n by omega, show n.toNat / 10 = (n / 10).toNat by omega]

theorem decDigits_len : ∀ u : Nat, (Lib.decDigits u).length ≤ u + 1
  | u => by
    by_cases h : u < 10
    · rw [decDigits_small h]; simp
    · rw [decDigits_big h]
      have := decDigits_len (u / 10)
      simp
      omega
termination_by u => u
decreasing_by omega
theorem numZ_len (n : Int) (h : n ≤ 1000000000000000000) : (numZ n).size ≤ 1000000000000000001 := by
  have := decDigits_len n.toNat
  show (Lib.decDigits n.toNat).toArray.size ≤ _
  simp
  omega
theorem byteT_len (n : Int) : (byteT n).size = 1 := rfl

/-- An integer's decimal text. -/
def numI (n : Int) : ByteArray := ⟨(Lib.itoa n).toArray⟩
theorem numI_pos {n : Int} (h : 0 ≤ n) : numI n = numZ n := by
  unfold numI numZ numT Lib.itoa
  rw [if_neg (by omega)]
theorem numI_neg {n : Int} (h : n < 0) : numI n = ⟨#[45]⟩ ++ numZ (-n) := by
  unfold numI numZ numT Lib.itoa
  rw [if_pos h, show n.natAbs = (-n).toNat by omega]
  apply ByteArray.ext
  simp
theorem numI_len (n : Int) (h1 : -1000000000 ≤ n) (h2 : n ≤ 1000000000) : (numI n).size ≤ 1000000000000000002 := by
  by_cases h : 0 ≤ n
  · rw [numI_pos h]
    have := numZ_len n (by omega)
    omega
  · rw [numI_neg (by omega)]
    have := numZ_len (-n) (by omega)
    have e : (⟨#[45]⟩ : ByteArray).size = 1 := rfl
    rw [ByteArray.size_append, e]
    omega
/-- A fraction's text. -/
def frT (n d : Int) : ByteArray := if d = 1 then numI n else numI n ++ ⟨#[47]⟩ ++ numI d

end Go.Proofs.YtbglogaljjfnnaaGreatDoor
