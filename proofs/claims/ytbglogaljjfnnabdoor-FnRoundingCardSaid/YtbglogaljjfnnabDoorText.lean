/-
  The walks of chapter 1: texts of fractions, the program's and the model's.
-/
import Derived.Test.YtbglogaljjfnnabDoorFracW
import Derived.Test.YtbglogaljjfnnabDoorShelf
namespace Go.Proofs.YtbglogaljjfnnabDoor
open Go.RowKit
set_option maxRecDepth 100000

theorem decDigits_small {u : Nat} (h : u < 10) : Lib.decDigits u = [UInt8.ofNat (48 + u)] := by rw [Lib.decDigits, dif_pos h]
theorem decDigits_big {u : Nat} (h : ¬ u < 10) : Lib.decDigits u = Lib.decDigits (u / 10) ++ [UInt8.ofNat (48 + u % 10)] := by rw [Lib.decDigits, dif_neg h]

/-- A number's decimal text, as the model writes it. -/
def numT (n : Nat) : ByteArray := ⟨(Lib.decDigits n).toArray⟩
/-- One byte, read back as a string. -/
def byteT (n : Int) : ByteArray := ⟨#[UInt8.ofNat n.toNat]⟩
theorem conv_byte (n : Int) (h0 : 0 ≤ n) (h1 : n < 256) : ∀ (W : World) (g : Nat), W.cell? ⟨g, 0, none⟩ = some (.int .u8 n) →
    (convert 22 9 (.slice (some ⟨g, 0, none⟩) 1 1)).run Tryd.prog W = .ok (.string (byteT n)) W := by
  intro W g h
  have e : ((UInt8.ofNat n.toNat).toNat : Int) = n := by simp; omega
  exact run_convert_bytes_back W 22 9 5 ⟨g, 0, none⟩ 1 [UInt8.ofNat n.toNat] Tryd.underlying22 Tryd.underlying5 Tryd.underlying9 (fun j hj => by
    obtain rfl : j = 0 := by simpa using hj
    show W.cell? ((⟨g, 0, none⟩ : Addr).add 0) = some (.int .u8 ((UInt8.ofNat n.toNat).toNat : Int))
    rw [e]
    simpa [Addr.add] using h)
theorem numT_small {n : Nat} (h : n < 10) : numT n = byteT (48 + n) := by
  unfold numT byteT
  rw [decDigits_small h]
  have : (48 + (n : Int)).toNat = 48 + n := by omega
  rw [this]
theorem numT_big {n : Nat} (h : ¬ n < 10) : numT n = numT (n / 10) ++ byteT (48 + (n : Int) % 10) := by
  unfold numT byteT
  rw [decDigits_big h]
  have : (48 + (n : Int) % 10).toNat = 48 + n % 10 := by omega
  rw [this]
  apply ByteArray.ext
  simp

theorem ret_str {a b : ByteArray} (h : a = b) : Ending.returned (.string a) = .returned (.string b) := by rw [h]
/-- The same over the integers. -/
def numZ (n : Int) : ByteArray := numT n.toNat
theorem numZ_small {n : Int} (h0 : 0 ≤ n) (h : n < 10) : numZ n = byteT (48 + n) := by
  unfold numZ
  rw [numT_small (by omega)]
  congr 1
  omega
theorem numZ_big {n : Int} (h : ¬ n < 10) : numZ n = numZ (n / 10) ++ byteT (48 + n % 10) := by
  unfold numZ
  rw [numT_big (show ¬ n.toNat < 10 by omega), show ((n.toNat : Nat) : Int) = n by omega, show n.toNat / 10 = (n / 10).toNat by omega]

theorem decDigits_len : ∀ u : Nat, (Lib.decDigits u).length ≤ u + 1
  | u => by
    by_cases h : u < 10
    · rw [decDigits_small h]; simp
    · rw [decDigits_big h]
      have := decDigits_len (u / 10)
      simp
      omega
termination_by u => u
decreasing_by omega
theorem numZ_len (n : Int) (h : n ≤ 1000000000000000000) : (numZ n).size ≤ 1000000000000000001 := by
  have := decDigits_len n.toNat
  show (Lib.decDigits n.toNat).toArray.size ≤ _
  simp
  omega
theorem byteT_len (n : Int) : (byteT n).size = 1 := rfl

set_option maxHeartbeats 400000 in
theorem l1Num_any (k : Nat) : ∀ (n : Int) (w : World), 0 ≤ n → n.toNat ≤ k → n ≤ 1000000000000000000 →
    Calls Tryd.prog 70 #[.int .i64 n] w fun e w' => e = .returned (.string (numZ n)) ∧ Below w.heap.size w w' := by
  induction k with
  | zero =>
    intro n w h0 hk hb
    have hlt : n < 10 := by omega
    have hv := Lib.hid (numZ_small h0 hlt)
    have hcv := conv_byte (48 + n) (by omega) (by omega)
    clear hk
    go_enter Tryd.func70, Tryd.ntmps70
    go_wp2_with fail
    go_ret
    exact ⟨ret_str hv.out.symm, (by repeat (first | exact Below.refl _ _ | assumption | refine Below.drew ?_ | refine below_drewN ?_ _ | refine Below.alloc' ?_ _ | (refine Below.setCell ?_ (by first | omega | (simp; done) | (simp; omega) | exact Below.size (by assumption) | exact Nat.le_trans (Below.size (by assumption)) (by simp)) _) | (refine Below.via' ?_ (by assumption)) | (refine Below.alloc ?_ (by first | omega | (simp; done) | (simp; omega) | exact Below.size (by assumption) | exact Nat.le_trans (Below.size (by assumption)) (by simp)) _) | (refine Below.via ?_ (by assumption) (by first | omega | (simp; done) | (simp; omega) | exact Below.size (by assumption) | exact Nat.le_trans (Below.size (by assumption)) (by simp)))))⟩
  | succ k ih =>
    intro n w h0 hk hb
    by_cases h : n < 10
    · have hv := Lib.hid (numZ_small h0 h)
      have hcv := conv_byte (48 + n) (by omega) (by omega)
      clear hk ih
      go_enter Tryd.func70, Tryd.ntmps70
      go_wp2_with fail
      go_ret
      exact ⟨ret_str hv.out.symm, (by repeat (first | exact Below.refl _ _ | assumption | refine Below.drew ?_ | refine below_drewN ?_ _ | refine Below.alloc' ?_ _ | (refine Below.setCell ?_ (by first | omega | (simp; done) | (simp; omega) | exact Below.size (by assumption) | exact Nat.le_trans (Below.size (by assumption)) (by simp)) _) | (refine Below.via' ?_ (by assumption)) | (refine Below.alloc ?_ (by first | omega | (simp; done) | (simp; omega) | exact Below.size (by assumption) | exact Nat.le_trans (Below.size (by assumption)) (by simp)) _) | (refine Below.via ?_ (by assumption) (by first | omega | (simp; done) | (simp; omega) | exact Below.size (by assumption) | exact Nat.le_trans (Below.size (by assumption)) (by simp)))))⟩
    · have hv := Lib.hid (numZ_big h)
      have hcv := conv_byte (48 + n % 10) (by omega) (by omega)
      have hih := Lib.hid ih
      clear ih
      have k1 : 0 ≤ n / 10 := by omega
      have k2 : (n / 10).toNat ≤ k := by omega
      have k3 : n / 10 ≤ 1000000000000000000 := by omega
      have hsz : ¬ 9223372036854775807 < (numZ (n / 10)).size + (byteT (48 + n % 10)).size := by
        have := numZ_len (n / 10) k3
        rw [byteT_len]
        omega
      have q1 : n.tdiv 10 = n / 10 := Int.tdiv_eq_ediv_of_nonneg h0
      have q2 : n.tmod 10 = n % 10 := Int.tmod_eq_emod_of_nonneg h0
      have q3 : IntKind.i64.wrap (48 + n % 10) = 48 + n % 10 := IntWalk.i64_in _ (by omega)
      have q4 : IntKind.i64.wrap (n / 10) = n / 10 := IntWalk.i64_in _ (by omega)
      have q5 : IntKind.i64.wrap (n % 10) = n % 10 := IntWalk.i64_in _ (by omega)
      have q6 : IntKind.u8.wrap (48 + n % 10) = 48 + n % 10 := by simp [IntKind.wrap, IntKind.bits, IntKind.signed]; omega
      go_enter Tryd.func70, Tryd.ntmps70
      go_wp2_with fail
      go_region_with (first | (go_at_call 70; refine (hih.out _ _ k1 k2 k3).mono ?_; rintro e w1 ⟨rfl, hb1⟩; obtain ⟨hcl1, hfr1⟩ := bcell hb1))
      all_goals
        go_wp2
        go_ret
        exact ⟨ret_str hv.out.symm, (by repeat (first | exact Below.refl _ _ | assumption | refine Below.drew ?_ | refine below_drewN ?_ _ | refine Below.alloc' ?_ _ | (refine Below.setCell ?_ (by first | omega | (simp; done) | (simp; omega) | exact Below.size (by assumption) | exact Nat.le_trans (Below.size (by assumption)) (by simp)) _) | (refine Below.via' ?_ (by assumption)) | (refine Below.alloc ?_ (by first | omega | (simp; done) | (simp; omega) | exact Below.size (by assumption) | exact Nat.le_trans (Below.size (by assumption)) (by simp)) _) | (refine Below.via ?_ (by assumption) (by first | omega | (simp; done) | (simp; omega) | exact Below.size (by assumption) | exact Nat.le_trans (Below.size (by assumption)) (by simp)))))⟩

/-- An integer's decimal text. -/
def numI (n : Int) : ByteArray := ⟨(Lib.itoa n).toArray⟩
theorem numI_pos {n : Int} (h : 0 ≤ n) : numI n = numZ n := by
  unfold numI numZ numT Lib.itoa
  rw [if_neg (by omega)]
theorem numI_neg {n : Int} (h : n < 0) : numI n = ⟨#[45]⟩ ++ numZ (-n) := by
  unfold numI numZ numT Lib.itoa
  rw [if_pos h, show n.natAbs = (-n).toNat by omega]
  apply ByteArray.ext
  simp
theorem numI_len (n : Int) (h1 : -1000000000 ≤ n) (h2 : n ≤ 1000000000) : (numI n).size ≤ 1000000000000000002 := by
  by_cases h : 0 ≤ n
  · rw [numI_pos h]
    have := numZ_len n (by omega)
    omega
  · rw [numI_neg (by omega)]
    have := numZ_len (-n) (by omega)
    have e : (⟨#[45]⟩ : ByteArray).size = 1 := rfl
    rw [ByteArray.size_append, e]
    omega
/-- A fraction's text. -/
def frT (n d : Int) : ByteArray := if d = 1 then numI n else numI n ++ ⟨#[47]⟩ ++ numI d

theorem l1Int_any (n : Int) (w : World) (h1 : -1000000000 ≤ n) (h2 : n ≤ 1000000000) :
    Calls Tryd.prog 69 #[.int .i64 n] w fun e w' => e = .returned (.string (numI n)) ∧ Below w.heap.size w w' := by
  by_cases h : n < 0
  · have hv := Lib.hid (numI_neg h)
    have hsz : ¬ 9223372036854775807 < (⟨#[45]⟩ : ByteArray).size + (numZ (-n)).size := by
      have := numZ_len (-n) (by omega)
      have e : (⟨#[45]⟩ : ByteArray).size = 1 := rfl
      rw [e]
      omega
    go_enter Tryd.func69, Tryd.ntmps69
    go_wp2_with (go_at_call 70; refine (l1Num_any _ _ _ (by omega) (Nat.le_refl _) (by omega)).mono ?_; rintro e w1 ⟨rfl, hb1⟩)
    go_ret
    exact ⟨ret_str hv.out.symm, hb1⟩
  · have hv := Lib.hid (numI_pos (show 0 ≤ n by omega))
    go_enter Tryd.func69, Tryd.ntmps69
    go_wp2_with (go_at_call 70; refine (l1Num_any _ _ _ (by omega) (Nat.le_refl _) (by omega)).mono ?_; rintro e w1 ⟨rfl, hb1⟩)
    go_ret
    exact ⟨ret_str hv.out.symm, hb1⟩

set_option maxHeartbeats 1000000 in
theorem fText_any (n d : Int) (w : World) (hf : fOK n d = true) :
    Calls Tryd.prog 63 #[.agg #[.int .i64 n, .int .i64 d]] w fun e w' => e = .returned (.string (frT n d)) ∧ Below w.heap.size w w' := by
  obtain ⟨⟨a1, a2, a3, a4⟩, hg⟩ := (fOK_iff n d).1 hf
  clear hg
  by_cases h : d = 1
  · have hv : Hid (frT n d = numI n) := if_pos h
    have hb := beq_iff_eq.2 h
    clear h
    go_enter Tryd.func63, Tryd.ntmps63
    go_wp2_with (go_at_call 69; refine (l1Int_any _ _ (by omega) (by omega)).mono ?_; rintro e w1 ⟨rfl, hb1⟩; obtain ⟨hcl1, hfr1⟩ := bcell hb1; have hz1 := hb1.size; (try simp at hz1); (try (have hly1 := Nat.lt_of_succ_le hz1)); (try (have hlx1 := Nat.lt_of_succ_lt hly1)); (try (have hlw1 := Nat.lt_of_succ_lt hlx1)); (try (have hle1 := Nat.le_of_lt hly1)); (try (have hya1 : w.heap.size < w1.heap.size := by omega)); (try (have hyb1 : w.heap.size + 1 < w1.heap.size := by omega)); (try (have hyc1 : w.heap.size + 1 + 1 < w1.heap.size := by omega)); (try (have hyd1 : wa.heap.size < w1.heap.size := by omega)))
    go_ret
    exact ⟨ret_str hv.out.symm, (by repeat (first | exact Below.refl _ _ | assumption | refine Below.drew ?_ | refine below_drewN ?_ _ | refine Below.alloc' ?_ _ | (refine Below.setCell ?_ (by first | omega | (simp; done) | (simp; omega) | exact Below.size (by assumption) | exact Nat.le_trans (Below.size (by assumption)) (by simp)) _) | (refine Below.via' ?_ (by assumption)) | (refine Below.alloc ?_ (by first | omega | (simp; done) | (simp; omega) | exact Below.size (by assumption) | exact Nat.le_trans (Below.size (by assumption)) (by simp)) _) | (refine Below.via ?_ (by assumption) (by first | omega | (simp; done) | (simp; omega) | exact Below.size (by assumption) | exact Nat.le_trans (Below.size (by assumption)) (by simp)))))⟩
  · have hv : Hid (frT n d = numI n ++ ⟨#[47]⟩ ++ numZ d) := by unfold Hid frT; rw [if_neg h, numI_pos (show 0 ≤ d by omega)]
    have hb := beq_eq_false_iff_ne.2 h
    have l1 := numI_len n a3 a4
    have l2 := numZ_len d (by omega)
    have e1 : (⟨#[47]⟩ : ByteArray).size = 1 := rfl
    have hs1 : ¬ 9223372036854775807 < (numI n).size + (⟨#[47]⟩ : ByteArray).size := by rw [e1]; omega
    have hs2 : ¬ 9223372036854775807 < (numI n ++ ⟨#[47]⟩).size + (numZ d).size := by rw [ByteArray.size_append, e1]; omega
    have hs3 : ¬ 9223372036854775807 < (numI n).size + (⟨#[47]⟩ : ByteArray).size + (numZ d).size := by rw [e1]; omega
    have hs4 : ¬ 9223372036854775807 < (numI n).size + 1 := by omega
    have hs5 : ¬ 9223372036854775807 < (numI n).size + 1 + (numZ d).size := by omega
    clear l1 l2 e1
    go_enter Tryd.func63, Tryd.ntmps63
    go_wp2_with fail
    go_region_held3 (fun w' => Below (w.alloc (.cells #[.int .i64 n, .int .i64 d] 24)).heap.size (w.alloc (.cells #[.int .i64 n, .int .i64 d] 24)) w' ∧ (∀ b o, b < (w.alloc (.cells #[.int .i64 n, .int .i64 d] 24)).heap.size → w'.cell? ⟨b, o, none⟩ = (w.alloc (.cells #[.int .i64 n, .int .i64 d] 24)).cell? ⟨b, o, none⟩)) (first | exact keep_of (Below.refl _ _) | ((try go_split_ands); exact keep_of (by repeat (first | exact Below.refl _ _ | assumption | refine Below.drew ?_ | refine below_drewN ?_ _ | refine Below.alloc' ?_ _ | (refine Below.setCell ?_ (by first | omega | (simp; done) | (simp; omega) | exact Below.size (by assumption) | exact Nat.le_trans (Below.size (by assumption)) (by simp)) _) | (refine Below.via' ?_ (by assumption)) | (refine Below.alloc ?_ (by first | omega | (simp; done) | (simp; omega) | exact Below.size (by assumption) | exact Nat.le_trans (Below.size (by assumption)) (by simp)) _) | (refine Below.via ?_ (by assumption) (by first | omega | (simp; done) | (simp; omega) | exact Below.size (by assumption) | exact Nat.le_trans (Below.size (by assumption)) (by simp))))))) (first | (go_at_call 69; refine (l1Int_any _ _ a3 a4).mono ?_; rintro e w1 ⟨rfl, hb1⟩) | (go_at_call 70; refine (l1Num_any _ _ _ (by omega) (Nat.le_refl _) (by omega)).mono ?_; rintro e w2 ⟨rfl, hb2⟩))
    all_goals
      go_wp2
      go_ret
      exact ⟨ret_str hv.out.symm, (by repeat (first | exact Below.refl _ _ | assumption | refine Below.drew ?_ | refine below_drewN ?_ _ | refine Below.alloc' ?_ _ | (refine Below.setCell ?_ (by first | omega | (simp; done) | (simp; omega) | exact Below.size (by assumption) | exact Nat.le_trans (Below.size (by assumption)) (by simp)) _) | (refine Below.via' ?_ (by assumption)) | (refine Below.alloc ?_ (by first | omega | (simp; done) | (simp; omega) | exact Below.size (by assumption) | exact Nat.le_trans (Below.size (by assumption)) (by simp)) _) | (refine Below.via ?_ (by assumption) (by first | omega | (simp; done) | (simp; omega) | exact Below.size (by assumption) | exact Nat.le_trans (Below.size (by assumption)) (by simp)))))⟩
end Go.Proofs.YtbglogaljjfnnabDoor
