/-
  Reading back: the model's number; a schema out of its text.
-/
import Derived.Test.YtcmfoclalcmamabGreatDoorSpl
import Derived.Test.YtcmfoclalcmamabGreatDoorFracW
namespace Go.Proofs.YtcmfoclalcmamabGreatDoor
open Go.RowKit
set_option maxRecDepth 100000

theorem dgV_lt : ∀ (n : Nat) (l : List UInt8), l.length = n → (∀ c ∈ l, dgB c = true) → dgV l < 10 ^ n
  | 0, l, h, _ => by
    have : l = [] := List.eq_nil_of_length_eq_zero h
    subst this
    decide
  | n + 1, l, h, hd => by
    have hne : l ≠ [] := by
      rintro rfl
      simp at h
    obtain ⟨r, c, rfl⟩ : ∃ r c, l = r ++ [c] := ⟨l.dropLast, l.getLast hne, (List.dropLast_concat_getLast hne).symm⟩
    have ih := dgV_lt n r (by simpa using h) (fun c hc => hd c (List.mem_append_left _ hc))
    have hc := (dgB_iff c).1 (hd c (by simp))
    rw [dgV_snoc, Nat.pow_succ]
    omega
/-- The model's number: what is read, or -1. -/
def rdB (l : List UInt8) : Bool := decide (1 ≤ l.length) && decide (l.length ≤ 6) && !(decide (l[0]? = some 48) && decide (1 < l.length)) && l.all dgB
def rdZ (s : ByteArray) : Int := if rdB (nmL s) then (dgV (nmL s) : Nat) else -1
theorem rd_size {s : ByteArray} (h : inB s.size 1 6 = false) : rdZ s = -1 := by
  unfold rdZ
  have : rdB (nmL s) = false := by
    cases hb : rdB (nmL s) with
    | false => rfl
    | true =>
      unfold rdB at hb
      simp only [Bool.and_eq_true, decide_eq_true_eq, nmL_len] at hb
      rw [(inB_iff _ _ _).2 (by omega)] at h
      cases h
  rw [this]
  rfl
theorem rd_zero {s : ByteArray} (h : (nmL s)[0]? = some 48) (h1 : 1 < s.size) : rdZ s = -1 := by
  unfold rdZ
  have : rdB (nmL s) = false := by
    unfold rdB
    rw [decide_eq_true h, nmL_len, decide_eq_true h1]
    simp
  rw [this]
  rfl
theorem rd_bad {s : ByteArray} {k : Nat} (h : k < s.size) (hc : dgB s[k] = false) : rdZ s = -1 := by
  unfold rdZ
  have : rdB (nmL s) = false := by
    unfold rdB
    have : (nmL s).all dgB = false := by
      rw [List.all_eq_false]
      exact ⟨s[k], List.mem_of_getElem? (nmL_at s h), by rw [hc]; exact Bool.false_ne_true⟩
    rw [this, Bool.and_false]
  rw [this]
  rfl
theorem rd_good {s : ByteArray} (h : inB s.size 1 6 = true) (h1 : ¬ ((nmL s)[0]? = some 48 ∧ 1 < s.size)) (h2 : ∀ c ∈ nmL s, dgB c = true) : rdZ s = (dgV (nmL s) : Nat) := by
  unfold rdZ
  have : rdB (nmL s) = true := by
    unfold rdB
    have h3 := (inB_iff _ _ _).1 h
    simp only [Bool.and_eq_true, decide_eq_true_eq, nmL_len, Bool.not_eq_true', List.all_eq_true]
    refine ⟨⟨by omega, ?_⟩, h2⟩
    rw [Bool.and_eq_false_iff, decide_eq_false_iff_not, decide_eq_false_iff_not]
    exact Decidable.not_and_iff_or_not.1 h1
  rw [this]
  rfl

set_option maxHeartbeats 2000000 in
theorem l1Read_any (s : ByteArray) (w : World) (hm : s.size ≤ 1048576) :
    Calls Tryz.prog 102 #[.string s] w fun e w' => e = .returned (.int .i64 (rdZ s)) ∧ w = w' := by
  cases hi : inB s.size 1 6
  · have hv := Lib.hid (rd_size hi)
    go_enter Tryz.func102, Tryz.ntmps102
    go_wp2_with (go_at_call 57; refine (l1In_any _ _ _ _).mono ?_; rintro e w1 ⟨rfl, rfl⟩)
    go_ret
    exact ⟨ret_int hv.out.symm, rfl⟩
  have h3 := (inB_iff _ _ _).1 hi
  have h0 : 0 < s.size := by omega
  have hat := Lib.hid (nmL_at s h0)
  by_cases hz : s[0] = 48 ∧ 1 < s.size
  · have hq : (((s[0]).toNat : Int) == 48) = true := by rw [hz.1]; rfl
    have hs := hz.2
    have hv := Lib.hid (rd_zero (by rw [hat.out, hz.1]) hs)
    clear hz
    go_enter Tryz.func102, Tryz.ntmps102
    go_wp2_with (go_at_call 57; refine (l1In_any _ _ _ _).mono ?_; rintro e w1 ⟨rfl, rfl⟩)
    go_ret
    exact ⟨ret_int hv.out.symm, rfl⟩
  have hno : Hid (¬ ((nmL s)[0]? = some 48 ∧ 1 < s.size)) := by
    unfold Hid
    rw [hat.out]
    rintro ⟨h1, h2⟩
    injection h1 with h1
    exact hz ⟨h1, h2⟩
  cases hq : (((s[0]).toNat : Int) == 48)
  · clear hz
    go_enter Tryz.func102, Tryz.ntmps102
    go_wp2_with (go_at_call 57; refine (l1In_any _ _ _ _).mono ?_; rintro e w1 ⟨rfl, rfl⟩)
    go_loop [3, 4] (fun n c => ∃ k : Nat, k ≤ s.size ∧ c = .int .i64 k ∧ n = .int .i64 (dgV ((nmL s).take k) : Nat) ∧ Hid (∀ c ∈ (nmL s).take k, dgB c = true)) (fun _ c => s.size - (intOf c).toNat)
    case atStart => exact ⟨0, by omega, rfl, rfl, fun c hc => by simp at hc⟩
    case round =>
      obtain ⟨k, hk, rfl, rfl, hall⟩ := hrel
      by_cases hlt : k < s.size
      · have hlt' : (k : Int) < (s.size : Int) := by omega
        by_cases h1 : ((s[k]).toNat : Int) < 48
        · have hv := Lib.hid (rd_bad hlt (by rw [← Bool.not_eq_true, dgB_iff]; omega))
          go_wp2
          go_ret
          exact ⟨ret_int hv.out.symm, rfl⟩
        by_cases h2 : 57 < ((s[k]).toNat : Int)
        · have hv := Lib.hid (rd_bad hlt (by rw [← Bool.not_eq_true, dgB_iff]; omega))
          go_wp2
          go_ret
          exact ⟨ret_int hv.out.symm, rfl⟩
        have hbd := dgV_lt k ((nmL s).take k) (by rw [List.length_take, nmL_len]; omega) hall.out
        have hbk : 10 ^ k ≤ 10 ^ 6 := Nat.pow_le_pow_right (by omega) (by omega)
        have hsn : Hid ((nmL s).take (k + 1) = (nmL s).take k ++ [s[k]]) := take_snoc (nmL_at s hlt)
        have hnx : Hid ((dgV ((nmL s).take (k + 1)) : Int) = 10 * (dgV ((nmL s).take k) : Int) + ((s[k]).toNat - 48 : Int)) := by
          unfold Hid
          rw [hsn.out, dgV_snoc]
          omega
        have hall2 : Hid (∀ c ∈ (nmL s).take (k + 1), dgB c = true) := by
          unfold Hid
          rw [hsn.out]
          intro c hc
          rcases List.mem_append.1 hc with hc | hc
          · exact hall.out c hc
          · simp only [List.mem_singleton] at hc
            subst hc
            rw [dgB_iff]
            omega
        have q1 : IntKind.u8.wrap (((s[k]).toNat : Int) - 48) = ((s[k]).toNat : Int) - 48 := by simp [IntKind.wrap, IntKind.bits, IntKind.signed]; omega
        have hb6 : (dgV ((nmL s).take k) : Int) < 1000000 := by
          have h6 : 10 ^ 6 = 1000000 := rfl
          omega
        have hb0 : (0 : Int) ≤ (dgV ((nmL s).take k) : Int) := by omega
        clear hbk hbd
        go_wp2_with fail
        go_round
        case rel =>
          refine ⟨k + 1, by omega, by go_num, ?_, hall2⟩
          rw [hnx.out]
        case measure => simp [intOf]; omega
      · obtain rfl : k = s.size := by omega
        have e : (nmL s).take s.size = nmL s := by rw [← nmL_len, List.take_length]
        have hv := Lib.hid (rd_good hi hno.out (by rw [← e]; exact hall.out))
        clear hall
        replace e := Lib.hid e
        go_wp2
        go_ret
        exact ⟨ret_int (by rw [e.out, hv.out]), rfl⟩
  · have hs : ¬ (1 < s.size) := fun h => hz ⟨UInt8.toNat_inj.1 (by have := beq_iff_eq.1 hq; have h48 : (48 : UInt8).toNat = 48 := rfl; omega), h⟩
    clear hz
    go_enter Tryz.func102, Tryz.ntmps102
    go_wp2_with (go_at_call 57; refine (l1In_any _ _ _ _).mono ?_; rintro e w1 ⟨rfl, rfl⟩)
    go_loop [3, 4] (fun n c => ∃ k : Nat, k ≤ s.size ∧ c = .int .i64 k ∧ n = .int .i64 (dgV ((nmL s).take k) : Nat) ∧ Hid (∀ c ∈ (nmL s).take k, dgB c = true)) (fun _ c => s.size - (intOf c).toNat)
    case atStart => exact ⟨0, by omega, rfl, rfl, fun c hc => by simp at hc⟩
    case round =>
      obtain ⟨k, hk, rfl, rfl, hall⟩ := hrel
      by_cases hlt : k < s.size
      · have hlt' : (k : Int) < (s.size : Int) := by omega
        by_cases h1 : ((s[k]).toNat : Int) < 48
        · have hv := Lib.hid (rd_bad hlt (by rw [← Bool.not_eq_true, dgB_iff]; omega))
          go_wp2
          go_ret
          exact ⟨ret_int hv.out.symm, rfl⟩
        by_cases h2 : 57 < ((s[k]).toNat : Int)
        · have hv := Lib.hid (rd_bad hlt (by rw [← Bool.not_eq_true, dgB_iff]; omega))
          go_wp2
          go_ret
          exact ⟨ret_int hv.out.symm, rfl⟩
        have hbd := dgV_lt k ((nmL s).take k) (by rw [List.length_take, nmL_len]; omega) hall.out
        have hbk : 10 ^ k ≤ 10 ^ 6 := Nat.pow_le_pow_right (by omega) (by omega)
        have hsn : Hid ((nmL s).take (k + 1) = (nmL s).take k ++ [s[k]]) := take_snoc (nmL_at s hlt)
        have hnx : Hid ((dgV ((nmL s).take (k + 1)) : Int) = 10 * (dgV ((nmL s).take k) : Int) + ((s[k]).toNat - 48 : Int)) := by
          unfold Hid
          rw [hsn.out, dgV_snoc]
          omega
        have hall2 : Hid (∀ c ∈ (nmL s).take (k + 1), dgB c = true) := by
          unfold Hid
          rw [hsn.out]
          intro c hc
          rcases List.mem_append.1 hc with hc | hc
          · exact hall.out c hc
          · simp only [List.mem_singleton] at hc
            subst hc
            rw [dgB_iff]
            omega
        have q1 : IntKind.u8.wrap (((s[k]).toNat : Int) - 48) = ((s[k]).toNat : Int) - 48 := by simp [IntKind.wrap, IntKind.bits, IntKind.signed]; omega
        have hb6 : (dgV ((nmL s).take k) : Int) < 1000000 := by
          have h6 : 10 ^ 6 = 1000000 := rfl
          omega
        have hb0 : (0 : Int) ≤ (dgV ((nmL s).take k) : Int) := by omega
        clear hbk hbd
        go_wp2_with fail
        go_round
        case rel =>
          refine ⟨k + 1, by omega, by go_num, ?_, hall2⟩
          rw [hnx.out]
        case measure => simp [intOf]; omega
      · obtain rfl : k = s.size := by omega
        have e : (nmL s).take s.size = nmL s := by rw [← nmL_len, List.take_length]
        have hv := Lib.hid (rd_good hi hno.out (by rw [← e]; exact hall.out))
        clear hall
        replace e := Lib.hid e
        go_wp2
        go_ret
        exact ⟨ret_int (by rw [e.out, hv.out]), rfl⟩
end Go.Proofs.YtcmfoclalcmamabGreatDoor
