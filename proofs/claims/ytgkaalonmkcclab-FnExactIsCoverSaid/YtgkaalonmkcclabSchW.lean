/-
  The walks of chapter 2: names, schemas; the program's and the model's.
-/
import Derived.Test.YtgkaalonmkcclabSch
import Derived.Test.YtgkaalonmkcclabVar
import Derived.Test.YtgkaalonmkcclabFracW
import Derived.Maps.RangeWalk
import Derived.Maps.OwnOps
namespace Go.Proofs.Ytgkaalonmkcclab
open Go.RowKit
set_option maxRecDepth 100000

set_option maxHeartbeats 1000000 in
theorem sName_any (s : ByteArray) (w : World) (hm : s.size ≤ 9223372036854775807) :
    Calls Try.prog 142 #[.string s] w fun e w' => e = .returned (.bool (nmB s)) ∧ w = w' := by
  go_enter Try.func142, Try.ntmps142
  go_wp2
  go_loop [3] (fun i => ∃ k : Nat, k ≤ s.size ∧ i = .int .i64 k ∧ Hid (∀ j, j < k → ∃ c, (nmL s)[j]? = some c ∧ chB c = true)) (fun i => s.size - (intOf i).toNat)
  case atStart => exact ⟨0, by omega, rfl, fun j hj => absurd hj (by omega)⟩
  case round =>
    obtain ⟨k, hk, rfl, hall⟩ := hrel
    by_cases hlt : k < s.size
    · have hlt' : (k : Int) < (s.size : Int) := by omega
      by_cases h1 : ((s[k]).toNat : Int) < 97
      · have hv := Lib.hid (nmB_bad hlt (by omega))
        go_wp2
        go_ret
        exact ⟨ret_bool hv.out.symm, rfl⟩
      by_cases h2 : 122 < ((s[k]).toNat : Int)
      · have hv := Lib.hid (nmB_bad hlt (by omega))
        go_wp2
        go_ret
        exact ⟨ret_bool hv.out.symm, rfl⟩
      have hcb := Lib.hid ((chB_iff s[k]).2 ⟨by omega, by omega⟩)
      go_wp2
      go_round
      case rel =>
        refine ⟨k + 1, by omega, by go_num, fun j hj => ?_⟩
        rcases Nat.lt_or_ge j k with hj2 | hj2
        · exact hall.out j hj2
        · obtain rfl : j = k := by omega
          exact ⟨_, nmL_at s hlt, hcb.out⟩
      case measure => simp [intOf]; omega
    · have hks : k = s.size := by omega
      subst hks
      have hv := Lib.hid (nmB_all hall.out)
      clear hall
      go_wp2_with (go_at_call 83; refine (l1In_any _ _ _ _).mono ?_; rintro e w1 ⟨rfl, rfl⟩)
      go_ret
      exact ⟨ret_bool hv.out.symm, rfl⟩

set_option maxHeartbeats 1000000 in
theorem isVariableName_any (s : ByteArray) (w : World) (hm : s.size ≤ 9223372036854775807) :
    Calls Try.prog 134 #[.string s] w fun e w' => e = .returned (.bool (nmB s)) ∧ w = w' := by
  by_cases h0 : s.size = 0
  · have hv := Lib.hid (nmB_size (s := s) (by omega))
    have h0' : (s.size : Int) = 0 := by omega
    go_enter Try.func134, Try.ntmps134
    go_wp2
    go_ret
    exact ⟨ret_bool hv.out.symm, rfl⟩
  by_cases h8 : (8 : Int) < (s.size : Int)
  · have hv := Lib.hid (nmB_size (s := s) (by omega))
    have h0' : ((s.size : Int) == 0) = false := by rw [beq_eq_false_iff_ne]; omega
    go_enter Try.func134, Try.ntmps134
    go_wp2
    go_ret
    exact ⟨ret_bool hv.out.symm, rfl⟩
  have h0' : ((s.size : Int) == 0) = false := by rw [beq_eq_false_iff_ne]; omega
  go_enter Try.func134, Try.ntmps134
  go_wp2
  go_loop [14] (fun i => ∃ k : Nat, k ≤ s.size ∧ i = .int .i64 k ∧ Hid (∀ j, j < k → ∃ c, (nmL s)[j]? = some c ∧ chB c = true)) (fun i => s.size - (intOf i).toNat)
  case atStart => exact ⟨0, by omega, rfl, fun j hj => absurd hj (by omega)⟩
  case round =>
    obtain ⟨k, hk, rfl, hall⟩ := hrel
    by_cases hlt : k < s.size
    · have hlt' : (k : Int) < (s.size : Int) := by omega
      by_cases h1 : ((s[k]).toNat : Int) < 97
      · have hv := Lib.hid (nmB_bad hlt (by omega))
        go_wp2
        go_ret
        exact ⟨ret_bool hv.out.symm, rfl⟩
      by_cases h2 : 122 < ((s[k]).toNat : Int)
      · have hv := Lib.hid (nmB_bad hlt (by omega))
        go_wp2
        go_ret
        exact ⟨ret_bool hv.out.symm, rfl⟩
      have hcb := Lib.hid ((chB_iff s[k]).2 ⟨by omega, by omega⟩)
      go_wp2
      go_round
      case rel =>
        refine ⟨k + 1, by omega, by go_num, fun j hj => ?_⟩
        rcases Nat.lt_or_ge j k with hj2 | hj2
        · exact hall.out j hj2
        · obtain rfl : j = k := by omega
          exact ⟨_, nmL_at s hlt, hcb.out⟩
      case measure => simp [intOf]; omega
    · have hks : k = s.size := by omega
      subst hks
      have hv := Lib.hid ((nmB_all hall.out).trans ((inB_iff _ _ _).2 ⟨by omega, by omega⟩))
      clear hall
      go_wp2
      go_ret
      exact ⟨ret_bool hv.out.symm, rfl⟩

set_option maxHeartbeats 1000000 in
theorem sFind_any (x : Option Addr) (cap : Nat) (S : List (ByteArray × Int)) (nm : ByteArray) (w : World) (hm : S.length ≤ 1048576) (hS : Rd w x (vC S)) :
    Calls Try.prog 143 #[.slice x S.length cap, .string nm] w fun e w' => e = .returned (.int .i64 (fdZ S (nmL nm))) ∧ Below w.heap.size w w' := by
  go_enter Try.func143, Try.ntmps143
  go_wp2
  go_loopw [9] (fun c wr => ∃ i : Nat, i ≤ S.length ∧ c = .int .i64 i ∧ Hid (hasB (S.take i) (nmL nm) = false) ∧ Below w.heap.size w wr) (fun c _ => S.length - (intOf c).toNat)
  case atStart => exact ⟨0, by omega, rfl, rfl, Below.refl _ _⟩
  case round =>
    obtain ⟨i, hi, rfl, hno, hb⟩ := hrel
    by_cases hlt : i < S.length
    · obtain ⟨bl, off, n2, lv, rfl, hbl, hSi, hc0, hc1⟩ := (hS.below hb).var hlt
      have hSi := Lib.hid hSi
      clear hS
      have hlt' : (i : Int) < (S.length : Int) := by omega
      cases he : (n2.toList == nm.toList)
      · have hno2 : Hid (hasB (S.take (i + 1)) (nmL nm) = false) := by
          unfold Hid
          rw [take_snoc hSi.out, hasB_snoc, hno.out]
          rw [str_eq] at he
          simpa [nmL] using he
        go_wp2
        go_roundw
        case rel => exact ⟨i + 1, by omega, by go_num, hno2, (by repeat (first | exact Below.refl _ _ | assumption | refine Below.drew ?_ | refine below_drewN ?_ _ | refine Below.alloc' ?_ _ | (refine Below.setCell ?_ (by first | omega | (simp; done) | (simp; omega) | exact Below.size (by assumption) | exact Nat.le_trans (Below.size (by assumption)) (by simp)) _) | (refine Below.via' ?_ (by assumption)) | (refine Below.alloc ?_ (by first | omega | (simp; done) | (simp; omega) | exact Below.size (by assumption) | exact Nat.le_trans (Below.size (by assumption)) (by simp)) _) | (refine Below.via ?_ (by assumption) (by first | omega | (simp; done) | (simp; omega) | exact Below.size (by assumption) | exact Nat.le_trans (Below.size (by assumption)) (by simp)))))⟩
        case measure => simp [intOf]; omega
      · have hv : Hid (fdZ S (nmL nm) = i) := by
          unfold Hid
          rw [str_eq] at he
          have e : nmL nm = nmL n2 := by
            have := of_decide_eq_true he
            exact this.symm
          rw [e]
          exact fdZ_hit hSi.out (by rw [← e]; exact hno.out)
        go_wp2
        go_ret
        exact ⟨ret_int hv.out.symm, (by repeat (first | exact Below.refl _ _ | assumption | refine Below.drew ?_ | refine below_drewN ?_ _ | refine Below.alloc' ?_ _ | (refine Below.setCell ?_ (by first | omega | (simp; done) | (simp; omega) | exact Below.size (by assumption) | exact Nat.le_trans (Below.size (by assumption)) (by simp)) _) | (refine Below.via' ?_ (by assumption)) | (refine Below.alloc ?_ (by first | omega | (simp; done) | (simp; omega) | exact Below.size (by assumption) | exact Nat.le_trans (Below.size (by assumption)) (by simp)) _) | (refine Below.via ?_ (by assumption) (by first | omega | (simp; done) | (simp; omega) | exact Below.size (by assumption) | exact Nat.le_trans (Below.size (by assumption)) (by simp)))))⟩
    · have hij : i = S.length := by omega
      subst hij
      have hv : Hid (fdZ S (nmL nm) = -1) := by
        unfold Hid
        have := hno.out
        rw [List.take_length] at this
        exact fdZ_miss this
      clear hS hno
      go_wp2
      go_ret
      exact ⟨ret_int hv.out.symm, hb⟩
theorem sFind_take (x : Option Addr) (cap i : Nat) (S : List (ByteArray × Int)) (nm : ByteArray) (w : World) (hi : i ≤ S.length) (hm : S.length ≤ 1048576) (hS : Rd w x (vC S)) :
    Calls Try.prog 143 #[.slice x i cap, .string nm] w fun e w' => e = .returned (.int .i64 (fdZ (S.take i) (nmL nm))) ∧ Below w.heap.size w w' := by
  have h := sFind_any x cap (S.take i) nm w (by rw [List.length_take]; omega) (by rw [vC_take]; exact hS.take _)
  rw [List.length_take, Nat.min_eq_left hi] at h
  exact h

theorem va_f1 {nm : ByteArray} {lv : Int} (h : nmB nm = false) : vaB (nm, lv) = false := by unfold vaB; rw [h]; rfl
theorem va_f2 {nm : ByteArray} {lv : Int} (h : lvB lv = false) : vaB (nm, lv) = false := by unfold vaB; rw [h, Bool.and_false]
theorem va_t {nm : ByteArray} {lv : Int} (h : nmB nm = true) (k : lvB lv = true) : vaB (nm, lv) = true := by unfold vaB; rw [h, k]; rfl
theorem sch_bad {S : List (ByteArray × Int)} {i : Nat} {p : ByteArray × Int} (h : S[i]? = some p) (k : vaB p = false ∨ hasB (S.take i) (nmL p.1) = true) : upB S = false := by
  refine upB_take_false (i + 1) ?_
  rw [take_snoc h, upB_snoc]
  rcases k with k | k <;> simp [k]
theorem sch_bad' {S : List (ByteArray × Int)} {i : Nat} {p : ByteArray × Int} (h : S[i]? = some p) (k : vaB p = false ∨ hasB (S.take i) (nmL p.1) = true) : schB S = false := by
  unfold schB
  rw [sch_bad h k, Bool.and_false]
theorem lvB_in (n : Int) : inB n 2 8 = lvB n := rfl
theorem fdZ_hasB {S : List (ByteArray × Int)} {l : List UInt8} {b : Bool} (h : hasB S l = b) : decide (0 ≤ fdZ S l) = b := by
  cases b with
  | false => rw [decide_eq_false_iff_not, fdZ_neg, h]; simp
  | true => rw [decide_eq_true_iff, fdZ_neg, h]

set_option maxHeartbeats 2000000 in
theorem sGood_any (x : Option Addr) (cap : Nat) (S : List (ByteArray × Int)) (w : World) (hm : S.length ≤ 1048576) (hcap : S.length ≤ cap) (hn : ∀ p ∈ S, p.1.size ≤ 9223372036854775807) (hS : Rd w x (vC S)) :
    Calls Try.prog 89 #[.slice x S.length cap] w fun e w' => e = .returned (.bool (schB S)) ∧ Below w.heap.size w w' := by
  have hnh := Lib.hid hn
  clear hn
  have hSh := Lib.hid hS
  clear hS
  by_cases h1 : inB S.length 1 6 = false
  · have hv : Hid (schB S = false) := by
      unfold Hid
      rw [inB_no] at h1
      rcases (by omega : S.length = 0 ∨ 6 < S.length) with h | h
      · exact schB_short h
      · exact schB_long h
    go_enter Try.func89, Try.ntmps89
    go_wp2_with (go_at_call 83; refine (l1In_any _ _ _ _).mono ?_; rintro e w1 ⟨rfl, rfl⟩)
    go_ret
    exact ⟨ret_bool hv.out.symm, (by repeat (first | exact Below.refl _ _ | assumption | refine Below.drew ?_ | refine below_drewN ?_ _ | refine Below.alloc' ?_ _ | (refine Below.setCell ?_ (by first | omega | (simp; done) | (simp; omega) | exact Below.size (by assumption) | exact Nat.le_trans (Below.size (by assumption)) (by simp)) _) | (refine Below.via' ?_ (by assumption)) | (refine Below.alloc ?_ (by first | omega | (simp; done) | (simp; omega) | exact Below.size (by assumption) | exact Nat.le_trans (Below.size (by assumption)) (by simp)) _) | (refine Below.via ?_ (by assumption) (by first | omega | (simp; done) | (simp; omega) | exact Below.size (by assumption) | exact Nat.le_trans (Below.size (by assumption)) (by simp)))))⟩
  have h1 : inB S.length 1 6 = true := by simpa using h1
  have hlen := (inB_iff _ _ _).1 h1
  go_enter Try.func89, Try.ntmps89
  go_wp2_with (go_at_call 83; refine (l1In_any _ _ _ _).mono ?_; rintro e w1 ⟨rfl, rfl⟩)
  clear h1
  go_loopw [11] (fun c wr => ∃ i : Nat, i ≤ S.length ∧ c = .int .i64 i ∧ Hid (upB (S.take i) = true) ∧ Below w.heap.size w wr) (fun c _ => S.length - (intOf c).toNat)
  case atStart => exact ⟨0, by omega, rfl, rfl, Below.refl _ _⟩
  case round =>
    obtain ⟨i, hi, rfl, hup, hb⟩ := hrel
    by_cases hlt : i < S.length
    · obtain ⟨bl, off, nm, lv, hx, hbl, hSi, hc0, hc1⟩ := (hSh.out.below hb).var hlt
      have hnm := hnh.out _ (List.mem_of_getElem? hSi)
      simp only at hnm
      have HR := Lib.hid ((hSh.out.below hb).alloc (.cells #[.string nm, .int .i64 lv] 93))
      have hSi := Lib.hid hSi
      have hlt' : (i : Int) < (S.length : Int) := by omega
      have hicap : i ≤ cap := by omega
      subst hx
      cases ha : nmB nm
      · have hv := Lib.hid (sch_bad' hSi.out (.inl (va_f1 ha)))
        go_wp2
        go_quiet (first | (go_at_call 142; exact Calls.quiet_of_same ((sName_any _ _ (by omega)).mono fun _ _ h => ⟨h.1, h.2.symm⟩)))
        go_wp2
        go_ret
        exact ⟨ret_bool hv.out.symm, (by repeat (first | exact Below.refl _ _ | assumption | refine Below.drew ?_ | refine below_drewN ?_ _ | refine Below.alloc' ?_ _ | (refine Below.setCell ?_ (by first | omega | (simp; done) | (simp; omega) | exact Below.size (by assumption) | exact Nat.le_trans (Below.size (by assumption)) (by simp)) _) | (refine Below.via' ?_ (by assumption)) | (refine Below.alloc ?_ (by first | omega | (simp; done) | (simp; omega) | exact Below.size (by assumption) | exact Nat.le_trans (Below.size (by assumption)) (by simp)) _) | (refine Below.via ?_ (by assumption) (by first | omega | (simp; done) | (simp; omega) | exact Below.size (by assumption) | exact Nat.le_trans (Below.size (by assumption)) (by simp)))))⟩
      cases hl : inB lv 2 8
      · have hv := Lib.hid (sch_bad' hSi.out (.inl (va_f2 hl)))
        go_wp2
        go_quiet (first | (go_at_call 142; exact Calls.quiet_of_same ((sName_any _ _ (by omega)).mono fun _ _ h => ⟨h.1, h.2.symm⟩)) | (go_at_call 83; exact Calls.quiet_of_same ((l1In_any _ _ _ _).mono fun _ _ h => ⟨h.1, h.2.symm⟩)))
        go_wp2
        go_ret
        exact ⟨ret_bool hv.out.symm, (by repeat (first | exact Below.refl _ _ | assumption | refine Below.drew ?_ | refine below_drewN ?_ _ | refine Below.alloc' ?_ _ | (refine Below.setCell ?_ (by first | omega | (simp; done) | (simp; omega) | exact Below.size (by assumption) | exact Nat.le_trans (Below.size (by assumption)) (by simp)) _) | (refine Below.via' ?_ (by assumption)) | (refine Below.alloc ?_ (by first | omega | (simp; done) | (simp; omega) | exact Below.size (by assumption) | exact Nat.le_trans (Below.size (by assumption)) (by simp)) _) | (refine Below.via ?_ (by assumption) (by first | omega | (simp; done) | (simp; omega) | exact Below.size (by assumption) | exact Nat.le_trans (Below.size (by assumption)) (by simp)))))⟩
      cases hf : hasB (S.take i) (nmL nm)
      · have hd := fdZ_hasB hf
        have hup2 : Hid (upB (S.take (i + 1)) = true) := by
          unfold Hid
          rw [take_snoc hSi.out, upB_snoc, hup.out, va_t ha hl, hf]
          rfl
        have hf := Lib.hid hf
        go_wp2
        go_region_with (first | (go_at_call 142; refine (sName_any _ _ (by omega)).mono ?_; rintro e w2 ⟨rfl, rfl⟩) | (go_at_call 83; refine (l1In_any _ _ _ _).mono ?_; rintro e w2 ⟨rfl, rfl⟩) | (go_at_call 143; refine (sFind_take _ _ _ S _ _ hi hm (HR.out.below (by first | assumption | exact (by repeat (first | exact Below.refl _ _ | assumption | refine Below.drew ?_ | refine below_drewN ?_ _ | refine Below.alloc' ?_ _ | (refine Below.setCell ?_ (by first | omega | (simp; done) | (simp; omega) | exact Below.size (by assumption) | exact Nat.le_trans (Below.size (by assumption)) (by simp)) _) | (refine Below.via' ?_ (by assumption)) | (refine Below.alloc ?_ (by first | omega | (simp; done) | (simp; omega) | exact Below.size (by assumption) | exact Nat.le_trans (Below.size (by assumption)) (by simp)) _) | (refine Below.via ?_ (by assumption) (by first | omega | (simp; done) | (simp; omega) | exact Below.size (by assumption) | exact Nat.le_trans (Below.size (by assumption)) (by simp)))))))).mono ?_; rintro e w3 ⟨rfl, hb3⟩; obtain ⟨hcl3, hfr3⟩ := bcell hb3))
        all_goals
          go_wp2
          go_roundw
          case rel => exact ⟨i + 1, by omega, by go_num, hup2, (by repeat (first | exact Below.refl _ _ | assumption | refine Below.drew ?_ | refine below_drewN ?_ _ | refine Below.alloc' ?_ _ | (refine Below.setCell ?_ (by first | omega | (simp; done) | (simp; omega) | exact Below.size (by assumption) | exact Nat.le_trans (Below.size (by assumption)) (by simp)) _) | (refine Below.via' ?_ (by assumption)) | (refine Below.alloc ?_ (by first | omega | (simp; done) | (simp; omega) | exact Below.size (by assumption) | exact Nat.le_trans (Below.size (by assumption)) (by simp)) _) | (refine Below.via ?_ (by assumption) (by first | omega | (simp; done) | (simp; omega) | exact Below.size (by assumption) | exact Nat.le_trans (Below.size (by assumption)) (by simp)))))⟩
          case measure => simp [intOf]; omega
      · have hd := fdZ_hasB hf
        have hv := Lib.hid (sch_bad' hSi.out (.inr hf))
        have hf := Lib.hid hf
        go_wp2
        go_region_with (first | (go_at_call 142; refine (sName_any _ _ (by omega)).mono ?_; rintro e w2 ⟨rfl, rfl⟩) | (go_at_call 83; refine (l1In_any _ _ _ _).mono ?_; rintro e w2 ⟨rfl, rfl⟩) | (go_at_call 143; refine (sFind_take _ _ _ S _ _ hi hm (HR.out.below (by first | assumption | exact (by repeat (first | exact Below.refl _ _ | assumption | refine Below.drew ?_ | refine below_drewN ?_ _ | refine Below.alloc' ?_ _ | (refine Below.setCell ?_ (by first | omega | (simp; done) | (simp; omega) | exact Below.size (by assumption) | exact Nat.le_trans (Below.size (by assumption)) (by simp)) _) | (refine Below.via' ?_ (by assumption)) | (refine Below.alloc ?_ (by first | omega | (simp; done) | (simp; omega) | exact Below.size (by assumption) | exact Nat.le_trans (Below.size (by assumption)) (by simp)) _) | (refine Below.via ?_ (by assumption) (by first | omega | (simp; done) | (simp; omega) | exact Below.size (by assumption) | exact Nat.le_trans (Below.size (by assumption)) (by simp)))))))).mono ?_; rintro e w3 ⟨rfl, hb3⟩; obtain ⟨hcl3, hfr3⟩ := bcell hb3))
        all_goals
          go_wp2
          go_ret
          exact ⟨ret_bool hv.out.symm, (by repeat (first | exact Below.refl _ _ | assumption | refine Below.drew ?_ | refine below_drewN ?_ _ | refine Below.alloc' ?_ _ | (refine Below.setCell ?_ (by first | omega | (simp; done) | (simp; omega) | exact Below.size (by assumption) | exact Nat.le_trans (Below.size (by assumption)) (by simp)) _) | (refine Below.via' ?_ (by assumption)) | (refine Below.alloc ?_ (by first | omega | (simp; done) | (simp; omega) | exact Below.size (by assumption) | exact Nat.le_trans (Below.size (by assumption)) (by simp)) _) | (refine Below.via ?_ (by assumption) (by first | omega | (simp; done) | (simp; omega) | exact Below.size (by assumption) | exact Nat.le_trans (Below.size (by assumption)) (by simp)))))⟩
    · have hij : i = S.length := by omega
      subst hij
      have hv : Hid (schB S = true) := by
        unfold Hid
        rw [schB_of (by omega) (by omega)]
        have := hup.out
        rwa [List.take_length] at this
      go_wp2
      go_ret
      exact ⟨ret_bool hv.out.symm, hb⟩
end Go.Proofs.Ytgkaalonmkcclab
