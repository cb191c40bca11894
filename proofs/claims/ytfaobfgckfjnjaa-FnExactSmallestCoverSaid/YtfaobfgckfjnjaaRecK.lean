/-
  The walks of chapter 3: the order of records; the program's and the model's.
-/
import Derived.Test.YtfaobfgckfjnjaaRecI
namespace Go.Proofs.Ytfaobfgckfjnjaa
open Go.RowKit
set_option maxRecDepth 100000

theorem lx_step {A B : List Int} {i : Nat} {a b : Int} (hA : A[i]? = some a) (hB : B[i]? = some b) : lxZ (A.drop i) (B.drop i) = if a < b then -1 else if b < a then 1 else lxZ (A.drop (i + 1)) (B.drop (i + 1)) := by
  obtain ⟨ha, ea⟩ := List.getElem?_eq_some_iff.1 hA
  obtain ⟨hb, eb⟩ := List.getElem?_eq_some_iff.1 hB
  rw [List.drop_eq_getElem_cons ha, List.drop_eq_getElem_cons hb, lxZ_cons, ea, eb]
theorem lx_long {A B : List Int} {i : Nat} (hA : i < A.length) (hB : B.length ≤ i) : lxZ (A.drop i) (B.drop i) = 1 := by
  rw [List.drop_eq_getElem_cons hA, List.drop_eq_nil_of_le hB, lxZ_consnil]
theorem lx_short {A B : List Int} {i : Nat} (hA : A.length ≤ i) (hB : i < B.length) : lxZ (A.drop i) (B.drop i) = -1 := by
  rw [List.drop_eq_getElem_cons hB, List.drop_eq_nil_of_le hA, lxZ_nilcons]
theorem lx_same {A B : List Int} {i : Nat} (hA : A.length ≤ i) (hB : B.length ≤ i) : lxZ (A.drop i) (B.drop i) = 0 := by
  rw [List.drop_eq_nil_of_le hA, List.drop_eq_nil_of_le hB, lxZ_nilnil]
theorem cmZ_lt {a b : Int} (h : a < b) : cmZ a b = -1 := by unfold cmZ; rw [if_pos h]
theorem cmZ_gt {a b : Int} (h : b < a) : cmZ a b = 1 := by unfold cmZ; rw [if_neg (by omega), if_pos h]
theorem cmZ_eq {a b : Int} (h : a = b) : cmZ a b = 0 := by unfold cmZ; rw [if_neg (by omega), if_neg (by omega)]
/-- The first that is not 0. -/
def orZ : List Int → Int
  | [] => 0
  | a :: r => if a = 0 then orZ r else a
theorem orZ_nil : orZ [] = 0 := rfl
theorem orZ_cons (a : Int) (r : List Int) : orZ (a :: r) = if a = 0 then orZ r else a := rfl
theorem or_step {L : List Int} {i : Nat} {a : Int} (h : L[i]? = some a) : orZ (L.drop i) = if a = 0 then orZ (L.drop (i + 1)) else a := by
  obtain ⟨hi, e⟩ := List.getElem?_eq_some_iff.1 h
  rw [List.drop_eq_getElem_cons hi, orZ_cons, e]
theorem rcZ_or (p q : RV) : orZ [cmZ p.1 q.1, cmZ p.2.1 q.2.1, lxZ p.2.2 q.2.2] = rcZ p q := by
  rw [rcZ_of, orZ_cons, orZ_cons, orZ_cons, orZ_nil]
  by_cases h1 : p.1 < q.1
  · rw [cmZ_lt h1, if_neg (by omega), if_pos h1]
  · by_cases h2 : q.1 < p.1
    · rw [cmZ_gt h2, if_neg (by omega), if_neg h1, if_pos h2]
    · rw [cmZ_eq (by omega), if_pos rfl, if_neg h1, if_neg h2]
      by_cases h3 : p.2.1 < q.2.1
      · rw [cmZ_lt h3, if_neg (by omega), if_pos h3]
      · by_cases h4 : q.2.1 < p.2.1
        · rw [cmZ_gt h4, if_neg (by omega), if_neg h3, if_pos h4]
        · rw [cmZ_eq (by omega), if_pos rfl, if_neg h3, if_neg h4]
          split
          · rename_i h5; rw [h5]
          · rfl
theorem rcZ_two (p q : RV) : (if lxZ [p.1, p.2.1] [q.1, q.2.1] = 0 then lxZ p.2.2 q.2.2 else lxZ [p.1, p.2.1] [q.1, q.2.1]) = rcZ p q := by
  rw [rcZ_of, lxZ_cons, lxZ_cons, lxZ_nilnil]
  by_cases h1 : p.1 < q.1
  · rw [if_pos h1, if_neg (by omega), if_pos h1]
  · by_cases h2 : q.1 < p.1
    · rw [if_neg h1, if_pos h2, if_neg (by omega), if_neg h1, if_pos h2]
    · rw [if_neg h1, if_neg h2, if_neg h1, if_neg h2]
      by_cases h3 : p.2.1 < q.2.1
      · rw [if_pos h3, if_neg (by omega), if_pos h3]
      · by_cases h4 : q.2.1 < p.2.1
        · rw [if_neg h3, if_pos h4, if_neg (by omega), if_neg h3, if_pos h4]
        · rw [if_neg h3, if_neg h4, if_pos rfl, if_neg h3, if_neg h4]

theorem cmpInt_any (a b : Int) (w : World) :
    Calls Try.prog 145 #[.int .i64 a, .int .i64 b] w fun e w' => e = .returned (.int .i64 (cmZ a b)) ∧ w = w' := by
  by_cases h1 : a < b
  · rw [cmZ_lt h1]
    go_enter Try.func145, Try.ntmps145
    go_wp2
    go_ret
    exact ⟨rfl, rfl⟩
  · by_cases h2 : b < a
    · rw [cmZ_gt h2]
      go_enter Try.func145, Try.ntmps145
      go_wp2
      go_ret
      exact ⟨rfl, rfl⟩
    · rw [cmZ_eq (by omega)]
      go_enter Try.func145, Try.ntmps145
      go_wp2
      go_ret
      exact ⟨rfl, rfl⟩

set_option maxHeartbeats 2000000 in
theorem sliceCmp_any (x y : Option Addr) (c1 c2 : Nat) (A B : List Int) (w : World) (hA : Rd w x (iC A)) (hB : Rd w y (iC B)) (hm : A.length ≤ 9223372036854775807) :
    Calls Try.prog 146 #[.slice x A.length c1, .slice y B.length c2] w fun e w' => e = .returned (.int .i64 (lxZ A B)) ∧ w = w' := by
  have hAh := Lib.hid hA
  have hBh := Lib.hid hB
  clear hA hB
  go_enter Try.func146, Try.ntmps146
  go_wp2
  go_loop [11] (fun c => ∃ i : Nat, i ≤ A.length ∧ i ≤ B.length ∧ c = .int .i64 i ∧ Hid (lxZ (A.drop i) (B.drop i) = lxZ A B)) (fun c => A.length - (intOf c).toNat)
  case atStart => exact ⟨0, by omega, by omega, rfl, rfl⟩
  case round =>
    obtain ⟨i, hi, hi2, rfl, hv⟩ := hrel
    by_cases hlt : i < A.length
    · obtain ⟨bl, off, a, rfl, hbl, hAi, hc0⟩ := hAh.out.int hlt
      have hlt' : (i : Int) < (A.length : Int) := by omega
      have hi0 : (0 : Int) ≤ (i : Int) := by omega
      by_cases hlt2 : i < B.length
      · obtain ⟨bl2, off2, b, rfl, hbl2, hBi, hc1⟩ := hBh.out.int hlt2
        have hlt2' : (i : Int) < (B.length : Int) := by omega
        have hst := Lib.hid (lx_step hAi hBi)
        clear hAi hBi
        by_cases h1 : a < b
        · have hr : Hid (lxZ A B = -1) := by unfold Hid; rw [← hv.out, hst.out, if_pos h1]
          have hz := cmZ_lt h1
          go_wp2_with (go_at_call 145; refine (cmpInt_any _ _ _).mono ?_; rintro e w1 ⟨rfl, rfl⟩; rw [hz])
          go_ret
          exact ⟨ret_int hr.out.symm, rfl⟩
        · by_cases h2 : b < a
          · have hr : Hid (lxZ A B = 1) := by unfold Hid; rw [← hv.out, hst.out, if_neg h1, if_pos h2]
            have hz := cmZ_gt h2
            go_wp2_with (go_at_call 145; refine (cmpInt_any _ _ _).mono ?_; rintro e w1 ⟨rfl, rfl⟩; rw [hz])
            go_ret
            exact ⟨ret_int hr.out.symm, rfl⟩
          · have hr : Hid (lxZ (A.drop (i + 1)) (B.drop (i + 1)) = lxZ A B) := by unfold Hid; rw [← hv.out, hst.out, if_neg h1, if_neg h2]
            have hz := cmZ_eq (show a = b by omega)
            go_wp2_with (go_at_call 145; refine (cmpInt_any _ _ _).mono ?_; rintro e w1 ⟨rfl, rfl⟩; rw [hz])
            go_round
            case rel => exact ⟨i + 1, by omega, by omega, by go_num, hr⟩
            case measure => simp [intOf]; omega
      · have hr : Hid (lxZ A B = 1) := by unfold Hid; rw [← hv.out, lx_long hlt (by omega)]
        clear hAi
        go_wp2
        go_ret
        exact ⟨ret_int hr.out.symm, rfl⟩
    · by_cases hlt2 : i < B.length
      · have hr : Hid (lxZ A B = -1) := by unfold Hid; rw [← hv.out, lx_short (by omega) hlt2]
        have hx : (A.length : Int) < (B.length : Int) := by omega
        go_wp2
        go_ret
        exact ⟨ret_int hr.out.symm, rfl⟩
      · have hr : Hid (lxZ A B = 0) := by unfold Hid; rw [← hv.out, lx_same (by omega) (by omega)]
        have hx : ¬ (A.length : Int) < (B.length : Int) := by omega
        go_wp2
        go_ret
        exact ⟨ret_int hr.out.symm, rfl⟩

set_option maxHeartbeats 2000000 in
theorem cmpOr_any (x : Option Addr) (n c : Nat) (L : List Int) (w : World) (hn : L.length = n) (hL : Rd w x (iC L)) (hm : n ≤ 1000) :
    Calls Try.prog 144 #[.slice x n c] w fun e w' => e = .returned (.int .i64 (orZ L)) ∧ w = w' := by
  have hLh := Lib.hid hL
  clear hL
  replace hn := Lib.hid hn
  go_enter Try.func144, Try.ntmps144
  go_wp2
  go_loop [8] (fun c => ∃ i : Nat, i ≤ n ∧ c = .int .i64 i ∧ Hid (orZ (L.drop i) = orZ L)) (fun c => n - (intOf c).toNat)
  case atStart => exact ⟨0, by omega, rfl, rfl⟩
  case round =>
    obtain ⟨i, hi, rfl, hv⟩ := hrel
    by_cases hlt : i < n
    · obtain ⟨bl, off, a, rfl, hbl, hLi, hc0⟩ := hLh.out.int (i := i) (by rw [hn.out]; exact hlt)
      have hlt' : (i : Int) < (n : Int) := by omega
      have hi0 : (0 : Int) ≤ (i : Int) := by omega
      have hst := Lib.hid (or_step hLi)
      clear hLi
      by_cases h1 : a = 0
      · have hr : Hid (orZ (L.drop (i + 1)) = orZ L) := by unfold Hid; rw [← hv.out, hst.out, if_pos h1]
        have hb : (a == 0) = true := by rw [beq_iff_eq]; exact h1
        have hb2 : (a != 0) = false := by show (!(a == 0)) = false; rw [hb]; rfl
        replace h1 := Lib.hid h1
        go_wp2
        go_round
        case rel => exact ⟨i + 1, by omega, by go_num, hr⟩
        case measure => simp [intOf]; omega
      · have hr : Hid (orZ L = a) := by unfold Hid; rw [← hv.out, hst.out, if_neg h1]
        have hb : (a == 0) = false := by rw [beq_eq_false_iff_ne]; exact h1
        have hb2 : (a != 0) = true := by show (!(a == 0)) = true; rw [hb]; rfl
        go_wp2
        go_ret
        exact ⟨ret_int hr.out.symm, rfl⟩
    · have hr : Hid (orZ L = 0) := by unfold Hid; rw [← hv.out, List.drop_eq_nil_of_le (by have := hn.out; omega), orZ_nil]
      go_wp2
      go_ret
      exact ⟨ret_int hr.out.symm, rfl⟩
end Go.Proofs.Ytfaobfgckfjnjaa
