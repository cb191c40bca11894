/-
  Chapter 6: the smallest cover: its mathematics; the walks of SmallestCover, the model's and the program's.
-/
import Derived.Test.YtfaobfgckfjnjaaImN
import Derived.Test.YtfaobfgckfjnjaaEdM
import Derived.Test.YtfaobfgckfjnjaaRecK
import Derived.Test.YtfaobfgckfjnjaaImC
namespace Go.Proofs.Ytfaobfgckfjnjaa
open Go.RowKit Go.Shelf
set_option maxRecDepth 100000

theorem lx_endI {A B : List Int} {i : Nat} (h1 : i ≤ A.length) (h2 : i ≤ B.length) (h3 : ¬ (i < A.length ∧ i < B.length)) : lxZ (A.drop i) (B.drop i) = sgnZ ((A.length : Int) - (B.length : Int)) := by
  unfold sgnZ
  by_cases hA : i < A.length
  · rw [lx_long hA (by omega), if_neg (by omega), if_pos (by omega)]
  · by_cases hB : i < B.length
    · rw [lx_short (by omega) hB, if_pos (by omega)]
    · rw [lx_same (by omega) (by omega), if_neg (by omega), if_neg (by omega)]

set_option maxHeartbeats 2000000 in
theorem l1LessI_any (x y : Option Addr) (n m c1 c2 : Nat) (A B : List Int) (w : World) (hn : A.length = n) (hm : B.length = m) (hn2 : n ≤ 1048576) (hm2 : m ≤ 1048576) (hA : Rd w x (iC A)) (hB : Rd w y (iC B)) :
    Calls Try.prog 99 #[.slice x n c1, .slice y m c2] w fun e w' => e = .returned (.int .i64 (lxZ A B)) ∧ Below w.heap.size w w' := by
  have hAh := Lib.hid hA
  have hBh := Lib.hid hB
  clear hA hB
  replace hn := Lib.hid hn
  replace hm := Lib.hid hm
  go_enter Try.func99, Try.ntmps99
  go_wp2
  go_loopw [5] (fun c wr => ∃ i : Nat, i ≤ n ∧ i ≤ m ∧ c = .int .i64 i ∧ Hid (lxZ (A.drop i) (B.drop i) = lxZ A B) ∧ Below w.heap.size w wr) (fun c _ => n - (intOf c).toNat)
  case atStart => exact ⟨0, by omega, by omega, rfl, rfl, Below.refl _ _⟩
  case round =>
    obtain ⟨i, hi, hi2, rfl, hv, hb⟩ := hrel
    by_cases hlt : i < n
    · by_cases hlt2 : i < m
      · obtain ⟨bl, off, a, rfl, hbl, hAi, hc0⟩ := (hAh.out.below hb).int (i := i) (by rw [hn.out]; exact hlt)
        obtain ⟨bl2, off2, b, rfl, hbl2, hBi, hc1⟩ := (hBh.out.below hb).int (i := i) (by rw [hm.out]; exact hlt2)
        have hlt' : (i : Int) < (n : Int) := by omega
        have hlt2' : (i : Int) < (m : Int) := by omega
        have hi0 : (0 : Int) ≤ (i : Int) := by omega
        have hst := Lib.hid (lx_step hAi hBi)
        clear hAi hBi
        by_cases h0 : a = b
        · have hr : Hid (lxZ (A.drop (i + 1)) (B.drop (i + 1)) = lxZ A B) := by unfold Hid; rw [← hv.out, hst.out, if_neg (by omega), if_neg (by omega)]
          have q1 : (a == b) = true := by rw [beq_iff_eq]; exact h0
          have q2 : (a != b) = false := by show (!(a == b)) = false; rw [q1]; rfl
          replace h0 := Lib.hid h0
          go_wp2
          go_quiet (fail)
          go_wp2
          go_roundw
          case rel => exact ⟨i + 1, by omega, by omega, by go_num, hr, (by repeat (first | exact Below.refl _ _ | assumption | refine Below.drew ?_ | refine below_drewN ?_ _ | refine Below.alloc' ?_ _ | (refine Below.setCell ?_ (by first | omega | (simp; done) | (simp; omega) | exact Below.size (by assumption) | exact Nat.le_trans (Below.size (by assumption)) (by simp)) _) | (refine Below.via' ?_ (by assumption)) | (refine Below.alloc ?_ (by first | omega | (simp; done) | (simp; omega) | exact Below.size (by assumption) | exact Nat.le_trans (Below.size (by assumption)) (by simp)) _) | (refine Below.via ?_ (by assumption) (by first | omega | (simp; done) | (simp; omega) | exact Below.size (by assumption) | exact Nat.le_trans (Below.size (by assumption)) (by simp)))))⟩
          case measure => simp [intOf]; omega
        · have q1 : (a == b) = false := by rw [beq_eq_false_iff_ne]; exact h0
          have q2 : (a != b) = true := by show (!(a == b)) = true; rw [q1]; rfl
          by_cases h1 : a < b
          · have hr : Hid (lxZ A B = -1) := by unfold Hid; rw [← hv.out, hst.out, if_pos h1]
            go_wp2
            go_quiet (fail)
            go_wp2
            go_quiet (fail)
            go_wp2
            go_ret
            exact ⟨ret_int hr.out.symm, (by repeat (first | exact Below.refl _ _ | assumption | refine Below.drew ?_ | refine below_drewN ?_ _ | refine Below.alloc' ?_ _ | (refine Below.setCell ?_ (by first | omega | (simp; done) | (simp; omega) | exact Below.size (by assumption) | exact Nat.le_trans (Below.size (by assumption)) (by simp)) _) | (refine Below.via' ?_ (by assumption)) | (refine Below.alloc ?_ (by first | omega | (simp; done) | (simp; omega) | exact Below.size (by assumption) | exact Nat.le_trans (Below.size (by assumption)) (by simp)) _) | (refine Below.via ?_ (by assumption) (by first | omega | (simp; done) | (simp; omega) | exact Below.size (by assumption) | exact Nat.le_trans (Below.size (by assumption)) (by simp)))))⟩
          · have hr : Hid (lxZ A B = 1) := by unfold Hid; rw [← hv.out, hst.out, if_neg h1, if_pos (by omega)]
            go_wp2
            go_quiet (fail)
            go_wp2
            go_quiet (fail)
            go_wp2
            go_ret
            exact ⟨ret_int hr.out.symm, (by repeat (first | exact Below.refl _ _ | assumption | refine Below.drew ?_ | refine below_drewN ?_ _ | refine Below.alloc' ?_ _ | (refine Below.setCell ?_ (by first | omega | (simp; done) | (simp; omega) | exact Below.size (by assumption) | exact Nat.le_trans (Below.size (by assumption)) (by simp)) _) | (refine Below.via' ?_ (by assumption)) | (refine Below.alloc ?_ (by first | omega | (simp; done) | (simp; omega) | exact Below.size (by assumption) | exact Nat.le_trans (Below.size (by assumption)) (by simp)) _) | (refine Below.via ?_ (by assumption) (by first | omega | (simp; done) | (simp; omega) | exact Below.size (by assumption) | exact Nat.le_trans (Below.size (by assumption)) (by simp)))))⟩
      · have hr : Hid (lxZ A B = sgnZ ((n : Int) - (m : Int))) := by unfold Hid; rw [← hv.out, lx_endI (by rw [hn.out]; omega) (by rw [hm.out]; omega) (by rw [hm.out]; omega), hn.out, hm.out]
        have hlt' : (i : Int) < (n : Int) := by omega
        have hlt2' : ¬ (i : Int) < (m : Int) := by omega
        have q1 : IntKind.i64.wrap ((n : Int) - (m : Int)) = (n : Int) - (m : Int) := IntWalk.i64_in _ (by omega)
        go_wp2_with (go_at_call 143; refine (l1Sign_any _ _).mono ?_; rintro e w1 ⟨rfl, rfl⟩)
        go_ret
        exact ⟨ret_int hr.out.symm, (by repeat (first | exact Below.refl _ _ | assumption | refine Below.drew ?_ | refine below_drewN ?_ _ | refine Below.alloc' ?_ _ | (refine Below.setCell ?_ (by first | omega | (simp; done) | (simp; omega) | exact Below.size (by assumption) | exact Nat.le_trans (Below.size (by assumption)) (by simp)) _) | (refine Below.via' ?_ (by assumption)) | (refine Below.alloc ?_ (by first | omega | (simp; done) | (simp; omega) | exact Below.size (by assumption) | exact Nat.le_trans (Below.size (by assumption)) (by simp)) _) | (refine Below.via ?_ (by assumption) (by first | omega | (simp; done) | (simp; omega) | exact Below.size (by assumption) | exact Nat.le_trans (Below.size (by assumption)) (by simp)))))⟩
    · have hr : Hid (lxZ A B = sgnZ ((n : Int) - (m : Int))) := by unfold Hid; rw [← hv.out, lx_endI (by rw [hn.out]; omega) (by rw [hm.out]; omega) (by rw [hn.out]; omega), hn.out, hm.out]
      have hlt' : ¬ (i : Int) < (n : Int) := by omega
      have q1 : IntKind.i64.wrap ((n : Int) - (m : Int)) = (n : Int) - (m : Int) := IntWalk.i64_in _ (by omega)
      go_wp2_with (go_at_call 143; refine (l1Sign_any _ _).mono ?_; rintro e w1 ⟨rfl, rfl⟩)
      go_ret
      exact ⟨ret_int hr.out.symm, (by repeat (first | exact Below.refl _ _ | assumption | refine Below.drew ?_ | refine below_drewN ?_ _ | refine Below.alloc' ?_ _ | (refine Below.setCell ?_ (by first | omega | (simp; done) | (simp; omega) | exact Below.size (by assumption) | exact Nat.le_trans (Below.size (by assumption)) (by simp)) _) | (refine Below.via' ?_ (by assumption)) | (refine Below.alloc ?_ (by first | omega | (simp; done) | (simp; omega) | exact Below.size (by assumption) | exact Nat.le_trans (Below.size (by assumption)) (by simp)) _) | (refine Below.via ?_ (by assumption) (by first | omega | (simp; done) | (simp; omega) | exact Below.size (by assumption) | exact Nat.le_trans (Below.size (by assumption)) (by simp)))))⟩

/-- The order of covers: by size, then lexicographically. -/
def csZ (a b : List Int) : Int := if a.length < b.length then -1 else if b.length < a.length then 1 else lxZ a b
theorem csZ_self (a : List Int) : csZ a a = 0 := by unfold csZ; rw [if_neg (by omega), if_neg (by omega)]; exact lxZ_self a
theorem csZ_zero {a b : List Int} (h : csZ a b = 0) : a = b := by
  unfold csZ at h
  by_cases h1 : a.length < b.length
  · rw [if_pos h1] at h; omega
  · by_cases h2 : b.length < a.length
    · rw [if_neg h1, if_pos h2] at h; omega
    · rw [if_neg h1, if_neg h2] at h
      exact lxZ_zero h
theorem csZ_neg (a b : List Int) : csZ b a = - csZ a b := by
  unfold csZ
  by_cases h1 : a.length < b.length
  · rw [if_neg (by omega), if_pos h1, if_pos h1]; rfl
  · by_cases h2 : b.length < a.length
    · rw [if_pos h2, if_neg h1, if_pos h2]
    · rw [if_neg h2, if_neg h1, if_neg h1, if_neg h2]
      exact lxZ_neg a b
theorem csZ_trans {a b c : List Int} (h : csZ a b ≤ 0) (k : csZ b c ≤ 0) : csZ a c ≤ 0 := by
  unfold csZ at *
  by_cases h1 : a.length < b.length
  · by_cases h2 : b.length < c.length
    · rw [if_pos (by omega)]; omega
    · by_cases h3 : c.length < b.length
      · rw [if_neg h2, if_pos h3] at k; omega
      · rw [if_pos (by omega)]; omega
  · by_cases h2 : b.length < a.length
    · rw [if_neg h1, if_pos h2] at h; omega
    · rw [if_neg h1, if_neg h2] at h
      by_cases h3 : b.length < c.length
      · rw [if_pos (by omega)]; omega
      · by_cases h4 : c.length < b.length
        · rw [if_neg h3, if_pos h4] at k; omega
        · rw [if_neg h3, if_neg h4] at k
          rw [if_neg (by omega), if_neg (by omega)]
          exact lxZ_trans h k
/-- The least of a list, the first of equals. -/
def mnS (o : Option (List Int)) (c : List Int) : Option (List Int) := match o with
  | none => some c
  | some b => if csZ c b < 0 then some c else some b
def mnL (C : List (List Int)) : Option (List Int) := C.foldl mnS none
theorem mn_snoc (C : List (List Int)) (c : List Int) : mnL (C ++ [c]) = mnS (mnL C) c := by unfold mnL; rw [List.foldl_append]; rfl
theorem mn_nil : mnL [] = none := rfl
theorem mnS_none {c : List Int} : mnS none c = some c := rfl
theorem mnS_yes {b c : List Int} (h : csZ c b < 0) : mnS (some b) c = some c := if_pos h
theorem mnS_no {b c : List Int} (h : ¬ csZ c b < 0) : mnS (some b) c = some b := if_neg h
theorem mn_fold : ∀ (C : List (List Int)) (o : Option (List Int)), (∃ b, C.foldl mnS o = some b ∧ (o = some b ∨ b ∈ C) ∧ (∀ a, o = some a → csZ b a ≤ 0) ∧ ∀ c ∈ C, csZ b c ≤ 0) ∨ (C = [] ∧ o = none)
  | [], none => .inr ⟨rfl, rfl⟩
  | [], some a => .inl ⟨a, rfl, .inl rfl, fun b h => by cases h; rw [csZ_self]; omega, fun c hc => by cases hc⟩
  | c :: C, o => by
    have hs : ∃ d, mnS o c = some d ∧ (o = some d ∨ d = c) ∧ csZ d c ≤ 0 ∧ ∀ a, o = some a → csZ d a ≤ 0 := by
      cases o with
      | none => exact ⟨c, rfl, .inr rfl, by rw [csZ_self]; omega, fun a h => by cases h⟩
      | some a =>
        by_cases h : csZ c a < 0
        · exact ⟨c, mnS_yes h, .inr rfl, by rw [csZ_self]; omega, fun b hb => by cases hb; omega⟩
        · refine ⟨a, mnS_no h, .inl rfl, ?_, fun b hb => by cases hb; rw [csZ_self]; omega⟩
          have := csZ_neg c a
          omega
    obtain ⟨d, h1, h2, h3, h4⟩ := hs
    rcases mn_fold C (some d) with ⟨b, k1, k2, k3, k4⟩ | ⟨_, k⟩
    · refine .inl ⟨b, by rw [List.foldl_cons, h1]; exact k1, ?_, fun a ha => csZ_trans (k3 d rfl) (h4 a ha), fun e he => ?_⟩
      · rcases k2 with k | k
        · cases k
          rcases h2 with h | h
          · exact .inl h
          · subst h; exact .inr (List.mem_cons_self ..)
        · exact .inr (List.mem_cons_of_mem _ k)
      · rcases List.mem_cons.1 he with rfl | h
        · exact csZ_trans (k3 d rfl) h3
        · exact k4 e h
    · cases k
theorem mn_some {C : List (List Int)} {b : List Int} (h : mnL C = some b) : b ∈ C ∧ ∀ c ∈ C, csZ b c ≤ 0 := by
  rcases mn_fold C none with ⟨d, k1, k2, k3, k4⟩ | ⟨k1, _⟩
  · have : d = b := by unfold mnL at h; rw [k1] at h; exact Option.some.inj h
    subst this
    rcases k2 with k | k
    · cases k
    · exact ⟨k, k4⟩
  · subst k1; cases h
theorem mn_none {C : List (List Int)} (h : mnL C = none) : C = [] := by
  rcases mn_fold C none with ⟨d, k1, _⟩ | ⟨k1, _⟩
  · unfold mnL at h; rw [k1] at h; cases h
  · exact k1
/-- Two lists with the same least element: all of the first are in the second, and each of the second has one of the first that is not greater. -/
theorem mn_eq {P Q : List (List Int)} (h1 : ∀ p ∈ P, p ∈ Q) (h2 : ∀ q ∈ Q, ∃ p ∈ P, csZ p q ≤ 0) : mnL P = mnL Q := by
  cases hp : mnL P with
  | none =>
    have := mn_none hp
    subst this
    cases hq : mnL Q with
    | none => rfl
    | some b =>
      obtain ⟨p, hp2, _⟩ := h2 b (mn_some hq).1
      cases hp2
  | some b =>
    obtain ⟨b1, b2⟩ := mn_some hp
    cases hq : mnL Q with
    | none =>
      have := h1 b b1
      rw [mn_none hq] at this
      cases this
    | some d =>
      obtain ⟨d1, d2⟩ := mn_some hq
      have e1 := d2 b (h1 b b1)
      obtain ⟨p, p1, p2⟩ := h2 d d1
      have e2 := csZ_trans (b2 p p1) p2
      have e3 := csZ_neg b d
      rw [csZ_zero (show csZ b d = 0 by omega)]

/-- The number of a set of places below n. -/
def stN (p : Nat → Bool) : Nat → Nat
  | 0 => 0
  | n + 1 => stN p n + (if p n then 2 ^ n else 0)
theorem stN_lt (p : Nat → Bool) : ∀ n, stN p n < 2 ^ n
  | 0 => by unfold stN; decide
  | n + 1 => by
    have := stN_lt p n
    unfold stN
    rw [Nat.pow_succ]
    split <;> omega
theorem st_hs (p : Nat → Bool) : ∀ n l : Nat, l < n → hsB ((stN p n : Nat) : Int) (l : Int) = p l
  | 0, l, h => by omega
  | n + 1, l, h => by
    unfold hsB
    rw [Int.toNat_natCast, Int.toNat_natCast]
    have hm := stN_lt p n
    rcases Nat.lt_or_ge l n with hl | hl
    · have ih := st_hs p n l hl
      unfold hsB at ih
      rw [Int.toNat_natCast, Int.toNat_natCast] at ih
      rw [← ih, show stN p (n + 1) = stN p n + (if p n then 2 ^ n else 0) from rfl]
      congr 1
      congr 1
      split
      · have e : (2 : Nat) ^ n = 2 ^ l * (2 * 2 ^ (n - l - 1)) := by
          rw [← Nat.mul_assoc, Nat.mul_comm (2 ^ l) 2, Nat.mul_assoc, ← Nat.pow_add, Nat.mul_comm, ← Nat.pow_succ]
          congr 1
          omega
        rw [e, Nat.add_mul_div_left _ _ (Nat.pow_pos (by decide))]
        omega
      · rw [Nat.add_zero]
    · obtain rfl : l = n := by omega
      rw [show stN p (l + 1) = stN p l + (if p l then 2 ^ l else 0) from rfl]
      split
      · rename_i hp
        have e : (stN p l + 2 ^ l) / 2 ^ l = 1 := by
          rw [Nat.add_div_right _ (Nat.pow_pos (by decide)), Nat.div_eq_of_lt hm]
        rw [e, hp]
        rfl
      · rename_i hp
        rw [Nat.add_zero, Nat.div_eq_of_lt hm]
        cases h2 : p l with
        | true => exact absurd h2 hp
        | false => rfl
theorem st_lvs (p : Nat → Bool) {n : Nat} (hn : n ≤ 8) : lvsL ((stN p n : Nat) : Int) = pkUp p n := by
  rw [← lvsUp_all (i := n) (by rw [Int.toNat_natCast]; exact stN_lt p n) hn]
  unfold lvsUp pkUp
  congr 1
  exact List.filter_congr fun l hl => st_hs p n l (List.mem_range.1 hl)
theorem pk_pw (p : Nat → Bool) (n : Nat) : (pkUp p n).Pairwise (· < ·) := by
  unfold pkUp
  rw [List.pairwise_map]
  exact (List.pairwise_lt_range.filter p).imp (fun h => by exact_mod_cast h)
theorem rs_pw {n : Int} : ∀ {b : Int} {F : List Int}, F.Pairwise (· < ·) → (∀ v ∈ F, b ≤ v ∧ v < n) → rsU n b F = true
  | _, [], _, _ => rfl
  | b, v :: r, hp, h => by
    rw [List.pairwise_cons] at hp
    unfold rsU
    rw [decide_eq_true (h v (List.mem_cons_self ..)), Bool.true_and]
    exact rs_pw hp.2 fun u hu => ⟨by have := hp.1 u hu; omega, (h u (List.mem_cons_of_mem _ hu)).2⟩
theorem rs_pk (S : List (ByteArray × Int)) (p : Nat → Bool) : rsB S (pkUp p S.length) = true := rs_pw (pk_pw _ _) fun v hv => by
  obtain ⟨i, rfl, hi, _⟩ := pkUp_mem hv
  omega
/-- The variables in which two lists of values differ; those outside a set. -/
def dvB (V X : List Int) (i : Nat) : Bool := !decide (V[i]? = X[i]?)
def dvL (V X : List Int) : List Int := pkUp (dvB V X) V.length
def otB (vs : List Int) (i : Nat) : Bool := !vs.contains (i : Int)
def otL (vs : List Int) (n : Nat) : List Int := pkUp (otB vs) n
theorem pk_mem {p : Nat → Bool} {n i : Nat} (h : i < n) (hp : p i = true) : (i : Int) ∈ pkUp p n := by
  unfold pkUp
  exact List.mem_map.2 ⟨i, List.mem_filter.2 ⟨List.mem_range.2 h, hp⟩, rfl⟩
theorem pk_sub {p q : Nat → Bool} {n : Nat} (h : ∀ i, i < n → p i = true → q i = true) : (pkUp p n).length ≤ (pkUp q n).length ∧ ((pkUp p n).length = (pkUp q n).length → pkUp p n = pkUp q n) := by
  induction n with
  | zero => exact ⟨Nat.le_refl _, fun _ => rfl⟩
  | succ n ih =>
    obtain ⟨a, b⟩ := ih (fun i hi hp => h i (by omega) hp)
    cases hp : p n
    · rw [pkUp_no hp]
      cases hq : q n
      · rw [pkUp_no hq]; exact ⟨a, b⟩
      · rw [pkUp_yes hq, List.length_append, List.length_singleton]
        exact ⟨by omega, fun e => by omega⟩
    · have hq := h n (by omega) hp
      rw [pkUp_yes hp, pkUp_yes hq, List.length_append, List.length_append]
      exact ⟨by simp only [List.length_singleton]; omega, fun e => by rw [b (by simp only [List.length_singleton] at e; omega)]⟩
theorem cs_sub {p q : Nat → Bool} {n : Nat} (h : ∀ i, i < n → p i = true → q i = true) : csZ (pkUp p n) (pkUp q n) ≤ 0 := by
  obtain ⟨a, b⟩ := pk_sub h
  rcases Nat.lt_or_ge (pkUp p n).length (pkUp q n).length with h1 | h1
  · unfold csZ; rw [if_pos h1]; omega
  · rw [b (by omega), csZ_self]; omega
theorem ag_of {F V x : List Int} (h : ∀ v ∈ F, x[v.toNat]? = V[v.toNat]?) : agB F V x = true := by
  unfold agB
  rw [List.all_eq_true]
  exact fun v hv => decide_eq_true (h v hv)
theorem ag_get {F V x : List Int} (h : agB F V x = true) {v : Int} (hv : v ∈ F) : x[v.toNat]? = V[v.toNat]? := by
  unfold agB at h
  rw [List.all_eq_true] at h
  exact of_decide_eq_true (h v hv)
/-- The candidates: of the program (one for each list of values that passes), and of the model (one for each set). -/
def cvP (S : List (ByteArray × Int)) (M : List (List Int)) (V : List Int) (k : Nat) : List (List Int) := (psN S M k).map fun i : Nat => dvL V (atL S (i : Int))
def cvO (S : List (ByteArray × Int)) (M : List (List Int)) (V : List Int) (st : Nat) : Bool := (coN S M (otL (lvsL ((st : Nat) : Int)) S.length) V).isSome
def cvQ (S : List (ByteArray × Int)) (M : List (List Int)) (V : List Int) (k : Nat) : List (List Int) := ((List.range k).filter (cvO S M V)).map fun st : Nat => lvsL ((st : Nat) : Int)
theorem cvQ_yes {S : List (ByteArray × Int)} {M : List (List Int)} {V : List Int} {k : Nat} (h : cvO S M V k = true) : cvQ S M V (k + 1) = cvQ S M V k ++ [lvsL ((k : Nat) : Int)] := by
  unfold cvQ
  rw [List.range_succ, List.filter_append, List.map_append]
  simp [h]
theorem cvQ_no {S : List (ByteArray × Int)} {M : List (List Int)} {V : List Int} {k : Nat} (h : cvO S M V k = false) : cvQ S M V (k + 1) = cvQ S M V k := by
  unfold cvQ
  rw [List.range_succ, List.filter_append, List.map_append]
  simp [h]
theorem ft_some {p : Nat → Bool} {n : Nat} (h : (ftN p n).isSome = true) : ∃ k, k < n ∧ p k = true := by
  unfold ftN at h
  rw [List.find?_isSome] at h
  obtain ⟨k, hk, hp⟩ := h
  exact ⟨k, List.mem_range.1 hk, hp⟩
theorem ft_isSome {p : Nat → Bool} {n k : Nat} (hk : k < n) (hp : p k = true) : (ftN p n).isSome = true := by
  unfold ftN
  rw [List.find?_isSome]
  exact ⟨k, List.mem_range.2 hk, hp⟩
theorem cv_eq {S : List (ByteArray × Int)} {M : List (List Int)} {V : List Int} (hs : schB S = true) (hV : fitB S V = true) : mnL (cvP S M V (cnZ S).toNat) = mnL (cvQ S M V (2 ^ S.length)) := by
  have hl := fit_len hV
  have h8 : S.length ≤ 8 := by have := (schB_len hs).2; omega
  refine mn_eq (fun p hp => ?_) (fun q hq => ?_)
  · unfold cvP at hp
    obtain ⟨k, hk, rfl⟩ := List.mem_map.1 hp
    obtain ⟨k1, k2⟩ := psN_mem.1 hk
    have e : lvsL ((stN (dvB V (atL S (k : Int))) S.length : Nat) : Int) = dvL V (atL S (k : Int)) := by rw [st_lvs _ h8]; unfold dvL; rw [hl]
    unfold cvQ
    refine List.mem_map.2 ⟨stN (dvB V (atL S (k : Int))) S.length, List.mem_filter.2 ⟨List.mem_range.2 (stN_lt _ _), ?_⟩, e⟩
    unfold cvO coN
    rw [e]
    refine ft_isSome k1 ?_
    rw [coP_eq, k2]
    refine ag_of fun v hv => ?_
    obtain ⟨i, rfl, hi, ho⟩ := pkUp_mem hv
    rw [Int.toNat_natCast]
    cases hd : dvB V (atL S (k : Int)) i
    · unfold dvB at hd
      simp at hd
      exact hd.symm
    · have hm : (i : Int) ∈ dvL V (atL S (k : Int)) := pk_mem (by omega) hd
      unfold otB at ho
      simp [hm] at ho
  · unfold cvQ at hq
    obtain ⟨st, hst, rfl⟩ := List.mem_map.1 hq
    obtain ⟨h1, h2⟩ := List.mem_filter.1 hst
    have h1 := List.mem_range.1 h1
    unfold cvO coN at h2
    obtain ⟨k, k1, k2⟩ := ft_some h2
    rw [coP_eq, Bool.and_eq_true] at k2
    obtain ⟨k2, k3⟩ := k2
    refine ⟨dvL V (atL S (k : Int)), ?_, ?_⟩
    · unfold cvP
      exact List.mem_map.2 ⟨k, psN_mem.2 ⟨k1, by simpa using k2⟩, rfl⟩
    · have e : lvsL ((st : Nat) : Int) = pkUp (fun l : Nat => hsB ((st : Nat) : Int) (l : Int)) S.length := by
        rw [← lvsUp_all (x := ((st : Nat) : Int)) (i := S.length) (by rw [Int.toNat_natCast]; exact h1) h8]
        rfl
      rw [e]
      unfold dvL
      rw [hl]
      refine cs_sub fun i hi hd => ?_
      cases hh : hsB ((st : Nat) : Int) (i : Int)
      · exfalso
        have hm : (i : Int) ∈ otL (lvsL ((st : Nat) : Int)) S.length := by
          refine pk_mem hi ?_
          unfold otB
          cases hc : (lvsL ((st : Nat) : Int)).contains (i : Int)
          · rfl
          · rw [List.contains_iff_mem, e] at hc
            obtain ⟨j, hj, _, hp⟩ := pkUp_mem hc
            obtain rfl : i = j := by omega
            rw [hh] at hp
            cases hp
        have := ag_get k3 hm
        rw [Int.toNat_natCast] at this
        unfold dvB at hd
        simp [this] at hd
      · rfl
/-- The answer. -/
def scG (S : List (ByteArray × Int)) (M : List (List Int)) (V : List Int) : Bool := smB S M && fitB S V
def scO (S : List (ByteArray × Int)) (M : List (List Int)) (V : List Int) : Option (List Int) := mnL (cvP S M V (cnZ S).toNat)
def scB (S : List (ByteArray × Int)) (M : List (List Int)) (V : List Int) : Bool := scG S M V && (scO S M V).isSome
def scL (S : List (ByteArray × Int)) (M : List (List Int)) (V : List Int) : List Int := (scO S M V).getD []
theorem scG_no1 {S : List (ByteArray × Int)} {M : List (List Int)} {V : List Int} (h : smB S M = false) : scB S M V = false := by unfold scB scG; rw [h]; rfl
theorem scG_no2 {S : List (ByteArray × Int)} {M : List (List Int)} {V : List Int} (h : fitB S V = false) : scB S M V = false := by unfold scB scG; rw [h, Bool.and_false]; rfl
theorem scG_cg (S : List (ByteArray × Int)) (M : List (List Int)) (V : List Int) : cgG S M [] V = scG S M V := by unfold cgG scG; rw [show rsB S [] = true from rfl, Bool.and_true]
theorem scB_yes {S : List (ByteArray × Int)} {M : List (List Int)} {V : List Int} (h : scG S M V = true) : scB S M V = (scO S M V).isSome := by unfold scB; rw [h]; rfl
theorem dvL_len (V X : List Int) : (dvL V X).length ≤ V.length := pkUp_len _ _
theorem scL_eq {S : List (ByteArray × Int)} {M : List (List Int)} {V : List Int} (b : Bool) (hb : b = (scO S M V).isSome) : eIf b (scL S M V) = scL S M V := by
  subst hb
  unfold scL
  cases scO S M V with
  | none => rfl
  | some c => rfl
theorem scL_len {S : List (ByteArray × Int)} {M : List (List Int)} {V : List Int} : (scL S M V).length ≤ V.length := by
  unfold scL
  cases h : scO S M V with
  | none => exact Nat.zero_le _
  | some c =>
    obtain ⟨h1, _⟩ := mn_some h
    unfold cvP at h1
    obtain ⟨k, _, rfl⟩ := List.mem_map.1 h1
    exact dvL_len _ _
set_option maxHeartbeats 1000000 in
theorem l1Has_any (y : Option Addr) (c : Nat) (L : List Int) (n : Int) (w : World) (hL : IIn w y L) :
    Calls Try.prog 98 #[.slice y L.length c, .int .i64 n] w fun e w' => e = .returned (.bool (L.contains n)) ∧ w = w' := by
  have hLh := Lib.hid hL
  have hLl := hL.1
  clear hL
  go_enter Try.func98, Try.ntmps98
  go_wp2
  go_loopw [9] (fun c wr => ∃ i : Nat, i ≤ L.length ∧ c = .int .i64 i ∧ Hid (∀ j, j < i → ¬ L[j]? = some n) ∧ w = wr) (fun c _ => L.length - (intOf c).toNat)
  case atStart => exact ⟨0, by omega, rfl, (fun j hj => absurd hj (by omega)), rfl⟩
  case round =>
    obtain ⟨i, hi, rfl, hall, rfl⟩ := hrel
    by_cases hlt : i < L.length
    · obtain ⟨bl, off, v, rfl, hbl, hLi, hc0⟩ := hLh.out.2.2.int hlt
      have hLih := Lib.hid hLi
      have hlt' : (i : Int) < (L.length : Int) := by omega
      have hi0 : (0 : Int) ≤ (i : Int) := by omega
      clear hLi
      by_cases he : v = n
      · have hv : Hid (L.contains n = true) := by unfold Hid; rw [List.contains_iff_mem, ← he]; exact List.mem_of_getElem? hLih.out
        have heb : (v == n) = true := by rw [beq_iff_eq]; exact he
        replace he := Lib.hid he
        go_wp2
        go_ret
        exact ⟨ret_bool hv.out.symm, rfl⟩
      · have heb : (v == n) = false := by rw [beq_eq_false_iff_ne]; exact he
        have hne : Hid (¬ L[i]? = some n) := by unfold Hid; rw [hLih.out]; intro h; exact he (Option.some.inj h)
        replace he := Lib.hid he
        go_wp2
        go_roundw
        case rel =>
          refine ⟨i + 1, by omega, by go_num, fun j hj => ?_, by first | rfl | trivial⟩
          rcases Nat.lt_or_ge j i with hj2 | hj2
          · exact hall.out j hj2
          · obtain rfl : j = i := by omega
            exact hne.out
        case measure => simp [intOf]; omega
    · have hij : i = L.length := by omega
      subst hij
      have hv : Hid (L.contains n = false) := by
        unfold Hid
        cases h : L.contains n with
        | false => rfl
        | true =>
          rw [List.contains_iff_mem] at h
          obtain ⟨j, hj, e⟩ := List.getElem_of_mem h
          exact absurd (by rw [List.getElem?_eq_getElem hj, e]) (hall.out j hj)
      clear hall
      go_wp2
      go_ret
      exact ⟨ret_bool hv.out.symm, rfl⟩
set_option maxHeartbeats 2000000 in
theorem differing_any (y z : Option Addr) (c1 c2 : Nat) (V X : List Int) (w : World) (hl : V.length = X.length) (h6 : V.length ≤ 1000) (hV : IIn w y V) (hX : IIn w z X) :
    Calls Try.prog 100 #[.slice y V.length c1, .slice z X.length c2] w (RetL (dvL V X) w) := by
  obtain ⟨i0, hii, hz0, hz1, hz2⟩ := info_parts Try.infoInt
  have hVh := Lib.hid hV
  have hXh := Lib.hid hX
  have hlh := Lib.hid hl
  clear hV hX hl
  go_enter Try.func100, Try.ntmps100
  go_wp2
  go_loopw [5, 9] (fun u c wr => ∃ i : Nat, i ≤ V.length ∧ c = .int .i64 i ∧ wr.ownsRow w.heap.size 3 1 u (pkUp (dvB V X) i).length (iC (pkUp (dvB V X) i)) ∧ Below w.heap.size w wr) (fun _ c _ => V.length - (intOf c).toNat)
  case atStart => exact ⟨0, by omega, rfl, World.ownsRow_nil _ _ _ _, (by repeat (first | exact Below.refl _ _ | assumption | refine Below.drew ?_ | refine below_drewN ?_ _ | refine Below.alloc' ?_ _ | (refine Below.setCell ?_ (by first | omega | (simp; done) | (simp; omega) | exact Below.size (by assumption) | exact Nat.le_trans (Below.size (by assumption)) (by simp)) _) | (refine Below.via' ?_ (by assumption)) | (refine Below.alloc ?_ (by first | omega | (simp; done) | (simp; omega) | exact Below.size (by assumption) | exact Nat.le_trans (Below.size (by assumption)) (by simp)) _) | (refine Below.via ?_ (by assumption) (by first | omega | (simp; done) | (simp; omega) | exact Below.size (by assumption) | exact Nat.le_trans (Below.size (by assumption)) (by simp)))))⟩
  case round =>
    obtain ⟨i, hi, rfl, hown, hBr⟩ := hrel
    have hownh := Lib.hid hown
    clear hown
    have hsl := pkUp_len (dvB V X) i
    by_cases hlt : i < V.length
    · obtain ⟨bl, off, a, rfl, hbl, hVi, hc0⟩ := (hVh.out.below hBr).2.2.int hlt
      obtain ⟨bl2, off2, d, rfl, hbl2, hXi, hc1⟩ := (hXh.out.below hBr).2.2.int (i := i) (by have := hlh.out; omega)
      have hlt' : (i : Int) < (V.length : Int) := by omega
      have hlt2 : (i : Int) < (X.length : Int) := by have := hlh.out; omega
      have hi0 : (0 : Int) ≤ (i : Int) := by omega
      by_cases he : a = d
      · have hsel : Hid (pkUp (dvB V X) (i + 1) = pkUp (dvB V X) i) := pkUp_no (by unfold dvB; rw [hVi, hXi, he]; simp)
        have heb : (a == d) = true := by rw [beq_iff_eq]; exact he
        replace he := Lib.hid he
        replace hVi := Lib.hid hVi
        replace hXi := Lib.hid hXi
        go_wp2
        go_region
        all_goals
          go_wp2
          go_roundw
          case rel => exact ⟨i + 1, by omega, by go_num, by rw [hsel.out]; exact hownh.out, (by repeat (first | exact Below.refl _ _ | assumption | refine Below.drew ?_ | refine below_drewN ?_ _ | refine Below.alloc' ?_ _ | (refine Below.setCell ?_ (by first | omega | (simp; done) | (simp; omega) | exact Below.size (by assumption) | exact Nat.le_trans (Below.size (by assumption)) (by simp)) _) | (refine Below.via' ?_ (by assumption)) | (refine Below.alloc ?_ (by first | omega | (simp; done) | (simp; omega) | exact Below.size (by assumption) | exact Nat.le_trans (Below.size (by assumption)) (by simp)) _) | (refine Below.via ?_ (by assumption) (by first | omega | (simp; done) | (simp; omega) | exact Below.size (by assumption) | exact Nat.le_trans (Below.size (by assumption)) (by simp)))))⟩
          case measure => simp [intOf]; omega
      · have hsel : Hid (pkUp (dvB V X) (i + 1) = pkUp (dvB V X) i ++ [(i : Int)]) := pkUp_yes (by unfold dvB; rw [hVi, hXi]; simp [he])
        have heb : (a == d) = false := by rw [beq_eq_false_iff_ne]; exact he
        replace he := Lib.hid he
        replace hVi := Lib.hid hVi
        replace hXi := Lib.hid hXi
        go_wp2
        go_upto_region 5 with fail
        go_cut [20] (fun s20 wx => s20 = .bool true ∧ Hid (wx.ownsRow w.heap.size 3 1 u5 (pkUp (dvB V X) i).length (iC (pkUp (dvB V X) i))) ∧ Below w.heap.size w wx)
        case first =>
          go_region
          all_goals
            go_wp2_with fail
            go_meet
            exact ⟨by rw [bne, heb]; rfl, hownh.out, (by repeat (first | exact Below.refl _ _ | assumption | refine Below.drew ?_ | refine below_drewN ?_ _ | refine Below.alloc' ?_ _ | (refine Below.setCell ?_ (by first | omega | (simp; done) | (simp; omega) | exact Below.size (by assumption) | exact Nat.le_trans (Below.size (by assumption)) (by simp)) _) | (refine Below.via' ?_ (by assumption)) | (refine Below.alloc ?_ (by first | omega | (simp; done) | (simp; omega) | exact Below.size (by assumption) | exact Nat.le_trans (Below.size (by assumption)) (by simp)) _) | (refine Below.via ?_ (by assumption) (by first | omega | (simp; done) | (simp; omega) | exact Below.size (by assumption) | exact Nat.le_trans (Below.size (by assumption)) (by simp)))))⟩
        obtain ⟨rfl, ow, hBx⟩ := hcut
        obtain ⟨wx, rfl⟩ : ∃ x : World, x = wc := ⟨_, rfl⟩
        clear hc0 hc1 hbl hbl2 hownh hBr
        have hlow := hBx.size
        go_wp2_with (at_builtin; go_loud (refine wpList_append_rd _ rfl (.tmp 21) (.tmp 23) 23 rfl (w.heap.size) 3 i0 (.int .i64 0) 1 8 Try.underlying23 hii hz0 hz1 hz2 rfl (by decide) _ (pkUp (dvB V X) i).length (iC (pkUp (dvB V X) i)) rfl ((ow.out.alloc _)) _ 1 1 rfl (Nat.le_refl _) (by intro h; cases h) (iC [((i : Int) : Int)]) rfl (rd_oneE _ _ _ _ (by simp)) (iC_one _) (by unfold maxLen; omega) (by omega) (by simp; omega) ?_); intro v3 w3 hown3 hgrow3 hwhere3)
        obtain ⟨hb4, -⟩ := append_below hBx (fun k hk => (ow.out.lt k hk).1) hgrow3 hwhere3
        have hown3 := Lib.hid (own_snocE hown3 hsel.out rfl)
        clear hgrow3 hwhere3
        go_wp2
        go_roundw
        case rel => exact ⟨i + 1, by omega, by go_num, hown3.out, hb4⟩
        case measure => simp [intOf]; omega
    · have hij : i = V.length := by omega
      subst hij
      go_wp2
      go_ret
      exact ⟨_, rfl, hownh.out, hBr⟩
theorem orZ_cs (a b : List Int) : orZ [cmZ (a.length : Int) (b.length : Int), lxZ a b] = csZ a b := by
  rw [orZ_cons, orZ_cons, orZ_nil]
  unfold csZ cmZ
  by_cases h1 : a.length < b.length
  · rw [if_pos (show (a.length : Int) < b.length by omega), if_pos h1]; rfl
  · by_cases h2 : b.length < a.length
    · rw [if_neg (show ¬ (a.length : Int) < b.length by omega), if_pos (show (b.length : Int) < a.length by omega), if_neg h1, if_pos h2]; rfl
    · rw [if_neg (show ¬ (a.length : Int) < b.length by omega), if_neg (show ¬ (b.length : Int) < a.length by omega), if_neg h1, if_neg h2, if_pos rfl]
      by_cases h3 : lxZ a b = 0
      · rw [if_pos h3, h3]
      · rw [if_neg h3]
set_option maxHeartbeats 1000000 in
theorem compareCovers_any (y z : Option Addr) (c1 c2 : Nat) (A B : List Int) (w : World) (hA : IIn w y A) (hB : IIn w z B) :
    Calls Try.prog 101 #[.slice y A.length c1, .slice z B.length c2] w fun e w' => e = .returned (.int .i64 (csZ A B)) ∧ Below w.heap.size w w' := by
  have hAh := Lib.hid hA
  have hBh := Lib.hid hB
  have hl1 := hA.1
  have hl2 := hB.1
  have hcs := Lib.hid (orZ_cs A B)
  clear hA hB
  go_enter Try.func101, Try.ntmps101
  go_wp2_with fail
  refine (cmpInt_any _ _ _).mono ?_
  rintro e w1 ⟨rfl, rfl⟩
  go_wp2_with fail
  refine (sliceCmp_any _ _ _ _ A B _ hAh.out.2.2 hBh.out.2.2 (by omega)).mono ?_
  rintro e w2 ⟨rfl, rfl⟩
  have hrd : Hid (Rd (w.alloc (.cells #[.int .i64 (cmZ (A.length : Int) (B.length : Int)), .int .i64 (lxZ A B)] 3)) (some ⟨w.heap.size, 0, none⟩) (iC [cmZ (A.length : Int) (B.length : Int), lxZ A B])) := by
    refine Or.inr ⟨w.heap.size, 0, rfl, by simp, fun j u hj => ?_⟩
    rw [Nat.zero_add, World.cell?_alloc_at _ _ _ _ rfl, ← hj, ← Array.getElem?_toList]
    rfl
  go_wp2_with fail
  refine (cmpOr_any _ 2 _ [cmZ (A.length : Int) (B.length : Int), lxZ A B] _ rfl hrd.out (by omega)).mono ?_
  rintro e w3 ⟨rfl, rfl⟩
  go_wp2
  go_ret
  exact ⟨ret_int hcs.out, (by repeat (first | exact Below.refl _ _ | assumption | refine Below.drew ?_ | refine below_drewN ?_ _ | refine Below.alloc' ?_ _ | (refine Below.setCell ?_ (by first | omega | (simp; done) | (simp; omega) | exact Below.size (by assumption) | exact Nat.le_trans (Below.size (by assumption)) (by simp)) _) | (refine Below.via' ?_ (by assumption)) | (refine Below.alloc ?_ (by first | omega | (simp; done) | (simp; omega) | exact Below.size (by assumption) | exact Nat.le_trans (Below.size (by assumption)) (by simp)) _) | (refine Below.via ?_ (by assumption) (by first | omega | (simp; done) | (simp; omega) | exact Below.size (by assumption) | exact Nat.le_trans (Below.size (by assumption)) (by simp)))))⟩
theorem two_pow {S : List (ByteArray × Int)} (hs : schB S = true) : ∃ T : Nat, 2 ^ S.length = T ∧ T ≤ 64 := by
  have h := (schB_len hs).2
  refine ⟨_, rfl, ?_⟩
  exact Nat.le_trans (Nat.pow_le_pow_right (by decide) h) (by decide)
theorem wrap_two {n : Nat} {T : Nat} (h : 2 ^ n = T) (hT : T ≤ 64) : wrap64 (2 ^ n) = (T : Int) := by
  have e : (2 : Int) ^ n = ((2 ^ n : Nat) : Int) := by push_cast; rfl
  rw [e, h]
  exact IntWalk.wrap64_in _ (by omega)
theorem pk_iin {w : World} {x : Option Addr} {p : Nat → Bool} {n : Nat} (hn : n ≤ 1000) (h : Rd w x (iC (pkUp p n))) : IIn w x (pkUp p n) := ⟨by have := pkUp_len p n; omega, fun v hv => by
  obtain ⟨i, rfl, hi, _⟩ := pkUp_mem hv
  unfold IsI64
  omega, h⟩
theorem lvs_iin {w : World} {x : Option Addr} {st : Int} (h : Rd w x (iC (lvsL st))) : IIn w x (lvsL st) := ⟨by have := lvsL_len st; omega, fun v hv => by
  have := lvs_i64 st v hv
  unfold IsI64
  omega, h⟩
theorem mn_mem {S : List (ByteArray × Int)} {M : List (List Int)} {V : List Int} {k : Nat} {b : List Int} (h : mnL (cvQ S M V k) = some b) : ∃ st : Int, b = lvsL st := by
  have h1 := (mn_some h).1
  unfold cvQ at h1
  obtain ⟨st, _, e⟩ := List.mem_map.1 h1
  exact ⟨_, e.symm⟩
set_option maxHeartbeats 8000000 in
theorem sSC_x (x y z : Option Addr) (c1 c2 c3 : Nat) (S : List (ByteArray × Int)) (Q : List PR) (V : List Int) (w : World) (hS : SIn w x c1 S) (hQ : EIn w y Q) (hV : IIn w z V) :
    Calls Try.prog 49 #[.slice x S.length c1, .slice y Q.length c2, .slice z V.length c3] w (RetLB (eIf (scB S (eM Q) V) (scL S (eM Q) V)) (scB S (eM Q) V) w) := by
  obtain ⟨i0, hii, hz0, hz1, hz2⟩ := info_parts Try.infoInt
  have hSh := Lib.hid hS
  have hQh := Lib.hid hQ
  have hVh := Lib.hid hV
  have hm := hS.1
  have hnilw : ∀ W : World, IIn W none [] := fun W => ⟨by simp, (fun n hn => by cases hn), Rd.nil _ _⟩
  replace hnilw := Lib.hid hnilw
  have hcg := Lib.hid (scG_cg S (eM Q) V)
  clear hS hQ hV
  go_enter Try.func49, Try.ntmps49
  go_wp2_with fail
  refine (eAsked_any _ _ none _ _ _ 0 _ S Q [] V _ (hSh.out.below (by exact (by repeat (first | exact Below.refl _ _ | assumption | refine Below.drew ?_ | refine below_drewN ?_ _ | refine Below.alloc' ?_ _ | (refine Below.setCell ?_ (by first | omega | (simp; done) | (simp; omega) | exact Below.size (by assumption) | exact Nat.le_trans (Below.size (by assumption)) (by simp)) _) | (refine Below.via' ?_ (by assumption)) | (refine Below.alloc ?_ (by first | omega | (simp; done) | (simp; omega) | exact Below.size (by assumption) | exact Nat.le_trans (Below.size (by assumption)) (by simp)) _) | (refine Below.via ?_ (by assumption) (by first | omega | (simp; done) | (simp; omega) | exact Below.size (by assumption) | exact Nat.le_trans (Below.size (by assumption)) (by simp))))))) (hQh.out.below (by exact (by repeat (first | exact Below.refl _ _ | assumption | refine Below.drew ?_ | refine below_drewN ?_ _ | refine Below.alloc' ?_ _ | (refine Below.setCell ?_ (by first | omega | (simp; done) | (simp; omega) | exact Below.size (by assumption) | exact Nat.le_trans (Below.size (by assumption)) (by simp)) _) | (refine Below.via' ?_ (by assumption)) | (refine Below.alloc ?_ (by first | omega | (simp; done) | (simp; omega) | exact Below.size (by assumption) | exact Nat.le_trans (Below.size (by assumption)) (by simp)) _) | (refine Below.via ?_ (by assumption) (by first | omega | (simp; done) | (simp; omega) | exact Below.size (by assumption) | exact Nat.le_trans (Below.size (by assumption)) (by simp))))))) (hnilw.out _) (hVh.out.below (by exact (by repeat (first | exact Below.refl _ _ | assumption | refine Below.drew ?_ | refine below_drewN ?_ _ | refine Below.alloc' ?_ _ | (refine Below.setCell ?_ (by first | omega | (simp; done) | (simp; omega) | exact Below.size (by assumption) | exact Nat.le_trans (Below.size (by assumption)) (by simp)) _) | (refine Below.via' ?_ (by assumption)) | (refine Below.alloc ?_ (by first | omega | (simp; done) | (simp; omega) | exact Below.size (by assumption) | exact Nat.le_trans (Below.size (by assumption)) (by simp)) _) | (refine Below.via ?_ (by assumption) (by first | omega | (simp; done) | (simp; omega) | exact Below.size (by assumption) | exact Nat.le_trans (Below.size (by assumption)) (by simp)))))))).mono ?_
  rintro e w1 ⟨rfl, hb1⟩
  rw [hcg.out]
  cases hg : scG S (eM Q) V
  · have hv : Hid (scB S (eM Q) V = false) := by unfold Hid scB; rw [hg]; rfl
    go_wp2
    go_ret2
    exact retLB_no hv.out (by repeat (first | exact Below.refl _ _ | assumption | refine Below.drew ?_ | refine below_drewN ?_ _ | refine Below.alloc' ?_ _ | (refine Below.setCell ?_ (by first | omega | (simp; done) | (simp; omega) | exact Below.size (by assumption) | exact Nat.le_trans (Below.size (by assumption)) (by simp)) _) | (refine Below.via' ?_ (by assumption)) | (refine Below.alloc ?_ (by first | omega | (simp; done) | (simp; omega) | exact Below.size (by assumption) | exact Nat.le_trans (Below.size (by assumption)) (by simp)) _) | (refine Below.via ?_ (by assumption) (by first | omega | (simp; done) | (simp; omega) | exact Below.size (by assumption) | exact Nat.le_trans (Below.size (by assumption)) (by simp)))))
  have hgg : smB S (eM Q) = true ∧ fitB S V = true := by unfold scG at hg; rwa [Bool.and_eq_true] at hg
  have hsm := Lib.hid hgg.1
  have hfit := Lib.hid hgg.2
  have hsh := Lib.hid (el_get (sm_get hgg.1).1).1
  have hscB := Lib.hid (scB_yes hg)
  have hcv := Lib.hid (cv_eq (M := eM Q) hsh.out hgg.2)
  have hl6 := (schB_len hsh.out).2
  obtain ⟨T, hT, hT64⟩ := two_pow hsh.out
  have hTw := wrap_two hT hT64
  have hTh := Lib.hid hT
  have hB1 : Below w.heap.size w w1 := (by repeat (first | exact Below.refl _ _ | assumption | refine Below.drew ?_ | refine below_drewN ?_ _ | refine Below.alloc' ?_ _ | (refine Below.setCell ?_ (by first | omega | (simp; done) | (simp; omega) | exact Below.size (by assumption) | exact Nat.le_trans (Below.size (by assumption)) (by simp)) _) | (refine Below.via' ?_ (by assumption)) | (refine Below.alloc ?_ (by first | omega | (simp; done) | (simp; omega) | exact Below.size (by assumption) | exact Nat.le_trans (Below.size (by assumption)) (by simp)) _) | (refine Below.via ?_ (by assumption) (by first | omega | (simp; done) | (simp; omega) | exact Below.size (by assumption) | exact Nat.le_trans (Below.size (by assumption)) (by simp)))))
  clear hg hgg hcg hT
  go_wp2
  go_loopw [8, 9, 10] (fun b fd c wr => ∃ i : Nat, i ≤ T ∧ c = .int .i64 i ∧ fd = .bool (mnL (cvQ S (eM Q) V i)).isSome ∧ wr.ownsRow w.heap.size 3 1 b ((mnL (cvQ S (eM Q) V i)).getD []).length (iC ((mnL (cvQ S (eM Q) V i)).getD [])) ∧ Below w.heap.size w wr) (fun _ _ c _ => T - (intOf c).toNat)
  case atStart => exact ⟨0, by omega, by first | rfl | go_num, rfl, World.ownsRow_nil _ _ _ _, hB1⟩
  case round =>
    obtain ⟨i, hi, rfl, rfl, hown, hBr⟩ := hrel
    obtain ⟨xb, cb, rfl, -, -⟩ := (OwR.of hown).form
    have hownh := Lib.hid hown
    clear hown
    by_cases hlt : i < T
    · have hlt' : (i : Int) < (T : Int) := by omega
      go_wp2_with fail
      refine (eLevels_any (i : Int) _ (by omega) (by omega)).mono ?_
      rintro e w3 ⟨u3, rfl, ho3, hb3⟩
      obtain ⟨x3, n3, rfl, -, -⟩ := (OwR.of ho3).form
      have vars3 := Lib.hid (own_more ho3 hBr.size)
      have best3 := Lib.hid (own_below hownh.out hb3)
      have hB3 : Below w.heap.size w w3 := (by repeat (first | exact Below.refl _ _ | assumption | refine Below.drew ?_ | refine below_drewN ?_ _ | refine Below.alloc' ?_ _ | (refine Below.setCell ?_ (by first | omega | (simp; done) | (simp; omega) | exact Below.size (by assumption) | exact Nat.le_trans (Below.size (by assumption)) (by simp)) _) | (refine Below.via' ?_ (by assumption)) | (refine Below.alloc ?_ (by first | omega | (simp; done) | (simp; omega) | exact Below.size (by assumption) | exact Nat.le_trans (Below.size (by assumption)) (by simp)) _) | (refine Below.via ?_ (by assumption) (by first | omega | (simp; done) | (simp; omega) | exact Below.size (by assumption) | exact Nat.le_trans (Below.size (by assumption)) (by simp)))))
      have hs3 := hB3.size
      clear ho3 hownh hBr hb3
      go_wp2
      go_loopw [12, 33] (fun u c2 wr => ∃ j : Nat, j ≤ S.length ∧ c2 = .int .i64 j ∧ wr.ownsRow w3.heap.size 3 1 u (pkUp (otB (lvsL (i : Int))) j).length (iC (pkUp (otB (lvsL (i : Int))) j)) ∧ Below w3.heap.size w3 wr) (fun _ c2 _ => S.length - (intOf c2).toNat)
      case atStart => exact ⟨0, by omega, by first | rfl | go_num, World.ownsRow_nil _ _ _ _, Below.refl _ _⟩
      case round =>
        obtain ⟨j, hj, rfl, hfx, hBj⟩ := hrel
        have hfxh := Lib.hid hfx
        have hvin := Lib.hid (lvs_iin (Rd.of_own (own_below vars3.out hBj)))
        have hpl := pkUp_len (otB (lvsL (i : Int))) j
        have hsj := hBj.size
        clear hfx
        by_cases hjl : j < S.length
        · have hjl' : (j : Int) < (S.length : Int) := by omega
          cases hc : (lvsL (i : Int)).contains (j : Int)
          · have hsel : Hid (pkUp (otB (lvsL (i : Int))) (j + 1) = pkUp (otB (lvsL (i : Int))) j ++ [(j : Int)]) := pkUp_yes (by unfold otB; rw [hc]; rfl)
            go_wp2_with fail
            refine (l1Has_any _ _ (lvsL (i : Int)) (j : Int) _ hvin.out).mono ?_
            rintro e w4 ⟨rfl, rfl⟩
            rw [hc]
            go_wp2_with (at_builtin; go_loud (refine wpList_append_rd _ rfl (.tmp 40) (.tmp 42) 23 rfl (w3.heap.size) 3 i0 (.int .i64 0) 1 8 Try.underlying23 hii hz0 hz1 hz2 rfl (by decide) _ (pkUp (otB (lvsL (i : Int))) j).length (iC (pkUp (otB (lvsL (i : Int))) j)) rfl ((hfxh.out.alloc _)) _ 1 1 rfl (Nat.le_refl _) (by intro h; cases h) (iC [((j : Int) : Int)]) rfl (rd_oneE _ _ _ _ (by simp)) (iC_one _) (by unfold maxLen; omega) (by omega) (by simp; omega) ?_); intro v3 w3 hown3 hgrow3 hwhere3)
            obtain ⟨hb4, -⟩ := append_below hBj (fun k hk => (hfxh.out.lt k hk).1) hgrow3 hwhere3
            have hown3 := Lib.hid (own_snocE hown3 hsel.out rfl)
            clear hgrow3 hwhere3
            go_wp2
            go_roundw
            case rel => exact ⟨j + 1, by omega, by go_num, hown3.out, hb4⟩
            case measure => simp [intOf]; omega
          · have hsel : Hid (pkUp (otB (lvsL (i : Int))) (j + 1) = pkUp (otB (lvsL (i : Int))) j) := pkUp_no (by unfold otB; rw [hc]; rfl)
            go_wp2_with fail
            refine (l1Has_any _ _ (lvsL (i : Int)) (j : Int) _ hvin.out).mono ?_
            rintro e w4 ⟨rfl, rfl⟩
            rw [hc]
            go_wp2
            go_roundw
            case rel => exact ⟨j + 1, by omega, by go_num, by rw [hsel.out]; exact hfxh.out, hBj⟩
            case measure => simp [intOf]; omega
        · have hij : j = S.length := by omega
          subst hij
          obtain ⟨x5, n5, e5, -, -⟩ := (OwR.of hfxh.out).form
          subst e5
          have hB5 : Below w.heap.size w wr := hB3.trans (hBj.mono hs3)
          have vars5 := Lib.hid (own_below vars3.out hBj)
          have best5 := Lib.hid (own_below best3.out hBj)
          have hfin := Lib.hid (pk_iin (by omega) (Rd.of_own hfxh.out))
          have hcgk := Lib.hid (cg_yes hsm.out (rs_pk S (otB (lvsL (i : Int)))) hfit.out)
          clear hfxh vars3 best3 hB3 hBj hvin
          go_wp2_with fail
          refine (eComplete_any _ _ _ _ _ _ _ _ S Q (pkUp (otB (lvsL (i : Int))) S.length) V _ hcgk.out (hSh.out.below hB5) (hQh.out.below hB5) hfin.out (hVh.out.below hB5)).mono ?_
          rintro e w7 ⟨u7, rfl, -, hb7⟩
          rw [show (coN S (eM Q) (pkUp (otB (lvsL (i : Int))) S.length) V).isSome = cvO S (eM Q) V i from rfl]
          have hB7 : Below w.heap.size w w7 := (by repeat (first | exact Below.refl _ _ | assumption | refine Below.drew ?_ | refine below_drewN ?_ _ | refine Below.alloc' ?_ _ | (refine Below.setCell ?_ (by first | omega | (simp; done) | (simp; omega) | exact Below.size (by assumption) | exact Nat.le_trans (Below.size (by assumption)) (by simp)) _) | (refine Below.via' ?_ (by assumption)) | (refine Below.alloc ?_ (by first | omega | (simp; done) | (simp; omega) | exact Below.size (by assumption) | exact Nat.le_trans (Below.size (by assumption)) (by simp)) _) | (refine Below.via ?_ (by assumption) (by first | omega | (simp; done) | (simp; omega) | exact Below.size (by assumption) | exact Nat.le_trans (Below.size (by assumption)) (by simp)))))
          have vars7 := Lib.hid (own_below vars5.out hb7)
          have best7 := Lib.hid (own_below best5.out hb7)
          clear vars5 best5 hb7 hB5 hfin hcgk
          cases hcv0 : cvO S (eM Q) V i
          · have hnx : Hid (mnL (cvQ S (eM Q) V (i + 1)) = mnL (cvQ S (eM Q) V i)) := by unfold Hid; rw [cvQ_no hcv0]
            go_wp2
            go_roundw
            case rel => exact ⟨i + 1, by omega, by go_num, by rw [hnx.out], by rw [hnx.out]; exact best7.out, hB7⟩
            case measure => simp [intOf]; omega
          have hnx0 : Hid (mnL (cvQ S (eM Q) V (i + 1)) = mnS (mnL (cvQ S (eM Q) V i)) (lvsL (i : Int))) := by unfold Hid; rw [cvQ_yes hcv0, mn_snoc]
          cases hmn : mnL (cvQ S (eM Q) V i) with
          | none =>
            have hnx : Hid (mnL (cvQ S (eM Q) V (i + 1)) = some (lvsL (i : Int))) := by unfold Hid; rw [hnx0.out, hmn]; rfl
            rw [hmn] at best7
            replace hmn := Lib.hid hmn
            go_wp2
            go_roundw
            case rel => exact ⟨i + 1, by omega, by go_num, by rw [hnx.out]; rfl, by rw [hnx.out]; exact vars7.out, hB7⟩
            case measure => simp [intOf]; omega
          | some b =>
            obtain ⟨st, hst⟩ := mn_mem hmn
            have hgd : (mnL (cvQ S (eM Q) V i)).getD [] = b := by rw [hmn]; rfl
            rw [hmn] at best7
            have hbl : b.length ≤ 8 := by rw [hst]; exact lvsL_len st
            have hvl : (lvsL (i : Int)).length ≤ 8 := lvsL_len _
            have hbst := Lib.hid hst
            replace hgd := Lib.hid hgd
            clear hst
            by_cases h1 : (lvsL (i : Int)).length < b.length
            · have hnx : Hid (mnL (cvQ S (eM Q) V (i + 1)) = some (lvsL (i : Int))) := by unfold Hid; rw [hnx0.out, hmn, mnS_yes (by unfold csZ; rw [if_pos h1]; omega)]
              have h1' : ((lvsL (i : Int)).length : Int) < (b.length : Int) := by omega
              replace hmn := Lib.hid hmn
              go_wp2
              go_roundw
              case rel => exact ⟨i + 1, by omega, by go_num, by rw [hnx.out]; rfl, by rw [hnx.out]; exact vars7.out, hB7⟩
              case measure => simp [intOf]; omega
            · by_cases h2 : b.length < (lvsL (i : Int)).length
              · have hnx : Hid (mnL (cvQ S (eM Q) V (i + 1)) = some b) := by unfold Hid; rw [hnx0.out, hmn, mnS_no (by unfold csZ; rw [if_neg h1, if_pos h2]; omega)]
                have h1' : ¬ ((lvsL (i : Int)).length : Int) < (b.length : Int) := by omega
                have h2' : (((lvsL (i : Int)).length : Int) == (b.length : Int)) = false := by rw [beq_eq_false_iff_ne]; omega
                replace hmn := Lib.hid hmn
                go_wp2
                go_roundw
                case rel => exact ⟨i + 1, by omega, by go_num, by rw [hnx.out]; rfl, by rw [hnx.out]; exact best7.out, hB7⟩
                case measure => simp [intOf]; omega
              · have h1' : ¬ ((lvsL (i : Int)).length : Int) < (b.length : Int) := by omega
                have h2' : (((lvsL (i : Int)).length : Int) == (b.length : Int)) = true := by rw [beq_iff_eq]; omega
                have hcs : Hid (csZ (lvsL (i : Int)) b = lxZ (lvsL (i : Int)) b) := by unfold Hid csZ; rw [if_neg h1, if_neg h2]
                have hrd7 := Lib.hid (Rd.of_own best7.out)
                go_wp2_with fail
                refine (l1LessI_any _ _ (lvsL (i : Int)).length b.length _ _ (lvsL (i : Int)) b _ rfl rfl (by omega) (by omega) (Rd.of_own vars7.out) hrd7.out).mono ?_
                rintro e w8 ⟨rfl, hb8⟩
                have hB8 : Below w.heap.size w w8 := (by repeat (first | exact Below.refl _ _ | assumption | refine Below.drew ?_ | refine below_drewN ?_ _ | refine Below.alloc' ?_ _ | (refine Below.setCell ?_ (by first | omega | (simp; done) | (simp; omega) | exact Below.size (by assumption) | exact Nat.le_trans (Below.size (by assumption)) (by simp)) _) | (refine Below.via' ?_ (by assumption)) | (refine Below.alloc ?_ (by first | omega | (simp; done) | (simp; omega) | exact Below.size (by assumption) | exact Nat.le_trans (Below.size (by assumption)) (by simp)) _) | (refine Below.via ?_ (by assumption) (by first | omega | (simp; done) | (simp; omega) | exact Below.size (by assumption) | exact Nat.le_trans (Below.size (by assumption)) (by simp)))))
                by_cases h3 : lxZ (lvsL (i : Int)) b < 0
                · have hnx : Hid (mnL (cvQ S (eM Q) V (i + 1)) = some (lvsL (i : Int))) := by unfold Hid; rw [hnx0.out, hmn, mnS_yes (by rw [hcs.out]; exact h3)]
                  have vars8 := Lib.hid (own_below vars7.out hb8)
                  replace hmn := Lib.hid hmn
                  go_wp2
                  go_roundw
                  case rel => exact ⟨i + 1, by omega, by go_num, by rw [hnx.out]; rfl, by rw [hnx.out]; exact vars8.out, hB8⟩
                  case measure => simp [intOf]; omega
                · have hnx : Hid (mnL (cvQ S (eM Q) V (i + 1)) = some b) := by unfold Hid; rw [hnx0.out, hmn, mnS_no (by rw [hcs.out]; exact h3)]
                  have best8 := Lib.hid (own_below best7.out hb8)
                  replace hmn := Lib.hid hmn
                  go_wp2
                  go_roundw
                  case rel => exact ⟨i + 1, by omega, by go_num, by rw [hnx.out]; rfl, by rw [hnx.out]; exact best8.out, hB8⟩
                  case measure => simp [intOf]; omega
    · have hij : i = T := by omega
      subst hij
      have ho : Hid (scO S (eM Q) V = mnL (cvQ S (eM Q) V i)) := by unfold Hid scO; rw [hcv.out, hTh.out]
      have hd : Hid ((mnL (cvQ S (eM Q) V i)).isSome = scB S (eM Q) V) := by unfold Hid; rw [hscB.out, ho.out]
      have hL : Hid (eIf (scB S (eM Q) V) (scL S (eM Q) V) = (mnL (cvQ S (eM Q) V i)).getD []) := by unfold Hid; rw [scL_eq _ hscB.out]; unfold scL; rw [ho.out]
      go_wp2
      go_ret2
      refine retLB_dec hd.out ?_ hBr
      rw [hL.out]
      exact hownh.out
theorem sSC_m (x y z : Option Addr) (c1 c2 c3 : Nat) (S : List (ByteArray × Int)) (Q : List PR) (V : List Int) (w : World) (hS : SIn w x c1 S) (hQ : EIn w y Q) (hV : IIn w z V) (M : List (List Int)) (hM : eM Q = M) :
    Calls Try.prog 49 #[.slice x S.length c1, .slice y Q.length c2, .slice z V.length c3] w (RetLB (eIf (scB S M V) (scL S M V)) (scB S M V) w) := by subst hM; exact sSC_x x y z c1 c2 c3 S Q V w hS hQ hV
section
attribute [local go_sem] Oper.semAt_some

theorem pk_iinW {w : World} {x : Option Addr} {p : Nat → Bool} {n : Nat} (hn : n ≤ 1000) (h : Rd w x (iC (pkUp p n))) : IIn w x (pkUp p n) := ⟨by have := pkUp_len p n; omega, fun v hv => by
  obtain ⟨i, rfl, hi, _⟩ := pkUp_mem hv
  unfold IsI64
  omega, h⟩
/-- The least cover of what has come. -/
def bsO (V : List Int) (pre : List PR) : Option (List Int) := mnL ((eM pre).map fun x => dvL V x)
theorem bs_snoc (V : List Int) (pre : List PR) (q : PR) : bsO V (pre ++ [q]) = mnS (bsO V pre) (dvL V q.L) := by unfold bsO; rw [eM_app, List.map_append]; exact mn_snoc _ _
theorem bs_all {S : List (ByteArray × Int)} {M : List (List Int)} {V : List Int} {ys : List PR} {N : Nat} (h : eM ys = psL S M N) : bsO V ys = mnL (cvP S M V N) := by
  unfold bsO cvP
  rw [h]
  unfold psL
  rw [List.map_map]
  rfl
theorem bs_mem {V : List Int} {pre : List PR} {b : List Int} (h : bsO V pre = some b) : ∃ x, b = dvL V x := by
  obtain ⟨h1, _⟩ := mn_some h
  obtain ⟨x, _, e⟩ := List.mem_map.1 h1
  exact ⟨x, e.symm⟩
theorem two_set {t m n k : Nat} {u v v0 : Value} {b b0 : Bool} {W : World} {xs : List Value} (h : W.ownsRow m 3 1 u k xs) (r : ResT t n v0 b0 W) (ht : t ≠ 3) : ((W.setCell ⟨n, 0, none⟩ v).setCell ⟨n + 1, 0, none⟩ (.bool b)).ownsRow m 3 1 u k xs := by
  have h1 := h.kept (grownBy_setCell' W n v) (.inr (Ne.symm (r.1.not_row ht h)))
  have r2 := r.2.other (by omega) (B' := n) v
  exact h1.kept (grownBy_setCell' _ (n + 1) (.bool b)) (.inr (Ne.symm (r2.not_row (by decide) h1)))
theorem two_block {W : World} {n k : Nat} (v : Value) (b : Bool) (h1 : k ≠ n) (h2 : k ≠ n + 1) : ((W.setCell ⟨n, 0, none⟩ v).setCell ⟨n + 1, 0, none⟩ (.bool b)).heap[k]? = W.heap[k]? :=
  (Below.heap_setCell _ _ _ _ (by show k ≠ n + 1; exact h2)).trans (Below.heap_setCell _ _ _ _ (by show k ≠ n; exact h1))
theorem two_to {n₀ n : Nat} {v : Value} {b : Bool} {A B : World} (hb : Below n₀ A B) (hn : n₀ ≤ n) : Below n₀ A ((B.setCell ⟨n, 0, none⟩ v).setCell ⟨n + 1, 0, none⟩ (.bool b)) :=
  (hb.setCell (p := ⟨n, 0, none⟩) hn v).setCell (p := ⟨n + 1, 0, none⟩) (by show n₀ ≤ n + 1; omega) _
set_option maxHeartbeats 2000000 in
theorem iSC_no (x y z : Option Addr) (c1 c2 c3 : Nat) (S : List (ByteArray × Int)) (Q : List PR) (V : List Int) (w : World) (hno : scG S (eM Q) V = false) (hS : SIn w x c1 S) (hQ : EIn w y Q) (hV : IIn w z V) :
    Calls Try.prog 50 #[.slice x S.length c1, .slice y Q.length c2, .slice z V.length c3] w fun e w' => e = .returned (.tuple #[.slice none 0 0, .bool false]) ∧ Below w.heap.size w w' := by
  have hSh := Lib.hid hS
  have hQh := Lib.hid hQ
  have hVh := Lib.hid hV
  have hm := hS.1
  have hnh := Lib.hid hno
  have hbx := Lib.hid (Boxed.new w 23 (.slice z V.length c3))
  clear hS hQ hV hno
  go_enter Try.func50, Try.ntmps50
  go_wp2_with fail
  refine (isSmall_any _ _ _ _ (hSh.out.below (by exact (by repeat (first | exact Below.refl _ _ | assumption | refine Below.drew ?_ | refine below_drewN ?_ _ | refine Below.alloc' ?_ _ | (refine Below.setCell ?_ (by first | omega | (simp; done) | (simp; omega) | exact Below.size (by assumption) | exact Nat.le_trans (Below.size (by assumption)) (by simp)) _) | (refine Below.via' ?_ (by assumption)) | (refine Below.alloc ?_ (by first | omega | (simp; done) | (simp; omega) | exact Below.size (by assumption) | exact Nat.le_trans (Below.size (by assumption)) (by simp)) _) | (refine Below.via ?_ (by assumption) (by first | omega | (simp; done) | (simp; omega) | exact Below.size (by assumption) | exact Nat.le_trans (Below.size (by assumption)) (by simp)))))))).mono ?_
  rintro e w1 ⟨rfl, hb1⟩
  cases hs : smS S
  · go_wp2
    go_ret2
    exact ⟨rfl, (by repeat (first | exact Below.refl _ _ | assumption | refine Below.drew ?_ | refine below_drewN ?_ _ | refine Below.alloc' ?_ _ | (refine Below.setCell ?_ (by first | omega | (simp; done) | (simp; omega) | exact Below.size (by assumption) | exact Nat.le_trans (Below.size (by assumption)) (by simp)) _) | (refine Below.via' ?_ (by assumption)) | (refine Below.alloc ?_ (by first | omega | (simp; done) | (simp; omega) | exact Below.size (by assumption) | exact Nat.le_trans (Below.size (by assumption)) (by simp)) _) | (refine Below.via ?_ (by assumption) (by first | omega | (simp; done) | (simp; omega) | exact Below.size (by assumption) | exact Nat.le_trans (Below.size (by assumption)) (by simp)))))⟩
  have hsh := Lib.hid hs
  have hsc := Lib.hid (smS_get hs).1
  clear hs
  have hx1 := Lib.hid (boxed_below hbx.out hb1)
  go_wp2_with fail
  refine (areEditsFor_any _ _ _ _ S Q _ hsc.out hm (hSh.out.rd.below (by exact (by repeat (first | exact Below.refl _ _ | assumption | refine Below.drew ?_ | refine below_drewN ?_ _ | refine Below.alloc' ?_ _ | (refine Below.setCell ?_ (by first | omega | (simp; done) | (simp; omega) | exact Below.size (by assumption) | exact Nat.le_trans (Below.size (by assumption)) (by simp)) _) | (refine Below.via' ?_ (by assumption)) | (refine Below.alloc ?_ (by first | omega | (simp; done) | (simp; omega) | exact Below.size (by assumption) | exact Nat.le_trans (Below.size (by assumption)) (by simp)) _) | (refine Below.via ?_ (by assumption) (by first | omega | (simp; done) | (simp; omega) | exact Below.size (by assumption) | exact Nat.le_trans (Below.size (by assumption)) (by simp))))))) (hQh.out.below (by exact (by repeat (first | exact Below.refl _ _ | assumption | refine Below.drew ?_ | refine below_drewN ?_ _ | refine Below.alloc' ?_ _ | (refine Below.setCell ?_ (by first | omega | (simp; done) | (simp; omega) | exact Below.size (by assumption) | exact Nat.le_trans (Below.size (by assumption)) (by simp)) _) | (refine Below.via' ?_ (by assumption)) | (refine Below.alloc ?_ (by first | omega | (simp; done) | (simp; omega) | exact Below.size (by assumption) | exact Nat.le_trans (Below.size (by assumption)) (by simp)) _) | (refine Below.via ?_ (by assumption) (by first | omega | (simp; done) | (simp; omega) | exact Below.size (by assumption) | exact Nat.le_trans (Below.size (by assumption)) (by simp)))))))).mono ?_
  rintro e w2 ⟨rfl, hb2⟩
  cases he : elB S (eM Q)
  · go_wp2
    go_ret2
    exact ⟨rfl, (by repeat (first | exact Below.refl _ _ | assumption | refine Below.drew ?_ | refine below_drewN ?_ _ | refine Below.alloc' ?_ _ | (refine Below.setCell ?_ (by first | omega | (simp; done) | (simp; omega) | exact Below.size (by assumption) | exact Nat.le_trans (Below.size (by assumption)) (by simp)) _) | (refine Below.via' ?_ (by assumption)) | (refine Below.alloc ?_ (by first | omega | (simp; done) | (simp; omega) | exact Below.size (by assumption) | exact Nat.le_trans (Below.size (by assumption)) (by simp)) _) | (refine Below.via ?_ (by assumption) (by first | omega | (simp; done) | (simp; omega) | exact Below.size (by assumption) | exact Nat.le_trans (Below.size (by assumption)) (by simp)))))⟩
  have hsm := Lib.hid (sm_both hsh.out he)
  have hx2 := (boxed_below hx1.out hb2).cell
  clear he
  go_wp2_with fail
  refine (areValues_any _ _ _ _ S V _ hsc.out hm (hSh.out.rd.below (by exact (by repeat (first | exact Below.refl _ _ | assumption | refine Below.drew ?_ | refine below_drewN ?_ _ | refine Below.alloc' ?_ _ | (refine Below.setCell ?_ (by first | omega | (simp; done) | (simp; omega) | exact Below.size (by assumption) | exact Nat.le_trans (Below.size (by assumption)) (by simp)) _) | (refine Below.via' ?_ (by assumption)) | (refine Below.alloc ?_ (by first | omega | (simp; done) | (simp; omega) | exact Below.size (by assumption) | exact Nat.le_trans (Below.size (by assumption)) (by simp)) _) | (refine Below.via ?_ (by assumption) (by first | omega | (simp; done) | (simp; omega) | exact Below.size (by assumption) | exact Nat.le_trans (Below.size (by assumption)) (by simp))))))) (hVh.out.below (by exact (by repeat (first | exact Below.refl _ _ | assumption | refine Below.drew ?_ | refine below_drewN ?_ _ | refine Below.alloc' ?_ _ | (refine Below.setCell ?_ (by first | omega | (simp; done) | (simp; omega) | exact Below.size (by assumption) | exact Nat.le_trans (Below.size (by assumption)) (by simp)) _) | (refine Below.via' ?_ (by assumption)) | (refine Below.alloc ?_ (by first | omega | (simp; done) | (simp; omega) | exact Below.size (by assumption) | exact Nat.le_trans (Below.size (by assumption)) (by simp)) _) | (refine Below.via ?_ (by assumption) (by first | omega | (simp; done) | (simp; omega) | exact Below.size (by assumption) | exact Nat.le_trans (Below.size (by assumption)) (by simp)))))))).mono ?_
  rintro e w3 ⟨rfl, hb3⟩
  cases hf : fitB S V
  · go_wp2
    go_ret2
    exact ⟨rfl, (by repeat (first | exact Below.refl _ _ | assumption | refine Below.drew ?_ | refine below_drewN ?_ _ | refine Below.alloc' ?_ _ | (refine Below.setCell ?_ (by first | omega | (simp; done) | (simp; omega) | exact Below.size (by assumption) | exact Nat.le_trans (Below.size (by assumption)) (by simp)) _) | (refine Below.via' ?_ (by assumption)) | (refine Below.alloc ?_ (by first | omega | (simp; done) | (simp; omega) | exact Below.size (by assumption) | exact Nat.le_trans (Below.size (by assumption)) (by simp)) _) | (refine Below.via ?_ (by assumption) (by first | omega | (simp; done) | (simp; omega) | exact Below.size (by assumption) | exact Nat.le_trans (Below.size (by assumption)) (by simp)))))⟩
  · have := hnh.out
    unfold scG at this
    rw [hsm.out, hf] at this
    cases this
set_option maxHeartbeats 8000000 in
theorem iSC_yes (x y z : Option Addr) (c1 c2 c3 : Nat) (S : List (ByteArray × Int)) (Q : List PR) (V : List Int) (w : World) (hok : scG S (eM Q) V = true) (hS : SIn w x c1 S) (hQ : EIn w y Q) (hV : IIn w z V) :
    Calls Try.prog 50 #[.slice x S.length c1, .slice y Q.length c2, .slice z V.length c3] w (RetLB (eIf (scB S (eM Q) V) (scL S (eM Q) V)) (scB S (eM Q) V) w) := by
  have hSh := Lib.hid hS
  have hQh := Lib.hid hQ
  have hVh := Lib.hid hV
  have hm := hS.1
  have hgg : smB S (eM Q) = true ∧ fitB S V = true := by unfold scG at hok; rwa [Bool.and_eq_true] at hok
  have hfit := Lib.hid hgg.2
  have heh := Lib.hid (sm_get hgg.1).1
  have hsh := Lib.hid (el_get (sm_get hgg.1).1).1
  have hss := Lib.hid (smS_yes (el_get (sm_get hgg.1).1).1 (sm_get hgg.1).2)
  have hscB := Lib.hid (scB_yes hok)
  have hvl := Lib.hid (fit_len hgg.2)
  have hl6 := (schB_len hsh.out).2
  obtain ⟨n1, n2⟩ := cn_all hsh.out
  obtain ⟨N, hN⟩ : ∃ N : Nat, cnZ S = (N : Int) := ⟨(cnZ S).toNat, by omega⟩
  have hN2 : N ≤ 262144 := by omega
  have hNh := Lib.hid hN
  have hbx := Lib.hid (Boxed.new w 23 (.slice z V.length c3))
  clear hS hQ hV hok hgg hN n1 n2
  refine (callsIn_wide (n := 5)).1 ?_
  refine callsIn_of_wp_marks Try.func50 rfl trivial ?_ rfl
  simp only [Try.ntmps50, List.size_toArray, List.length_cons, List.length_nil, Nat.reduceAdd, Nat.reduceSub, Array.replicate_succ, Array.replicate_zero, List.push_toArray, List.append_toArray, List.nil_append, List.cons_append]
  refine wpIn_wide.2 ?_
  go_wp2_with fail
  refine (isSmall_any _ _ _ _ (hSh.out.below (by exact (by repeat (first | exact Below.refl _ _ | assumption | refine Below.drew ?_ | refine below_drewN ?_ _ | refine Below.alloc' ?_ _ | (refine Below.setCell ?_ (by first | omega | (simp; done) | (simp; omega) | exact Below.size (by assumption) | exact Nat.le_trans (Below.size (by assumption)) (by simp)) _) | (refine Below.via' ?_ (by assumption)) | (refine Below.alloc ?_ (by first | omega | (simp; done) | (simp; omega) | exact Below.size (by assumption) | exact Nat.le_trans (Below.size (by assumption)) (by simp)) _) | (refine Below.via ?_ (by assumption) (by first | omega | (simp; done) | (simp; omega) | exact Below.size (by assumption) | exact Nat.le_trans (Below.size (by assumption)) (by simp)))))))).mono ?_
  rintro e w1 ⟨rfl, hb1⟩
  rw [hss.out]
  have hx1 := Lib.hid (boxed_below hbx.out hb1)
  have hB1 : Below w.heap.size w w1 := (by repeat (first | exact Below.refl _ _ | assumption | refine Below.drew ?_ | refine below_drewN ?_ _ | refine Below.alloc' ?_ _ | (refine Below.setCell ?_ (by first | omega | (simp; done) | (simp; omega) | exact Below.size (by assumption) | exact Nat.le_trans (Below.size (by assumption)) (by simp)) _) | (refine Below.via' ?_ (by assumption)) | (refine Below.alloc ?_ (by first | omega | (simp; done) | (simp; omega) | exact Below.size (by assumption) | exact Nat.le_trans (Below.size (by assumption)) (by simp)) _) | (refine Below.via ?_ (by assumption) (by first | omega | (simp; done) | (simp; omega) | exact Below.size (by assumption) | exact Nat.le_trans (Below.size (by assumption)) (by simp)))))
  clear hb1
  go_wp2_with fail
  refine (areEditsFor_any _ _ _ _ S Q _ hsh.out hm (hSh.out.rd.below (by exact (by repeat (first | exact Below.refl _ _ | assumption | refine Below.drew ?_ | refine below_drewN ?_ _ | refine Below.alloc' ?_ _ | (refine Below.setCell ?_ (by first | omega | (simp; done) | (simp; omega) | exact Below.size (by assumption) | exact Nat.le_trans (Below.size (by assumption)) (by simp)) _) | (refine Below.via' ?_ (by assumption)) | (refine Below.alloc ?_ (by first | omega | (simp; done) | (simp; omega) | exact Below.size (by assumption) | exact Nat.le_trans (Below.size (by assumption)) (by simp)) _) | (refine Below.via ?_ (by assumption) (by first | omega | (simp; done) | (simp; omega) | exact Below.size (by assumption) | exact Nat.le_trans (Below.size (by assumption)) (by simp))))))) (hQh.out.below (by exact (by repeat (first | exact Below.refl _ _ | assumption | refine Below.drew ?_ | refine below_drewN ?_ _ | refine Below.alloc' ?_ _ | (refine Below.setCell ?_ (by first | omega | (simp; done) | (simp; omega) | exact Below.size (by assumption) | exact Nat.le_trans (Below.size (by assumption)) (by simp)) _) | (refine Below.via' ?_ (by assumption)) | (refine Below.alloc ?_ (by first | omega | (simp; done) | (simp; omega) | exact Below.size (by assumption) | exact Nat.le_trans (Below.size (by assumption)) (by simp)) _) | (refine Below.via ?_ (by assumption) (by first | omega | (simp; done) | (simp; omega) | exact Below.size (by assumption) | exact Nat.le_trans (Below.size (by assumption)) (by simp)))))))).mono ?_
  rintro e w2 ⟨rfl, hb2⟩
  rw [heh.out]
  have hx2h := Lib.hid (boxed_below hx1.out hb2)
  have hx2 := hx2h.out.cell
  have hB2 : Below w.heap.size w w2 := (by repeat (first | exact Below.refl _ _ | assumption | refine Below.drew ?_ | refine below_drewN ?_ _ | refine Below.alloc' ?_ _ | (refine Below.setCell ?_ (by first | omega | (simp; done) | (simp; omega) | exact Below.size (by assumption) | exact Nat.le_trans (Below.size (by assumption)) (by simp)) _) | (refine Below.via' ?_ (by assumption)) | (refine Below.alloc ?_ (by first | omega | (simp; done) | (simp; omega) | exact Below.size (by assumption) | exact Nat.le_trans (Below.size (by assumption)) (by simp)) _) | (refine Below.via ?_ (by assumption) (by first | omega | (simp; done) | (simp; omega) | exact Below.size (by assumption) | exact Nat.le_trans (Below.size (by assumption)) (by simp)))))
  clear hb2 hB1
  go_wp2_with fail
  refine (areValues_any _ _ _ _ S V _ hsh.out hm (hSh.out.rd.below (by exact (by repeat (first | exact Below.refl _ _ | assumption | refine Below.drew ?_ | refine below_drewN ?_ _ | refine Below.alloc' ?_ _ | (refine Below.setCell ?_ (by first | omega | (simp; done) | (simp; omega) | exact Below.size (by assumption) | exact Nat.le_trans (Below.size (by assumption)) (by simp)) _) | (refine Below.via' ?_ (by assumption)) | (refine Below.alloc ?_ (by first | omega | (simp; done) | (simp; omega) | exact Below.size (by assumption) | exact Nat.le_trans (Below.size (by assumption)) (by simp)) _) | (refine Below.via ?_ (by assumption) (by first | omega | (simp; done) | (simp; omega) | exact Below.size (by assumption) | exact Nat.le_trans (Below.size (by assumption)) (by simp))))))) (hVh.out.below (by exact (by repeat (first | exact Below.refl _ _ | assumption | refine Below.drew ?_ | refine below_drewN ?_ _ | refine Below.alloc' ?_ _ | (refine Below.setCell ?_ (by first | omega | (simp; done) | (simp; omega) | exact Below.size (by assumption) | exact Nat.le_trans (Below.size (by assumption)) (by simp)) _) | (refine Below.via' ?_ (by assumption)) | (refine Below.alloc ?_ (by first | omega | (simp; done) | (simp; omega) | exact Below.size (by assumption) | exact Nat.le_trans (Below.size (by assumption)) (by simp)) _) | (refine Below.via ?_ (by assumption) (by first | omega | (simp; done) | (simp; omega) | exact Below.size (by assumption) | exact Nat.le_trans (Below.size (by assumption)) (by simp)))))))).mono ?_
  rintro e w3 ⟨rfl, hb3⟩
  rw [hfit.out]
  have hx3 := Lib.hid (boxed_below hx2h.out hb3)
  have hB3 : Below w.heap.size w w3 := (by repeat (first | exact Below.refl _ _ | assumption | refine Below.drew ?_ | refine below_drewN ?_ _ | refine Below.alloc' ?_ _ | (refine Below.setCell ?_ (by first | omega | (simp; done) | (simp; omega) | exact Below.size (by assumption) | exact Nat.le_trans (Below.size (by assumption)) (by simp)) _) | (refine Below.via' ?_ (by assumption)) | (refine Below.alloc ?_ (by first | omega | (simp; done) | (simp; omega) | exact Below.size (by assumption) | exact Nat.le_trans (Below.size (by assumption)) (by simp)) _) | (refine Below.via ?_ (by assumption) (by first | omega | (simp; done) | (simp; omega) | exact Below.size (by assumption) | exact Nat.le_trans (Below.size (by assumption)) (by simp)))))
  clear hb3 hB2 hx2
  go_wp2_with fail
  refine (passingValues_any _ _ _ _ _ _ _).mono ?_
  rintro e w4 ⟨rfl, rfl⟩
  have hr := (resT_new 23 (.slice none 0 0) w3)
  have hrA : ResT 23 w3.heap.size (.slice none 0 0) false ((((w3.alloc (.cells #[.slice none 0 0] 23)).alloc (.cells #[.bool false] 4)).alloc (.cells #[.slice x S.length c1] 31)).alloc (.cells #[.slice y Q.length c2] 43)) := ⟨(hr.1.alloc _).alloc _, (hr.2.alloc _).alloc _⟩
  have bS := (Boxed.new ((w3.alloc (.cells #[.slice none 0 0] 23)).alloc (.cells #[.bool false] 4)) 31 (.slice x S.length c1)).alloc (.cells #[.slice y Q.length c2] 43)
  have bQ := Boxed.new (((w3.alloc (.cells #[.slice none 0 0] 23)).alloc (.cells #[.bool false] 4)).alloc (.cells #[.slice x S.length c1] 31)) 43 (.slice y Q.length c2)
  have bV := (((hx3.out.alloc (.cells #[.slice none 0 0] 23)).alloc (.cells #[.bool false] 4)).alloc (.cells #[.slice x S.length c1] 31)).alloc (.cells #[.slice y Q.length c2] 43)
  simp only [World.size_alloc] at bS bQ ⊢
  have hB0 : Below w.heap.size w ((((w3.alloc (.cells #[.slice none 0 0] 23)).alloc (.cells #[.bool false] 4)).alloc (.cells #[.slice x S.length c1] 31)).alloc (.cells #[.slice y Q.length c2] 43)) := (by repeat (first | exact Below.refl _ _ | assumption | refine Below.drew ?_ | refine below_drewN ?_ _ | refine Below.alloc' ?_ _ | (refine Below.setCell ?_ (by first | omega | (simp; done) | (simp; omega) | exact Below.size (by assumption) | exact Nat.le_trans (Below.size (by assumption)) (by simp)) _) | (refine Below.via' ?_ (by assumption)) | (refine Below.alloc ?_ (by first | omega | (simp; done) | (simp; omega) | exact Below.size (by assumption) | exact Nat.le_trans (Below.size (by assumption)) (by simp)) _) | (refine Below.via ?_ (by assumption) (by first | omega | (simp; done) | (simp; omega) | exact Below.size (by assumption) | exact Nat.le_trans (Below.size (by assumption)) (by simp)))))
  have hsz : ((((w3.alloc (.cells #[.slice none 0 0] 23)).alloc (.cells #[.bool false] 4)).alloc (.cells #[.slice x S.length c1] 31)).alloc (.cells #[.slice y Q.length c2] 43)).heap.size = w3.heap.size + 4 := by simp
  have hw3 := hB3.size
  have hxlt := hx3.out.lt
  obtain ⟨W0, hW0⟩ : ∃ W0, (((w3.alloc (.cells #[.slice none 0 0] 23)).alloc (.cells #[.bool false] 4)).alloc (.cells #[.slice x S.length c1] 31)).alloc (.cells #[.slice y Q.length c2] 43) = W0 := ⟨_, rfl⟩
  rw [hW0] at bS bQ bV hrA hB0 hsz ⊢
  have hit := Lib.hid (pv_rows 4 (by omega) (w3.heap.size + 1 + 1) (w3.heap.size + 1 + 1 + 1) w3.heap.size w.heap.size x y c1 c2 S Q w W0 heh.out hSh.out hQh.out hw3 N hNh.out hN2 hB0 (by omega) bS bQ)
  clear hW0 bS bQ hr hx3 hx2h hx1 hbx
  go_wp2
  refine (wpIn_wide (n := 5)).1 ?_
  refine range_rows (by omega) (gf := 136) (lb := #[.pointer (some ⟨w3.heap.size + 1 + 1, 0, none⟩), .pointer (some ⟨w3.heap.size + 1 + 1 + 1, 0, none⟩)]) rfl (enters_of Try.func136 (by kernel_rfl) rfl) rfl
    (fun q : PR => q.v) (Kp2 w3.heap.size (w3.heap.size + 1 + 1) (w3.heap.size + 1 + 1 + 1)) (PsR S (eM Q) w.heap.size N) (fun ys => eM ys = psL S (eM Q) N) hit.out (Below.refl _ _)
    (fun _ _ _ h k => ⟨h.1.trans k.1, k.2.1.trans h.2.1, k.2.2.trans h.2.2⟩) (fun _ X l o o' hl hlo hc hw => ⟨belowK_b (w := W0) (by omega) X l o o' hl hlo hc hw, World.putObj_heap_other (by intro e; omega), World.putObj_heap_other (by intro e; omega)⟩)
    (fun pre X => (((∃ b, ResT 23 w3.heap.size b (bsO V pre).isSome X ∧ X.ownsRow w.heap.size 3 1 b ((bsO V pre).getD []).length (iC ((bsO V pre).getD []))) ∧ Boxed X w.heap.size 23 (.slice z V.length c3)) ∧ Below w.heap.size w X) ∧ W0.heap.size ≤ X.heap.size)
    (fun _ _ => False)
    (OwnFrom.and (OwnFrom.and (OwnFrom.and (fun pre A B row hs hgr hr => by obtain ⟨b, h1, h2⟩ := hs; exact ⟨b, resT_own 23 w3.heap.size (fun _ : Unit => b) _ () A B row h1 hgr (fun r e => (hr r e).2), own_cells h2 hgr (fun r e => (hr r e).2)⟩) (Own.from (boxed_own w.heap.size 23 (fun _ => .slice z V.length c3)) _)) (ownFrom_below (Nat.le_refl _) (by omega))) (fun _ A B row hs hgr _ => Nat.le_trans hs hgr.size))
    (fun _ _ _ _ hs _ _ => hs)
    ⟨⟨⟨⟨_, hrA, World.ownsRow_nil _ _ _ _⟩, bV⟩, hB0⟩, Nat.le_refl _⟩
    (fun pre q a' X => (a' = { tmps := #[.slice x S.length c1, .slice y Q.length c2, .slice z V.length c3, undef, undef, .pointer (some ⟨w.heap.size, 0, none⟩), .slice none 0 0, .bool false, .pointer (some ⟨w3.heap.size, 0, none⟩), .pointer (some ⟨w3.heap.size + 1, 0, none⟩), q.v, undef, .slice x S.length c1, .bool true, .bool false, .bool false, .slice x S.length c1, .slice y Q.length c2, .bool true, .bool false, .bool false, .bool false, .slice x S.length c1, .slice z V.length c3, .bool true, .bool false, .bool false, .slice x S.length c1, .slice y Q.length c2, .func (.func 136) #[] #[.pointer (some ⟨w3.heap.size + 1 + 1, 0, none⟩), .pointer (some ⟨w3.heap.size + 1 + 1 + 1, 0, none⟩)], q.v, undef, undef, undef, undef, undef, undef, undef, undef, undef, undef, undef, undef, undef, undef], defers := [] } ∧ ∃ k : Nat, q.L = atL S k) ∧ X.ownsRow w.heap.size 3 1 q.v q.L.length (iC q.L))
    (fun pre q a' _ A B row hs hgr hr => ⟨hs.1, own_cells hs.2 hgr (fun r e => (hr r e).2)⟩)
    ?assign ?body ?done ?stop
  case assign =>
    rintro l pre q X K hI ⟨⟨k, hk, _, _, hq⟩, hrow⟩ hK
    have hKh := Lib.hid hK
    have hIh := Lib.hid hI
    have hrh := Lib.hid hrow
    clear hK hI hrow
    gi_wp2
    exact hKh.out _ _ (KeepsFrom.refl _ X) (fun _ => ⟨Below.refl _ _, rfl, rfl⟩) hIh.out ⟨⟨by first | rfl | simp, k, hq⟩, hrh.out⟩
  case body =>
    rintro l pre ⟨qa, qh, qx, qc, qL⟩ a' X hl ⟨r, hr⟩ ⟨⟨⟨⟨b, hres, hbest⟩, hbv⟩, hBX⟩, hXW⟩ ⟨⟨rfl, k, hq⟩, hrow⟩
    dsimp only [PR.v] at hrow hq ⊢
    subst hq
    have hXs := hBX.size
    have hal := Lib.hid (atL_len S (k : Int))
    have hin := Lib.hid (atL_iin (S := S) hsh.out (show (0 : Int) ≤ (k : Int) by omega) (Rd.of_own hrow))
    have p1 := hbv.cell
    have hdf := Lib.hid (differing_any z qx c3 qc V (atL S (k : Int)) X (by rw [hvl.out, hal.out]) (by rw [hvl.out]; omega) (hVh.out.below hBX) hin.out)
    have hsn := Lib.hid (bs_snoc V pre ⟨qa, qh, qx, qc, atL S (k : Int)⟩)
    have hresh := Lib.hid hres
    have hbesth := Lib.hid hbest
    have hbvh := Lib.hid hbv
    have hl0 := hbv.lt
    have hl1 := hres.1.lt
    have hl2 := hres.2.lt
    clear hres hbest hbv hrow
    gi_wp2_with fail
    refine ⟨trivial, ?_⟩
    refine (CallsIn.inRound l (callsIn_wide.2 hdf.out)).mono ?_
    rintro e X2 ⟨u2, rfl, ho2, hb2⟩
    obtain ⟨x2, n2, rfl, -, -⟩ := (OwR.of ho2).form
    have own2 := Lib.hid (own_more ho2 hXs)
    have best2 := Lib.hid (own_below hbesth.out hb2)
    have res2 := Lib.hid (hresh.out.below hb2)
    have bv2 := Lib.hid (boxed_below hbvh.out hb2)
    have hB2 : Below w.heap.size w X2 := hBX.trans (hb2.mono hXs)
    have hk2 : KeepsFrom W0.heap.size X X2 := KeepsFrom.of_grownBy (grown_belowE hb2) (by intro j hj; cases hj)
    have hs2 := hb2.size
    have hbw2 : Below w3.heap.size X X2 := hb2.mono (by omega)
    have hk21 := hb2.block (w3.heap.size + 1 + 1) (by omega)
    have hk22 := hb2.block (w3.heap.size + 1 + 1 + 1) (by omega)
    clear ho2 hbesth hresh hbvh hdf
    have c1 := res2.out.1.cell
    have f1 := res2.out.1.frozen
    have c2 := res2.out.2.cell
    have f2 := res2.out.2.frozen
    cases hbo : bsO V pre with
    | none =>
      rw [hbo] at c2
      have hnx : Hid (bsO V (pre ++ [⟨qa, qh, qx, qc, atL S (k : Int)⟩]) = some (dvL V (atL S (k : Int)))) := by unfold Hid; rw [hsn.out, hbo]; rfl
      replace hbo := Lib.hid hbo
      gi_wp2
      refine ⟨trivial, ?_⟩
      gi_wp2
      refine rowPost_on (hk2.trans (((KeepsOthers.setCell _ _ _).from _).trans ((KeepsOthers.setCell _ _ _).from _))) ⟨two_to hbw2 (Nat.le_refl _), (two_block _ _ (by omega) (by omega)).trans hk21, (two_block _ _ (by omega) (by omega)).trans hk22⟩ ⟨⟨⟨⟨.slice x2 (dvL V (atL S (k : Int))).length n2, ?_, ?_⟩, ?_⟩, ?_⟩, ?_⟩
      · rw [hnx.out]; exact res2.out.set
      · rw [hnx.out]; exact two_set own2.out res2.out (by decide)
      · exact (two_block _ _ (by omega) (by omega)).trans bv2.out
      · exact two_to hB2 (by omega)
      · simp; omega
    | some bb =>
      rw [hbo] at c2
      obtain ⟨xx, hxx⟩ := bs_mem hbo
      have hgd : Hid ((bsO V pre).getD [] = bb) := by unfold Hid; rw [hbo]; rfl
      have best3 := best2.out
      rw [hgd.out] at best3
      obtain ⟨xb, cb, rfl, -, -⟩ := (OwR.of best3).form
      have hinb := Lib.hid (show IIn X2 xb bb by subst hxx; exact pk_iinW (by rw [hvl.out]; omega) (Rd.of_own best3))
      have hinc := Lib.hid (show IIn X2 x2 (dvL V (atL S (k : Int))) from pk_iinW (by rw [hvl.out]; omega) (Rd.of_own own2.out))
      have hcc := Lib.hid (compareCovers_any x2 xb n2 cb (dvL V (atL S (k : Int))) bb X2 hinc.out hinb.out)
      have best3h := Lib.hid best3
      replace hxx := Lib.hid hxx
      replace hbo := Lib.hid hbo
      clear best3
      gi_wp2_with fail
      refine ⟨trivial, ?_⟩
      refine (CallsIn.inRound l (callsIn_wide.2 hcc.out)).mono ?_
      rintro e X3 ⟨rfl, hb3⟩
      have own3 := Lib.hid (own_below own2.out hb3)
      have best4 := Lib.hid (own_below best3h.out hb3)
      have res3 := Lib.hid (res2.out.below hb3)
      have bv3 := Lib.hid (boxed_below bv2.out hb3)
      have hB3x : Below w.heap.size w X3 := hB2.trans (hb3.mono (by omega))
      have hk3 : KeepsFrom W0.heap.size X X3 := hk2.trans (KeepsFrom.of_grownBy (grown_belowE hb3) (by intro j hj; cases hj))
      have hs3 := hb3.size
      have hbw3 : Below w3.heap.size X X3 := hbw2.trans (hb3.mono (by omega))
      have hk31 := (hb3.block (w3.heap.size + 1 + 1) (by omega)).trans hk21
      have hk32 := (hb3.block (w3.heap.size + 1 + 1 + 1) (by omega)).trans hk22
      clear c1 f1 c2 f2 own2 res2 bv2 best3h
      have c1 := res3.out.1.cell
      have f1 := res3.out.1.frozen
      have c2 := res3.out.2.cell
      have f2 := res3.out.2.frozen
      by_cases hlt : csZ (dvL V (atL S (k : Int))) bb < 0
      · have hnx : Hid (bsO V (pre ++ [⟨qa, qh, qx, qc, atL S (k : Int)⟩]) = some (dvL V (atL S (k : Int)))) := by unfold Hid; rw [hsn.out, hbo.out, mnS_yes hlt]
        gi_wp2
        refine rowPost_on (hk3.trans (((KeepsOthers.setCell _ _ _).from _).trans ((KeepsOthers.setCell _ _ _).from _))) ⟨two_to hbw3 (Nat.le_refl _), (two_block _ _ (by omega) (by omega)).trans hk31, (two_block _ _ (by omega) (by omega)).trans hk32⟩ ⟨⟨⟨⟨.slice x2 (dvL V (atL S (k : Int))).length n2, ?_, ?_⟩, ?_⟩, ?_⟩, ?_⟩
        · rw [hnx.out]; exact res3.out.set
        · rw [hnx.out]; exact two_set own3.out res3.out (by decide)
        · exact (two_block _ _ (by omega) (by omega)).trans bv3.out
        · exact two_to hB3x (by omega)
        · simp; omega
      · have hnx : Hid (bsO V (pre ++ [⟨qa, qh, qx, qc, atL S (k : Int)⟩]) = some bb) := by unfold Hid; rw [hsn.out, hbo.out, mnS_no hlt]
        have hsome : (bsO V pre).isSome = true := by rw [hbo.out]; rfl
        gi_wp2
        refine rowPost_on hk3 ⟨hbw3, hk31, hk32⟩ ⟨⟨⟨⟨.slice xb bb.length cb, ?_, ?_⟩, bv3.out⟩, hB3x⟩, by omega⟩
        · rw [hnx.out]; have h0 := res3.out; rw [hsome] at h0; exact h0
        · rw [hnx.out]; exact best4.out
  case done =>
    rintro ys X hSy ⟨⟨⟨⟨b, hres, hbest⟩, hbv⟩, hBX⟩, hXW⟩ hK
    have c1 := hres.1.cell
    have c2 := hres.2.cell
    have ho : Hid (scO S (eM Q) V = bsO V ys) := by unfold Hid scO; rw [bs_all hSy, show (cnZ S).toNat = N by have := hNh.out; omega]
    have hd : Hid ((bsO V ys).isSome = scB S (eM Q) V) := by unfold Hid; rw [hscB.out, ho.out]
    have hL : Hid (eIf (scB S (eM Q) V) (scL S (eM Q) V) = (bsO V ys).getD []) := by unfold Hid; rw [scL_eq _ hscB.out]; unfold scL; rw [ho.out]
    have hbesth := Lib.hid hbest
    have hKh := Lib.hid hK
    clear hres hbest hbv hSy hK
    go_wp2
    first | go_quiet (fail) | go_region
    all_goals
      go_wp2
      refine ⟨by simp, .inl ⟨_, _, rfl, run_takeDeferred hKh.out, ?_⟩⟩
      refine ⟨.tuple #[b, .bool (bsO V ys).isSome], by simp [results, Try.results50, go_sem], ?_⟩
      refine retLB_dec hd.out ?_ ((below_drewN hBX _).trans (belowK_b (w := w) (Nat.le_refl _) _ W0.heap.size _ _ (by omega) hKh.out rfl rfl))
      rw [hL.out]
      exact ownsRow_putObj hbesth.out _ hKh.out rfl
  case stop =>
    rintro pre X h _
    exact h.elim
theorem iSC_m (x y z : Option Addr) (c1 c2 c3 : Nat) (S : List (ByteArray × Int)) (Q : List PR) (V : List Int) (w : World) (hS : SIn w x c1 S) (hQ : EIn w y Q) (hV : IIn w z V) (M : List (List Int)) (hM : eM Q = M) :
    Calls Try.prog 50 #[.slice x S.length c1, .slice y Q.length c2, .slice z V.length c3] w (RetLB (eIf (scB S M V) (scL S M V)) (scB S M V) w) := by
  subst hM
  cases h : scG S (eM Q) V
  · refine (iSC_no x y z c1 c2 c3 S Q V w h hS hQ hV).mono ?_
    rintro e w' ⟨rfl, hb⟩
    exact retLB_no (by unfold scB; rw [h]; rfl) hb
  · exact iSC_yes x y z c1 c2 c3 S Q V w h hS hQ hV
end
end Go.Proofs.Ytfaobfgckfjnjaa
