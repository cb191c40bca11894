/-
  Reading back a fraction.
-/
import Derived.Test.YtbglogaljjfnnabDoorSchP
import Derived.Test.YtbglogaljjfnnabDoorTextB
namespace Go.Proofs.YtbglogaljjfnnabDoor
open Go.RowKit
set_option maxRecDepth 100000

/-- The model's digits: the number, or -1. -/
def dgC (l : List UInt8) : Bool := decide (1 ≤ l.length) && decide (l.length ≤ 10) && l.all dgB
def dgZ (s : ByteArray) : Int := if dgC (nmL s) then (dgV (nmL s) : Nat) else -1
theorem dg_size {s : ByteArray} (h : inB s.size 1 10 = false) : dgZ s = -1 := by
  unfold dgZ
  have : dgC (nmL s) = false := by
    cases hb : dgC (nmL s) with
    | false => rfl
    | true =>
      unfold dgC at hb
      simp only [Bool.and_eq_true, decide_eq_true_eq, nmL_len] at hb
      rw [(inB_iff _ _ _).2 (by omega)] at h
      cases h
  rw [this]
  rfl
theorem dg_bad {s : ByteArray} {k : Nat} (h : k < s.size) (hc : dgB s[k] = false) : dgZ s = -1 := by
  unfold dgZ
  have : dgC (nmL s) = false := by
    unfold dgC
    have : (nmL s).all dgB = false := by
      rw [List.all_eq_false]
      exact ⟨s[k], List.mem_of_getElem? (nmL_at s h), by rw [hc]; exact Bool.false_ne_true⟩
    rw [this, Bool.and_false]
  rw [this]
  rfl
theorem dg_good {s : ByteArray} (h : inB s.size 1 10 = true) (h2 : ∀ c ∈ nmL s, dgB c = true) : dgZ s = (dgV (nmL s) : Nat) := by
  unfold dgZ
  have : dgC (nmL s) = true := by
    unfold dgC
    have h3 := (inB_iff _ _ _).1 h
    simp only [Bool.and_eq_true, decide_eq_true_eq, nmL_len, List.all_eq_true]
    exact ⟨by omega, h2⟩
  rw [this]
  rfl
theorem dgZ_bd (s : ByteArray) : -1 ≤ dgZ s ∧ dgZ s < 10000000000 := by
  unfold dgZ
  cases h : dgC (nmL s) with
  | false => simp
  | true =>
    unfold dgC at h
    simp only [Bool.and_eq_true, decide_eq_true_eq, List.all_eq_true] at h
    have := dgV_lt (nmL s).length (nmL s) rfl h.2
    have h6 : 10 ^ (nmL s).length ≤ 10 ^ 10 := Nat.pow_le_pow_right (by omega) h.1.2
    have h7 : 10 ^ 10 = 10000000000 := rfl
    simp only [if_true]
    omega
set_option maxHeartbeats 2000000 in
theorem fDigits_any (s : ByteArray) (w : World) (hm : s.size ≤ 1048576) :
    Calls Tryd.prog 62 #[.string s] w fun e w' => e = .returned (.int .i64 (dgZ s)) ∧ w = w' := by
  cases hi : inB s.size 1 10
  · have hv := Lib.hid (dg_size hi)
    go_enter Tryd.func62, Tryd.ntmps62
    go_wp2_with (go_at_call 46; refine (l1In_any _ _ _ _).mono ?_; rintro e w1 ⟨rfl, rfl⟩)
    go_ret
    exact ⟨ret_int hv.out.symm, rfl⟩
  have h3 := (inB_iff _ _ _).1 hi
  · go_enter Tryd.func62, Tryd.ntmps62
    go_wp2_with (go_at_call 46; refine (l1In_any _ _ _ _).mono ?_; rintro e w1 ⟨rfl, rfl⟩)
    go_loop [3, 4] (fun n c => ∃ k : Nat, k ≤ s.size ∧ c = .int .i64 k ∧ n = .int .i64 (dgV ((nmL s).take k) : Nat) ∧ Hid (∀ c ∈ (nmL s).take k, dgB c = true)) (fun _ c => s.size - (intOf c).toNat)
    case atStart => exact ⟨0, by omega, rfl, rfl, fun c hc => by simp at hc⟩
    case round =>
      obtain ⟨k, hk, rfl, rfl, hall⟩ := hrel
      by_cases hlt : k < s.size
      · have hlt' : (k : Int) < (s.size : Int) := by omega
        by_cases h1 : ((s[k]).toNat : Int) < 48
        · have hv := Lib.hid (dg_bad hlt (by rw [← Bool.not_eq_true, dgB_iff]; omega))
          go_wp2
          go_ret
          exact ⟨ret_int hv.out.symm, rfl⟩
        by_cases h2 : 57 < ((s[k]).toNat : Int)
        · have hv := Lib.hid (dg_bad hlt (by rw [← Bool.not_eq_true, dgB_iff]; omega))
          go_wp2
          go_ret
          exact ⟨ret_int hv.out.symm, rfl⟩
        have hbd := dgV_lt k ((nmL s).take k) (by rw [List.length_take, nmL_len]; omega) hall.out
        have hbk : 10 ^ k ≤ 10 ^ 10 := Nat.pow_le_pow_right (by omega) (by omega)
        have hsn : Hid ((nmL s).take (k + 1) = (nmL s).take k ++ [s[k]]) := take_snoc (nmL_at s hlt)
        have hnx : Hid ((dgV ((nmL s).take (k + 1)) : Int) = 10 * (dgV ((nmL s).take k) : Int) + ((s[k]).toNat - 48 : Int)) := by
          unfold Hid
          rw [hsn.out, dgV_snoc]
          omega
        have hall2 : Hid (∀ c ∈ (nmL s).take (k + 1), dgB c = true) := by
          unfold Hid
          rw [hsn.out]
          intro c hc
          rcases List.mem_append.1 hc with hc | hc
          · exact hall.out c hc
          · simp only [List.mem_singleton] at hc
            subst hc
            rw [dgB_iff]
            omega
        have q1 : IntKind.u8.wrap (((s[k]).toNat : Int) - 48) = ((s[k]).toNat : Int) - 48 := by simp [IntKind.wrap, IntKind.bits, IntKind.signed]; omega
        have hb6 : (dgV ((nmL s).take k) : Int) < 10000000000 := by
          have h6 : 10 ^ 10 = 10000000000 := rfl
          omega
        have hb0 : (0 : Int) ≤ (dgV ((nmL s).take k) : Int) := by omega
        clear hbk hbd
        go_wp2_with fail
        go_round
        case rel =>
          refine ⟨k + 1, by omega, by go_num, ?_, hall2⟩
          rw [hnx.out]
        case measure => simp [intOf]; omega
      · obtain rfl : k = s.size := by omega
        have e : (nmL s).take s.size = nmL s := by rw [← nmL_len, List.take_length]
        have hv := Lib.hid (dg_good hi (by rw [← e]; exact hall.out))
        clear hall
        replace e := Lib.hid e
        go_wp2
        go_ret
        exact ⟨ret_int (by rw [e.out, hv.out]), rfl⟩

/-- Digits that are written are read. -/
theorem num_len_bd {n : Nat} (h : n < 10000000000) : (Lib.decDigits n).length ≤ 10 := by
  rw [Lib.decDigits_length]
  rcases Nat.lt_or_ge 10 (Lib.nDigits n) with hk | hk
  · exfalso
    have h0 := Lib.decDigits_length n
    obtain ⟨c, r, e, hc⟩ := dec_ne n
    have hlow : ∀ u k : Nat, Lib.nDigits u = k + 2 → 10 ^ (k + 1) ≤ u := by
      intro u k
      induction k generalizing u with
      | zero =>
        intro hu
        rcases Nat.lt_or_ge u 10 with h | h
        · rw [Lib.nDigits_small h] at hu; omega
        · omega
      | succ k ih =>
        intro hu
        rcases Nat.lt_or_ge u 10 with h | h
        · rw [Lib.nDigits_small h] at hu; omega
        · rw [Lib.nDigits_big (by omega)] at hu
          have := ih (u / 10) (by omega)
          rw [Nat.pow_succ]
          omega
    have := hlow n (Lib.nDigits n - 2) (by omega)
    have h2 : 10 ^ 10 ≤ 10 ^ (Lib.nDigits n - 2 + 1) := Nat.pow_le_pow_right (by omega) (by omega)
    have h7 : 10 ^ 10 = 10000000000 := rfl
    omega
  · exact hk
theorem dgZ_num {n : Int} (h0 : 0 ≤ n) (h1 : n < 10000000000) : dgZ (numZ n) = n := by
  have e : nmL (numZ n) = Lib.decDigits n.toNat := by unfold nmL numZ numT; simp
  have hs : (numZ n).size = (Lib.decDigits n.toNat).length := by rw [← nmL_len, e]
  have hl := num_len_bd (n := n.toNat) (by omega)
  have h1' : 1 ≤ (numZ n).size := by
    obtain ⟨c, r, e2, _⟩ := dec_ne n.toNat
    rw [hs, e2]
    simp
  rw [dg_good ((inB_iff _ _ _).2 (by omega)) (by rw [e]; exact dec_dig _), e, dec_val]
  omega
theorem numZ_no {n : Int} {c : UInt8} (hc : c.toNat < 48 ∨ 57 < c.toNat) : c ∉ (numZ n).data.toList := by
  intro hm
  have h : c ∈ Lib.decDigits n.toNat := by
    unfold numZ numT at hm
    simpa using hm
  have := (dgB_iff c).1 (dec_dig _ c h)
  omega
theorem numI_no {n : Int} : (47 : UInt8) ∉ (numI n).data.toList := by
  by_cases h : 0 ≤ n
  · rw [numI_pos h]
    exact numZ_no (.inl (by decide))
  · rw [numI_neg (by omega)]
    intro hm
    have e : (⟨#[45]⟩ ++ numZ (-n)).data.toList = 45 :: (numZ (-n)).data.toList := by simp
    rw [e] at hm
    rcases List.mem_cons.1 hm with hm | hm
    · exact absurd hm (by decide)
    · exact numZ_no (c := 47) (n := -n) (.inl (by decide)) hm

/-- The model's reading: the first piece, its sign, its digits; the number below. -/
def frA (s : ByteArray) : ByteArray := (spL s 47).getD 0 ⟨#[]⟩
def frS (s : ByteArray) : Bool := decide ((nmL (frA s))[0]? = some 45)
def frW (s : ByteArray) : ByteArray := if frS s then (frA s).extract 1 (frA s).size else frA s
def frG (s : ByteArray) : Int := if frS s then -1 else 1
def frN (s : ByteArray) : Int := frG s * dgZ (frW s)
def frD (s : ByteArray) : Int := if (spL s 47).length = 2 then dgZ ((spL s 47).getD 1 ⟨#[]⟩) else 1
def frB (s : ByteArray) : Bool := decide ((spL s 47).length ≤ 2) && decide (0 ≤ dgZ (frW s)) && fOK (frN s) (frD s) && decide (nmL (frT (frN s) (frD s)) = nmL s)
theorem nm_ext {a b : ByteArray} (h : nmL a = nmL b) : a = b := by
  cases a with | mk x => cases b with | mk y =>
  unfold nmL at h
  simp at h
  rw [h]
theorem fr_sign {m : Int} : (nmL (numI m))[0]? = some 45 ↔ m < 0 := by
  by_cases h : 0 ≤ m
  · rw [numI_pos h]
    obtain ⟨c, r, e, hc⟩ := dec_ne m.toNat
    have e2 : nmL (numZ m) = c :: r := by unfold nmL numZ numT; simpa using e
    have := (dgB_iff c).1 hc
    rw [e2]
    constructor
    · intro h2
      simp at h2
      subst h2
      exact absurd hc (by decide)
    · intro h2; omega
  · rw [numI_neg (by omega)]
    have : nmL (⟨#[45]⟩ ++ numZ (-m)) = 45 :: nmL (numZ (-m)) := by unfold nmL; simp
    rw [this]
    simp
    omega
theorem fr_rest {m : Int} (h : m < 0) : (numI m).extract 1 (numI m).size = numZ (-m) := by
  apply nm_ext
  unfold nmL
  have e : (numI m).data.toList = 45 :: (numZ (-m)).data.toList := by rw [numI_neg h]; simp
  have hs : (numI m).size = (numI m).data.toList.length := by simp
  rw [ext_list, hs, List.take_length, e]
  rfl
/-- What the first piece and the digits are, if it is a written number. -/
theorem fr_num {s : ByteArray} {n : Int} (h1 : -1000000000 ≤ n) (h2 : n ≤ 1000000000) (h : frA s = numI n) : frN s = n ∧ 0 ≤ dgZ (frW s) := by
  unfold frN frG frW frS
  rw [h]
  by_cases hn : n < 0
  · rw [decide_eq_true (fr_sign.2 hn)]
    simp only [if_true]
    rw [fr_rest hn, dgZ_num (by omega) (by omega)]
    omega
  · rw [decide_eq_false (fun hh => hn (fr_sign.1 hh))]
    simp only [Bool.false_eq_true, if_false]
    rw [numI_pos (by omega), dgZ_num (by omega) (by omega)]
    omega
theorem fr_read {n d : Int} (h : fOK n d = true) : frN (frT n d) = n ∧ frD (frT n d) = d ∧ frB (frT n d) = true := by
  obtain ⟨⟨h1, h2, h3, h4⟩, _⟩ := (fOK_iff n d).1 h
  have key : ∀ s, s = frT n d → (spL s 47).length ≤ 2 → frA s = numI n → frD s = d → frN s = n ∧ frD s = d ∧ frB s = true := by
    intro s hs hl ha hd
    obtain ⟨e1, e2⟩ := fr_num h3 h4 ha
    refine ⟨e1, hd, ?_⟩
    unfold frB
    rw [e1, hd, h, decide_eq_true hl, decide_eq_true e2, hs, decide_eq_true rfl]
    rfl
  by_cases hd : d = 1
  · have e : frT n d = numI n := if_pos hd
    have hsp : spL (frT n d) 47 = [numI n] := by
      refine spL_join (r := []) ?_ ?_
      · rw [e, List.map_cons, List.map_nil, Lib.join_one]
      · intro y hy
        simp at hy
        subst hy
        exact numI_no
    refine key _ rfl (by rw [hsp]; simp) ?_ ?_
    · unfold frA
      rw [hsp]
      rfl
    · unfold frD
      rw [hsp, if_neg (by simp), hd]
  · have e : frT n d = numI n ++ ⟨#[47]⟩ ++ numI d := if_neg hd
    have hsp : spL (frT n d) 47 = [numI n, numI d] := by
      refine spL_join (r := [numI d]) ?_ ?_
      · rw [e, List.map_cons, Lib.join_cons, List.map_cons, List.map_nil, tail_cons]
        simp [Lib.joinTail]
      · intro y hy
        rcases List.mem_cons.1 hy with hy | hy
        · subst hy; exact numI_no
        · simp at hy
          subst hy
          exact numI_no
    refine key _ rfl (by rw [hsp]; simp) ?_ ?_
    · unfold frA
      rw [hsp]
      rfl
    · unfold frD
      rw [hsp, if_pos (by simp)]
      show dgZ (numI d) = d
      rw [numI_pos (by omega), dgZ_num (by omega) (by omega)]

/-- The program's reading. -/
def prD (s : ByteArray) : ByteArray := if cutF s 47 then cutB s 47 else ⟨#[49]⟩
/-- What ParseFrac gives, part by part. -/
def pfB (s : ByteArray) : Bool := frB s
def pfN (s : ByteArray) : Int := if frB s then frN s else 0
def pfD (s : ByteArray) : Int := if frB s then frD s else 0
theorem frB_text {s : ByteArray} (h : frB s = true) : fOK (frN s) (frD s) = true ∧ frT (frN s) (frD s) = s := by
  unfold frB at h
  simp only [Bool.and_eq_true, decide_eq_true_eq] at h
  exact ⟨h.1.2, nm_ext h.2⟩
/-- The program's numbers are the model's, where the model's text is the text. -/
theorem pr_nums {n d : Int} (h : fOK n d = true) : atV (cutA (frT n d) 47) = some n ∧ atV (prD (frT n d)) = some d := by
  obtain ⟨⟨h1, h2, h3, h4⟩, _⟩ := (fOK_iff n d).1 h
  have rn : ∀ m : Int, -1000000000 ≤ m → m ≤ 1000000000 → atV (numI m) = some m := by
    intro m a b
    unfold atV
    have : (numI m).data.toList = Lib.itoa m := by unfold numI; simp
    rw [this, atoi_itoa m (by omega) (by omega)]
  by_cases hd : d = 1
  · have e : frT n d = numI n := if_pos hd
    have hc := cut_miss (b := 47) (numI n).data.toList numI_no
    have ha : cutA (frT n d) 47 = numI n := by
      unfold cutA
      rw [e, hc]
    have hp : prD (frT n d) = ⟨#[49]⟩ := by
      unfold prD cutF
      rw [e, hc]
      rfl
    rw [ha, hp, rn n h3 h4, hd]
    have h1 := rn 1 (by omega) (by omega)
    rw [show numI 1 = ⟨#[49]⟩ from by rw [numI_pos (by omega), numZ_small (by omega) (by omega)]; rfl] at h1
    exact ⟨rfl, h1⟩
  · have e : frT n d = numI n ++ ⟨#[47]⟩ ++ numI d := if_neg hd
    have el : (frT n d).data.toList = (numI n).data.toList ++ 47 :: (numI d).data.toList := by
      rw [e]
      simp
    have hc := cut_hit (b := 47) (numI n).data.toList (numI d).data.toList numI_no
    have ha : cutA (frT n d) 47 = numI n := by
      unfold cutA
      rw [el, hc]
    have hp : prD (frT n d) = numI d := by
      unfold prD cutF cutB
      rw [el, hc]
      rfl
    rw [ha, hp]
    exact ⟨rn n h3 h4, rn d (by omega) (by omega)⟩
/-- So the program's way ends. -/
theorem pf_none {s : ByteArray} (h : atV (cutA s 47) = none ∨ atV (prD s) = none) : frB s = false := by
  cases hb : frB s with
  | false => rfl
  | true =>
    obtain ⟨h1, h2⟩ := frB_text hb
    have := pr_nums h1
    rw [h2] at this
    rw [this.1, this.2] at h
    simp at h
theorem pf_some {s : ByteArray} {n d : Int} (hn : atV (cutA s 47) = some n) (hd : atV (prD s) = some d) : frB s = (fOK n d && decide (nmL (frT n d) = nmL s)) ∧ (frB s = true → frN s = n ∧ frD s = d) := by
  have k : frB s = true → frN s = n ∧ frD s = d := by
    intro hb
    obtain ⟨h1, h2⟩ := frB_text hb
    have := pr_nums h1
    rw [h2, hn, hd] at this
    simp at this
    exact ⟨this.1.symm, this.2.symm⟩
  refine ⟨?_, k⟩
  rw [Bool.eq_iff_iff]
  constructor
  · intro hb
    obtain ⟨h1, h2⟩ := frB_text hb
    obtain ⟨e1, e2⟩ := k hb
    rw [e1, e2] at h1 h2
    rw [h1, h2]
    simp
  · intro hb
    rw [Bool.and_eq_true, decide_eq_true_eq] at hb
    have := (fr_read hb.1).2.2
    rw [nm_ext hb.2] at this
    exact this
end Go.Proofs.YtbglogaljjfnnabDoor
