/-
  The walks of chapter 2: texts of schemas, the program's and the model's.
-/
import Derived.Test.YtcmfoclalcmamabGreatDoorSchN
import Derived.Test.YtcmfoclalcmamabGreatDoorText
import Derived.Test.YtcmfoclalcmamabGreatDoorSpl
import Derived.Lib.Join
namespace Go.Proofs.YtcmfoclalcmamabGreatDoor
open Go.RowKit
set_option maxRecDepth 100000

/-- A variable's text. -/
def vaT (p : ByteArray × Int) : ByteArray := p.1 ++ ⟨#[58]⟩ ++ numZ p.2
def vaL (p : ByteArray × Int) : List UInt8 := (vaT p).data.toList
/-- The text of a list of variables. -/
def stT (S : List (ByteArray × Int)) : ByteArray := ⟨(Lib.join (S.map vaL) [44]).toArray⟩
theorem stT_nil : stT [] = ⟨#[]⟩ := rfl
theorem stT_first {S : List (ByteArray × Int)} {p : ByteArray × Int} (h : S[0]? = some p) : stT (S.take 1) = vaT p := by
  cases S with
  | nil => simp at h
  | cons q r =>
    simp at h
    subst h
    unfold stT
    rw [List.take_succ_cons, List.take_zero, List.map_cons, List.map_nil, Lib.join_one]
    unfold vaL
    apply ByteArray.ext
    simp
theorem stT_next {S : List (ByteArray × Int)} {i : Nat} {p : ByteArray × Int} (hi : 0 < i) (h : S[i]? = some p) : stT (S.take (i + 1)) = stT (S.take i) ++ ⟨#[44]⟩ ++ vaT p := by
  cases S with
  | nil => simp at h
  | cons q r =>
    obtain ⟨k, rfl⟩ : ∃ k, i = k + 1 := ⟨i - 1, by omega⟩
    simp only [List.getElem?_cons_succ] at h
    unfold stT
    rw [List.take_succ_cons, List.take_succ_cons, List.map_cons, List.map_cons, Lib.join_cons, Lib.join_cons, List.map_take, List.map_take, Lib.joinTail_take_succ [44] (r.map vaL) k (vaL p) (by rw [List.getElem?_map, h]; rfl)]
    apply ByteArray.ext
    simp [vaL]
theorem vaT_size {p : ByteArray × Int} (h : vaB p = true) : (vaT p).size ≤ 10 := by
  unfold vaB nmB at h
  simp only [Bool.and_eq_true, decide_eq_true_eq] at h
  obtain ⟨⟨⟨h1, h2⟩, _⟩, h3⟩ := h
  obtain ⟨h4, h5⟩ := (lvB_iff _).1 h3
  unfold vaT
  rw [numZ_small (by omega) (by omega), ByteArray.size_append, ByteArray.size_append, byteT_len, show (⟨#[58]⟩ : ByteArray).size = 1 from rfl]
  omega
theorem stT_size {S : List (ByteArray × Int)} (hs : schB S = true) : ∀ i, i ≤ S.length → (stT (S.take i)).size ≤ 11 * i
  | 0, _ => by rw [List.take_zero, stT_nil]; exact Nat.le_refl _
  | i + 1, h => by
    have ih := stT_size hs i (by omega)
    have hp : S[i]? = some S[i] := List.getElem?_eq_getElem (by omega)
    have hv := vaT_size (schB_va hs (List.mem_of_getElem? hp))
    by_cases h0 : i = 0
    · subst h0
      rw [stT_first hp]
      omega
    · rw [stT_next (by omega) hp, ByteArray.size_append, ByteArray.size_append, show (⟨#[44]⟩ : ByteArray).size = 1 from rfl]
      omega
/-- Names and numbers of a schema. -/
theorem sch_bits {S : List (ByteArray × Int)} (hs : schB S = true) {i : Nat} {nm : ByteArray} {lv : Int} (h : S[i]? = some (nm, lv)) : nm.size ≤ 8 ∧ 2 ≤ lv ∧ lv ≤ 8 ∧ (numZ lv).size = 1 ∧ nm ++ ⟨#[58]⟩ ++ numZ lv = vaT (nm, lv) := by
  have hv := schB_va hs (List.mem_of_getElem? h)
  obtain ⟨h1, h2⟩ := schB_lv hs h
  unfold vaB nmB at hv
  simp only [Bool.and_eq_true, decide_eq_true_eq] at hv
  exact ⟨hv.1.1.2, h1, h2, by rw [numZ_small (by omega) (by omega), byteT_len], rfl⟩

/-- What is answered. -/
def stR (S : List (ByteArray × Int)) : ByteArray := if schB S then stT S else ⟨#[]⟩
theorem ret_ss {a b : ByteArray} {p q : Bool} (h : a = b) (k : p = q) : Ending.returned (.tuple #[.string a, .bool p]) = .returned (.tuple #[.string b, .bool q]) := by rw [h, k]
theorem itoa_small (n : Int) (w : World) (h0 : 0 ≤ n) (h1 : n < 100) :
    Calls Tryz.prog 70 #[.int .i64 n] w fun e w' => e = .returned (.string (numZ n)) ∧ w' = w := by
  have := Tryz.strconv_Itoa_small n.toNat (by omega) w
  rw [show ((n.toNat : Nat) : Int) = n by omega] at this
  exact this

theorem own_put {w : World} {base e g n cap : Nat} {xs : List Value} (h : w.ownsRow base e 1 (.slice (some ⟨g, 0, none⟩) n cap) n xs) (i : Nat) (V : Value) (o : Obj) :
    (((w.setCell ⟨g, i, none⟩ V).alloc o).drew).ownsRow base e 1 (.slice (some ⟨g, 0, none⟩) n cap) n (xs.set i V) := own_below (h.stored i V).1 (((Below.refl _ _).alloc (Nat.le_refl _) o).drew)
theorem below_put {w wr : World} (h : Below w.heap.size w wr) {g : Nat} (hg : w.heap.size ≤ g) (i : Nat) (V : Value) (o : Obj) : Below w.heap.size w (((wr.setCell ⟨g, i, none⟩ V).alloc o).drew) := by
  have h1 := h.setCell (p := ⟨g, i, none⟩) hg V
  exact (h1.alloc h1.size o).drew
theorem stT_join (S : List (ByteArray × Int)) : (⟨(Lib.join ((S.map vaT).map (·.data.toList)) (⟨#[44]⟩ : ByteArray).data.toList).toArray⟩ : ByteArray) = stT S := by
  unfold stT
  rw [List.map_map]
  rfl
theorem join_x (bk : Nat) (S : List (ByteArray × Int)) (w : World) (hs : schB S = true) (hr : Rd w (some ⟨bk, 0, none⟩) (tC (S.map vaT))) :
    Calls Tryz.prog 71 #[.slice (some ⟨bk, 0, none⟩) S.length S.length, .string ⟨#[44]⟩] w fun e w' => e = .returned (.string (stT S)) ∧ Below w.heap.size w w' := by
  have hl : (S.map vaT).length = S.length := by simp
  obtain ⟨h1, h2⟩ := schB_len hs
  have hsz := stT_size hs S.length (Nat.le_refl _)
  rw [List.take_length] at hsz
  rcases hr with h | ⟨b, off, e, hb, hc⟩
  · have := congrArg List.length h
    simp [tC] at this
    subst this
    simp at h1
  injection e with e
  injection e with e1 e2
  subst e1 e2
  have hj := Tryz.strings_Join bk 0 S.length (S.map vaT) ⟨#[44]⟩ w (fun j t hj => hc j _ (by unfold tC; rw [List.getElem?_map, hj]; rfl)) hb (by omega) (by omega) (by
    have := congrArg ByteArray.size (stT_join S)
    simp only [ByteArray.size, List.size_toArray] at this hsz ⊢
    omega)
  rw [stT_join, hl] at hj
  exact hj

set_option maxHeartbeats 1000000 in
theorem iST_x (x : Option Addr) (cap : Nat) (S : List (ByteArray × Int)) (w : World) (h : SIn w x cap S) :
    Calls Tryz.prog 16 #[.slice x S.length cap] w fun e w' => e = .returned (.tuple #[.string (stR S), .bool (schB S)]) ∧ Below w.heap.size w w' := by
  have hh := Lib.hid h
  clear h
  cases hs : schB S
  · have hv := Lib.hid (show stR S = ⟨#[]⟩ by unfold stR; rw [hs]; rfl)
    go_enter Tryz.func16, Tryz.ntmps16
    go_wp2_with (go_at_call 53; refine (isSch_x _ _ _ _ hh.out).mono ?_; rintro e w1 ⟨rfl, hb1⟩; obtain ⟨hcl1, hfr1⟩ := bcell hb1; have hz1 := hb1.size; (try simp at hz1); (try (have hly1 := Nat.lt_of_succ_le hz1)); (try (have hlx1 := Nat.lt_of_succ_lt hly1)); (try (have hlw1 := Nat.lt_of_succ_lt hlx1)); (try (have hle1 := Nat.le_of_lt hly1)); (try (have hya1 : w.heap.size < w1.heap.size := by omega)); (try (have hyb1 : w.heap.size + 1 < w1.heap.size := by omega)); (try (have hyc1 : w.heap.size + 1 + 1 < w1.heap.size := by omega)); (try (have hyd1 : wa.heap.size < w1.heap.size := by omega)))
    go_ret2
    exact ⟨ret_ss hv.out.symm rfl, (by repeat (first | exact Below.refl _ _ | assumption | refine Below.drew ?_ | refine below_drewN ?_ _ | refine Below.alloc' ?_ _ | (refine Below.setCell ?_ (by first | omega | (simp; done) | (simp; omega) | exact Below.size (by assumption) | exact Nat.le_trans (Below.size (by assumption)) (by simp)) _) | (refine Below.via' ?_ (by assumption)) | (refine Below.alloc ?_ (by first | omega | (simp; done) | (simp; omega) | exact Below.size (by assumption) | exact Nat.le_trans (Below.size (by assumption)) (by simp)) _) | (refine Below.via ?_ (by assumption) (by first | omega | (simp; done) | (simp; omega) | exact Below.size (by assumption) | exact Nat.le_trans (Below.size (by assumption)) (by simp)))))⟩
  have hv := Lib.hid (show stR S = stT S by unfold stR; rw [hs]; rfl)
  obtain ⟨hm1, hm2⟩ := schB_len hs
  obtain ⟨i0, hi, hz0, hz1, hz2⟩ := info_parts Tryz.infoStr
  have hbb : i0.bytes * S.length ≤ 281474976710656 := by rw [hz2]; omega
  have hmm : S.length ≤ maxLen := by unfold maxLen; omega
  go_enter Tryz.func16, Tryz.ntmps16
  go_wp2_with fail
  refine (isSch_x _ _ _ _ hh.out).mono ?_
  rintro e w1 ⟨rfl, hb1⟩
  have hz1' := hb1.size
  go_wp2_with (at_make; go_loud (refine wpList_make_full _ rfl _ _ 101 rfl w1.heap.size 9 i0 (.string ⟨#[]⟩) 1 Tryz.underlying101 hi hz0 hz1 .i64 .i64 _ _ S.length rfl rfl rfl rfl hbb hmm (Nat.le_refl _) (fun w2 hown hgrow => ?_)))
  have hb2 : Below w1.heap.size w1 w2 := (Below.refl _ _).grown hgrow (Nat.le_refl _) (by intro k hk; cases hk)
  have hb3 : Below w.heap.size w w2 := hb1.trans (hb2.mono hz1')
  clear hgrow hi hz0 hz1 hz2 hbb hmm
  have hs := Lib.hid hs
  go_loopw [15] (fun c wr => ∃ (i : Nat) (xs : List Value), i ≤ S.length ∧ c = .int .i64 i ∧ wr.ownsRow w1.heap.size 9 1 (.slice (some ⟨w1.heap.size, 0, none⟩) S.length S.length) S.length xs ∧ Hid (∀ j, j < i → xs[j]? = (tC (S.map vaT))[j]?) ∧ Below w.heap.size w wr) (fun c _ => S.length - (intOf c).toNat)
  case atStart => exact ⟨0, _, by omega, rfl, hown, (fun j hj => absurd hj (by omega)), hb3⟩
  case round =>
    clear hown hb1 hb2 hb3
    obtain ⟨i, xs, hi, rfl, hown, hdone, hb⟩ := hrel
    by_cases hlt : i < S.length
    · obtain ⟨bl, off, nm, lv, rfl, hbl, hSi, hc0, hc1⟩ := (hh.out.rd.below hb).var hlt
      obtain ⟨z1, z2, z3, z4, z5⟩ := sch_bits hs.out hSi
      replace z5 := Lib.hid z5
      obtain ⟨u, hu, k0⟩ := own_cell hown (j := i) (by omega)
      have k2 := hown.frozenAt i
      have k4 := (own_lt hown).2
      replace hu := Lib.hid hu
      replace hSi := Lib.hid hSi
      have hlt' : (i : Int) < (S.length : Int) := by omega
      have hi0 : (0 : Int) ≤ (i : Int) := by omega
      have s0 : (⟨#[58]⟩ : ByteArray).size = 1 := rfl
      have hs1 : ¬ 9223372036854775807 < nm.size + (⟨#[58]⟩ : ByteArray).size := by rw [s0]; omega
      have hs2 : ¬ 9223372036854775807 < (nm ++ ⟨#[58]⟩).size + (numZ lv).size := by rw [ByteArray.size_append, s0, z4]; omega
      have hs3 : ¬ 9223372036854775807 < nm.size + 1 := by omega
      have hs4 : ¬ 9223372036854775807 < nm.size + 1 + (numZ lv).size := by rw [z4]; omega
      clear s0 z4
      go_wp2_with fail
      go_region_with (first | (go_at_call 70; refine (itoa_small _ _ (by omega) (by omega)).mono ?_; rintro e w5 ⟨rfl, rfl⟩))
      all_goals
        go_wp2
        go_roundw
        case rel =>
          refine ⟨i + 1, xs.set i (.string (nm ++ ⟨#[58]⟩ ++ numZ lv)), by omega, by go_num, ?_, ?_, ?_⟩
          · have hx := own_put hown i (.string (nm ++ ⟨#[58]⟩ ++ numZ lv)) (.cells #[.string nm, .int .i64 lv] 99)
            exact hx
          · intro j hj
            rw [List.getElem?_set]
            have hlen : xs.length = S.length := by rw [hown.1]; omega
            split
            · subst_vars
              rw [if_pos (by omega), z5.out]
              unfold tC
              rw [List.getElem?_map, List.getElem?_map, hSi.out]
              rfl
            · exact hdone.out j (by omega)
          · have hx := below_put hb hz1' i (.string (nm ++ ⟨#[58]⟩ ++ numZ lv)) (.cells #[.string nm, .int .i64 lv] 99)
            exact hx
        case measure => simp [intOf]; omega
    · have hij : i = S.length := by omega
      subst hij
      have hxs : xs = tC (S.map vaT) := by
        have hlen : xs.length = S.length := by rw [hown.1]; omega
        apply List.ext_getElem?
        intro j
        rcases Nat.lt_or_ge j S.length with hj | hj
        · exact hdone.out j hj
        · rw [List.getElem?_eq_none (by omega), List.getElem?_eq_none (by unfold tC; simp; omega)]
      subst hxs
      replace hown := Lib.hid hown
      clear hdone
      go_wp2_with fail
      refine (join_x w1.heap.size S _ hs.out (Rd.of_own hown.out)).mono ?_
      rintro e w6 ⟨rfl, hb6⟩
      go_wp2_with fail
      go_ret2
      exact ⟨ret_ss hv.out.symm rfl, (by repeat (first | exact Below.refl _ _ | assumption | refine Below.drew ?_ | refine below_drewN ?_ _ | refine Below.alloc' ?_ _ | (refine Below.setCell ?_ (by first | omega | (simp; done) | (simp; omega) | exact Below.size (by assumption) | exact Nat.le_trans (Below.size (by assumption)) (by simp)) _) | (refine Below.via' ?_ (by assumption)) | (refine Below.alloc ?_ (by first | omega | (simp; done) | (simp; omega) | exact Below.size (by assumption) | exact Nat.le_trans (Below.size (by assumption)) (by simp)) _) | (refine Below.via ?_ (by assumption) (by first | omega | (simp; done) | (simp; omega) | exact Below.size (by assumption) | exact Nat.le_trans (Below.size (by assumption)) (by simp)))))⟩
end Go.Proofs.YtcmfoclalcmamabGreatDoor
