/-
  The walks of chapter 4: texts of geographies; the program's and the model's.
-/
import Derived.Test.YtelnbjhnjcbjoabDoorGtx
import Derived.Test.YtelnbjhnjcbjoabDoorGeoE
import Derived.Test.YtelnbjhnjcbjoabDoorShelf
namespace Go.Proofs.YtelnbjhnjcbjoabDoor
open Go.RowKit
set_option maxRecDepth 100000

theorem itoa_smallG (n : Int) (w : World) (h0 : 0 ≤ n) (h1 : n < 100) :
    Calls Tryd.prog 28 #[.int .i64 n] w fun e w' => e = .returned (.string (numZ n)) ∧ w = w' := by
  have := Tryd.strconv_Itoa_small n.toNat (by omega) w
  rw [show ((n.toNat : Nat) : Int) = n by omega] at this
  exact this.mono fun _ _ ⟨a, b⟩ => ⟨a, b.symm⟩
/-- The text so far: of an area and its first n children. -/
def gpT (P : List Int) (k i n : Nat) : ByteArray := if n = 0 then numZ i else numZ i ++ ⟨#[40]⟩ ++ jnT (((awL P i).take n).map fun c => gtF P k c.toNat)
theorem gp_zero (P : List Int) (k i : Nat) : gpT P k i 0 = numZ i := if_pos rfl
theorem gp_first {P : List Int} {k i : Nat} {c : Nat} (h : (awL P i)[0]? = some (c : Int)) : gpT P k i 1 = numZ i ++ ⟨#[40]⟩ ++ gtF P k c := by
  unfold gpT
  rw [if_neg (by omega)]
  obtain ⟨hl, e⟩ := List.getElem?_eq_some_iff.1 h
  have e1 : (awL P i).take 1 = [(c : Int)] := by rw [List.take_succ_eq_append_getElem hl, List.take_zero, e]; rfl
  rw [e1, List.map_cons, List.map_nil, jnT_one, Int.toNat_natCast]
theorem gp_next {P : List Int} {k i n : Nat} {c : Nat} (hn : 0 < n) (h : (awL P i)[n]? = some (c : Int)) : gpT P k i (n + 1) = gpT P k i n ++ ⟨#[32]⟩ ++ gtF P k c := by
  unfold gpT
  rw [if_neg (by omega), if_neg (by omega)]
  obtain ⟨hl, e⟩ := List.getElem?_eq_some_iff.1 h
  rw [List.take_succ_eq_append_getElem hl, e, List.map_append, List.map_cons, List.map_nil, jnT_snoc, Int.toNat_natCast]
  · apply ByteArray.ext; simp
  · intro h0
    have := congrArg List.length h0
    rw [List.length_map, List.length_take, List.length_nil] at this
    omega
theorem gp_all {P : List Int} {k i : Nat} (h : (awL P i).length ≠ 0) : gtF P (k + 1) i = gpT P k i (awL P i).length ++ ⟨#[41]⟩ := by
  rw [gt_node h]
  unfold gpT
  rw [if_neg h, List.take_length]
theorem gp_none {P : List Int} {k i : Nat} (h : (awL P i).length = 0) : gtF P (k + 1) i = gpT P k i (awL P i).length := by
  rw [gt_leaf h, h, gp_zero]
theorem gp_size {P : List Int} (hg : geB P = true) {k i : Nat} (hi : i < P.length) (hk : P.length - i ≤ k + 1) : ∀ n, n ≤ (awL P i).length → (gpT P k i n).size ≤ 10000000 := by
  intro n hn
  have hl := ge_len hg
  have h2 := (numZ_two (i := i) (by omega)).2
  unfold gpT
  split
  · omega
  · rename_i h0
    rw [ByteArray.size_append, ByteArray.size_append, show (⟨#[40]⟩ : ByteArray).size = 1 from rfl]
    have hne : (((awL P i).take n).map fun c => gtF P k c.toNat) ≠ [] := fun e => by
      have := congrArg List.length e
      rw [List.length_map, List.length_take, List.length_nil] at this
      omega
    have hj := jnT_len _ hne
    rw [List.map_map] at hj
    have hle : (((awL P i).take n).map ((fun t => t.size + 1) ∘ fun c => gtF P k c.toNat)).sum ≤ (((awL P i).take n).map fun _ => 201).sum := sum_le fun c hc => by
      obtain ⟨m, rfl, hm, him, _⟩ := aw_child hg (List.mem_of_mem_take hc)
      have := gt_bd hg hm (k := k) (by omega)
      simp only [Function.comp, Int.toNat_natCast]
      omega
    have hc : ∀ L : List Int, (L.map fun _ => 201).sum = 201 * L.length := by
      intro L
      induction L with
      | nil => rfl
      | cons a r ih => rw [List.map_cons, List.sum_cons, ih, List.length_cons]; omega
    have hal : (awL P i).length ≤ P.length := sel_len _ _
    rw [hc, List.length_take] at hle
    omega

set_option maxHeartbeats 8000000 in
theorem gText_any (x : Option Addr) (c : Nat) (P : List Int) (hg : geB P = true) : ∀ (k i : Nat) (w : World), i < P.length → P.length - i ≤ k → IIn w x P →
    Calls Tryd.prog 16 #[.agg #[.slice x P.length c], .int .i64 i] w fun e w' => e = .returned (.string (gtF P k i)) ∧ Below w.heap.size w w' := by
  intro k
  induction k with
  | zero => intro i w hi hk; omega
  | succ k ih =>
    intro i w hi hk h
    have hm := h.1
    have hh := Lib.hid h
    have hl := ge_len hg
    have hgh := Lib.hid hg
    have hih := Lib.hid ih
    have hq := Lib.hid (QB.new w x P.length c 28)
    have hgs := Lib.hid (fun n hn => gp_size hg (k := k) hi (by omega) n hn : ∀ n, n ≤ (awL P i).length → (gpT P k i n).size ≤ 10000000)
    have hal := sel_len (eqP P (i : Int)) P.length
    have hal2 : (awL P i).length ≤ 30 := by have : (awL P i).length ≤ P.length := hal; omega
    have k40 : (⟨#[40]⟩ : ByteArray).size = 1 := rfl
    have k32 : (⟨#[32]⟩ : ByteArray).size = 1 := rfl
    have k41 : (⟨#[41]⟩ : ByteArray).size = 1 := rfl
    clear ih h hal
    go_enter Tryd.func16, Tryd.ntmps16
    go_wp2_with fail
    refine (l1Num_any 30 (i : Int) _ (by omega) (by omega) (by omega)).mono ?_
    rintro e w1 ⟨rfl, hb1⟩
    have hq1 := Lib.hid (hq.out.below hb1)
    obtain ⟨ka1, kb1, kc1⟩ := hq1.out
    have B1 : Below w.heap.size w w1 := (by repeat (first | exact Below.refl _ _ | assumption | refine Below.drew ?_ | refine below_drewN ?_ _ | refine Below.alloc' ?_ _ | (refine Below.setCell ?_ (by first | omega | (simp; done) | (simp; omega) | exact Below.size (by assumption) | exact Nat.le_trans (Below.size (by assumption)) (by simp)) _) | (refine Below.via' ?_ (by assumption)) | (refine Below.alloc ?_ (by first | omega | (simp; done) | (simp; omega) | exact Below.size (by assumption) | exact Nat.le_trans (Below.size (by assumption)) (by simp)) _) | (refine Below.via ?_ (by assumption) (by first | omega | (simp; done) | (simp; omega) | exact Below.size (by assumption) | exact Nat.le_trans (Below.size (by assumption)) (by simp)))))
    clear hq
    go_wp2_with fail
    refine (gChildren_any _ _ P (i : Int) _ hm (hh.out.2.2.below B1)).mono ?_
    rintro e w2 ⟨v2, rfl, ho2, hb2⟩
    have hq2 := Lib.hid (hq1.out.below hb2)
    obtain ⟨xv, cv, rfl, -, -⟩ := OwR.form (OwR.of ho2)
    have A2 := Lib.hid (Rd.of_own ho2)
    have B2 := Lib.hid (Below.via' B1 hb2)
    clear ho2 hb2 hb1 ka1 kb1 kc1 hq1 B1
    go_wp2
    go_loopw [5, 14] (fun s q wr => ∃ n : Nat, n ≤ (awL P i).length ∧ q = .int .i64 n ∧ s = .string (gpT P k i n) ∧ Below w2.heap.size w2 wr) (fun _ q _ => (awL P i).length - (intOf q).toNat)
    case atStart => exact ⟨0, by omega, by go_num, by rw [gp_zero], (by repeat (first | exact Below.refl _ _ | assumption | refine Below.drew ?_ | refine below_drewN ?_ _ | refine Below.alloc' ?_ _ | (refine Below.setCell ?_ (by first | omega | (simp; done) | (simp; omega) | exact Below.size (by assumption) | exact Nat.le_trans (Below.size (by assumption)) (by simp)) _) | (refine Below.via' ?_ (by assumption)) | (refine Below.alloc ?_ (by first | omega | (simp; done) | (simp; omega) | exact Below.size (by assumption) | exact Nat.le_trans (Below.size (by assumption)) (by simp)) _) | (refine Below.via ?_ (by assumption) (by first | omega | (simp; done) | (simp; omega) | exact Below.size (by assumption) | exact Nat.le_trans (Below.size (by assumption)) (by simp)))))⟩
    case round =>
      obtain ⟨n, hn, rfl, rfl, hb⟩ := hrel
      have hqr := Lib.hid (hq2.out.below hb)
      obtain ⟨ka, kb, kc⟩ := hqr.out
      have hBr := Lib.hid (Below.via' B2.out hb)
      by_cases hlt : n < (awL P i).length
      · obtain ⟨bl, off, v, rfl, hbl, hA, hc0⟩ := (A2.out.below hb).int hlt
        obtain ⟨m, rfl, hmP, him, -⟩ := aw_child hgh.out (List.mem_of_getElem? hA)
        have hlt' : (n : Int) < ((awL P i).length : Int) := by omega
        have hn0 : (0 : Int) ≤ (n : Int) := by omega
        have z1 := hgs.out n hn
        have z2 := gt_bd hgh.out hmP (k := k) (by omega)
        have hk2 : P.length - m ≤ k := by omega
        have hs1 : ¬ 9223372036854775807 < (gpT P k i n).size + (⟨#[40]⟩ : ByteArray).size := by rw [k40]; omega
        have hs2 : ¬ 9223372036854775807 < (gpT P k i n).size + (⟨#[32]⟩ : ByteArray).size := by rw [k32]; omega
        have hs3 : ¬ 9223372036854775807 < (gpT P k i n).size + 1 := by omega
        have hs4 : ¬ 9223372036854775807 < (gpT P k i n ++ ⟨#[40]⟩).size + (gtF P k m).size := by rw [ByteArray.size_append, k40]; omega
        have hs5 : ¬ 9223372036854775807 < (gpT P k i n ++ ⟨#[32]⟩).size + (gtF P k m).size := by rw [ByteArray.size_append, k32]; omega
        have hs6 : ¬ 9223372036854775807 < (gpT P k i n).size + 1 + (gtF P k m).size := by omega
        by_cases h0 : n = 0
        · subst h0
          rw [Nat.add_zero] at hc0
          have hv := Lib.hid (gp_first (k := k) hA)
          have hz : Hid (gpT P k i 0 ++ ⟨#[40]⟩ ++ gtF P k m = gpT P k i (0 + 1)) := by unfold Hid; rw [gp_zero]; exact hv.out.symm
          have ht : (((0 : Nat) : Int) == 0) = true := rfl
          replace hA := Lib.hid hA
          clear hv
          go_wp2_with fail
          refine (hih.out m _ hmP hk2 (hh.out.below hBr.out)).mono ?_
          rintro e w5 ⟨rfl, hb5⟩
          go_wp2
          go_roundw
          case rel => exact ⟨0 + 1, by omega, by go_num, by rw [hz.out], (by repeat (first | exact Below.refl _ _ | assumption | refine Below.drew ?_ | refine below_drewN ?_ _ | refine Below.alloc' ?_ _ | (refine Below.setCell ?_ (by first | omega | (simp; done) | (simp; omega) | exact Below.size (by assumption) | exact Nat.le_trans (Below.size (by assumption)) (by simp)) _) | (refine Below.via' ?_ (by assumption)) | (refine Below.alloc ?_ (by first | omega | (simp; done) | (simp; omega) | exact Below.size (by assumption) | exact Nat.le_trans (Below.size (by assumption)) (by simp)) _) | (refine Below.via ?_ (by assumption) (by first | omega | (simp; done) | (simp; omega) | exact Below.size (by assumption) | exact Nat.le_trans (Below.size (by assumption)) (by simp)))))⟩
          case measure => simp [intOf]; omega
        · have hz : Hid (gpT P k i n ++ ⟨#[32]⟩ ++ gtF P k m = gpT P k i (n + 1)) := (gp_next (by omega) hA).symm
          have ht : ((n : Int) == 0) = false := by rw [beq_eq_false_iff_ne]; omega
          replace hA := Lib.hid hA
          go_wp2_with fail
          refine (hih.out m _ hmP hk2 (hh.out.below hBr.out)).mono ?_
          rintro e w5 ⟨rfl, hb5⟩
          go_wp2
          go_roundw
          case rel => exact ⟨n + 1, by omega, by go_num, by rw [hz.out], (by repeat (first | exact Below.refl _ _ | assumption | refine Below.drew ?_ | refine below_drewN ?_ _ | refine Below.alloc' ?_ _ | (refine Below.setCell ?_ (by first | omega | (simp; done) | (simp; omega) | exact Below.size (by assumption) | exact Nat.le_trans (Below.size (by assumption)) (by simp)) _) | (refine Below.via' ?_ (by assumption)) | (refine Below.alloc ?_ (by first | omega | (simp; done) | (simp; omega) | exact Below.size (by assumption) | exact Nat.le_trans (Below.size (by assumption)) (by simp)) _) | (refine Below.via ?_ (by assumption) (by first | omega | (simp; done) | (simp; omega) | exact Below.size (by assumption) | exact Nat.le_trans (Below.size (by assumption)) (by simp)))))⟩
          case measure => simp [intOf]; omega
      · have hij : n = (awL P i).length := by omega
        have hlt' : ¬ (n : Int) < ((awL P i).length : Int) := by omega
        have z1 := hgs.out n hn
        by_cases h0 : (awL P i).length = 0
        · have hz : Hid (gpT P k i n = gtF P (k + 1) i) := by unfold Hid; rw [hij]; exact (gp_none h0).symm
          have ht : ¬ (0 : Int) < ((awL P i).length : Int) := by omega
          replace hij := Lib.hid hij
          replace h0 := Lib.hid h0
          go_wp2_with fail
          refine (gChildren_any _ _ P (i : Int) _ hm (hh.out.2.2.below hBr.out)).mono ?_
          rintro e w6 ⟨v6, rfl, ho6, hb6⟩
          obtain ⟨x6, c6, rfl, -, -⟩ := OwR.form (OwR.of ho6)
          have hB6 := Lib.hid (Below.via' hBr.out hb6)
          clear ho6 hb6 ka kb kc
          go_wp2
          go_ret
          exact ⟨ret_str hz.out, hB6.out⟩
        · have hz : Hid (gpT P k i n ++ ⟨#[41]⟩ = gtF P (k + 1) i) := by unfold Hid; rw [hij]; exact (gp_all h0).symm
          have ht : (0 : Int) < ((awL P i).length : Int) := by omega
          have hs1 : ¬ 9223372036854775807 < (gpT P k i n).size + (⟨#[41]⟩ : ByteArray).size := by rw [k41]; omega
          have hs3 : ¬ 9223372036854775807 < (gpT P k i n).size + 1 := by omega
          replace hij := Lib.hid hij
          replace h0 := Lib.hid h0
          go_wp2_with fail
          refine (gChildren_any _ _ P (i : Int) _ hm (hh.out.2.2.below hBr.out)).mono ?_
          rintro e w6 ⟨v6, rfl, ho6, hb6⟩
          obtain ⟨x6, c6, rfl, -, -⟩ := OwR.form (OwR.of ho6)
          have hB6 := Lib.hid (Below.via' hBr.out hb6)
          clear ho6 hb6 ka kb kc
          go_wp2
          go_ret
          exact ⟨ret_str hz.out, hB6.out⟩

theorem join_gen (bk : Nat) (L : List ByteArray) (w : World) (h1 : 1 ≤ L.length) (h2 : L.length ≤ 1000) (hs : (jnT L).size ≤ 10000000) (hr : Rd w (some ⟨bk, 0, none⟩) (tC L)) :
    Calls Tryd.prog 30 #[.slice (some ⟨bk, 0, none⟩) L.length L.length, .string ⟨#[32]⟩] w fun e w' => e = .returned (.string (jnT L)) ∧ Below w.heap.size w w' := by
  rcases hr with h | ⟨b, off, e, hb, hc⟩
  · have := congrArg List.length h
    rw [tC_len, List.length_nil] at this
    omega
  injection e with e
  injection e with e1 e2
  subst e1 e2
  have hj := Tryd.strings_Join bk 0 L.length L ⟨#[32]⟩ w (fun j t hj => hc j _ (tC_at hj)) hb (by omega) (by omega) (by
    have hz : (jnT L).size = (Lib.join (L.map (·.data.toList)) (⟨#[32]⟩ : ByteArray).data.toList).length := List.size_toArray ..
    omega)
  exact hj

set_option maxHeartbeats 8000000 in
theorem areaText_any (x : Option Addr) (c : Nat) (P : List Int) (hg : geB P = true) : ∀ (k i : Nat) (w : World), i < P.length → P.length - i ≤ k → IIn w x P →
    Calls Tryd.prog 19 #[.agg #[.slice x P.length c], .int .i64 i] w fun e w' => e = .returned (.string (gtF P k i)) ∧ Below w.heap.size w w' := by
  intro k
  induction k with
  | zero => intro i w hi hk; omega
  | succ k ih =>
    intro i w hi hk h
    have hm := h.1
    have hh := Lib.hid h
    have hl := ge_len hg
    have hgh := Lib.hid hg
    have hih := Lib.hid ih
    have hq := Lib.hid (QB.new w x P.length c 28)
    have hgs := gp_size hg (k := k) hi (by omega) (awL P i).length (Nat.le_refl _)
    have hnz := (numZ_two (i := i) (by omega)).2
    have hal := sel_len (eqP P (i : Int)) P.length
    have hal2 : (awL P i).length ≤ 30 := by have : (awL P i).length ≤ P.length := hal; omega
    have k40 : (⟨#[40]⟩ : ByteArray).size = 1 := rfl
    have k41 : (⟨#[41]⟩ : ByteArray).size = 1 := rfl
    clear ih h hal
    by_cases h0 : (awL P i).length = 0
    · have hv := Lib.hid (gt_leaf (k := k) h0)
      have ht : (((awL P i).length : Int) == 0) = true := by rw [beq_iff_eq]; omega
      replace h0 := Lib.hid h0
      go_enter Tryd.func19, Tryd.ntmps19
      go_wp2_with fail
      refine (itoa_smallG (i : Int) _ (by omega) (by omega)).mono ?_
      rintro e w1 ⟨rfl, rfl⟩
      go_wp2_with fail
      refine (areasWith_any _ _ P (i : Int) _ hm (hh.out.2.2.below (by exact (by repeat (first | exact Below.refl _ _ | assumption | refine Below.drew ?_ | refine below_drewN ?_ _ | refine Below.alloc' ?_ _ | (refine Below.setCell ?_ (by first | omega | (simp; done) | (simp; omega) | exact Below.size (by assumption) | exact Nat.le_trans (Below.size (by assumption)) (by simp)) _) | (refine Below.via' ?_ (by assumption)) | (refine Below.alloc ?_ (by first | omega | (simp; done) | (simp; omega) | exact Below.size (by assumption) | exact Nat.le_trans (Below.size (by assumption)) (by simp)) _) | (refine Below.via ?_ (by assumption) (by first | omega | (simp; done) | (simp; omega) | exact Below.size (by assumption) | exact Nat.le_trans (Below.size (by assumption)) (by simp)))))))).mono ?_
      rintro e w2 ⟨v2, rfl, ho2, hb2⟩
      obtain ⟨xv, cv, rfl, -, -⟩ := OwR.form (OwR.of ho2)
      clear ho2
      go_wp2
      go_ret
      exact ⟨ret_str hv.out.symm, (by repeat (first | exact Below.refl _ _ | assumption | refine Below.drew ?_ | refine below_drewN ?_ _ | refine Below.alloc' ?_ _ | (refine Below.setCell ?_ (by first | omega | (simp; done) | (simp; omega) | exact Below.size (by assumption) | exact Nat.le_trans (Below.size (by assumption)) (by simp)) _) | (refine Below.via' ?_ (by assumption)) | (refine Below.alloc ?_ (by first | omega | (simp; done) | (simp; omega) | exact Below.size (by assumption) | exact Nat.le_trans (Below.size (by assumption)) (by simp)) _) | (refine Below.via ?_ (by assumption) (by first | omega | (simp; done) | (simp; omega) | exact Below.size (by assumption) | exact Nat.le_trans (Below.size (by assumption)) (by simp)))))⟩
    have ht : (((awL P i).length : Int) == 0) = false := by rw [beq_eq_false_iff_ne]; omega
    have hpos : 1 ≤ (awL P i).length := by omega
    obtain ⟨i0, hii, hz0, hz1, hz2⟩ := info_parts Tryd.infoStr
    have hbb : i0.bytes * (awL P i).length ≤ 281474976710656 := by rw [hz2]; omega
    have hmm : (awL P i).length ≤ maxLen := by unfold maxLen; omega
    have hv : Hid (gtF P (k + 1) i = numZ i ++ ⟨#[40]⟩ ++ jnT ((awL P i).map fun c => gtF P k c.toNat) ++ ⟨#[41]⟩) := gt_node h0
    have hjs : (jnT ((awL P i).map fun c => gtF P k c.toNat)).size ≤ 10000000 := by
      have h3 : gpT P k i (awL P i).length = numZ i ++ ⟨#[40]⟩ ++ jnT ((awL P i).map fun c => gtF P k c.toNat) := by
        unfold gpT
        rw [if_neg h0, List.take_length]
      rw [h3, ByteArray.size_append] at hgs
      omega
    replace h0 := Lib.hid h0
    clear hgs
    go_enter Tryd.func19, Tryd.ntmps19
    go_wp2_with fail
    refine (itoa_smallG (i : Int) _ (by omega) (by omega)).mono ?_
    rintro e w1 ⟨rfl, rfl⟩
    go_wp2_with fail
    refine (areasWith_any _ _ P (i : Int) _ hm (hh.out.2.2.below (by exact (by repeat (first | exact Below.refl _ _ | assumption | refine Below.drew ?_ | refine below_drewN ?_ _ | refine Below.alloc' ?_ _ | (refine Below.setCell ?_ (by first | omega | (simp; done) | (simp; omega) | exact Below.size (by assumption) | exact Nat.le_trans (Below.size (by assumption)) (by simp)) _) | (refine Below.via' ?_ (by assumption)) | (refine Below.alloc ?_ (by first | omega | (simp; done) | (simp; omega) | exact Below.size (by assumption) | exact Nat.le_trans (Below.size (by assumption)) (by simp)) _) | (refine Below.via ?_ (by assumption) (by first | omega | (simp; done) | (simp; omega) | exact Below.size (by assumption) | exact Nat.le_trans (Below.size (by assumption)) (by simp)))))))).mono ?_
    rintro e w2 ⟨v2, rfl, ho2, hb2⟩
    have hq2 := Lib.hid (hq.out.below hb2)
    obtain ⟨xv, cv, rfl, -, -⟩ := OwR.form (OwR.of ho2)
    have A2 := Lib.hid (Rd.of_own ho2)
    have B2 := Lib.hid (show Below w.heap.size w w2 from (by repeat (first | exact Below.refl _ _ | assumption | refine Below.drew ?_ | refine below_drewN ?_ _ | refine Below.alloc' ?_ _ | (refine Below.setCell ?_ (by first | omega | (simp; done) | (simp; omega) | exact Below.size (by assumption) | exact Nat.le_trans (Below.size (by assumption)) (by simp)) _) | (refine Below.via' ?_ (by assumption)) | (refine Below.alloc ?_ (by first | omega | (simp; done) | (simp; omega) | exact Below.size (by assumption) | exact Nat.le_trans (Below.size (by assumption)) (by simp)) _) | (refine Below.via ?_ (by assumption) (by first | omega | (simp; done) | (simp; omega) | exact Below.size (by assumption) | exact Nat.le_trans (Below.size (by assumption)) (by simp))))))
    clear ho2 hb2 hq
    go_wp2_with (at_make; go_loud (refine wpList_make_full _ rfl _ _ 45 rfl w2.heap.size 9 i0 (.string ⟨#[]⟩) 1 Tryd.underlying45 hii hz0 hz1 .i64 .i64 _ _ (awL P i).length rfl rfl rfl rfl hbb hmm (Nat.le_refl _) (fun w3 hown hgrow => ?_)))
    have hb3 : Below w2.heap.size w2 w3 := (Below.refl _ _).grown hgrow (Nat.le_refl _) (by intro k hk; cases hk)
    clear hgrow hii hz0 hz1 hz2 hbb hmm ht
    go_loopw [25] (fun q wr => ∃ (n : Nat) (xs : List Value), n ≤ (awL P i).length ∧ q = .int .i64 n ∧ wr.ownsRow w2.heap.size 9 1 (.slice (some ⟨w2.heap.size, 0, none⟩) (awL P i).length (awL P i).length) (awL P i).length xs ∧ Hid (∀ j, j < n → xs[j]? = (tC ((awL P i).map fun c => gtF P k c.toNat))[j]?) ∧ Below w2.heap.size w2 wr) (fun q _ => (awL P i).length - (intOf q).toNat)
    case atStart => exact ⟨0, _, by omega, by go_num, hown, (fun j hj => absurd hj (by omega)), hb3⟩
    case round =>
      clear hown hb3
      obtain ⟨n, xs, hn, rfl, hown, hdone, hb⟩ := hrel
      have hqr := Lib.hid (hq2.out.below hb)
      obtain ⟨ka, kb, kc⟩ := hqr.out
      have hBr := Lib.hid (Below.via' B2.out hb)
      by_cases hlt : n < (awL P i).length
      · obtain ⟨bl, off, v, rfl, hbl, hA, hc0⟩ := (A2.out.below hb).int hlt
        obtain ⟨m, rfl, hmP, him, -⟩ := aw_child hgh.out (List.mem_of_getElem? hA)
        have hlt' : (n : Int) < ((awL P i).length : Int) := by omega
        have hn0 : (0 : Int) ≤ (n : Int) := by omega
        have hk2 : P.length - m ≤ k := by omega
        replace hA := Lib.hid hA
        have hownh := Lib.hid hown
        clear hown
        go_wp2_with fail
        refine (hih.out m _ hmP hk2 (hh.out.below hBr.out)).mono ?_
        rintro e w5 ⟨rfl, hb5⟩
        have ho5 := own_below hownh.out hb5
        obtain ⟨u, hu, k0⟩ := own_cell ho5 (j := n) (by omega)
        have k2 := ho5.frozenAt n
        have k4 := (own_lt ho5).2
        have hst := ho5.stored n (.string (gtF P k m))
        have hs1 := Lib.hid hst.1
        have hlen : xs.length = (awL P i).length := by rw [hownh.out.1]; omega
        have hb6 := Lib.hid ((hb.trans (hb5.mono hb.size)).setCell (p := ⟨w2.heap.size, n, none⟩) (Nat.le_refl _) (.string (gtF P k m)))
        replace hu := Lib.hid hu
        replace hlen := Lib.hid hlen
        clear hst ho5 hb5
        go_wp2
        go_roundw
        case rel =>
          refine ⟨n + 1, _, by omega, by go_num, hs1.out, ?_, hb6.out⟩
          intro j hj
          rw [List.getElem?_set]
          split
          · subst_vars
            rw [if_pos (by rw [hlen.out]; omega)]
            unfold tC
            rw [List.getElem?_map, List.getElem?_map, hA.out]
            rfl
          · exact hdone.out j (by omega)
        case measure => simp [intOf]; omega
      · have hij : n = (awL P i).length := by omega
        subst hij
        have hxs : xs = tC ((awL P i).map fun c => gtF P k c.toNat) := by
          have hlen : xs.length = (awL P i).length := by rw [hown.1]; omega
          apply List.ext_getElem?
          intro j
          rcases Nat.lt_or_ge j (awL P i).length with hj | hj
          · exact hdone.out j hj
          · rw [List.getElem?_eq_none (by omega), List.getElem?_eq_none (by rw [tC_len, List.length_map]; omega)]
        subst hxs
        have hrd := Lib.hid (Rd.of_own hown)
        have hj := join_gen w2.heap.size ((awL P i).map fun c => gtF P k c.toNat) wr (by rw [List.length_map]; exact hpos) (by rw [List.length_map]; omega) hjs hrd.out
        rw [List.length_map] at hj
        have hjh := Lib.hid hj
        have hs1 : ¬ 9223372036854775807 < (numZ i).size + (⟨#[40]⟩ : ByteArray).size := by rw [k40]; omega
        have hs2 : ¬ 9223372036854775807 < (numZ i ++ ⟨#[40]⟩).size + (jnT ((awL P i).map fun c => gtF P k c.toNat)).size := by rw [ByteArray.size_append, k40]; omega
        have hs3 : ¬ 9223372036854775807 < (numZ i ++ ⟨#[40]⟩ ++ jnT ((awL P i).map fun c => gtF P k c.toNat)).size + (⟨#[41]⟩ : ByteArray).size := by rw [ByteArray.size_append, ByteArray.size_append, k40, k41]; omega
        have hs4 : ¬ 9223372036854775807 < (numZ i).size + 1 := by omega
        have hs5 : ¬ 9223372036854775807 < (numZ i).size + 1 + (jnT ((awL P i).map fun c => gtF P k c.toNat)).size := by omega
        have hs6 : ¬ 9223372036854775807 < (numZ i).size + 1 + (jnT ((awL P i).map fun c => gtF P k c.toNat)).size + 1 := by omega
        clear hdone hown hj ka kb kc
        go_wp2_with fail
        refine hjh.out.mono ?_
        rintro e w6 ⟨rfl, hb6⟩
        have hB6 := Lib.hid (Below.via' hBr.out hb6)
        go_wp2
        go_ret
        exact ⟨ret_str hv.out.symm, hB6.out⟩

/-- What GeoText gives. -/
def gtR (P : List Int) : ByteArray := if geB P then gtF P P.length 0 else ⟨#[]⟩
theorem ret_sbG {a b : ByteArray} {p q : Bool} (h : a = b) (k : p = q) : Ending.returned (.tuple #[.string a, .bool p]) = .returned (.tuple #[.string b, .bool q]) := by rw [h, k]
set_option maxHeartbeats 2000000 in
theorem iGT_x (x : Option Addr) (c : Nat) (P : List Int) (w : World) (h : IIn w x P) :
    Calls Tryd.prog 8 #[.agg #[.slice x P.length c]] w fun e w' => e = .returned (.tuple #[.string (gtR P), .bool (geB P)]) ∧ Below w.heap.size w w' := by
  have hh := Lib.hid h
  have hq := Lib.hid (QB.new w x P.length c 28)
  clear h
  cases hg : geB P
  · have hv : Hid (gtR P = ⟨#[]⟩) := by unfold Hid gtR; rw [hg]; rfl
    go_enter Tryd.func8, Tryd.ntmps8
    go_wp2_with fail
    refine (iGeo_any _ _ _ _ (hh.out.below (by exact (by repeat (first | exact Below.refl _ _ | assumption | refine Below.drew ?_ | refine below_drewN ?_ _ | refine Below.alloc' ?_ _ | (refine Below.setCell ?_ (by first | omega | (simp; done) | (simp; omega) | exact Below.size (by assumption) | exact Nat.le_trans (Below.size (by assumption)) (by simp)) _) | (refine Below.via' ?_ (by assumption)) | (refine Below.alloc ?_ (by first | omega | (simp; done) | (simp; omega) | exact Below.size (by assumption) | exact Nat.le_trans (Below.size (by assumption)) (by simp)) _) | (refine Below.via ?_ (by assumption) (by first | omega | (simp; done) | (simp; omega) | exact Below.size (by assumption) | exact Nat.le_trans (Below.size (by assumption)) (by simp)))))))).mono ?_
    rintro e w1 ⟨rfl, hb1⟩
    rw [hg]
    go_wp2
    go_ret2
    exact ⟨ret_sbG hv.out.symm rfl, (by repeat (first | exact Below.refl _ _ | assumption | refine Below.drew ?_ | refine below_drewN ?_ _ | refine Below.alloc' ?_ _ | (refine Below.setCell ?_ (by first | omega | (simp; done) | (simp; omega) | exact Below.size (by assumption) | exact Nat.le_trans (Below.size (by assumption)) (by simp)) _) | (refine Below.via' ?_ (by assumption)) | (refine Below.alloc ?_ (by first | omega | (simp; done) | (simp; omega) | exact Below.size (by assumption) | exact Nat.le_trans (Below.size (by assumption)) (by simp)) _) | (refine Below.via ?_ (by assumption) (by first | omega | (simp; done) | (simp; omega) | exact Below.size (by assumption) | exact Nat.le_trans (Below.size (by assumption)) (by simp)))))⟩
  · have hv : Hid (gtR P = gtF P P.length 0) := by unfold Hid gtR; rw [hg]; rfl
    have hl := ge_len hg
    go_enter Tryd.func8, Tryd.ntmps8
    go_wp2_with fail
    refine (iGeo_any _ _ _ _ (hh.out.below (by exact (by repeat (first | exact Below.refl _ _ | assumption | refine Below.drew ?_ | refine below_drewN ?_ _ | refine Below.alloc' ?_ _ | (refine Below.setCell ?_ (by first | omega | (simp; done) | (simp; omega) | exact Below.size (by assumption) | exact Nat.le_trans (Below.size (by assumption)) (by simp)) _) | (refine Below.via' ?_ (by assumption)) | (refine Below.alloc ?_ (by first | omega | (simp; done) | (simp; omega) | exact Below.size (by assumption) | exact Nat.le_trans (Below.size (by assumption)) (by simp)) _) | (refine Below.via ?_ (by assumption) (by first | omega | (simp; done) | (simp; omega) | exact Below.size (by assumption) | exact Nat.le_trans (Below.size (by assumption)) (by simp)))))))).mono ?_
    rintro e w1 ⟨rfl, hb1⟩
    obtain ⟨ka, kb, kc⟩ := hq.out.below hb1
    rw [hg]
    go_wp2_with fail
    refine (areaText_any _ _ P hg P.length 0 _ (by omega) (by omega) (hh.out.below (by exact (by repeat (first | exact Below.refl _ _ | assumption | refine Below.drew ?_ | refine below_drewN ?_ _ | refine Below.alloc' ?_ _ | (refine Below.setCell ?_ (by first | omega | (simp; done) | (simp; omega) | exact Below.size (by assumption) | exact Nat.le_trans (Below.size (by assumption)) (by simp)) _) | (refine Below.via' ?_ (by assumption)) | (refine Below.alloc ?_ (by first | omega | (simp; done) | (simp; omega) | exact Below.size (by assumption) | exact Nat.le_trans (Below.size (by assumption)) (by simp)) _) | (refine Below.via ?_ (by assumption) (by first | omega | (simp; done) | (simp; omega) | exact Below.size (by assumption) | exact Nat.le_trans (Below.size (by assumption)) (by simp)))))))).mono ?_
    rintro e w2 ⟨rfl, hb2⟩
    go_wp2
    go_ret2
    exact ⟨ret_sbG hv.out.symm rfl, (by repeat (first | exact Below.refl _ _ | assumption | refine Below.drew ?_ | refine below_drewN ?_ _ | refine Below.alloc' ?_ _ | (refine Below.setCell ?_ (by first | omega | (simp; done) | (simp; omega) | exact Below.size (by assumption) | exact Nat.le_trans (Below.size (by assumption)) (by simp)) _) | (refine Below.via' ?_ (by assumption)) | (refine Below.alloc ?_ (by first | omega | (simp; done) | (simp; omega) | exact Below.size (by assumption) | exact Nat.le_trans (Below.size (by assumption)) (by simp)) _) | (refine Below.via ?_ (by assumption) (by first | omega | (simp; done) | (simp; omega) | exact Below.size (by assumption) | exact Nat.le_trans (Below.size (by assumption)) (by simp)))))⟩
set_option maxHeartbeats 2000000 in
theorem sGT_x (x : Option Addr) (c : Nat) (P : List Int) (w : World) (h : IIn w x P) :
    Calls Tryd.prog 6 #[.agg #[.slice x P.length c]] w fun e w' => e = .returned (.tuple #[.string (gtR P), .bool (geB P)]) ∧ Below w.heap.size w w' := by
  have hh := Lib.hid h
  have hq := Lib.hid (QB.new w x P.length c 28)
  clear h
  cases hg : geB P
  · have hv : Hid (gtR P = ⟨#[]⟩) := by unfold Hid gtR; rw [hg]; rfl
    go_enter Tryd.func6, Tryd.ntmps6
    go_wp2_with fail
    refine (gGood_any _ _ _ _ (hh.out.below (by exact (by repeat (first | exact Below.refl _ _ | assumption | refine Below.drew ?_ | refine below_drewN ?_ _ | refine Below.alloc' ?_ _ | (refine Below.setCell ?_ (by first | omega | (simp; done) | (simp; omega) | exact Below.size (by assumption) | exact Nat.le_trans (Below.size (by assumption)) (by simp)) _) | (refine Below.via' ?_ (by assumption)) | (refine Below.alloc ?_ (by first | omega | (simp; done) | (simp; omega) | exact Below.size (by assumption) | exact Nat.le_trans (Below.size (by assumption)) (by simp)) _) | (refine Below.via ?_ (by assumption) (by first | omega | (simp; done) | (simp; omega) | exact Below.size (by assumption) | exact Nat.le_trans (Below.size (by assumption)) (by simp)))))))).mono ?_
    rintro e w1 ⟨rfl, hb1⟩
    rw [hg]
    go_wp2
    go_ret2
    exact ⟨ret_sbG hv.out.symm rfl, (by repeat (first | exact Below.refl _ _ | assumption | refine Below.drew ?_ | refine below_drewN ?_ _ | refine Below.alloc' ?_ _ | (refine Below.setCell ?_ (by first | omega | (simp; done) | (simp; omega) | exact Below.size (by assumption) | exact Nat.le_trans (Below.size (by assumption)) (by simp)) _) | (refine Below.via' ?_ (by assumption)) | (refine Below.alloc ?_ (by first | omega | (simp; done) | (simp; omega) | exact Below.size (by assumption) | exact Nat.le_trans (Below.size (by assumption)) (by simp)) _) | (refine Below.via ?_ (by assumption) (by first | omega | (simp; done) | (simp; omega) | exact Below.size (by assumption) | exact Nat.le_trans (Below.size (by assumption)) (by simp)))))⟩
  · have hv : Hid (gtR P = gtF P P.length 0) := by unfold Hid gtR; rw [hg]; rfl
    have hl := ge_len hg
    go_enter Tryd.func6, Tryd.ntmps6
    go_wp2_with fail
    refine (gGood_any _ _ _ _ (hh.out.below (by exact (by repeat (first | exact Below.refl _ _ | assumption | refine Below.drew ?_ | refine below_drewN ?_ _ | refine Below.alloc' ?_ _ | (refine Below.setCell ?_ (by first | omega | (simp; done) | (simp; omega) | exact Below.size (by assumption) | exact Nat.le_trans (Below.size (by assumption)) (by simp)) _) | (refine Below.via' ?_ (by assumption)) | (refine Below.alloc ?_ (by first | omega | (simp; done) | (simp; omega) | exact Below.size (by assumption) | exact Nat.le_trans (Below.size (by assumption)) (by simp)) _) | (refine Below.via ?_ (by assumption) (by first | omega | (simp; done) | (simp; omega) | exact Below.size (by assumption) | exact Nat.le_trans (Below.size (by assumption)) (by simp)))))))).mono ?_
    rintro e w1 ⟨rfl, hb1⟩
    obtain ⟨ka, kb, kc⟩ := hq.out.below hb1
    rw [hg]
    go_wp2_with fail
    refine (gText_any _ _ P hg P.length 0 _ (by omega) (by omega) (hh.out.below (by exact (by repeat (first | exact Below.refl _ _ | assumption | refine Below.drew ?_ | refine below_drewN ?_ _ | refine Below.alloc' ?_ _ | (refine Below.setCell ?_ (by first | omega | (simp; done) | (simp; omega) | exact Below.size (by assumption) | exact Nat.le_trans (Below.size (by assumption)) (by simp)) _) | (refine Below.via' ?_ (by assumption)) | (refine Below.alloc ?_ (by first | omega | (simp; done) | (simp; omega) | exact Below.size (by assumption) | exact Nat.le_trans (Below.size (by assumption)) (by simp)) _) | (refine Below.via ?_ (by assumption) (by first | omega | (simp; done) | (simp; omega) | exact Below.size (by assumption) | exact Nat.le_trans (Below.size (by assumption)) (by simp)))))))).mono ?_
    rintro e w2 ⟨rfl, hb2⟩
    go_wp2
    go_ret2
    exact ⟨ret_sbG hv.out.symm rfl, (by repeat (first | exact Below.refl _ _ | assumption | refine Below.drew ?_ | refine below_drewN ?_ _ | refine Below.alloc' ?_ _ | (refine Below.setCell ?_ (by first | omega | (simp; done) | (simp; omega) | exact Below.size (by assumption) | exact Nat.le_trans (Below.size (by assumption)) (by simp)) _) | (refine Below.via' ?_ (by assumption)) | (refine Below.alloc ?_ (by first | omega | (simp; done) | (simp; omega) | exact Below.size (by assumption) | exact Nat.le_trans (Below.size (by assumption)) (by simp)) _) | (refine Below.via ?_ (by assumption) (by first | omega | (simp; done) | (simp; omega) | exact Below.size (by assumption) | exact Nat.le_trans (Below.size (by assumption)) (by simp)))))⟩
end Go.Proofs.YtelnbjhnjcbjoabDoor
