/-
  The walks of chapter 4: a list that is reversed; the program's paths.
-/
import Derived.Test.YtmefkknkahmihaaGeoF
namespace Go.Proofs.Ytmefkknkahmihaa
open Go.RowKit
set_option maxRecDepth 100000

/-- A list with its first k and its last k elements exchanged. -/
def rvA (L : List Int) (k t : Nat) : Int := if t < k ∨ L.length ≤ t + k then L.getD (L.length - 1 - t) 0 else L.getD t 0
def rvK (L : List Int) (k : Nat) : List Int := (List.range L.length).map (rvA L k)
theorem rvK_len (L : List Int) (k : Nat) : (rvK L k).length = L.length := by unfold rvK; simp
theorem rvK_at {L : List Int} {k t : Nat} (h : t < L.length) : (rvK L k)[t]? = some (rvA L k t) := by unfold rvK; simp [h]
theorem gd_at {L : List Int} {t : Nat} (h : t < L.length) : L[t]? = some (L.getD t 0) := by rw [List.getD_eq_getElem?_getD, List.getElem?_eq_getElem h]; rfl
theorem rvK_zero (L : List Int) : rvK L 0 = L := by
  apply List.ext_getElem?
  intro t
  by_cases h : t < L.length
  · rw [rvK_at h, gd_at h]
    unfold rvA
    rw [if_neg (by omega)]
  · rw [List.getElem?_eq_none (by rw [rvK_len]; omega), List.getElem?_eq_none (by omega)]
theorem rvK_end {L : List Int} {k : Nat} (hk : L.length ≤ 2 * k + 1) : rvK L k = L.reverse := by
  apply List.ext_getElem?
  intro t
  by_cases h : t < L.length
  · rw [rvK_at h, List.getElem?_reverse h, gd_at (by omega)]
    unfold rvA
    by_cases hc : t < k ∨ L.length ≤ t + k
    · rw [if_pos hc]
    · rw [if_neg hc, show L.length - 1 - t = t by omega]
  · rw [List.getElem?_eq_none (by rw [rvK_len]; omega), List.getElem?_eq_none (by simp; omega)]
theorem rvK_step {L : List Int} {k : Nat} (hk : 2 * k + 1 < L.length) : ((rvK L k).set k (L.getD (L.length - 1 - k) 0)).set (L.length - 1 - k) (L.getD k 0) = rvK L (k + 1) := by
  apply List.ext_getElem?
  intro t
  rw [List.getElem?_set, List.getElem?_set, List.length_set, rvK_len]
  by_cases h : t < L.length
  · rw [rvK_at h, rvK_at h]
    by_cases e1 : L.length - 1 - k = t
    · rw [if_pos e1, if_pos (by omega)]
      unfold rvA
      rw [if_pos (by omega), ← e1, show L.length - 1 - (L.length - 1 - k) = k by omega]
    · rw [if_neg e1]
      by_cases e2 : k = t
      · subst e2
        rw [if_pos rfl, if_pos (by omega)]
        unfold rvA
        rw [if_pos (by omega)]
      · rw [if_neg e2]
        unfold rvA
        by_cases hc : t < k ∨ L.length ≤ t + k
        · rw [if_pos hc, if_pos (by omega)]
        · rw [if_neg hc, if_neg (by omega)]
  · rw [if_neg (by omega), if_neg (by omega), List.getElem?_eq_none (by rw [rvK_len]; omega), List.getElem?_eq_none (by rw [rvK_len]; omega)]

set_option maxHeartbeats 4000000 in
theorem reverse_any (g cap base : Nat) (L : List Int) (w : World) (hm : L.length ≤ 1048576) (h0 : 1 ≤ L.length) (ho : w.ownsRow base 3 1 (.slice (some ⟨g, 0, none⟩) L.length cap) L.length (iC L)) :
    Calls Try.prog 28 #[.slice (some ⟨g, 0, none⟩) L.length cap] w fun e w' => e = .returned (.tuple #[]) ∧ w'.ownsRow base 3 1 (.slice (some ⟨g, 0, none⟩) L.length cap) L.length (iC L.reverse) ∧ w.grownBy w' (some g) := by
  have hoh := Lib.hid ho
  clear ho
  have hpos : (1 : Int) ≤ (L.length : Int) := by omega
  go_enter Try.func28, Try.ntmps28
  go_wp2
  go_loopw [2, 3] (fun a b wr => ∃ k : Nat, 2 * k ≤ L.length ∧ a = .int .i64 k ∧ b = .int .i64 ((L.length : Int) - 1 - k) ∧ wr.ownsRow base 3 1 (.slice (some ⟨g, 0, none⟩) L.length cap) L.length (iC (rvK L k)) ∧ w.grownBy wr (some g)) (fun a _ _ => L.length - (intOf a).toNat)
  case atStart => exact ⟨0, by omega, by go_num, by go_num, by rw [rvK_zero]; exact hoh.out, World.grownBy.refl _ _⟩
  case round =>
    clear hoh
    obtain ⟨k, hk, rfl, rfl, hown, hb⟩ := hrel
    by_cases hlt : 2 * k + 1 < L.length
    · have hlt' : (k : Int) < (L.length : Int) - 1 - (k : Int) := by omega
      obtain ⟨m, hmk⟩ : ∃ m : Nat, m = L.length - 1 - k := ⟨_, rfl⟩
      have hmi : ((L.length : Int) - 1 - (k : Int)) = (m : Int) := by omega
      have hml : m < L.length := by omega
      have hkm : k < m := by omega
      have hkl : k < L.length := by omega
      obtain ⟨u, hu, k0⟩ := own_cell hown (j := k) (by omega)
      obtain ⟨u2, hu2, k02⟩ := own_cell hown (j := m) (by omega)
      have k1 := hown.frozenAt k
      have k12 := hown.frozenAt m
      have k4 := (own_lt hown).2
      have ek : rvA L k k = L.getD k 0 := by unfold rvA; rw [if_neg (by omega)]
      have em : rvA L k m = L.getD m 0 := by unfold rvA; rw [if_neg (by omega)]
      obtain ⟨p, hp⟩ : ∃ p : Int, p = L.getD k 0 := ⟨_, rfl⟩
      obtain ⟨q, hq⟩ : ∃ q : Int, q = L.getD m 0 := ⟨_, rfl⟩
      obtain rfl : u = .int .i64 p := by rw [hp, ← ek]; exact Option.some.inj (hu.symm.trans (iC_at (rvK_at hkl)))
      obtain rfl : u2 = .int .i64 q := by rw [hq, ← em]; exact Option.some.inj (hu2.symm.trans (iC_at (rvK_at hml)))
      have hst := hown.stored k (.int .i64 q)
      have hst2 := hst.1.stored m (.int .i64 p)
      have hse : ((rvK L k).set k q).set m p = rvK L (k + 1) := by rw [hp, hq, hmk]; exact rvK_step hlt
      rw [iC_setG, iC_setG, hse] at hst2
      have ho2 := Lib.hid hst2.1
      have hg2 := Lib.hid ((hb.trans hst.2).trans hst2.2)
      have hown := Lib.hid hown
      have hk0 : (0 : Int) ≤ (k : Int) := by omega
      have hm0 : (0 : Int) ≤ (m : Int) := by omega
      have hk1 : (k : Int) < (L.length : Int) := by omega
      have hm1 : (m : Int) < (L.length : Int) := by omega
      have hne : k ≠ m := by omega
      have hne2 : m ≠ k := by omega
      have hnx : Hid ((m : Int) - 1 = (L.length : Int) - 1 - ((k + 1 : Nat) : Int)) := by unfold Hid; omega
      rw [hmi]
      rw [hmi] at hlt'
      replace hmi := Lib.hid hmi
      replace hmk := Lib.hid hmk
      replace ek := Lib.hid ek
      replace em := Lib.hid em
      replace hu := Lib.hid hu
      replace hu2 := Lib.hid hu2
      clear hst hst2 hse hp hq
      go_wp2
      go_region
      all_goals
        go_wp2
        go_roundw
        case rel => exact ⟨k + 1, by omega, by go_num, by rw [hnx.out], own_below ho2.out (by repeat (first | exact Below.refl _ _ | assumption | refine Below.drew ?_ | refine below_drewN ?_ _ | refine Below.alloc' ?_ _ | (refine Below.setCell ?_ (by first | omega | (simp; done) | (simp; omega) | exact Below.size (by assumption) | exact Nat.le_trans (Below.size (by assumption)) (by simp)) _) | (refine Below.via' ?_ (by assumption)) | (refine Below.alloc ?_ (by first | omega | (simp; done) | (simp; omega) | exact Below.size (by assumption) | exact Nat.le_trans (Below.size (by assumption)) (by simp)) _) | (refine Below.via ?_ (by assumption) (by first | omega | (simp; done) | (simp; omega) | exact Below.size (by assumption) | exact Nat.le_trans (Below.size (by assumption)) (by simp))))), hg2.out.trans (grown_of_bel (by repeat (first | exact Below.refl _ _ | assumption | refine Below.drew ?_ | refine below_drewN ?_ _ | refine Below.alloc' ?_ _ | (refine Below.setCell ?_ (by first | omega | (simp; done) | (simp; omega) | exact Below.size (by assumption) | exact Nat.le_trans (Below.size (by assumption)) (by simp)) _) | (refine Below.via' ?_ (by assumption)) | (refine Below.alloc ?_ (by first | omega | (simp; done) | (simp; omega) | exact Below.size (by assumption) | exact Nat.le_trans (Below.size (by assumption)) (by simp)) _) | (refine Below.via ?_ (by assumption) (by first | omega | (simp; done) | (simp; omega) | exact Below.size (by assumption) | exact Nat.le_trans (Below.size (by assumption)) (by simp))))) _)⟩
        case measure => simp [intOf]; omega
    · have hge : ¬ (k : Int) < (L.length : Int) - 1 - (k : Int) := by omega
      have hv := Lib.hid (rvK_end (L := L) (k := k) (by omega))
      have hown := Lib.hid hown
      go_wp2
      refine bodyPost_end (v := .tuple #[]) (by simp [results, Try.results28, go_sem]) rfl ?_
      exact ⟨rfl, by rw [← hv.out]; exact hown.out, hb⟩

set_option maxHeartbeats 4000000 in
theorem pathTo_any (x : Option Addr) (c : Nat) (P : List Int) (i : Nat) (w : World) (hg : geB P = true) (hi : i < P.length) (h : IIn w x P) :
    Calls Try.prog 19 #[.agg #[.slice x P.length c], .int .i64 i] w (RetG (ptL P i) w) := by
  obtain ⟨i0, hii, hz0, hz1, hz2⟩ := info_parts Try.infoInt
  have hm := h.1
  have hh := Lib.hid h.2.2
  have hl := ge_len hg
  have hd := dp_le hg hi
  have hgh := Lib.hid hg
  have hq0 := Lib.hid (QB.new w x P.length c 26)
  clear h hg
  go_enter Try.func19, Try.ntmps19
  go_wp2
  go_loopw [1, 5] (fun a u wr => ∃ (z : Int) (L R : List Int), a = .int .i64 z ∧ -1 ≤ z ∧ Hid (Clm P z R) ∧ Hid (L ++ R = upW P i) ∧ L.length ≤ 31 ∧ wr.ownsRow (w.heap.size + 1) 3 1 u L.length (iC L) ∧ QB wr w.heap.size x P.length c ∧ Below w.heap.size w wr) (fun a _ _ => (intOf a + 1).toNat)
  case atStart => exact ⟨i, [], upW P i, rfl, by omega, Or.inr ⟨i, rfl, hi, rfl⟩, rfl, by simp, World.ownsRow_nil _ _ _ _, hq0.out, (by repeat (first | exact Below.refl _ _ | assumption | refine Below.drew ?_ | refine below_drewN ?_ _ | refine Below.alloc' ?_ _ | (refine Below.setCell ?_ (by first | omega | (simp; done) | (simp; omega) | exact Below.size (by assumption) | exact Nat.le_trans (Below.size (by assumption)) (by simp)) _) | (refine Below.via' ?_ (by assumption)) | (refine Below.alloc ?_ (by first | omega | (simp; done) | (simp; omega) | exact Below.size (by assumption) | exact Nat.le_trans (Below.size (by assumption)) (by simp)) _) | (refine Below.via ?_ (by assumption) (by first | omega | (simp; done) | (simp; omega) | exact Below.size (by assumption) | exact Nat.le_trans (Below.size (by assumption)) (by simp)))))⟩
  case round =>
    clear hq0
    obtain ⟨z, L, R, rfl, hz, hc, hL, hLl, hown, hq, hb⟩ := hrel
    obtain ⟨ka, kb, kc⟩ := hq
    have hqh := Lib.hid (show QB wr w.heap.size x P.length c from ⟨ka, kb, kc⟩)
    have hownh := Lib.hid hown
    clear hown
    rcases hc.out with ⟨rfl, hR⟩ | ⟨j, rfl, hj, hR⟩
    · have hLe : L = upW P i := by
        have := hL.out
        rw [hR] at this
        simpa using this
      have hv : Hid (L.reverse = ptL P i) := by rw [hLe]; rfl
      have hLn : 1 ≤ L.length := by rw [hLe, up_len]; omega
      obtain ⟨g, cu, rfl⟩ := own_someV hownh.out (by omega)
      replace hLe := Lib.hid hLe
      replace hR := Lib.hid hR
      have hs0 := hb.size
      have hgw := (own_lt hownh.out).1
      clear hc
      go_wp2_with fail
      refine (reverse_any g cu (w.heap.size + 1) L wr (by omega) hLn hownh.out).mono ?_
      rintro e w2 ⟨rfl, ho2, hg2⟩
      have ho2 := Lib.hid ho2
      have hb2 := Lib.hid (hb.grown hg2 (by omega) (fun k hk => by injection hk with hk; omega))
      clear hg2 ka kb kc
      go_wp2
      go_ret
      refine ⟨_, rfl, ?_, hb2.out⟩
      rw [← hv.out, List.length_reverse]
      exact own_more ho2.out (by omega)
    · obtain ⟨b, off, v, hx, hbl, hPj, hc0⟩ := (hh.out.below hb).int (i := j) hj
      have hlen2 : Hid (L.length + R.length = dpN P i + 1) := by
        have := congrArg List.length hL.out
        rw [List.length_append, up_len] at this
        exact this
      have hll : L.length ≤ 30 := by
        have h1 := hlen2.out
        rw [hR, up_len] at h1
        omega
      have hnext : Hid (-1 ≤ v ∧ v < j ∧ ∃ R2, Clm P v R2 ∧ R = (j : Int) :: R2) := by
        rcases Nat.eq_zero_or_pos j with e | e
        · subst e
          have hz := ge_zero hgh.out
          obtain rfl : v = -1 := Option.some.inj (hPj.symm.trans hz)
          exact ⟨by omega, by omega, [], clm_zero, by rw [hR]; exact upW_root⟩
        · obtain ⟨p, hp, hpl⟩ := ge_par hgh.out e hj
          obtain rfl : v = p := Option.some.inj (hPj.symm.trans hp)
          exact ⟨by omega, by omega, upW P p, Or.inr ⟨p, rfl, by omega, rfl⟩, by rw [hR]; exact upW_step hp hpl⟩
      obtain ⟨hn1, hn2, R2, hc2, hR2⟩ := hnext.out
      have hL2 : Hid ((L ++ [(j : Int)]) ++ R2 = upW P i) := by
        have := hL.out
        rw [hR2] at this
        unfold Hid
        simpa using this
      have hj0 : (0 : Int) ≤ (j : Int) := by omega
      have hj1 : (j : Int) < (P.length : Int) := by omega
      have hjm : ((j : Int) == -1) = false := by rw [beq_eq_false_iff_ne]; omega
      have hjm' : ((j : Int) != -1) = true := by show (!((j : Int) == -1)) = true; rw [hjm]; rfl
      replace hc2 := Lib.hid hc2
      replace hx := Lib.hid hx
      replace hPj := Lib.hid hPj
      clear hR hR2 hnext hc hL hlen2
      have hxx := hx.out
      subst hxx
      have hs0 := hb.size
      have hbq : b < w.heap.size := by
        rcases hh.out with h2 | ⟨b2, off2, e2, hl2, _⟩
        · have := iC_len P; rw [h2] at this; simp at this; omega
        · injection e2 with e2; injection e2 with e3; omega
      go_wp2_with (at_builtin; go_loud (refine wpList_append_rd _ rfl (.tmp 8) (.tmp 10) 24 rfl (w.heap.size + 1) 3 i0 (.int .i64 0) 1 8 Try.underlying24 hii hz0 hz1 hz2 rfl (by decide) _ (L).length (iC (L)) rfl ((hownh.out.alloc _)) _ 1 1 rfl (Nat.le_refl _) (by intro h; cases h) (iC [((j : Int) : Int)]) rfl (rd_oneG _ _ _ _ (by simp)) (iC_one _) (by unfold maxLen; omega) (by omega) (by simp; omega) ?_); intro v3 w3 hown3 hgrow3 hwhere3; (have hbx := append_below hb (fun k hk => by have := (hownh.out.lt k hk).1; omega) hgrow3 hwhere3); (obtain ⟨ka3, kb3, kc3⟩ := hqh.out.rest hgrow3 (fun k hk => by have := (hownh.out.lt k hk).1; omega)); (have hc3 := (hbx.1.cell (p := ⟨b, off + j, none⟩) hbq).trans ((hb.cell (p := ⟨b, off + j, none⟩) hbq).symm.trans hc0)))
      have hb3 := Lib.hid hbx.1
      have ho3 : Hid (w3.ownsRow (w.heap.size + 1) 3 1 v3 (L ++ [(j : Int)]).length (iC (L ++ [(j : Int)]))) := own_snoc hown3 rfl rfl
      have hq3 : Hid (QB w3 w.heap.size (some ⟨b, off, none⟩) P.length c) := ⟨ka3, kb3, kc3⟩
      clear hgrow3 hwhere3 hown3 hqh hownh hbx
      go_wp2
      go_roundw
      case rel => exact ⟨v, L ++ [(j : Int)], R2, rfl, hn1, hc2.out, hL2.out, by rw [List.length_append]; simp; omega, ho3.out, hq3.out, hb3.out⟩
      case measure => simp [intOf]; omega
end Go.Proofs.Ytmefkknkahmihaa
