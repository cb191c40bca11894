/-
  The walks of chapter 4: leaves of one depth; the program's and the model's.
-/
import Derived.Test.YtmefkknkahmihaaGeoF
import Derived.Deep.RegionLaw
namespace Go.Proofs.Ytmefkknkahmihaa
open Go.RowKit
set_option maxRecDepth 100000

theorem ret_bbN {a b p q : Bool} (h : a = b) (k : p = q) : Ending.returned (.tuple #[.bool a, .bool p]) = .returned (.tuple #[.bool b, .bool q]) := by rw [h, k]
/-- Have all leaves one depth? -/
def unB (P : List Int) : Bool := (lfL P).all fun x => decide (dpN P x.toNat = dpN P ((lfL P).getD 0 0).toNat)
def unR (P : List Int) : Bool := geB P && unB P
theorem un_no {P : List Int} {i f p : Nat} (h : (lfL P)[i]? = some (p : Int)) (h0 : (lfL P)[0]? = some (f : Int)) (hne : dpN P p ≠ dpN P f) : unB P = false := by
  unfold unB
  rw [List.all_eq_false]
  refine ⟨_, List.mem_of_getElem? h, ?_⟩
  rw [List.getD_eq_getElem?_getD, h0, Option.getD_some, Int.toNat_natCast, Int.toNat_natCast, decide_eq_false hne]
  exact Bool.false_ne_true
theorem un_yes {P : List Int} (h : ∀ j, j < (lfL P).length → ∃ p f : Nat, (lfL P)[j]? = some (p : Int) ∧ (lfL P)[0]? = some (f : Int) ∧ dpN P p = dpN P f) : unB P = true := by
  unfold unB
  rw [List.all_eq_true]
  intro x hx
  obtain ⟨j, hj, e⟩ := List.getElem_of_mem hx
  obtain ⟨p, f, h1, h2, h3⟩ := h j hj
  rw [List.getElem?_eq_getElem hj, e] at h1
  injection h1 with h1
  subst h1
  rw [List.getD_eq_getElem?_getD, h2, Option.getD_some, Int.toNat_natCast, Int.toNat_natCast, decide_eq_true h3]
theorem lf_nat {P : List Int} {i : Nat} {v : Int} (h : (lfL P)[i]? = some v) : ∃ p : Nat, v = (p : Int) ∧ p < P.length := by
  obtain ⟨p, e, hp, _⟩ := sel_mem.1 (List.mem_of_getElem? h)
  exact ⟨p, e, hp⟩

set_option maxHeartbeats 8000000 in
theorem iUN_x (x : Option Addr) (c : Nat) (P : List Int) (w : World) (h : IIn w x P) :
    Calls Try.prog 14 #[.agg #[.slice x P.length c]] w fun e w' => e = .returned (.tuple #[.bool (unR P), .bool (geB P)]) ∧ Below w.heap.size w w' := by
  have hm := h.1
  have hh := Lib.hid h
  have hq := Lib.hid (QB.new w x P.length c 26)
  clear h
  cases hg : geB P
  · have hv : Hid (unR P = false) := by unfold Hid unR; rw [hg]; rfl
    go_enter Try.func14, Try.ntmps14
    go_wp2_with fail
    refine (iGeo_any _ _ _ _ (hh.out.below (by exact (by repeat (first | exact Below.refl _ _ | assumption | refine Below.drew ?_ | refine below_drewN ?_ _ | refine Below.alloc' ?_ _ | (refine Below.setCell ?_ (by first | omega | (simp; done) | (simp; omega) | exact Below.size (by assumption) | exact Nat.le_trans (Below.size (by assumption)) (by simp)) _) | (refine Below.via' ?_ (by assumption)) | (refine Below.alloc ?_ (by first | omega | (simp; done) | (simp; omega) | exact Below.size (by assumption) | exact Nat.le_trans (Below.size (by assumption)) (by simp)) _) | (refine Below.via ?_ (by assumption) (by first | omega | (simp; done) | (simp; omega) | exact Below.size (by assumption) | exact Nat.le_trans (Below.size (by assumption)) (by simp)))))))).mono ?_
    rintro e w1 ⟨rfl, hb1⟩
    rw [hg]
    go_wp2
    go_ret2
    exact ⟨ret_bbN hv.out.symm rfl, (by repeat (first | exact Below.refl _ _ | assumption | refine Below.drew ?_ | refine below_drewN ?_ _ | refine Below.alloc' ?_ _ | (refine Below.setCell ?_ (by first | omega | (simp; done) | (simp; omega) | exact Below.size (by assumption) | exact Nat.le_trans (Below.size (by assumption)) (by simp)) _) | (refine Below.via' ?_ (by assumption)) | (refine Below.alloc ?_ (by first | omega | (simp; done) | (simp; omega) | exact Below.size (by assumption) | exact Nat.le_trans (Below.size (by assumption)) (by simp)) _) | (refine Below.via ?_ (by assumption) (by first | omega | (simp; done) | (simp; omega) | exact Below.size (by assumption) | exact Nat.le_trans (Below.size (by assumption)) (by simp)))))⟩
  have hv : Hid (unR P = unB P) := by unfold Hid unR; rw [hg]; rfl
  have hgh := Lib.hid hg
  have hlen := ge_len hg
  go_enter Try.func14, Try.ntmps14
  go_wp2_with fail
  refine (iGeo_any _ _ _ _ (hh.out.below (by exact (by repeat (first | exact Below.refl _ _ | assumption | refine Below.drew ?_ | refine below_drewN ?_ _ | refine Below.alloc' ?_ _ | (refine Below.setCell ?_ (by first | omega | (simp; done) | (simp; omega) | exact Below.size (by assumption) | exact Nat.le_trans (Below.size (by assumption)) (by simp)) _) | (refine Below.via' ?_ (by assumption)) | (refine Below.alloc ?_ (by first | omega | (simp; done) | (simp; omega) | exact Below.size (by assumption) | exact Nat.le_trans (Below.size (by assumption)) (by simp)) _) | (refine Below.via ?_ (by assumption) (by first | omega | (simp; done) | (simp; omega) | exact Below.size (by assumption) | exact Nat.le_trans (Below.size (by assumption)) (by simp)))))))).mono ?_
  rintro e w2 ⟨rfl, hb2⟩
  have hq2 := Lib.hid (hq.out.below hb2)
  have B2 : Below w.heap.size w w2 := (by repeat (first | exact Below.refl _ _ | assumption | refine Below.drew ?_ | refine below_drewN ?_ _ | refine Below.alloc' ?_ _ | (refine Below.setCell ?_ (by first | omega | (simp; done) | (simp; omega) | exact Below.size (by assumption) | exact Nat.le_trans (Below.size (by assumption)) (by simp)) _) | (refine Below.via' ?_ (by assumption)) | (refine Below.alloc ?_ (by first | omega | (simp; done) | (simp; omega) | exact Below.size (by assumption) | exact Nat.le_trans (Below.size (by assumption)) (by simp)) _) | (refine Below.via ?_ (by assumption) (by first | omega | (simp; done) | (simp; omega) | exact Below.size (by assumption) | exact Nat.le_trans (Below.size (by assumption)) (by simp)))))
  have H2 := Lib.hid (hh.out.below B2)
  rw [hg]
  clear hq hg hb2
  obtain ⟨ka, kb, kc⟩ := hq2.out
  go_wp2_with fail
  go_region_law (first
    | (go_simp; go_at_call 22; refine (depthsOf_any _ _ P _ hgh.out (H2.out.below (by exact (by repeat (first | exact Below.refl _ _ | assumption | refine Below.drew ?_ | refine below_drewN ?_ _ | refine Below.alloc' ?_ _ | (refine Below.setCell ?_ (by first | omega | (simp; done) | (simp; omega) | exact Below.size (by assumption) | exact Nat.le_trans (Below.size (by assumption)) (by simp)) _) | (refine Below.via' ?_ (by assumption)) | (refine Below.alloc ?_ (by first | omega | (simp; done) | (simp; omega) | exact Below.size (by assumption) | exact Nat.le_trans (Below.size (by assumption)) (by simp)) _) | (refine Below.via ?_ (by assumption) (by first | omega | (simp; done) | (simp; omega) | exact Below.size (by assumption) | exact Nat.le_trans (Below.size (by assumption)) (by simp)))))))).mono ?_; rintro e w5 ⟨u5, rfl, ho5, hb5⟩; (obtain ⟨ka5, kb5, kc5⟩ := hq2.out.below (show Below w2.heap.size w2 w5 from (by repeat (first | exact Below.refl _ _ | assumption | refine Below.drew ?_ | refine below_drewN ?_ _ | refine Below.alloc' ?_ _ | (refine Below.setCell ?_ (by first | omega | (simp; done) | (simp; omega) | exact Below.size (by assumption) | exact Nat.le_trans (Below.size (by assumption)) (by simp)) _) | (refine Below.via' ?_ (by assumption)) | (refine Below.alloc ?_ (by first | omega | (simp; done) | (simp; omega) | exact Below.size (by assumption) | exact Nat.le_trans (Below.size (by assumption)) (by simp)) _) | (refine Below.via ?_ (by assumption) (by first | omega | (simp; done) | (simp; omega) | exact Below.size (by assumption) | exact Nat.le_trans (Below.size (by assumption)) (by simp))))))))
    | (go_simp; go_at_call 25; refine (leavesOf_any _ _ P _ hgh.out (H2.out.below (by exact (by repeat (first | exact Below.refl _ _ | assumption | refine Below.drew ?_ | refine below_drewN ?_ _ | refine Below.alloc' ?_ _ | (refine Below.setCell ?_ (by first | omega | (simp; done) | (simp; omega) | exact Below.size (by assumption) | exact Nat.le_trans (Below.size (by assumption)) (by simp)) _) | (refine Below.via' ?_ (by assumption)) | (refine Below.alloc ?_ (by first | omega | (simp; done) | (simp; omega) | exact Below.size (by assumption) | exact Nat.le_trans (Below.size (by assumption)) (by simp)) _) | (refine Below.via ?_ (by assumption) (by first | omega | (simp; done) | (simp; omega) | exact Below.size (by assumption) | exact Nat.le_trans (Below.size (by assumption)) (by simp)))))))).mono ?_; rintro e w6 ⟨u6, rfl, ho6, hb6⟩; (obtain ⟨ka6, kb6, kc6⟩ := hq2.out.below (show Below w2.heap.size w2 w6 from (by repeat (first | exact Below.refl _ _ | assumption | refine Below.drew ?_ | refine below_drewN ?_ _ | refine Below.alloc' ?_ _ | (refine Below.setCell ?_ (by first | omega | (simp; done) | (simp; omega) | exact Below.size (by assumption) | exact Nat.le_trans (Below.size (by assumption)) (by simp)) _) | (refine Below.via' ?_ (by assumption)) | (refine Below.alloc ?_ (by first | omega | (simp; done) | (simp; omega) | exact Below.size (by assumption) | exact Nat.le_trans (Below.size (by assumption)) (by simp)) _) | (refine Below.via ?_ (by assumption) (by first | omega | (simp; done) | (simp; omega) | exact Below.size (by assumption) | exact Nat.le_trans (Below.size (by assumption)) (by simp)))))))))
  all_goals
    obtain ⟨x5, c5, rfl, -, -⟩ := OwR.form (OwR.of ho5)
    obtain ⟨x6, c6, rfl, -, -⟩ := OwR.form (OwR.of ho6)
    have A5 := Lib.hid ((Rd.of_own ho5).below hb6)
    have A6 := Lib.hid (Rd.of_own ho6)
    have B6 : Below w.heap.size w w6 := (by repeat (first | exact Below.refl _ _ | assumption | refine Below.drew ?_ | refine below_drewN ?_ _ | refine Below.alloc' ?_ _ | (refine Below.setCell ?_ (by first | omega | (simp; done) | (simp; omega) | exact Below.size (by assumption) | exact Nat.le_trans (Below.size (by assumption)) (by simp)) _) | (refine Below.via' ?_ (by assumption)) | (refine Below.alloc ?_ (by first | omega | (simp; done) | (simp; omega) | exact Below.size (by assumption) | exact Nat.le_trans (Below.size (by assumption)) (by simp)) _) | (refine Below.via ?_ (by assumption) (by first | omega | (simp; done) | (simp; omega) | exact Below.size (by assumption) | exact Nat.le_trans (Below.size (by assumption)) (by simp)))))
    have hdl : P.length = (dpL P).length := (dpL_len P).symm
    have hlm := sel_len (lfP P) P.length
    have hlm2 : (lfL P).length ≤ 1048576 := Nat.le_trans hlm hm
    clear ho5 ho6 hb5 hb6 ka5 kb5 kc5 ka6 kb6 kc6 ka kb kc hlm
    go_wp2
    go_loopw [17] (fun q wr => ∃ i : Nat, q = .int .i64 i ∧ i ≤ (lfL P).length ∧ Hid (∀ j, j < i → ∃ p f : Nat, (lfL P)[j]? = some (p : Int) ∧ (lfL P)[0]? = some (f : Int) ∧ dpN P p = dpN P f) ∧ Below w6.heap.size w6 wr) (fun q _ => (lfL P).length - (intOf q).toNat)
    case atStart => exact ⟨0, by go_num, by omega, (fun j hj => absurd hj (by omega)), (by repeat (first | exact Below.refl _ _ | assumption | refine Below.drew ?_ | refine below_drewN ?_ _ | refine Below.alloc' ?_ _ | (refine Below.setCell ?_ (by first | omega | (simp; done) | (simp; omega) | exact Below.size (by assumption) | exact Nat.le_trans (Below.size (by assumption)) (by simp)) _) | (refine Below.via' ?_ (by assumption)) | (refine Below.alloc ?_ (by first | omega | (simp; done) | (simp; omega) | exact Below.size (by assumption) | exact Nat.le_trans (Below.size (by assumption)) (by simp)) _) | (refine Below.via ?_ (by assumption) (by first | omega | (simp; done) | (simp; omega) | exact Below.size (by assumption) | exact Nat.le_trans (Below.size (by assumption)) (by simp)))))⟩
    case round =>
      obtain ⟨i, rfl, hi, hall, hb⟩ := hrel
      by_cases hlt : i < (lfL P).length
      · have hlt' : (i : Int) < ((lfL P).length : Int) := by omega
        have hpos : (0 : Int) < ((lfL P).length : Int) := by omega
        have hposN : 0 < (lfL P).length := by omega
        obtain ⟨b1, o1, v1, hx1, hbl1, hA1, hc1⟩ := (A6.out.below hb).int hlt
        obtain ⟨b2, o2, v2, hx2, hbl2, hA2, hc2⟩ := (A6.out.below hb).int (i := 0) (by omega)
        subst hx1
        injection hx2 with hx2
        injection hx2 with e1 e2
        subst e1 e2
        rw [Nat.add_zero] at hc2
        obtain ⟨p, rfl, hp⟩ := lf_nat hA1
        obtain ⟨f, rfl, hf⟩ := lf_nat hA2
        obtain ⟨b3, o3, v3, hx3, hbl3, hA3, hc3⟩ := (A5.out.below hb).int (i := p) (by omega)
        obtain ⟨b4, o4, v4, hx4, hbl4, hA4, hc4⟩ := (A5.out.below hb).int (i := f) (by omega)
        subst hx3
        injection hx4 with hx4
        injection hx4 with e1 e2
        subst e1 e2
        obtain rfl : v3 = (dpN P p : Int) := Option.some.inj (hA3.symm.trans (dpL_at hp))
        obtain rfl : v4 = (dpN P f : Int) := Option.some.inj (hA4.symm.trans (dpL_at hf))
        have hp0 : (0 : Int) ≤ (p : Int) := by omega
        have hf0 : (0 : Int) ≤ (f : Int) := by omega
        have hp1 : (p : Int) < ((dpL P).length : Int) := by omega
        have hf1 : (f : Int) < ((dpL P).length : Int) := by omega
        replace hA3 := Lib.hid hA3
        replace hA4 := Lib.hid hA4
        by_cases he : dpN P p = dpN P f
        · have h1 : ((dpN P p : Int) == (dpN P f : Int)) = true := by rw [beq_iff_eq]; omega
          have h2 : ((dpN P p : Int) != (dpN P f : Int)) = false := by show (!((dpN P p : Int) == (dpN P f : Int))) = false; rw [h1]; rfl
          have hstep : Hid (∀ j, j < i + 1 → ∃ p f : Nat, (lfL P)[j]? = some (p : Int) ∧ (lfL P)[0]? = some (f : Int) ∧ dpN P p = dpN P f) := fun j hj => by
            rcases Nat.lt_or_ge j i with h3 | h3
            · exact hall.out j h3
            · obtain rfl : j = i := by omega
              exact ⟨p, f, hA1, hA2, he⟩
          replace he := Lib.hid he
          replace hA1 := Lib.hid hA1
          replace hA2 := Lib.hid hA2
          replace hdl := Lib.hid hdl
          clear hall
          go_wp2
          go_quiet (fail)
          go_wp2
          go_roundw
          case rel => exact ⟨i + 1, by go_num, by omega, hstep.out, (by repeat (first | exact Below.refl _ _ | assumption | refine Below.drew ?_ | refine below_drewN ?_ _ | refine Below.alloc' ?_ _ | (refine Below.setCell ?_ (by first | omega | (simp; done) | (simp; omega) | exact Below.size (by assumption) | exact Nat.le_trans (Below.size (by assumption)) (by simp)) _) | (refine Below.via' ?_ (by assumption)) | (refine Below.alloc ?_ (by first | omega | (simp; done) | (simp; omega) | exact Below.size (by assumption) | exact Nat.le_trans (Below.size (by assumption)) (by simp)) _) | (refine Below.via ?_ (by assumption) (by first | omega | (simp; done) | (simp; omega) | exact Below.size (by assumption) | exact Nat.le_trans (Below.size (by assumption)) (by simp)))))⟩
          case measure => simp [intOf]; omega
        · have h1 : ((dpN P p : Int) == (dpN P f : Int)) = false := by rw [beq_eq_false_iff_ne]; omega
          have h2 : ((dpN P p : Int) != (dpN P f : Int)) = true := by show (!((dpN P p : Int) == (dpN P f : Int))) = true; rw [h1]; rfl
          have hz := Lib.hid (un_no hA1 hA2 he)
          replace he := Lib.hid he
          replace hA1 := Lib.hid hA1
          replace hA2 := Lib.hid hA2
          replace hdl := Lib.hid hdl
          clear hall
          go_wp2
          go_quiet (fail)
          go_wp2
          go_ret2
          exact ⟨ret_bbN (by rw [hv.out, hz.out]) rfl, (by repeat (first | exact Below.refl _ _ | assumption | refine Below.drew ?_ | refine below_drewN ?_ _ | refine Below.alloc' ?_ _ | (refine Below.setCell ?_ (by first | omega | (simp; done) | (simp; omega) | exact Below.size (by assumption) | exact Nat.le_trans (Below.size (by assumption)) (by simp)) _) | (refine Below.via' ?_ (by assumption)) | (refine Below.alloc ?_ (by first | omega | (simp; done) | (simp; omega) | exact Below.size (by assumption) | exact Nat.le_trans (Below.size (by assumption)) (by simp)) _) | (refine Below.via ?_ (by assumption) (by first | omega | (simp; done) | (simp; omega) | exact Below.size (by assumption) | exact Nat.le_trans (Below.size (by assumption)) (by simp)))))⟩
      · have hij : i = (lfL P).length := by omega
        have hz := Lib.hid (un_yes (P := P) (by rw [← hij]; exact hall.out))
        have hlt' : ¬ (i : Int) < ((lfL P).length : Int) := by omega
        replace hij := Lib.hid hij
        replace hdl := Lib.hid hdl
        clear hall
        go_wp2
        go_ret2
        exact ⟨ret_bbN (by rw [hv.out, hz.out]) rfl, (by repeat (first | exact Below.refl _ _ | assumption | refine Below.drew ?_ | refine below_drewN ?_ _ | refine Below.alloc' ?_ _ | (refine Below.setCell ?_ (by first | omega | (simp; done) | (simp; omega) | exact Below.size (by assumption) | exact Nat.le_trans (Below.size (by assumption)) (by simp)) _) | (refine Below.via' ?_ (by assumption)) | (refine Below.alloc ?_ (by first | omega | (simp; done) | (simp; omega) | exact Below.size (by assumption) | exact Nat.le_trans (Below.size (by assumption)) (by simp)) _) | (refine Below.via ?_ (by assumption) (by first | omega | (simp; done) | (simp; omega) | exact Below.size (by assumption) | exact Nat.le_trans (Below.size (by assumption)) (by simp)))))⟩

set_option maxHeartbeats 8000000 in
theorem gUniform_any (x : Option Addr) (c : Nat) (P : List Int) (w : World) (hg : geB P = true) (h : IIn w x P) :
    Calls Try.prog 27 #[.agg #[.slice x P.length c]] w fun e w' => e = .returned (.bool (unB P)) ∧ Below w.heap.size w w' := by
  have hm := h.1
  have hh := Lib.hid h
  have hq := Lib.hid (QB.new w x P.length c 26)
  clear h
  have hgh := Lib.hid hg
  have hlen := ge_len hg
  clear hg
  go_enter Try.func27, Try.ntmps27
  go_wp2_with fail
  refine (gLeaves_any _ _ P _ hgh.out (hh.out.below (by exact (by repeat (first | exact Below.refl _ _ | assumption | refine Below.drew ?_ | refine below_drewN ?_ _ | refine Below.alloc' ?_ _ | (refine Below.setCell ?_ (by first | omega | (simp; done) | (simp; omega) | exact Below.size (by assumption) | exact Nat.le_trans (Below.size (by assumption)) (by simp)) _) | (refine Below.via' ?_ (by assumption)) | (refine Below.alloc ?_ (by first | omega | (simp; done) | (simp; omega) | exact Below.size (by assumption) | exact Nat.le_trans (Below.size (by assumption)) (by simp)) _) | (refine Below.via ?_ (by assumption) (by first | omega | (simp; done) | (simp; omega) | exact Below.size (by assumption) | exact Nat.le_trans (Below.size (by assumption)) (by simp)))))))).mono ?_
  rintro e w6 ⟨u6, rfl, ho6, hb6⟩
  have hq6 := Lib.hid (hq.out.below hb6)
  obtain ⟨x6, c6, rfl, -, -⟩ := OwR.form (OwR.of ho6)
  have A6 := Lib.hid (Rd.of_own ho6)
  have B6 : Below w.heap.size w w6 := (by repeat (first | exact Below.refl _ _ | assumption | refine Below.drew ?_ | refine below_drewN ?_ _ | refine Below.alloc' ?_ _ | (refine Below.setCell ?_ (by first | omega | (simp; done) | (simp; omega) | exact Below.size (by assumption) | exact Nat.le_trans (Below.size (by assumption)) (by simp)) _) | (refine Below.via' ?_ (by assumption)) | (refine Below.alloc ?_ (by first | omega | (simp; done) | (simp; omega) | exact Below.size (by assumption) | exact Nat.le_trans (Below.size (by assumption)) (by simp)) _) | (refine Below.via ?_ (by assumption) (by first | omega | (simp; done) | (simp; omega) | exact Below.size (by assumption) | exact Nat.le_trans (Below.size (by assumption)) (by simp)))))
  have H6 := Lib.hid (hh.out.below B6)
  have hlm := sel_len (lfP P) P.length
  have hlm2 : (lfL P).length ≤ 1048576 := Nat.le_trans hlm hm
  clear ho6 hb6 hq hlm
  go_wp2
  go_loopw [10] (fun q wr => ∃ i : Nat, q = .int .i64 i ∧ i ≤ (lfL P).length ∧ Hid (∀ j, j < i → ∃ p f : Nat, (lfL P)[j]? = some (p : Int) ∧ (lfL P)[0]? = some (f : Int) ∧ dpN P p = dpN P f) ∧ Below w6.heap.size w6 wr) (fun q _ => (lfL P).length - (intOf q).toNat)
  case atStart => exact ⟨0, by go_num, by omega, (fun j hj => absurd hj (by omega)), (by repeat (first | exact Below.refl _ _ | assumption | refine Below.drew ?_ | refine below_drewN ?_ _ | refine Below.alloc' ?_ _ | (refine Below.setCell ?_ (by first | omega | (simp; done) | (simp; omega) | exact Below.size (by assumption) | exact Nat.le_trans (Below.size (by assumption)) (by simp)) _) | (refine Below.via' ?_ (by assumption)) | (refine Below.alloc ?_ (by first | omega | (simp; done) | (simp; omega) | exact Below.size (by assumption) | exact Nat.le_trans (Below.size (by assumption)) (by simp)) _) | (refine Below.via ?_ (by assumption) (by first | omega | (simp; done) | (simp; omega) | exact Below.size (by assumption) | exact Nat.le_trans (Below.size (by assumption)) (by simp)))))⟩
  case round =>
      obtain ⟨i, rfl, hi, hall, hb⟩ := hrel
      have hqr := Lib.hid (hq6.out.below hb)
      obtain ⟨ka, kb, kc⟩ := hqr.out
      by_cases hlt : i < (lfL P).length
      · have hlt' : (i : Int) < ((lfL P).length : Int) := by omega
        have hpos : (0 : Int) < ((lfL P).length : Int) := by omega
        have hposN : 0 < (lfL P).length := by omega
        obtain ⟨b1, o1, v1, hx1, hbl1, hA1, hc1⟩ := (A6.out.below hb).int hlt
        obtain ⟨b2, o2, v2, hx2, hbl2, hA2, hc2⟩ := (A6.out.below hb).int (i := 0) (by omega)
        subst hx1
        injection hx2 with hx2
        injection hx2 with e1 e2
        subst e1 e2
        rw [Nat.add_zero] at hc2
        obtain ⟨p, rfl, hp⟩ := lf_nat hA1
        obtain ⟨f, rfl, hf⟩ := lf_nat hA2
        have hHr := Lib.hid (H6.out.below hb)
        by_cases he : dpN P p = dpN P f
        · have h1 : ((dpN P p : Int) == (dpN P f : Int)) = true := by rw [beq_iff_eq]; omega
          have h2 : ((dpN P p : Int) != (dpN P f : Int)) = false := by show (!((dpN P p : Int) == (dpN P f : Int))) = false; rw [h1]; rfl
          have hstep : Hid (∀ j, j < i + 1 → ∃ p f : Nat, (lfL P)[j]? = some (p : Int) ∧ (lfL P)[0]? = some (f : Int) ∧ dpN P p = dpN P f) := fun j hj => by
            rcases Nat.lt_or_ge j i with h3 | h3
            · exact hall.out j h3
            · obtain rfl : j = i := by omega
              exact ⟨p, f, hA1, hA2, he⟩
          replace he := Lib.hid he
          replace hA1 := Lib.hid hA1
          replace hA2 := Lib.hid hA2
          clear hall
          go_wp2
          go_region_law (first
            | (go_simp; go_at_call 39; (with_reducible show Calls _ _ #[_, .int .i64 (p : Int)] _ _); refine (gDepth_any _ _ P p _ hgh.out hp (hHr.out.below (by exact (by repeat (first | exact Below.refl _ _ | assumption | refine Below.drew ?_ | refine below_drewN ?_ _ | refine Below.alloc' ?_ _ | (refine Below.setCell ?_ (by first | omega | (simp; done) | (simp; omega) | exact Below.size (by assumption) | exact Nat.le_trans (Below.size (by assumption)) (by simp)) _) | (refine Below.via' ?_ (by assumption)) | (refine Below.alloc ?_ (by first | omega | (simp; done) | (simp; omega) | exact Below.size (by assumption) | exact Nat.le_trans (Below.size (by assumption)) (by simp)) _) | (refine Below.via ?_ (by assumption) (by first | omega | (simp; done) | (simp; omega) | exact Below.size (by assumption) | exact Nat.le_trans (Below.size (by assumption)) (by simp)))))))).mono ?_; rintro e w7 ⟨rfl, hb7⟩; (obtain ⟨ka7, kb7, kc7⟩ := hqr.out.below (show Below wr.heap.size wr w7 from (by repeat (first | exact Below.refl _ _ | assumption | refine Below.drew ?_ | refine below_drewN ?_ _ | refine Below.alloc' ?_ _ | (refine Below.setCell ?_ (by first | omega | (simp; done) | (simp; omega) | exact Below.size (by assumption) | exact Nat.le_trans (Below.size (by assumption)) (by simp)) _) | (refine Below.via' ?_ (by assumption)) | (refine Below.alloc ?_ (by first | omega | (simp; done) | (simp; omega) | exact Below.size (by assumption) | exact Nat.le_trans (Below.size (by assumption)) (by simp)) _) | (refine Below.via ?_ (by assumption) (by first | omega | (simp; done) | (simp; omega) | exact Below.size (by assumption) | exact Nat.le_trans (Below.size (by assumption)) (by simp))))))); (have hc17 := ((show Below wr.heap.size wr w7 from (by repeat (first | exact Below.refl _ _ | assumption | refine Below.drew ?_ | refine below_drewN ?_ _ | refine Below.alloc' ?_ _ | (refine Below.setCell ?_ (by first | omega | (simp; done) | (simp; omega) | exact Below.size (by assumption) | exact Nat.le_trans (Below.size (by assumption)) (by simp)) _) | (refine Below.via' ?_ (by assumption)) | (refine Below.alloc ?_ (by first | omega | (simp; done) | (simp; omega) | exact Below.size (by assumption) | exact Nat.le_trans (Below.size (by assumption)) (by simp)) _) | (refine Below.via ?_ (by assumption) (by first | omega | (simp; done) | (simp; omega) | exact Below.size (by assumption) | exact Nat.le_trans (Below.size (by assumption)) (by simp)))))).cell (p := ⟨b1, o1, none⟩) hbl1).trans hc2))
            | (go_simp; go_at_call 39; (with_reducible show Calls _ _ #[_, .int .i64 (f : Int)] _ _); refine (gDepth_any _ _ P f _ hgh.out hf (hHr.out.below (by exact (by repeat (first | exact Below.refl _ _ | assumption | refine Below.drew ?_ | refine below_drewN ?_ _ | refine Below.alloc' ?_ _ | (refine Below.setCell ?_ (by first | omega | (simp; done) | (simp; omega) | exact Below.size (by assumption) | exact Nat.le_trans (Below.size (by assumption)) (by simp)) _) | (refine Below.via' ?_ (by assumption)) | (refine Below.alloc ?_ (by first | omega | (simp; done) | (simp; omega) | exact Below.size (by assumption) | exact Nat.le_trans (Below.size (by assumption)) (by simp)) _) | (refine Below.via ?_ (by assumption) (by first | omega | (simp; done) | (simp; omega) | exact Below.size (by assumption) | exact Nat.le_trans (Below.size (by assumption)) (by simp)))))))).mono ?_; rintro e w8 ⟨rfl, hb8⟩))
          all_goals
            go_wp2
            go_roundw
            case rel => exact ⟨i + 1, by go_num, by omega, hstep.out, (by repeat (first | exact Below.refl _ _ | assumption | refine Below.drew ?_ | refine below_drewN ?_ _ | refine Below.alloc' ?_ _ | (refine Below.setCell ?_ (by first | omega | (simp; done) | (simp; omega) | exact Below.size (by assumption) | exact Nat.le_trans (Below.size (by assumption)) (by simp)) _) | (refine Below.via' ?_ (by assumption)) | (refine Below.alloc ?_ (by first | omega | (simp; done) | (simp; omega) | exact Below.size (by assumption) | exact Nat.le_trans (Below.size (by assumption)) (by simp)) _) | (refine Below.via ?_ (by assumption) (by first | omega | (simp; done) | (simp; omega) | exact Below.size (by assumption) | exact Nat.le_trans (Below.size (by assumption)) (by simp)))))⟩
            case measure => simp [intOf]; omega
        · have h1 : ((dpN P p : Int) == (dpN P f : Int)) = false := by rw [beq_eq_false_iff_ne]; omega
          have h2 : ((dpN P p : Int) != (dpN P f : Int)) = true := by show (!((dpN P p : Int) == (dpN P f : Int))) = true; rw [h1]; rfl
          have hz := Lib.hid (un_no hA1 hA2 he)
          replace he := Lib.hid he
          replace hA1 := Lib.hid hA1
          replace hA2 := Lib.hid hA2
          clear hall
          go_wp2
          go_region_law (first
            | (go_simp; go_at_call 39; (with_reducible show Calls _ _ #[_, .int .i64 (p : Int)] _ _); refine (gDepth_any _ _ P p _ hgh.out hp (hHr.out.below (by exact (by repeat (first | exact Below.refl _ _ | assumption | refine Below.drew ?_ | refine below_drewN ?_ _ | refine Below.alloc' ?_ _ | (refine Below.setCell ?_ (by first | omega | (simp; done) | (simp; omega) | exact Below.size (by assumption) | exact Nat.le_trans (Below.size (by assumption)) (by simp)) _) | (refine Below.via' ?_ (by assumption)) | (refine Below.alloc ?_ (by first | omega | (simp; done) | (simp; omega) | exact Below.size (by assumption) | exact Nat.le_trans (Below.size (by assumption)) (by simp)) _) | (refine Below.via ?_ (by assumption) (by first | omega | (simp; done) | (simp; omega) | exact Below.size (by assumption) | exact Nat.le_trans (Below.size (by assumption)) (by simp)))))))).mono ?_; rintro e w7 ⟨rfl, hb7⟩; (obtain ⟨ka7, kb7, kc7⟩ := hqr.out.below (show Below wr.heap.size wr w7 from (by repeat (first | exact Below.refl _ _ | assumption | refine Below.drew ?_ | refine below_drewN ?_ _ | refine Below.alloc' ?_ _ | (refine Below.setCell ?_ (by first | omega | (simp; done) | (simp; omega) | exact Below.size (by assumption) | exact Nat.le_trans (Below.size (by assumption)) (by simp)) _) | (refine Below.via' ?_ (by assumption)) | (refine Below.alloc ?_ (by first | omega | (simp; done) | (simp; omega) | exact Below.size (by assumption) | exact Nat.le_trans (Below.size (by assumption)) (by simp)) _) | (refine Below.via ?_ (by assumption) (by first | omega | (simp; done) | (simp; omega) | exact Below.size (by assumption) | exact Nat.le_trans (Below.size (by assumption)) (by simp))))))); (have hc17 := ((show Below wr.heap.size wr w7 from (by repeat (first | exact Below.refl _ _ | assumption | refine Below.drew ?_ | refine below_drewN ?_ _ | refine Below.alloc' ?_ _ | (refine Below.setCell ?_ (by first | omega | (simp; done) | (simp; omega) | exact Below.size (by assumption) | exact Nat.le_trans (Below.size (by assumption)) (by simp)) _) | (refine Below.via' ?_ (by assumption)) | (refine Below.alloc ?_ (by first | omega | (simp; done) | (simp; omega) | exact Below.size (by assumption) | exact Nat.le_trans (Below.size (by assumption)) (by simp)) _) | (refine Below.via ?_ (by assumption) (by first | omega | (simp; done) | (simp; omega) | exact Below.size (by assumption) | exact Nat.le_trans (Below.size (by assumption)) (by simp)))))).cell (p := ⟨b1, o1, none⟩) hbl1).trans hc2))
            | (go_simp; go_at_call 39; (with_reducible show Calls _ _ #[_, .int .i64 (f : Int)] _ _); refine (gDepth_any _ _ P f _ hgh.out hf (hHr.out.below (by exact (by repeat (first | exact Below.refl _ _ | assumption | refine Below.drew ?_ | refine below_drewN ?_ _ | refine Below.alloc' ?_ _ | (refine Below.setCell ?_ (by first | omega | (simp; done) | (simp; omega) | exact Below.size (by assumption) | exact Nat.le_trans (Below.size (by assumption)) (by simp)) _) | (refine Below.via' ?_ (by assumption)) | (refine Below.alloc ?_ (by first | omega | (simp; done) | (simp; omega) | exact Below.size (by assumption) | exact Nat.le_trans (Below.size (by assumption)) (by simp)) _) | (refine Below.via ?_ (by assumption) (by first | omega | (simp; done) | (simp; omega) | exact Below.size (by assumption) | exact Nat.le_trans (Below.size (by assumption)) (by simp)))))))).mono ?_; rintro e w8 ⟨rfl, hb8⟩))
          all_goals
            go_wp2
            go_ret
            exact ⟨ret_bool hz.out.symm, (by repeat (first | exact Below.refl _ _ | assumption | refine Below.drew ?_ | refine below_drewN ?_ _ | refine Below.alloc' ?_ _ | (refine Below.setCell ?_ (by first | omega | (simp; done) | (simp; omega) | exact Below.size (by assumption) | exact Nat.le_trans (Below.size (by assumption)) (by simp)) _) | (refine Below.via' ?_ (by assumption)) | (refine Below.alloc ?_ (by first | omega | (simp; done) | (simp; omega) | exact Below.size (by assumption) | exact Nat.le_trans (Below.size (by assumption)) (by simp)) _) | (refine Below.via ?_ (by assumption) (by first | omega | (simp; done) | (simp; omega) | exact Below.size (by assumption) | exact Nat.le_trans (Below.size (by assumption)) (by simp)))))⟩
      · have hij : i = (lfL P).length := by omega
        have hz := Lib.hid (un_yes (P := P) (by rw [← hij]; exact hall.out))
        have hlt' : ¬ (i : Int) < ((lfL P).length : Int) := by omega
        replace hij := Lib.hid hij
        clear hall
        go_wp2
        go_ret
        exact ⟨ret_bool hz.out.symm, (by repeat (first | exact Below.refl _ _ | assumption | refine Below.drew ?_ | refine below_drewN ?_ _ | refine Below.alloc' ?_ _ | (refine Below.setCell ?_ (by first | omega | (simp; done) | (simp; omega) | exact Below.size (by assumption) | exact Nat.le_trans (Below.size (by assumption)) (by simp)) _) | (refine Below.via' ?_ (by assumption)) | (refine Below.alloc ?_ (by first | omega | (simp; done) | (simp; omega) | exact Below.size (by assumption) | exact Nat.le_trans (Below.size (by assumption)) (by simp)) _) | (refine Below.via ?_ (by assumption) (by first | omega | (simp; done) | (simp; omega) | exact Below.size (by assumption) | exact Nat.le_trans (Below.size (by assumption)) (by simp)))))⟩
set_option maxHeartbeats 2000000 in
theorem sUN_x (x : Option Addr) (c : Nat) (P : List Int) (w : World) (h : IIn w x P) :
    Calls Try.prog 15 #[.agg #[.slice x P.length c]] w fun e w' => e = .returned (.tuple #[.bool (unR P), .bool (geB P)]) ∧ Below w.heap.size w w' := by
  have hm := h.1
  have hh := Lib.hid h
  have hq := Lib.hid (QB.new w x P.length c 26)
  clear h
  cases hg : geB P
  · have hv : Hid (unR P = false) := by unfold Hid unR; rw [hg]; rfl
    go_enter Try.func15, Try.ntmps15
    go_wp2_with fail
    refine (gGood_any _ _ _ _ (hh.out.below (by exact (by repeat (first | exact Below.refl _ _ | assumption | refine Below.drew ?_ | refine below_drewN ?_ _ | refine Below.alloc' ?_ _ | (refine Below.setCell ?_ (by first | omega | (simp; done) | (simp; omega) | exact Below.size (by assumption) | exact Nat.le_trans (Below.size (by assumption)) (by simp)) _) | (refine Below.via' ?_ (by assumption)) | (refine Below.alloc ?_ (by first | omega | (simp; done) | (simp; omega) | exact Below.size (by assumption) | exact Nat.le_trans (Below.size (by assumption)) (by simp)) _) | (refine Below.via ?_ (by assumption) (by first | omega | (simp; done) | (simp; omega) | exact Below.size (by assumption) | exact Nat.le_trans (Below.size (by assumption)) (by simp)))))))).mono ?_
    rintro e w1 ⟨rfl, hb1⟩
    rw [hg]
    go_wp2
    go_ret2
    exact ⟨ret_bbN hv.out.symm rfl, (by repeat (first | exact Below.refl _ _ | assumption | refine Below.drew ?_ | refine below_drewN ?_ _ | refine Below.alloc' ?_ _ | (refine Below.setCell ?_ (by first | omega | (simp; done) | (simp; omega) | exact Below.size (by assumption) | exact Nat.le_trans (Below.size (by assumption)) (by simp)) _) | (refine Below.via' ?_ (by assumption)) | (refine Below.alloc ?_ (by first | omega | (simp; done) | (simp; omega) | exact Below.size (by assumption) | exact Nat.le_trans (Below.size (by assumption)) (by simp)) _) | (refine Below.via ?_ (by assumption) (by first | omega | (simp; done) | (simp; omega) | exact Below.size (by assumption) | exact Nat.le_trans (Below.size (by assumption)) (by simp)))))⟩
  have hv : Hid (unR P = unB P) := by unfold Hid unR; rw [hg]; rfl
  go_enter Try.func15, Try.ntmps15
  go_wp2_with fail
  refine (gGood_any _ _ _ _ (hh.out.below (by exact (by repeat (first | exact Below.refl _ _ | assumption | refine Below.drew ?_ | refine below_drewN ?_ _ | refine Below.alloc' ?_ _ | (refine Below.setCell ?_ (by first | omega | (simp; done) | (simp; omega) | exact Below.size (by assumption) | exact Nat.le_trans (Below.size (by assumption)) (by simp)) _) | (refine Below.via' ?_ (by assumption)) | (refine Below.alloc ?_ (by first | omega | (simp; done) | (simp; omega) | exact Below.size (by assumption) | exact Nat.le_trans (Below.size (by assumption)) (by simp)) _) | (refine Below.via ?_ (by assumption) (by first | omega | (simp; done) | (simp; omega) | exact Below.size (by assumption) | exact Nat.le_trans (Below.size (by assumption)) (by simp)))))))).mono ?_
  rintro e w2 ⟨rfl, hb2⟩
  obtain ⟨ka, kb, kc⟩ := hq.out.below hb2
  rw [hg]
  go_wp2_with fail
  refine (gUniform_any _ _ P _ hg (hh.out.below (by exact (by repeat (first | exact Below.refl _ _ | assumption | refine Below.drew ?_ | refine below_drewN ?_ _ | refine Below.alloc' ?_ _ | (refine Below.setCell ?_ (by first | omega | (simp; done) | (simp; omega) | exact Below.size (by assumption) | exact Nat.le_trans (Below.size (by assumption)) (by simp)) _) | (refine Below.via' ?_ (by assumption)) | (refine Below.alloc ?_ (by first | omega | (simp; done) | (simp; omega) | exact Below.size (by assumption) | exact Nat.le_trans (Below.size (by assumption)) (by simp)) _) | (refine Below.via ?_ (by assumption) (by first | omega | (simp; done) | (simp; omega) | exact Below.size (by assumption) | exact Nat.le_trans (Below.size (by assumption)) (by simp)))))))).mono ?_
  rintro e w3 ⟨rfl, hb3⟩
  go_wp2
  go_ret2
  exact ⟨ret_bbN hv.out.symm rfl, (by repeat (first | exact Below.refl _ _ | assumption | refine Below.drew ?_ | refine below_drewN ?_ _ | refine Below.alloc' ?_ _ | (refine Below.setCell ?_ (by first | omega | (simp; done) | (simp; omega) | exact Below.size (by assumption) | exact Nat.le_trans (Below.size (by assumption)) (by simp)) _) | (refine Below.via' ?_ (by assumption)) | (refine Below.alloc ?_ (by first | omega | (simp; done) | (simp; omega) | exact Below.size (by assumption) | exact Nat.le_trans (Below.size (by assumption)) (by simp)) _) | (refine Below.via ?_ (by assumption) (by first | omega | (simp; done) | (simp; omega) | exact Below.size (by assumption) | exact Nat.le_trans (Below.size (by assumption)) (by simp)))))⟩
end Go.Proofs.Ytmefkknkahmihaa
