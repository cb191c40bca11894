/-
  The walks of chapter 4: leaves, ancestors, paths; the program's and the model's.
-/
import Derived.Test.YtmefkknkahmihaaGeoE
namespace Go.Proofs.Ytmefkknkahmihaa
open Go.RowKit
set_option maxRecDepth 100000

/-- How many children the areas have among those before i. -/
def cnF (P : List Int) (i : Nat) : List Int := (List.range P.length).map fun j : Nat => cnK P i j
theorem cnF_len (P : List Int) (i : Nat) : (cnF P i).length = P.length := by unfold cnF; simp
theorem cnF_at {P : List Int} {i j : Nat} (h : j < P.length) : (cnF P i)[j]? = some (cnK P i j) := by unfold cnF; simp [h]
theorem cnF_one {P : List Int} (hg : geB P = true) : cnF P 1 = zL P.length := by
  apply List.ext_getElem?
  intro j
  by_cases h : j < P.length
  · rw [cnF_at h, gcn_zero P hg]
    unfold zL
    rw [List.getElem?_replicate, if_pos h]
  · rw [List.getElem?_eq_none (by rw [cnF_len]; omega), List.getElem?_eq_none (by rw [zL_len]; omega)]
theorem cnF_step {P : List Int} {i p : Nat} (h : P[i]? = some (p : Int)) (hp : p < P.length) : (cnF P i).set p (cnK P i p + 1) = cnF P (i + 1) := by
  apply List.ext_getElem?
  intro j
  rw [List.getElem?_set, cnF_len]
  by_cases hj : j < P.length
  · rw [cnF_at hj, cnF_at hj]
    by_cases e : p = j
    · subst e; rw [if_pos rfl, if_pos hp, gcn_yes h]
    · rw [if_neg e, gcn_no h (fun k => e k.symm)]
  · rw [if_neg (by omega), List.getElem?_eq_none (by rw [cnF_len]; omega), List.getElem?_eq_none (by rw [cnF_len]; omega)]
set_option maxHeartbeats 2000000 in
theorem stepC_any (x : Option Addr) (c g n base i p : Nat) (a : Int) (P V : List Int) (W : World) (hp : P[i]? = some (p : Int)) (hR : Rd W x (iC P)) (hpl : p < n) (hV : V[p]? = some a) (ha : 0 ≤ a ∧ a ≤ 1000000)
    (ho : W.ownsRow base 3 1 (.slice (some ⟨g, 0, none⟩) n n) n (iC V)) :
    Calls Try.prog 36 #[.agg #[.slice x P.length c, .slice (some ⟨g, 0, none⟩) n n], .int .i64 i] W fun e w' => e = .returned (.tuple #[]) ∧ w'.ownsRow base 3 1 (.slice (some ⟨g, 0, none⟩) n n) n (iC (V.set p (a + 1))) ∧ W.grownBy w' (some g) := by
  have hiP : i < P.length := (List.getElem?_eq_some_iff.1 hp).1
  obtain ⟨b, off, v, rfl, hbl, hPi, hc0⟩ := hR.int hiP
  obtain rfl : v = p := Option.some.inj (hPi.symm.trans hp)
  obtain ⟨u, hu, k0⟩ := own_cell ho (j := p) (by omega)
  obtain rfl : u = .int .i64 a := Option.some.inj (hu.symm.trans (iC_at hV))
  have k2 := ho.frozenAt p
  have k4 := (own_lt ho).2
  have hi0 : (0 : Int) ≤ (i : Int) := by omega
  have hi1 : (i : Int) < (P.length : Int) := by omega
  have hp0 : (0 : Int) ≤ (p : Int) := by omega
  have hp2 : (p : Int) < (n : Int) := by omega
  replace hu := Lib.hid hu
  replace hPi := Lib.hid hPi
  replace hp := Lib.hid hp
  replace hV := Lib.hid hV
  have hoh := Lib.hid ho
  clear ho hR
  go_enter Try.func36, Try.ntmps36
  have hst := hoh.out.stored p (.int .i64 (a + 1))
  rw [iC_setG] at hst
  have hs1 := Lib.hid hst.1
  have hs2 := Lib.hid hst.2
  clear hst
  go_wp2
  go_region
  all_goals
    go_wp2
    refine bodyPost_end (v := .tuple #[]) (by simp [results, Try.results36, go_sem]) rfl ?_
    exact ⟨rfl, own_below hs1.out (by repeat (first | exact Below.refl _ _ | assumption | refine Below.drew ?_ | refine below_drewN ?_ _ | refine Below.alloc' ?_ _ | (refine Below.setCell ?_ (by first | omega | (simp; done) | (simp; omega) | exact Below.size (by assumption) | exact Nat.le_trans (Below.size (by assumption)) (by simp)) _) | (refine Below.via' ?_ (by assumption)) | (refine Below.alloc ?_ (by first | omega | (simp; done) | (simp; omega) | exact Below.size (by assumption) | exact Nat.le_trans (Below.size (by assumption)) (by simp)) _) | (refine Below.via ?_ (by assumption) (by first | omega | (simp; done) | (simp; omega) | exact Below.size (by assumption) | exact Nat.le_trans (Below.size (by assumption)) (by simp))))), hs2.out.trans (grown_of_bel (by repeat (first | exact Below.refl _ _ | assumption | refine Below.drew ?_ | refine below_drewN ?_ _ | refine Below.alloc' ?_ _ | (refine Below.setCell ?_ (by first | omega | (simp; done) | (simp; omega) | exact Below.size (by assumption) | exact Nat.le_trans (Below.size (by assumption)) (by simp)) _) | (refine Below.via' ?_ (by assumption)) | (refine Below.alloc ?_ (by first | omega | (simp; done) | (simp; omega) | exact Below.size (by assumption) | exact Nat.le_trans (Below.size (by assumption)) (by simp)) _) | (refine Below.via ?_ (by assumption) (by first | omega | (simp; done) | (simp; omega) | exact Below.size (by assumption) | exact Nat.le_trans (Below.size (by assumption)) (by simp))))) _)⟩
theorem stepC_cn {x : Option Addr} {c g base : Nat} {P : List Int} (hg : geB P = true) {i : Nat} (h1 : 1 ≤ i) (hi : i < P.length) :
    StepP 36 x c g base P (cnF P) i (i + 1) := by
  intro W hR ho
  obtain ⟨p, hp, hpl⟩ := ge_par hg h1 hi
  have hl := ge_len hg
  have hbd := gcn_bd P i p
  have h := stepC_any x c g P.length base i p (cnK P i p) P (cnF P i) W hp hR (by omega) (cnF_at (by omega)) (by omega) ho
  rw [cnF_step hp (by omega)] at h
  exact h
set_option maxHeartbeats 2000000 in
theorem leavesOf_any (x : Option Addr) (c : Nat) (P : List Int) (w : World) (hg : geB P = true) (h : IIn w x P) :
    Calls Try.prog 25 #[.agg #[.slice x P.length c]] w (RetG (lfL P) w) := by
  have hm := h.1
  have hl := ge_len hg
  have hxl := Lib.hid (rd_low h.2.2 (by rw [iC_len]; omega))
  have hh := Lib.hid h.2.2
  have hgh := Lib.hid hg
  clear h hg
  go_enter Try.func25, Try.ntmps25
  go_wp2_with fail
  refine (newTally_any _ _ P _ hm).mono ?_
  rintro e w1 ⟨g, rfl, ho, hb1⟩
  obtain ⟨hcl1, hfr1⟩ := bcell hb1
  have hz1 := hb1.size; (try simp at hz1); (try (have hly1 := Nat.lt_of_succ_le hz1)); (try (have hlx1 := Nat.lt_of_succ_lt hly1)); (try (have hlw1 := Nat.lt_of_succ_lt hlx1)); (try (have hle1 := Nat.le_of_lt hly1))
  have hz1' : w.heap.size + 1 ≤ w1.heap.size := by have := hb1.size; simpa using this
  have hgl := own_lt ho
  have hgl1 : w.heap.size < g := by have := hgl.1; simp at this; omega
  have B1 : Below w.heap.size w w1 := (by repeat (first | exact Below.refl _ _ | assumption | refine Below.drew ?_ | refine below_drewN ?_ _ | refine Below.alloc' ?_ _ | (refine Below.setCell ?_ (by first | omega | (simp; done) | (simp; omega) | exact Below.size (by assumption) | exact Nat.le_trans (Below.size (by assumption)) (by simp)) _) | (refine Below.via' ?_ (by assumption)) | (refine Below.alloc ?_ (by first | omega | (simp; done) | (simp; omega) | exact Below.size (by assumption) | exact Nat.le_trans (Below.size (by assumption)) (by simp)) _) | (refine Below.via ?_ (by assumption) (by first | omega | (simp; done) | (simp; omega) | exact Below.size (by assumption) | exact Nat.le_trans (Below.size (by assumption)) (by simp)))))
  have hb1 := Lib.hid hb1
  have hoh := Lib.hid ho
  clear ho
  go_wp2_with fail
  refine (visitDown_cn x c g (w.heap.size + 1) P (cnF P) _ hm (by omega) ((hh.out.below B1).alloc _) (fun b off e => by have := hxl.out b off e; omega) (fun i h1 h2 => stepC_cn hgh.out h1 h2) (by rw [cnF_one hgh.out]; exact (own_more hoh.out (by simp)).alloc _)).mono ?_
  rintro e w2 ⟨rfl, ho2, hg2⟩
  have hgm : g < w1.heap.size := hgl.2
  obtain ⟨ka, kb, kc⟩ := (GBt.new w1 x P.length c (some ⟨g, 0, none⟩) P.length P.length 52).grown hg2 (fun e => by injection e with e; omega)
  have B2 : Below w.heap.size w w2 := (Below.alloc' B1 _).grown hg2 (by simp; omega) (fun k hk => by injection hk with hk; omega)
  have hr2 := Rd.of_own ho2
  have hr2 := Lib.hid hr2
  clear hg2 ho2
  go_wp2_with fail
  have ha := areasWith_any (some ⟨g, 0, none⟩) P.length (cnL P) 0 w2 (by rw [cnL_len]; exact hm) hr2.out
  rw [cnL_len, lf_aw] at ha
  refine ha.mono ?_
  rintro e w3 ⟨v3, rfl, ho3, hb3⟩
  have hs := B2.size
  have ho3 := Lib.hid ho3
  clear ka kb kc
  go_wp2
  go_ret
  exact ⟨_, rfl, own_more ho3.out hs, (by repeat (first | exact Below.refl _ _ | assumption | refine Below.drew ?_ | refine below_drewN ?_ _ | refine Below.alloc' ?_ _ | (refine Below.setCell ?_ (by first | omega | (simp; done) | (simp; omega) | exact Below.size (by assumption) | exact Nat.le_trans (Below.size (by assumption)) (by simp)) _) | (refine Below.via' ?_ (by assumption)) | (refine Below.alloc ?_ (by first | omega | (simp; done) | (simp; omega) | exact Below.size (by assumption) | exact Nat.le_trans (Below.size (by assumption)) (by simp)) _) | (refine Below.via ?_ (by assumption) (by first | omega | (simp; done) | (simp; omega) | exact Below.size (by assumption) | exact Nat.le_trans (Below.size (by assumption)) (by simp)))))⟩

theorem own_someV {w : World} {base e size n : Nat} {v : Value} {xs : List Value} (h : w.ownsRow base e size v n xs) (hn : 0 < n) : ∃ g cap, v = .slice (some ⟨g, 0, none⟩) n cap := by
  rcases h.2 with ⟨_, h2⟩ | ⟨g, cap, cur, hv, _⟩
  · omega
  · exact ⟨g, cap, hv⟩
theorem own_lit1 (w : World) (base g : Nat) (a : Int) (hg : w.heap.size = g) (hb : base ≤ g) : (w.alloc (.cells #[.int .i64 a] 3)).ownsRow base 3 1 (.slice (some ⟨g, 0, none⟩) 1 1) 1 (iC [a]) := by
  subst hg
  exact ⟨rfl, .inr ⟨w.heap.size, 1, _, rfl, hb, heap_alloc_new w _, Nat.le_refl _, by unfold maxLen; omega, rfl, rfl⟩⟩
/-- The rest of a path while it is climbed. -/
def Clm (P : List Int) (a : Int) (R : List Int) : Prop := a = -1 ∧ R = [] ∨ ∃ j : Nat, a = (j : Int) ∧ j < P.length ∧ R = upW P j
theorem clm_zero {P : List Int} : Clm P (-1) [] := Or.inl ⟨rfl, rfl⟩
theorem up_len (P : List Int) (j : Nat) : (upW P j).length = dpN P j + 1 := by have := pt_len P j; unfold ptL at this; rwa [List.length_reverse] at this
theorem upW_root {P : List Int} : upW P 0 = ((0 : Nat) : Int) :: [] := upW_zero P

set_option maxHeartbeats 4000000 in
theorem gPath_any (x : Option Addr) (c : Nat) (P : List Int) (i : Nat) (w : World) (hg : geB P = true) (hi : i < P.length) (h : IIn w x P) :
    Calls Try.prog 21 #[.agg #[.slice x P.length c], .int .i64 i] w (RetG (ptL P i) w) := by
  obtain ⟨i0, hii, hz0, hz1, hz2⟩ := info_parts Try.infoInt
  have hm := h.1
  have hh := Lib.hid h.2.2
  have hl := ge_len hg
  have hd := dp_le hg hi
  have hgh := Lib.hid hg
  have hq0 := Lib.hid (QB.new w x P.length c 26)
  clear h hg
  go_enter Try.func21, Try.ntmps21
  go_wp2
  go_loopw [1, 5] (fun a u wr => ∃ (z : Int) (L R : List Int), a = .int .i64 z ∧ -1 ≤ z ∧ Hid (Clm P z R) ∧ Hid (R.reverse ++ L = ptL P i) ∧ L.length ≤ 31 ∧ wr.ownsRow (w.heap.size + 1) 3 1 u L.length (iC L) ∧ QB wr w.heap.size x P.length c ∧ Below w.heap.size w wr) (fun a _ _ => (intOf a + 1).toNat)
  case atStart => exact ⟨i, [], upW P i, rfl, by omega, Or.inr ⟨i, rfl, hi, rfl⟩, (by unfold Hid ptL; simp), by simp, World.ownsRow_nil _ _ _ _, hq0.out, (by repeat (first | exact Below.refl _ _ | assumption | refine Below.drew ?_ | refine below_drewN ?_ _ | refine Below.alloc' ?_ _ | (refine Below.setCell ?_ (by first | omega | (simp; done) | (simp; omega) | exact Below.size (by assumption) | exact Nat.le_trans (Below.size (by assumption)) (by simp)) _) | (refine Below.via' ?_ (by assumption)) | (refine Below.alloc ?_ (by first | omega | (simp; done) | (simp; omega) | exact Below.size (by assumption) | exact Nat.le_trans (Below.size (by assumption)) (by simp)) _) | (refine Below.via ?_ (by assumption) (by first | omega | (simp; done) | (simp; omega) | exact Below.size (by assumption) | exact Nat.le_trans (Below.size (by assumption)) (by simp)))))⟩
  case round =>
    clear hq0
    obtain ⟨z, L, R, rfl, hz, hc, hL, hLl, hown, hq, hb⟩ := hrel
    obtain ⟨ka, kb, kc⟩ := hq
    have hqh := Lib.hid (show QB wr w.heap.size x P.length c from ⟨ka, kb, kc⟩)
    have hownh := Lib.hid hown
    clear hown
    rcases hc.out with ⟨rfl, hR⟩ | ⟨j, rfl, hj, hR⟩
    · have hv : Hid (L = ptL P i) := by
        have := hL.out
        rw [hR] at this
        unfold Hid
        simpa using this
      replace hR := Lib.hid hR
      clear hc
      go_wp2
      go_ret
      refine ⟨_, rfl, by rw [← hv.out]; exact own_more hownh.out (by omega), hb⟩
    · obtain ⟨b, off, v, hx, hbl, hPj, hc0⟩ := (hh.out.below hb).int (i := j) hj
      have hlen2 : Hid (R.length + L.length = dpN P i + 1) := by
        have := congrArg List.length hL.out
        rw [List.length_append, List.length_reverse, pt_len] at this
        exact this
      have hll : L.length ≤ 30 := by
        have h1 := hlen2.out
        rw [hR, up_len] at h1
        omega
      have hnext : Hid (-1 ≤ v ∧ v < j ∧ ∃ R2, Clm P v R2 ∧ R = (j : Int) :: R2) := by
        rcases Nat.eq_zero_or_pos j with e | e
        · subst e
          have hz := ge_zero hgh.out
          obtain rfl : v = -1 := Option.some.inj (hPj.symm.trans hz)
          exact ⟨by omega, by omega, [], clm_zero, by rw [hR]; exact upW_root⟩
        · obtain ⟨p, hp, hpl⟩ := ge_par hgh.out e hj
          obtain rfl : v = p := Option.some.inj (hPj.symm.trans hp)
          exact ⟨by omega, by omega, upW P p, Or.inr ⟨p, rfl, by omega, rfl⟩, by rw [hR]; exact upW_step hp hpl⟩
      obtain ⟨hn1, hn2, R2, hc2, hR2⟩ := hnext.out
      have hL2 : Hid (R2.reverse ++ ((j : Int) :: L) = ptL P i) := by
        have := hL.out
        rw [hR2] at this
        unfold Hid
        simpa using this
      have hj0 : (0 : Int) ≤ (j : Int) := by omega
      have hj1 : (j : Int) < (P.length : Int) := by omega
      replace hc2 := Lib.hid hc2
      replace hx := Lib.hid hx
      replace hPj := Lib.hid hPj
      clear hR hR2 hnext hc hL hlen2
      have hxx := hx.out
      subst hxx
      obtain ⟨xu, cu, rfl, hcu, hcn⟩ := OwR.form (OwR.of hownh.out)
      have hs0 := hb.size
      go_wp2_with (at_builtin; go_loud (refine wpList_append_rd _ rfl (.tmp 14) (.tmp 15) 24 rfl (w.heap.size + 1) 3 i0 (.int .i64 0) 1 8 Try.underlying24 hii hz0 hz1 hz2 rfl (by decide) _ 1 (iC [(j : Int)]) rfl (own_lit1 _ _ _ _ (by simp) (by omega)) _ L.length cu rfl hcu hcn (iC L) (by rw [iC_len, Nat.mul_one]) ((Rd.of_own hownh.out).alloc _) (iC_one _) (by unfold maxLen; omega) (by omega) (by simp; omega) ?_); intro v3 w3 hown3 hgrow3 hwhere3; (have hg3 : (wr.alloc (.cells #[.int .i64 j] 3)).grownBy w3 (some wr.heap.size) := hgrow3); (have hbw : Below wr.heap.size wr w3 := ((Below.refl _ _).alloc (Nat.le_refl _) _).grown hg3 (by simp) (fun k hk => by injection hk with hk; omega)); (obtain ⟨ka3, kb3, kc3⟩ := hqh.out.below hbw); (have hc3 := (hbw.cell (p := ⟨b, off + j, none⟩) hbl).trans hc0))
      have hb3 := Lib.hid (Below.via' hb hbw)
      have hq3 := Lib.hid (hqh.out.below hbw)
      have ho3 : Hid (w3.ownsRow (w.heap.size + 1) 3 1 v3 ((j : Int) :: L).length (iC ((j : Int) :: L))) := own_eq hown3 (by rw [List.length_cons]; omega) rfl
      clear hgrow3 hwhere3 hg3 hown3 hqh hownh
      go_wp2
      go_roundw
      case rel => exact ⟨v, (j : Int) :: L, R2, rfl, hn1, hc2.out, hL2.out, by rw [List.length_cons]; omega, ho3.out, hq3.out, hb3.out⟩
      case measure => simp [intOf]; omega
end Go.Proofs.Ytmefkknkahmihaa
