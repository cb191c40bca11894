/-
  The walks of chapter 4: sums from the leaves; the program's and the model's.
-/
import Derived.Test.YtelnbjhnjcbjoabGeoF
import Derived.Test.YtelnbjhnjcbjoabGrpW
import Derived.Deep.RegionLaw
namespace Go.Proofs.Ytelnbjhnjcbjoab
open Go.RowKit
set_option maxRecDepth 100000

/-- The numbers when areas above i have been visited. -/
def suF (P V : List Int) (i : Nat) : List Int := suK P V (V.length - 1 - i)
theorem suF_len (P V : List Int) (i : Nat) : (suF P V i).length = V.length := suK_len P V _
theorem suF_top (P V : List Int) : suF P V (V.length - 1) = V := by unfold suF; rw [Nat.sub_self]; rfl
theorem suF_zero (P V : List Int) : suF P V 0 = suL P V := by unfold suF suL; rw [Nat.sub_zero]
theorem suF_step {P V : List Int} {i : Nat} (h1 : 1 ≤ i) (hi : i < V.length) : suF P V (i - 1) = suS P (suF P V i) i := by
  unfold suF
  rw [show V.length - 1 - (i - 1) = (V.length - 1 - i) + 1 by omega]
  show suS P (suK P V (V.length - 1 - i)) (V.length - 1 - (V.length - 1 - i)) = _
  rw [show V.length - 1 - (V.length - 1 - i) = i by omega]
set_option maxHeartbeats 2000000 in
theorem stepA_any (x : Option Addr) (c g n d base i p : Nat) (a b : Int) (P V : List Int) (W : World) (hp : P[i]? = some (p : Int)) (hR : Rd W x (iC P)) (hpl : p < n) (hin : i < n) (hV : V[p]? = some a) (hVi : V[i]? = some b)
    (ho : W.ownsRow base 3 1 (.slice (some ⟨g, 0, none⟩) n d) n (iC V)) :
    Calls Try.prog 34 #[.agg #[.slice x P.length c, .slice (some ⟨g, 0, none⟩) n d], .int .i64 i] W fun e w' => e = .returned (.tuple #[]) ∧ w'.ownsRow base 3 1 (.slice (some ⟨g, 0, none⟩) n d) n (iC (suS P V i)) ∧ W.grownBy w' (some g) := by
  have hiP : i < P.length := (List.getElem?_eq_some_iff.1 hp).1
  have hsu := suS_at hp hV hVi
  obtain ⟨bl, off, v, rfl, hbl, hPi, hc0⟩ := hR.int hiP
  obtain rfl : v = p := Option.some.inj (hPi.symm.trans hp)
  obtain ⟨u, hu, k0⟩ := own_cell ho (j := p) (by omega)
  obtain rfl : u = .int .i64 a := Option.some.inj (hu.symm.trans (iC_at hV))
  obtain ⟨u2, hu2, k02⟩ := own_cell ho (j := i) (by omega)
  obtain rfl : u2 = .int .i64 b := Option.some.inj (hu2.symm.trans (iC_at hVi))
  have k2 := ho.frozenAt p
  have k4 := (own_lt ho).2
  have hi0 : (0 : Int) ≤ (i : Int) := by omega
  have hi1 : (i : Int) < (P.length : Int) := by omega
  have hi2 : (i : Int) < (n : Int) := by omega
  have hp0 : (0 : Int) ≤ (p : Int) := by omega
  have hp2 : (p : Int) < (n : Int) := by omega
  replace hu := Lib.hid hu
  replace hu2 := Lib.hid hu2
  replace hPi := Lib.hid hPi
  replace hp := Lib.hid hp
  replace hV := Lib.hid hV
  replace hVi := Lib.hid hVi
  have hoh := Lib.hid ho
  clear ho hR
  go_enter Try.func34, Try.ntmps34
  have hst := hoh.out.stored p (.int .i64 (wrap64 (a + b)))
  rw [iC_setG, ← hsu] at hst
  have hs1 := Lib.hid hst.1
  have hs2 := Lib.hid hst.2
  replace hsu := Lib.hid hsu
  clear hst
  go_wp2
  go_region
  all_goals
    go_wp2
    refine bodyPost_end (v := .tuple #[]) (by simp [results, Try.results34, go_sem]) rfl ?_
    exact ⟨rfl, own_below hs1.out (by repeat (first | exact Below.refl _ _ | assumption | refine Below.drew ?_ | refine below_drewN ?_ _ | refine Below.alloc' ?_ _ | (refine Below.setCell ?_ (by first | omega | (simp; done) | (simp; omega) | exact Below.size (by assumption) | exact Nat.le_trans (Below.size (by assumption)) (by simp)) _) | (refine Below.via' ?_ (by assumption)) | (refine Below.alloc ?_ (by first | omega | (simp; done) | (simp; omega) | exact Below.size (by assumption) | exact Nat.le_trans (Below.size (by assumption)) (by simp)) _) | (refine Below.via ?_ (by assumption) (by first | omega | (simp; done) | (simp; omega) | exact Below.size (by assumption) | exact Nat.le_trans (Below.size (by assumption)) (by simp))))), hs2.out.trans (grown_of_bel (by repeat (first | exact Below.refl _ _ | assumption | refine Below.drew ?_ | refine below_drewN ?_ _ | refine Below.alloc' ?_ _ | (refine Below.setCell ?_ (by first | omega | (simp; done) | (simp; omega) | exact Below.size (by assumption) | exact Nat.le_trans (Below.size (by assumption)) (by simp)) _) | (refine Below.via' ?_ (by assumption)) | (refine Below.alloc ?_ (by first | omega | (simp; done) | (simp; omega) | exact Below.size (by assumption) | exact Nat.le_trans (Below.size (by assumption)) (by simp)) _) | (refine Below.via ?_ (by assumption) (by first | omega | (simp; done) | (simp; omega) | exact Below.size (by assumption) | exact Nat.le_trans (Below.size (by assumption)) (by simp))))) _)⟩
/-- What a visit of one area does to the sums. -/
def StepU (x : Option Addr) (c g d base n : Nat) (P : List Int) (F : Nat → List Int) (i j : Nat) : Prop :=
  ∀ W : World, Rd W x (iC P) → W.ownsRow base 3 1 (.slice (some ⟨g, 0, none⟩) n d) n (iC (F i)) →
    Calls Try.prog 34 #[.agg #[.slice x P.length c, .slice (some ⟨g, 0, none⟩) n d], .int .i64 i] W fun e w' => e = .returned (.tuple #[]) ∧ w'.ownsRow base 3 1 (.slice (some ⟨g, 0, none⟩) n d) n (iC (F j)) ∧ W.grownBy w' (some g)
theorem stepA_su {x : Option Addr} {c g d base : Nat} {P V : List Int} (hg : geB P = true) (hV : V.length = P.length) {i : Nat} (h1 : 1 ≤ i) (hi : i < P.length) :
    StepU x c g d base V.length P (suF P V) i (i - 1) := by
  intro W hR ho
  obtain ⟨p, hp, hpl⟩ := ge_par hg h1 hi
  have hl := suF_len P V i
  have h := stepA_any x c g V.length d base i p _ _ P (suF P V i) W hp hR (by omega) (by omega) (List.getElem?_eq_getElem (by omega)) (List.getElem?_eq_getElem (by omega)) ho
  rw [← suF_step h1 (by omega)] at h
  exact h
set_option maxHeartbeats 2000000 in
theorem visitUp_su (x : Option Addr) (c g d base n : Nat) (P : List Int) (F : Nat → List Int) (w : World) (hm : P.length ≤ 1048576) (h1 : 1 ≤ P.length) (hx : Rd w x (iC P)) (hxb : ∀ b off, x = some ⟨b, off, none⟩ → b < base) (hst : ∀ i, 1 ≤ i → i < P.length → StepU x c g d base n P F i (i - 1))
    (ho : w.ownsRow base 3 1 (.slice (some ⟨g, 0, none⟩) n d) n (iC (F (P.length - 1)))) :
    Calls Try.prog 33 #[.agg #[.slice x P.length c, .slice (some ⟨g, 0, none⟩) n d], .func (.func 34) #[] #[]] w fun e w' => e = .returned (.tuple #[]) ∧ w'.ownsRow base 3 1 (.slice (some ⟨g, 0, none⟩) n d) n (iC (F 0)) ∧ w.grownBy w' (some g) := by
  have hgl := own_lt ho
  have hoh := Lib.hid (ho.alloc (.cells #[.slice x P.length c, .slice (some ⟨g, 0, none⟩) n d] 50))
  have hxh := Lib.hid (hx.alloc (.cells #[.slice x P.length c, .slice (some ⟨g, 0, none⟩) n d] 50))
  have hst := Lib.hid hst
  have hxb := Lib.hid hxb
  have hpc : (1 : Int) ≤ (P.length : Int) := by omega
  clear ho hx
  go_enter Try.func33, Try.ntmps33
  go_wp2
  go_loopw [4] (fun q wr => ∃ i : Nat, i < P.length ∧ q = .int .i64 i ∧ wr.ownsRow base 3 1 (.slice (some ⟨g, 0, none⟩) n d) n (iC (F i)) ∧ GBt wr w.heap.size x P.length c (some ⟨g, 0, none⟩) n d ∧ Rd wr x (iC P) ∧ w.grownBy wr (some g)) (fun q _ => (intOf q).toNat)
  case atStart => exact ⟨P.length - 1, by omega, by congr 1; omega, hoh.out, GBt.new _ _ _ _ _ _ _ _, hxh.out, World.grownBy_alloc w _ _⟩
  case round =>
    clear hoh hxh
    obtain ⟨i, hi, rfl, hown, htb, hx, hb⟩ := hrel
    obtain ⟨ka, kb, kc⟩ := htb
    have hownh := Lib.hid hown
    have hxh := Lib.hid hx
    have htb := Lib.hid (show GBt wr w.heap.size x P.length c (some ⟨g, 0, none⟩) n d from ⟨ka, kb, kc⟩)
    clear hown hx
    rcases Nat.eq_zero_or_pos i with e0 | e0
    · subst e0
      go_wp2
      refine bodyPost_end (v := .tuple #[]) (by simp [results, Try.results33, go_sem]) rfl ?_
      exact ⟨rfl, hownh.out, hb⟩
    · have hlt' : (0 : Int) < (i : Int) := by omega
      have hi1 : 1 ≤ i := e0
      have hic : Hid (((i - 1 : Nat) : Int) = (i : Int) - 1) := by unfold Hid; omega
      go_wp2_with fail
      go_at_call 34
      refine (hst.out i hi1 hi _ hxh.out hownh.out).mono ?_
      rintro e w2 ⟨rfl, ho2, hg2⟩
      have ho2 := Lib.hid ho2
      have hg2 := Lib.hid hg2
      clear ka kb kc
      go_wp2
      go_roundw
      case rel => exact ⟨i - 1, by omega, by rw [hic.out], ho2.out, tb_set htb.out hg2.out (by omega), hxh.out.keep hg2.out (fun b off e q => by injection q with q; have := hxb.out b off e; omega), hb.trans hg2.out⟩
      case measure => simp [intOf]; omega

/-- Are they values for the areas? -/
def svB (P V : List Int) : Bool := decide (V.length = P.length) && inR V (-1000000) 1000000
def sgB (P V : List Int) : Bool := geB P && svB P V
theorem sv_no1 {P V : List Int} (h : V.length ≠ P.length) : svB P V = false := by unfold svB; rw [decide_eq_false h]; rfl
theorem sv_no2 {P V : List Int} (h : inR V (-1000000) 1000000 = false) : svB P V = false := by unfold svB; rw [h, Bool.and_false]
theorem sv_yes {P V : List Int} (h : V.length = P.length) : svB P V = inR V (-1000000) 1000000 := by unfold svB; rw [decide_eq_true h]; rfl
theorem sv_len {P V : List Int} (h : svB P V = true) : V.length = P.length := by unfold svB at h; rw [Bool.and_eq_true, decide_eq_true_eq] at h; exact h.1
set_option maxHeartbeats 2000000 in
theorem areAreaValues_any (x y : Option Addr) (c c2 : Nat) (P V : List Int) (w : World) (hmV : V.length ≤ 1048576) (hV : Rd w y (iC V)) :
    Calls Try.prog 31 #[.agg #[.slice x P.length c], .slice y V.length c2] w fun e w' => e = .returned (.bool (svB P V)) ∧ Below w.heap.size w w' := by
  have hVh := Lib.hid hV
  clear hV
  by_cases hl : V.length = P.length
  · have he1 : ((V.length : Int) == (P.length : Int)) = true := by rw [beq_iff_eq]; omega
    have he2 : ((V.length : Int) != (P.length : Int)) = false := by show (!((V.length : Int) == (P.length : Int))) = false; rw [he1]; rfl
    have hsv := Lib.hid (sv_yes hl)
    replace hl := Lib.hid hl
    go_enter Try.func31, Try.ntmps31
    go_wp2
    clear he1 he2
    go_loop [15] (fun q => ∃ i : Nat, i ≤ V.length ∧ q = .int .i64 i ∧ Hid (∀ j, j < i → ∃ v, V[j]? = some v ∧ inB v (-1000000) 1000000 = true)) (fun q => V.length - (intOf q).toNat)
    case atStart => exact ⟨0, by omega, by go_num, fun j hj => absurd hj (by omega)⟩
    case round =>
      obtain ⟨i, hi, rfl, hall⟩ := hrel
      by_cases hlt : i < V.length
      · obtain ⟨b, off, v, rfl, hbl, hVi, hc0⟩ := hVh.out.int (i := i) hlt
        have hlt' : (i : Int) < (V.length : Int) := by omega
        have hi0 : (0 : Int) ≤ (i : Int) := by omega
        by_cases h1 : v < -1000000
        · have hv := Lib.hid (hsv.out.trans (inR_bad hVi ((inB_no _ _ _).2 (by omega))))
          replace hVi := Lib.hid hVi
          clear hall
          go_wp2
          go_ret
          exact ⟨ret_bool hv.out.symm, (by repeat (first | exact Below.refl _ _ | assumption | refine Below.drew ?_ | refine below_drewN ?_ _ | refine Below.alloc' ?_ _ | (refine Below.setCell ?_ (by first | omega | (simp; done) | (simp; omega) | exact Below.size (by assumption) | exact Nat.le_trans (Below.size (by assumption)) (by simp)) _) | (refine Below.via' ?_ (by assumption)) | (refine Below.alloc ?_ (by first | omega | (simp; done) | (simp; omega) | exact Below.size (by assumption) | exact Nat.le_trans (Below.size (by assumption)) (by simp)) _) | (refine Below.via ?_ (by assumption) (by first | omega | (simp; done) | (simp; omega) | exact Below.size (by assumption) | exact Nat.le_trans (Below.size (by assumption)) (by simp)))))⟩
        by_cases h2 : 1000000 < v
        · have hv := Lib.hid (hsv.out.trans (inR_bad hVi ((inB_no _ _ _).2 (by omega))))
          replace hVi := Lib.hid hVi
          clear hall
          go_wp2
          go_ret
          exact ⟨ret_bool hv.out.symm, (by repeat (first | exact Below.refl _ _ | assumption | refine Below.drew ?_ | refine below_drewN ?_ _ | refine Below.alloc' ?_ _ | (refine Below.setCell ?_ (by first | omega | (simp; done) | (simp; omega) | exact Below.size (by assumption) | exact Nat.le_trans (Below.size (by assumption)) (by simp)) _) | (refine Below.via' ?_ (by assumption)) | (refine Below.alloc ?_ (by first | omega | (simp; done) | (simp; omega) | exact Below.size (by assumption) | exact Nat.le_trans (Below.size (by assumption)) (by simp)) _) | (refine Below.via ?_ (by assumption) (by first | omega | (simp; done) | (simp; omega) | exact Below.size (by assumption) | exact Nat.le_trans (Below.size (by assumption)) (by simp)))))⟩
        have hst : Hid (∀ j, j < i + 1 → ∃ v, V[j]? = some v ∧ inB v (-1000000) 1000000 = true) := fun j hj => by
          rcases Nat.lt_or_ge j i with h3 | h3
          · exact hall.out j h3
          · obtain rfl : j = i := by omega
            exact ⟨v, hVi, (inB_iff _ _ _).2 (by omega)⟩
        replace hVi := Lib.hid hVi
        clear hall
        go_wp2
        go_round
        case rel => exact ⟨i + 1, by omega, by go_num, hst.out⟩
        case measure => simp [intOf]; omega
      · have hij : i = V.length := by omega
        have hv : Hid (svB P V = true) := by
          unfold Hid
          rw [hsv.out]
          exact inR_all (by rw [← hij]; exact hall.out)
        have hlt' : ¬ (i : Int) < (V.length : Int) := by omega
        replace hij := Lib.hid hij
        clear hall
        go_wp2
        go_ret
        exact ⟨ret_bool hv.out.symm, (by repeat (first | exact Below.refl _ _ | assumption | refine Below.drew ?_ | refine below_drewN ?_ _ | refine Below.alloc' ?_ _ | (refine Below.setCell ?_ (by first | omega | (simp; done) | (simp; omega) | exact Below.size (by assumption) | exact Nat.le_trans (Below.size (by assumption)) (by simp)) _) | (refine Below.via' ?_ (by assumption)) | (refine Below.alloc ?_ (by first | omega | (simp; done) | (simp; omega) | exact Below.size (by assumption) | exact Nat.le_trans (Below.size (by assumption)) (by simp)) _) | (refine Below.via ?_ (by assumption) (by first | omega | (simp; done) | (simp; omega) | exact Below.size (by assumption) | exact Nat.le_trans (Below.size (by assumption)) (by simp)))))⟩
  · have he1 : ((V.length : Int) == (P.length : Int)) = false := by rw [beq_eq_false_iff_ne]; omega
    have he2 : ((V.length : Int) != (P.length : Int)) = true := by show (!((V.length : Int) == (P.length : Int))) = true; rw [he1]; rfl
    have hv := Lib.hid (sv_no1 (P := P) hl)
    replace hl := Lib.hid hl
    go_enter Try.func31, Try.ntmps31
    go_wp2
    go_ret
    exact ⟨ret_bool hv.out.symm, (by repeat (first | exact Below.refl _ _ | assumption | refine Below.drew ?_ | refine below_drewN ?_ _ | refine Below.alloc' ?_ _ | (refine Below.setCell ?_ (by first | omega | (simp; done) | (simp; omega) | exact Below.size (by assumption) | exact Nat.le_trans (Below.size (by assumption)) (by simp)) _) | (refine Below.via' ?_ (by assumption)) | (refine Below.alloc ?_ (by first | omega | (simp; done) | (simp; omega) | exact Below.size (by assumption) | exact Nat.le_trans (Below.size (by assumption)) (by simp)) _) | (refine Below.via ?_ (by assumption) (by first | omega | (simp; done) | (simp; omega) | exact Below.size (by assumption) | exact Nat.le_trans (Below.size (by assumption)) (by simp)))))⟩

set_option maxHeartbeats 4000000 in
theorem gSums_any (x y : Option Addr) (c c2 : Nat) (P V : List Int) (w : World) (hg : geB P = true) (hl : V.length = P.length) (h : IIn w x P) (hV : Rd w y (iC V)) (hc : V.length ≤ c2) (hnil : y = none → c2 = 0) :
    Calls Try.prog 30 #[.agg #[.slice x P.length c], .slice y V.length c2] w (RetG (suL P V) w) := by
  have hm := h.1
  have hh := Lib.hid h.2.2
  have hVh := Lib.hid hV
  have hlen := ge_len hg
  have hgh := Lib.hid hg
  have hq := Lib.hid (QB.new w x P.length c 28)
  have hnil := Lib.hid hnil
  have hmV : V.length ≤ 1048576 := by omega
  have hvp : 1 ≤ V.length := by omega
  have hll : V.length ≤ P.length := by omega
  have hll2 : P.length ≤ V.length := by omega
  replace hl := Lib.hid hl
  clear h hV hg
  go_enter Try.func30, Try.ntmps30
  go_wp2_with fail
  refine (l1Own_any _ _ V _ hmV hc hnil.out (hVh.out.below (by exact (by repeat (first | exact Below.refl _ _ | assumption | refine Below.drew ?_ | refine below_drewN ?_ _ | refine Below.alloc' ?_ _ | (refine Below.setCell ?_ (by first | omega | (simp; done) | (simp; omega) | exact Below.size (by assumption) | exact Nat.le_trans (Below.size (by assumption)) (by simp)) _) | (refine Below.via' ?_ (by assumption)) | (refine Below.alloc ?_ (by first | omega | (simp; done) | (simp; omega) | exact Below.size (by assumption) | exact Nat.le_trans (Below.size (by assumption)) (by simp)) _) | (refine Below.via ?_ (by assumption) (by first | omega | (simp; done) | (simp; omega) | exact Below.size (by assumption) | exact Nat.le_trans (Below.size (by assumption)) (by simp)))))))).mono ?_
  rintro e w1 ⟨v1, rfl, ho1, hb1⟩
  have hq1 := Lib.hid (hq.out.below hb1)
  obtain ⟨g, cv, rfl⟩ := own_someV ho1 (by omega)
  have B1 : Below w.heap.size w w1 := (by repeat (first | exact Below.refl _ _ | assumption | refine Below.drew ?_ | refine below_drewN ?_ _ | refine Below.alloc' ?_ _ | (refine Below.setCell ?_ (by first | omega | (simp; done) | (simp; omega) | exact Below.size (by assumption) | exact Nat.le_trans (Below.size (by assumption)) (by simp)) _) | (refine Below.via' ?_ (by assumption)) | (refine Below.alloc ?_ (by first | omega | (simp; done) | (simp; omega) | exact Below.size (by assumption) | exact Nat.le_trans (Below.size (by assumption)) (by simp)) _) | (refine Below.via ?_ (by assumption) (by first | omega | (simp; done) | (simp; omega) | exact Below.size (by assumption) | exact Nat.le_trans (Below.size (by assumption)) (by simp)))))
  have hgl := own_lt ho1
  have hgw : w.heap.size < g := by have := hgl.1; simp at this; omega
  have hoh := Lib.hid (own_more ho1 (base' := w.heap.size + 1) (by simp))
  clear hb1 ho1 hq
  have hvc : (1 : Int) ≤ (V.length : Int) := by omega
  go_wp2
  go_loopw [6] (fun q wr => ∃ i : Nat, i < V.length ∧ q = .int .i64 i ∧ wr.ownsRow (w.heap.size + 1) 3 1 (.slice (some ⟨g, 0, none⟩) V.length cv) V.length (iC (suF P V i)) ∧ QB wr w.heap.size x P.length c ∧ w1.grownBy wr (some g)) (fun q _ => (intOf q).toNat)
  case atStart => exact ⟨V.length - 1, by omega, by congr 1; omega, by rw [suF_top]; exact hoh.out, hq1.out, World.grownBy.refl _ _⟩
  case round =>
    clear hoh
    obtain ⟨i, hi, rfl, hown, hqb, hb⟩ := hrel
    obtain ⟨ka, kb, kc⟩ := hqb
    have hqh := Lib.hid (show QB wr w.heap.size x P.length c from ⟨ka, kb, kc⟩)
    have hbw : Below w.heap.size w wr := B1.grown hb B1.size (fun k hk => by injection hk with hk; omega)
    rcases Nat.eq_zero_or_pos i with e0 | e0
    · subst e0
      have hownh := Lib.hid hown
      clear hown
      go_wp2
      go_ret
      exact ⟨_, rfl, by rw [suL_len, ← suF_zero]; exact own_more hownh.out (by omega), hbw⟩
    · have hlt' : (0 : Int) < (i : Int) := by omega
      have hi1 : 1 ≤ i := e0
      have hiP : i < P.length := by omega
      have hic : Hid (((i - 1 : Nat) : Int) = (i : Int) - 1) := by unfold Hid; omega
      obtain ⟨p, hp, hpl⟩ := ge_par hgh.out hi1 hiP
      obtain ⟨bl, off, v, rfl, hbl, hPi, hc0⟩ := (hh.out.below hbw).int hiP
      obtain rfl : v = p := Option.some.inj (hPi.symm.trans hp)
      have hsl := suF_len P V i
      obtain ⟨a, ha⟩ : ∃ a, (suF P V i)[p]? = some a := ⟨_, List.getElem?_eq_getElem (by omega)⟩
      obtain ⟨d, hd⟩ : ∃ d, (suF P V i)[i]? = some d := ⟨_, List.getElem?_eq_getElem (by omega)⟩
      have hsu := suS_at hp ha hd
      rw [← suF_step hi1 hi] at hsu
      obtain ⟨u, hu, k0⟩ := own_cell hown (j := p) (by omega)
      obtain rfl : u = .int .i64 a := Option.some.inj (hu.symm.trans (iC_at ha))
      obtain ⟨u2, hu2, k02⟩ := own_cell hown (j := i) (by omega)
      obtain rfl : u2 = .int .i64 d := Option.some.inj (hu2.symm.trans (iC_at hd))
      have k2 := hown.frozenAt p
      have k4 := (own_lt hown).2
      have hi0 : (0 : Int) ≤ (i : Int) := by omega
      have hi1' : (i : Int) < (P.length : Int) := by omega
      have hi2 : (i : Int) < (V.length : Int) := by omega
      have hp0 : (0 : Int) ≤ (p : Int) := by omega
      have hp2 : (p : Int) < (V.length : Int) := by omega
      have hst := hown.stored p (.int .i64 (wrap64 (a + d)))
      rw [iC_setG, ← hsu] at hst
      have hs1 := Lib.hid hst.1
      have hs2 := Lib.hid hst.2
      have hown := Lib.hid hown
      replace hu := Lib.hid hu
      replace hu2 := Lib.hid hu2
      replace hPi := Lib.hid hPi
      replace hp := Lib.hid hp
      replace ha := Lib.hid ha
      replace hd := Lib.hid hd
      replace hsu := Lib.hid hsu
      replace hsl := Lib.hid hsl
      clear hst
      go_wp2
      go_region
      all_goals
        go_wp2
        go_roundw
        case rel => exact ⟨i - 1, by omega, by rw [hic.out], own_below hs1.out (by repeat (first | exact Below.refl _ _ | assumption | refine Below.drew ?_ | refine below_drewN ?_ _ | refine Below.alloc' ?_ _ | (refine Below.setCell ?_ (by first | omega | (simp; done) | (simp; omega) | exact Below.size (by assumption) | exact Nat.le_trans (Below.size (by assumption)) (by simp)) _) | (refine Below.via' ?_ (by assumption)) | (refine Below.alloc ?_ (by first | omega | (simp; done) | (simp; omega) | exact Below.size (by assumption) | exact Nat.le_trans (Below.size (by assumption)) (by simp)) _) | (refine Below.via ?_ (by assumption) (by first | omega | (simp; done) | (simp; omega) | exact Below.size (by assumption) | exact Nat.le_trans (Below.size (by assumption)) (by simp))))), (hqh.out.grown hs2.out (fun e => by injection e with e; omega)).below (by repeat (first | exact Below.refl _ _ | assumption | refine Below.drew ?_ | refine below_drewN ?_ _ | refine Below.alloc' ?_ _ | (refine Below.setCell ?_ (by first | omega | (simp; done) | (simp; omega) | exact Below.size (by assumption) | exact Nat.le_trans (Below.size (by assumption)) (by simp)) _) | (refine Below.via' ?_ (by assumption)) | (refine Below.alloc ?_ (by first | omega | (simp; done) | (simp; omega) | exact Below.size (by assumption) | exact Nat.le_trans (Below.size (by assumption)) (by simp)) _) | (refine Below.via ?_ (by assumption) (by first | omega | (simp; done) | (simp; omega) | exact Below.size (by assumption) | exact Nat.le_trans (Below.size (by assumption)) (by simp))))), (hb.trans hs2.out).trans (grown_of_bel (by repeat (first | exact Below.refl _ _ | assumption | refine Below.drew ?_ | refine below_drewN ?_ _ | refine Below.alloc' ?_ _ | (refine Below.setCell ?_ (by first | omega | (simp; done) | (simp; omega) | exact Below.size (by assumption) | exact Nat.le_trans (Below.size (by assumption)) (by simp)) _) | (refine Below.via' ?_ (by assumption)) | (refine Below.alloc ?_ (by first | omega | (simp; done) | (simp; omega) | exact Below.size (by assumption) | exact Nat.le_trans (Below.size (by assumption)) (by simp)) _) | (refine Below.via ?_ (by assumption) (by first | omega | (simp; done) | (simp; omega) | exact Below.size (by assumption) | exact Nat.le_trans (Below.size (by assumption)) (by simp))))) _)⟩
        case measure => simp [intOf]; omega
end Go.Proofs.Ytelnbjhnjcbjoab
