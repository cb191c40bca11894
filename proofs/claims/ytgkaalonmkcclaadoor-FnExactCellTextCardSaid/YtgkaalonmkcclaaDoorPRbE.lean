import Derived.Test.YtgkaalonmkcclaaDoorPRbB
import Derived.Test.YtgkaalonmkcclaaDoorGeoL
import Derived.RegionTactic
import Derived.BigRegion
import Derived.StillTailTactics
import Derived.Deep.OwnRows
import Derived.Test.YtgkaalonmkcclaaDoorApp
namespace Go.Proofs.YtgkaalonmkcclaaDoor
open Go.RowKit
set_option maxRecDepth 100000

set_option maxHeartbeats 2000000 in
theorem iGeo_any (x : Option Addr) (c : Nat) (P : List Int) (w : World) (h : IIn w x P) :
    Calls Tryd.prog 50 #[.agg #[.slice x P.length c]] w fun e w' => e = .returned (.bool (geB P)) ∧ Below w.heap.size w w' := by
  have hr := Lib.hid h.2.2
  have hm := h.1
  clear h
  by_cases h0 : P.length = 0
  · have hv := Lib.hid (ge_short (Or.inl h0))
    have h0' : ((P.length : Int) == 0) = true := by rw [beq_iff_eq]; omega
    replace h0 := Lib.hid h0
    go_enter Tryd.func50, Tryd.ntmps50
    go_wp2
    go_ret
    exact ⟨ret_bool hv.out.symm, (by repeat (first | exact Below.refl _ _ | assumption | refine Below.drew ?_ | refine below_drewN ?_ _ | refine Below.alloc' ?_ _ | (refine Below.setCell ?_ (by first | omega | (simp; done) | (simp; omega) | exact Below.size (by assumption) | exact Nat.le_trans (Below.size (by assumption)) (by simp)) _) | (refine Below.via' ?_ (by assumption)) | (refine Below.alloc ?_ (by first | omega | (simp; done) | (simp; omega) | exact Below.size (by assumption) | exact Nat.le_trans (Below.size (by assumption)) (by simp)) _) | (refine Below.via ?_ (by assumption) (by first | omega | (simp; done) | (simp; omega) | exact Below.size (by assumption) | exact Nat.le_trans (Below.size (by assumption)) (by simp)))))⟩
  have h0' : ((P.length : Int) == 0) = false := by rw [beq_eq_false_iff_ne]; omega
  by_cases h1 : (30 : Int) < P.length
  · have hv := Lib.hid (ge_short (P := P) (Or.inr (by omega)))
    go_enter Tryd.func50, Tryd.ntmps50
    go_wp2
    go_ret
    exact ⟨ret_bool hv.out.symm, (by repeat (first | exact Below.refl _ _ | assumption | refine Below.drew ?_ | refine below_drewN ?_ _ | refine Below.alloc' ?_ _ | (refine Below.setCell ?_ (by first | omega | (simp; done) | (simp; omega) | exact Below.size (by assumption) | exact Nat.le_trans (Below.size (by assumption)) (by simp)) _) | (refine Below.via' ?_ (by assumption)) | (refine Below.alloc ?_ (by first | omega | (simp; done) | (simp; omega) | exact Below.size (by assumption) | exact Nat.le_trans (Below.size (by assumption)) (by simp)) _) | (refine Below.via ?_ (by assumption) (by first | omega | (simp; done) | (simp; omega) | exact Below.size (by assumption) | exact Nat.le_trans (Below.size (by assumption)) (by simp)))))⟩
  obtain ⟨b, off, v, rfl, hbl, hP0, hc0⟩ := hr.out.int (i := 0) (by omega)
  have hpos : (0 : Int) < (P.length : Int) := by omega
  have hposN : 0 < P.length := by omega
  by_cases hv0 : v = -1
  · subst hv0
    rw [Nat.add_zero] at hc0
    replace hP0 := Lib.hid hP0
    go_enter Tryd.func50, Tryd.ntmps50
    go_wp2
    clear h0' hc0
    go_loop [3] (fun q => ∃ i : Nat, 1 ≤ i ∧ i ≤ P.length ∧ q = .int .i64 i ∧ Hid (∀ j, 1 ≤ j → j < i → ∃ v, P[j]? = some v ∧ 0 ≤ v ∧ v < j)) (fun q => P.length - (intOf q).toNat)
    case atStart => exact ⟨1, by omega, by omega, by go_num, fun j h1 h2 => absurd h2 (by omega)⟩
    case round =>
      obtain ⟨i, hi1, hi, rfl, hall⟩ := hrel
      by_cases hlt : i < P.length
      · obtain ⟨b2, off2, u, hx2, hbl2, hPi, hci⟩ := hr.out.int (i := i) hlt
        injection hx2 with hx2
        injection hx2 with e1 e2
        subst e1 e2
        have hlt' : (i : Int) < (P.length : Int) := by omega
        have hi0 : (0 : Int) ≤ (i : Int) := by omega
        by_cases hu0 : u < 0
        · have hv := Lib.hid (ge_bad hi1 hPi (by omega))
          replace hPi := Lib.hid hPi
          go_wp2
          go_ret
          exact ⟨ret_bool hv.out.symm, (by repeat (first | exact Below.refl _ _ | assumption | refine Below.drew ?_ | refine below_drewN ?_ _ | refine Below.alloc' ?_ _ | (refine Below.setCell ?_ (by first | omega | (simp; done) | (simp; omega) | exact Below.size (by assumption) | exact Nat.le_trans (Below.size (by assumption)) (by simp)) _) | (refine Below.via' ?_ (by assumption)) | (refine Below.alloc ?_ (by first | omega | (simp; done) | (simp; omega) | exact Below.size (by assumption) | exact Nat.le_trans (Below.size (by assumption)) (by simp)) _) | (refine Below.via ?_ (by assumption) (by first | omega | (simp; done) | (simp; omega) | exact Below.size (by assumption) | exact Nat.le_trans (Below.size (by assumption)) (by simp)))))⟩
        by_cases hu1 : (i : Int) ≤ u
        · have hv := Lib.hid (ge_bad hi1 hPi (by omega))
          replace hPi := Lib.hid hPi
          go_wp2
          go_ret
          exact ⟨ret_bool hv.out.symm, (by repeat (first | exact Below.refl _ _ | assumption | refine Below.drew ?_ | refine below_drewN ?_ _ | refine Below.alloc' ?_ _ | (refine Below.setCell ?_ (by first | omega | (simp; done) | (simp; omega) | exact Below.size (by assumption) | exact Nat.le_trans (Below.size (by assumption)) (by simp)) _) | (refine Below.via' ?_ (by assumption)) | (refine Below.alloc ?_ (by first | omega | (simp; done) | (simp; omega) | exact Below.size (by assumption) | exact Nat.le_trans (Below.size (by assumption)) (by simp)) _) | (refine Below.via ?_ (by assumption) (by first | omega | (simp; done) | (simp; omega) | exact Below.size (by assumption) | exact Nat.le_trans (Below.size (by assumption)) (by simp)))))⟩
        replace hPi := Lib.hid hPi
        go_wp2
        go_round
        case rel =>
          refine ⟨i + 1, by omega, by omega, by go_num, fun j h1 h2 => ?_⟩
          rcases Nat.lt_or_ge j i with h3 | h3
          · exact hall.out j h1 h3
          · obtain rfl : j = i := by omega
            exact ⟨u, hPi.out, by omega, by omega⟩
        case measure => simp [intOf]; omega
      · have hij : i = P.length := by omega
        subst hij
        have hv := Lib.hid (ge_ok (by omega) (by omega) hP0.out hall.out)
        clear hall
        go_wp2
        go_ret
        exact ⟨ret_bool hv.out.symm, (by repeat (first | exact Below.refl _ _ | assumption | refine Below.drew ?_ | refine below_drewN ?_ _ | refine Below.alloc' ?_ _ | (refine Below.setCell ?_ (by first | omega | (simp; done) | (simp; omega) | exact Below.size (by assumption) | exact Nat.le_trans (Below.size (by assumption)) (by simp)) _) | (refine Below.via' ?_ (by assumption)) | (refine Below.alloc ?_ (by first | omega | (simp; done) | (simp; omega) | exact Below.size (by assumption) | exact Nat.le_trans (Below.size (by assumption)) (by simp)) _) | (refine Below.via ?_ (by assumption) (by first | omega | (simp; done) | (simp; omega) | exact Below.size (by assumption) | exact Nat.le_trans (Below.size (by assumption)) (by simp)))))⟩
  · have hv := Lib.hid (ge_root (P := P) (by rw [hP0]; simpa using hv0))
    have h2 : (v == -1) = false := by rw [beq_eq_false_iff_ne]; exact hv0
    have h2' : (v != -1) = true := by show (!(v == -1)) = true; rw [h2]; rfl
    rw [Nat.add_zero] at hc0
    replace hP0 := Lib.hid hP0
    replace hv0 := Lib.hid hv0
    go_enter Tryd.func50, Tryd.ntmps50
    go_wp2
    go_ret
    exact ⟨ret_bool hv.out.symm, (by repeat (first | exact Below.refl _ _ | assumption | refine Below.drew ?_ | refine below_drewN ?_ _ | refine Below.alloc' ?_ _ | (refine Below.setCell ?_ (by first | omega | (simp; done) | (simp; omega) | exact Below.size (by assumption) | exact Nat.le_trans (Below.size (by assumption)) (by simp)) _) | (refine Below.via' ?_ (by assumption)) | (refine Below.alloc ?_ (by first | omega | (simp; done) | (simp; omega) | exact Below.size (by assumption) | exact Nat.le_trans (Below.size (by assumption)) (by simp)) _) | (refine Below.via ?_ (by assumption) (by first | omega | (simp; done) | (simp; omega) | exact Below.size (by assumption) | exact Nat.le_trans (Below.size (by assumption)) (by simp)))))⟩

set_option maxHeartbeats 2000000 in
theorem gGood_any (x : Option Addr) (c : Nat) (P : List Int) (w : World) (h : IIn w x P) :
    Calls Tryd.prog 34 #[.agg #[.slice x P.length c]] w fun e w' => e = .returned (.bool (geB P)) ∧ Below w.heap.size w w' := by
  have hr := Lib.hid h.2.2
  have hm := h.1
  clear h
  by_cases h1 : inB P.length 1 30 = false
  · have hv := Lib.hid (ge_short (P := P) (by rw [inB_no] at h1; omega))
    go_enter Tryd.func34, Tryd.ntmps34
    go_wp2_with (go_at_call 28; refine (l1In_any _ _ _ _).mono ?_; rintro e w1 ⟨rfl, rfl⟩)
    go_ret
    exact ⟨ret_bool hv.out.symm, (by repeat (first | exact Below.refl _ _ | assumption | refine Below.drew ?_ | refine below_drewN ?_ _ | refine Below.alloc' ?_ _ | (refine Below.setCell ?_ (by first | omega | (simp; done) | (simp; omega) | exact Below.size (by assumption) | exact Nat.le_trans (Below.size (by assumption)) (by simp)) _) | (refine Below.via' ?_ (by assumption)) | (refine Below.alloc ?_ (by first | omega | (simp; done) | (simp; omega) | exact Below.size (by assumption) | exact Nat.le_trans (Below.size (by assumption)) (by simp)) _) | (refine Below.via ?_ (by assumption) (by first | omega | (simp; done) | (simp; omega) | exact Below.size (by assumption) | exact Nat.le_trans (Below.size (by assumption)) (by simp)))))⟩
  have h1 : inB P.length 1 30 = true := by simpa using h1
  have hlen := (inB_iff _ _ _).1 h1
  obtain ⟨b, off, v, rfl, hbl, hP0, hc0⟩ := hr.out.int (i := 0) (by omega)
  have hpos : (0 : Int) < (P.length : Int) := by omega
  have hposN : 0 < P.length := by omega
  rw [Nat.add_zero] at hc0
  by_cases hv0 : v = -1
  · subst hv0
    replace hP0 := Lib.hid hP0
    go_enter Tryd.func34, Tryd.ntmps34
    go_wp2_with (go_at_call 28; refine (l1In_any _ _ _ _).mono ?_; rintro e w1 ⟨rfl, rfl⟩)
    clear h1 hc0
    go_loop [20] (fun q => ∃ i : Nat, i ≤ P.length ∧ q = .int .i64 i ∧ Hid (∀ j, 1 ≤ j → j < i → ∃ v, P[j]? = some v ∧ 0 ≤ v ∧ v < j)) (fun q => P.length - (intOf q).toNat)
    case atStart => exact ⟨0, by omega, by go_num, fun j h1 h2 => absurd h2 (by omega)⟩
    case round =>
      obtain ⟨i, hi, rfl, hall⟩ := hrel
      by_cases hlt : i < P.length
      · obtain ⟨b2, off2, u, hx2, hbl2, hPi, hci⟩ := hr.out.int (i := i) hlt
        injection hx2 with hx2
        injection hx2 with e1 e2
        subst e1 e2
        have hlt' : (i : Int) < (P.length : Int) := by omega
        have hi0 : (0 : Int) ≤ (i : Int) := by omega
        by_cases hi1 : (0 : Int) < (i : Int)
        · cases hin : inB u 0 ((i : Int) - 1)
          · have hv := Lib.hid (ge_bad (P := P) (by omega) hPi (by rw [inB_no] at hin; omega))
            replace hPi := Lib.hid hPi
            go_wp2_with (go_at_call 28; refine (l1In_any _ _ _ _).mono ?_; rintro e w1 ⟨rfl, rfl⟩)
            go_ret
            exact ⟨ret_bool hv.out.symm, (by repeat (first | exact Below.refl _ _ | assumption | refine Below.drew ?_ | refine below_drewN ?_ _ | refine Below.alloc' ?_ _ | (refine Below.setCell ?_ (by first | omega | (simp; done) | (simp; omega) | exact Below.size (by assumption) | exact Nat.le_trans (Below.size (by assumption)) (by simp)) _) | (refine Below.via' ?_ (by assumption)) | (refine Below.alloc ?_ (by first | omega | (simp; done) | (simp; omega) | exact Below.size (by assumption) | exact Nat.le_trans (Below.size (by assumption)) (by simp)) _) | (refine Below.via ?_ (by assumption) (by first | omega | (simp; done) | (simp; omega) | exact Below.size (by assumption) | exact Nat.le_trans (Below.size (by assumption)) (by simp)))))⟩
          · have hub := (inB_iff _ _ _).1 hin
            replace hPi := Lib.hid hPi
            go_wp2_with (go_at_call 28; refine (l1In_any _ _ _ _).mono ?_; rintro e w1 ⟨rfl, rfl⟩)
            go_round
            case rel =>
              refine ⟨i + 1, by omega, by go_num, fun j h1 h2 => ?_⟩
              rcases Nat.lt_or_ge j i with h3 | h3
              · exact hall.out j h1 h3
              · obtain rfl : j = i := by omega
                exact ⟨u, hPi.out, by omega, by omega⟩
            case measure => simp [intOf]; omega
        · replace hPi := Lib.hid hPi
          go_wp2
          go_round
          case rel =>
            refine ⟨i + 1, by omega, by go_num, fun j h1 h2 => ?_⟩
            omega
          case measure => simp [intOf]; omega
      · have hij : i = P.length := by omega
        subst hij
        have hv := Lib.hid (ge_ok (by omega) (by omega) hP0.out hall.out)
        clear hall
        go_wp2
        go_ret
        exact ⟨ret_bool hv.out.symm, (by repeat (first | exact Below.refl _ _ | assumption | refine Below.drew ?_ | refine below_drewN ?_ _ | refine Below.alloc' ?_ _ | (refine Below.setCell ?_ (by first | omega | (simp; done) | (simp; omega) | exact Below.size (by assumption) | exact Nat.le_trans (Below.size (by assumption)) (by simp)) _) | (refine Below.via' ?_ (by assumption)) | (refine Below.alloc ?_ (by first | omega | (simp; done) | (simp; omega) | exact Below.size (by assumption) | exact Nat.le_trans (Below.size (by assumption)) (by simp)) _) | (refine Below.via ?_ (by assumption) (by first | omega | (simp; done) | (simp; omega) | exact Below.size (by assumption) | exact Nat.le_trans (Below.size (by assumption)) (by simp)))))⟩
  · have hv := Lib.hid (ge_root (P := P) (by rw [hP0]; simpa using hv0))
    have h2 : (v == -1) = false := by rw [beq_eq_false_iff_ne]; exact hv0
    have h2' : (v != -1) = true := by show (!(v == -1)) = true; rw [h2]; rfl
    replace hP0 := Lib.hid hP0
    replace hv0 := Lib.hid hv0
    go_enter Tryd.func34, Tryd.ntmps34
    go_wp2_with (go_at_call 28; refine (l1In_any _ _ _ _).mono ?_; rintro e w1 ⟨rfl, rfl⟩)
    go_ret
    exact ⟨ret_bool hv.out.symm, (by repeat (first | exact Below.refl _ _ | assumption | refine Below.drew ?_ | refine below_drewN ?_ _ | refine Below.alloc' ?_ _ | (refine Below.setCell ?_ (by first | omega | (simp; done) | (simp; omega) | exact Below.size (by assumption) | exact Nat.le_trans (Below.size (by assumption)) (by simp)) _) | (refine Below.via' ?_ (by assumption)) | (refine Below.alloc ?_ (by first | omega | (simp; done) | (simp; omega) | exact Below.size (by assumption) | exact Nat.le_trans (Below.size (by assumption)) (by simp)) _) | (refine Below.via ?_ (by assumption) (by first | omega | (simp; done) | (simp; omega) | exact Below.size (by assumption) | exact Nat.le_trans (Below.size (by assumption)) (by simp)))))⟩
end Go.Proofs.YtgkaalonmkcclaaDoor

namespace Go.Proofs.YtgkaalonmkcclaaDoor
open Go.RowKit
set_option maxRecDepth 100000

theorem iC_setG (L : List Int) (k : Nat) (v : Int) : (iC L).set k (.int .i64 v) = iC (L.set k v) := by unfold iC; rw [List.map_set]
theorem drew_own {w : World} {base e size n : Nat} {v : Value} {xs : List Value} (h : w.ownsRow base e size v n xs) : w.drew.ownsRow base e size v n xs := own_below h (Below.drew (Below.refl _ _))
/-- A row of zeros. -/
def zL (n : Nat) : List Int := List.replicate n 0
theorem zL_len (n : Nat) : (zL n).length = n := by unfold zL; simp
theorem made_own (W : World) (base g n : Nat) (hg : W.heap.size = g) (hb : base ≤ g) (hn : n ≤ 1048576) : (W.alloc (.cells (madeCells #[.int .i64 0] n) 3)).ownsRow base 3 1 (.slice (some ⟨g, 0, none⟩) n n) n (iC (zL n)) := by
  subst hg
  refine ⟨by rw [iC_len, zL_len, Nat.mul_one], .inr ⟨W.heap.size, n, _, rfl, hb, heap_alloc_new W _, Nat.le_refl _, by unfold maxLen; omega, (by rw [size_madeCells]; simp), ?_⟩⟩
  rw [toList_madeCells_one, Nat.mul_one, List.take_of_length_le (by simp)]
  unfold iC zL
  rw [List.map_replicate]
/-- A tally. -/
def TlP (x : Option Addr) (c : Nat) (P V : List Int) (w : World) (e : Ending) (w' : World) : Prop :=
  ∃ g, e = .returned (.agg #[.slice x P.length c, .slice (some ⟨g, 0, none⟩) P.length P.length]) ∧ w'.ownsRow w.heap.size 3 1 (.slice (some ⟨g, 0, none⟩) P.length P.length) P.length (iC V) ∧ Below w.heap.size w w'
set_option maxHeartbeats 2000000 in
theorem newTally_any (x : Option Addr) (c : Nat) (P : List Int) (w : World) (hm : P.length ≤ 1048576) :
    Calls Tryd.prog 71 #[.agg #[.slice x P.length c]] w (TlP x c P (zL P.length) w) := by
  have hmk := fun (W : World) => run_make_row' (P := Tryd.prog) 22 3 (.int .i64 0) 8 Tryd.underlying22 Tryd.infoInt rfl .i64 .i64 P.length (by omega) (by omega) W
  go_enter Tryd.func71, Tryd.ntmps71
  go_wp2
  go_region
  all_goals
    go_wp2
    refine bodyPost_ret (v := .agg #[.slice x P.length c, .slice (some ⟨w.heap.size + 1 + 1, 0, none⟩) P.length P.length]) (by simp [results, Tryd.results71, go_sem]) rfl ⟨_, rfl, drew_own (made_own _ _ _ _ (by simp) (by omega) hm), (by repeat (first | exact Below.refl _ _ | assumption | refine Below.drew ?_ | refine below_drewN ?_ _ | refine Below.alloc' ?_ _ | (refine Below.setCell ?_ (by first | omega | (simp; done) | (simp; omega) | exact Below.size (by assumption) | exact Nat.le_trans (Below.size (by assumption)) (by simp)) _) | (refine Below.via' ?_ (by assumption)) | (refine Below.alloc ?_ (by first | omega | (simp; done) | (simp; omega) | exact Below.size (by assumption) | exact Nat.le_trans (Below.size (by assumption)) (by simp)) _) | (refine Below.via ?_ (by assumption) (by first | omega | (simp; done) | (simp; omega) | exact Below.size (by assumption) | exact Nat.le_trans (Below.size (by assumption)) (by simp)))))⟩

set_option maxHeartbeats 2000000 in
theorem stepP_any (x : Option Addr) (c g n base i p : Nat) (a : Int) (P V : List Int) (W : World) (hp : P[i]? = some (p : Int)) (hR : Rd W x (iC P)) (hi : i < n) (hpl : p < n) (hV : V[p]? = some a) (ha : 0 ≤ a ∧ a ≤ 1000000)
    (ho : W.ownsRow base 3 1 (.slice (some ⟨g, 0, none⟩) n n) n (iC V)) :
    Calls Tryd.prog 73 #[.agg #[.slice x P.length c, .slice (some ⟨g, 0, none⟩) n n], .int .i64 i] W fun e w' => e = .returned (.tuple #[]) ∧ w'.ownsRow base 3 1 (.slice (some ⟨g, 0, none⟩) n n) n (iC (V.set i (a + 1))) ∧ W.grownBy w' (some g) := by
  have hiP : i < P.length := (List.getElem?_eq_some_iff.1 hp).1
  obtain ⟨b, off, v, rfl, hbl, hPi, hc0⟩ := hR.int hiP
  obtain rfl : v = p := Option.some.inj (hPi.symm.trans hp)
  obtain ⟨u, hu, k0⟩ := own_cell ho (j := p) (by omega)
  obtain rfl : u = .int .i64 a := Option.some.inj (hu.symm.trans (iC_at hV))
  obtain ⟨u2, hu2, k02⟩ := own_cell ho (j := i) (by omega)
  have k2 := ho.frozenAt i
  have k4 := (own_lt ho).2
  have hi0 : (0 : Int) ≤ (i : Int) := by omega
  have hi1 : (i : Int) < (P.length : Int) := by omega
  have hi2 : (i : Int) < (n : Int) := by omega
  have hp0 : (0 : Int) ≤ (p : Int) := by omega
  have hp2 : (p : Int) < (n : Int) := by omega
  replace hu := Lib.hid hu
  replace hu2 := Lib.hid hu2
  replace hPi := Lib.hid hPi
  replace hp := Lib.hid hp
  replace hV := Lib.hid hV
  have hoh := Lib.hid ho
  clear ho hR
  go_enter Tryd.func73, Tryd.ntmps73
  have hst := hoh.out.stored i (.int .i64 (a + 1))
  rw [iC_setG] at hst
  have hs1 := Lib.hid hst.1
  have hs2 := Lib.hid hst.2
  clear hst
  go_wp2
  go_region
  all_goals
    go_wp2
    refine bodyPost_end (v := .tuple #[]) (by simp [results, Tryd.results73, go_sem]) rfl ?_
    exact ⟨rfl, own_below hs1.out (by repeat (first | exact Below.refl _ _ | assumption | refine Below.drew ?_ | refine below_drewN ?_ _ | refine Below.alloc' ?_ _ | (refine Below.setCell ?_ (by first | omega | (simp; done) | (simp; omega) | exact Below.size (by assumption) | exact Nat.le_trans (Below.size (by assumption)) (by simp)) _) | (refine Below.via' ?_ (by assumption)) | (refine Below.alloc ?_ (by first | omega | (simp; done) | (simp; omega) | exact Below.size (by assumption) | exact Nat.le_trans (Below.size (by assumption)) (by simp)) _) | (refine Below.via ?_ (by assumption) (by first | omega | (simp; done) | (simp; omega) | exact Below.size (by assumption) | exact Nat.le_trans (Below.size (by assumption)) (by simp))))), hs2.out.trans (grown_of_bel (by repeat (first | exact Below.refl _ _ | assumption | refine Below.drew ?_ | refine below_drewN ?_ _ | refine Below.alloc' ?_ _ | (refine Below.setCell ?_ (by first | omega | (simp; done) | (simp; omega) | exact Below.size (by assumption) | exact Nat.le_trans (Below.size (by assumption)) (by simp)) _) | (refine Below.via' ?_ (by assumption)) | (refine Below.alloc ?_ (by first | omega | (simp; done) | (simp; omega) | exact Below.size (by assumption) | exact Nat.le_trans (Below.size (by assumption)) (by simp)) _) | (refine Below.via ?_ (by assumption) (by first | omega | (simp; done) | (simp; omega) | exact Below.size (by assumption) | exact Nat.le_trans (Below.size (by assumption)) (by simp))))) _)⟩

/-- Block b is two slices. -/
def GBt (w : World) (b : Nat) (y : Option Addr) (n c : Nat) (z : Option Addr) (m d : Nat) : Prop := w.cell? ⟨b, 0, none⟩ = some (.slice y n c) ∧ w.cell? ⟨b, 1, none⟩ = some (.slice z m d) ∧ b < w.heap.size
theorem GBt.new (w : World) (y : Option Addr) (n c : Nat) (z : Option Addr) (m d : Nat) (t : TypeId) : GBt (w.alloc (.cells #[.slice y n c, .slice z m d] t)) w.heap.size y n c z m d := by
  have h := Wb.new w t #[.slice y n c, .slice z m d]
  exact ⟨(h.read 0).trans rfl, (h.read 1).trans rfl, h.inside⟩
theorem GBt.below {w w' : World} {b : Nat} {y z : Option Addr} {n c m d : Nat} (h : GBt w b y n c z m d) (hb : Below w.heap.size w w') : GBt w' b y n c z m d :=
  ⟨(hb.cell h.2.2).trans h.1, (hb.cell h.2.2).trans h.2.1, Nat.lt_of_lt_of_le h.2.2 hb.size⟩
theorem GBt.grown {w w' : World} {b : Nat} {y z : Option Addr} {n c m d : Nat} {r : Option Nat} (h : GBt w b y n c z m d) (hg : w.grownBy w' r) (hne : some b ≠ r) : GBt w' b y n c z m d := by
  have e := hg.block b h.2.2 hne
  exact ⟨(World.cell?_of_block (a := ⟨b, 0, none⟩) e).trans h.1, (World.cell?_of_block (a := ⟨b, 1, none⟩) e).trans h.2.1, Nat.lt_of_lt_of_le h.2.2 hg.size⟩
/-- What a visit of one area does to a tally. -/
def StepP (fn : FuncId) (x : Option Addr) (c g base : Nat) (P : List Int) (F : Nat → List Int) (i j : Nat) : Prop :=
  ∀ W : World, Rd W x (iC P) → W.ownsRow base 3 1 (.slice (some ⟨g, 0, none⟩) P.length P.length) P.length (iC (F i)) →
    Calls Tryd.prog fn #[.agg #[.slice x P.length c, .slice (some ⟨g, 0, none⟩) P.length P.length], .int .i64 i] W fun e w' => e = .returned (.tuple #[]) ∧ w'.ownsRow base 3 1 (.slice (some ⟨g, 0, none⟩) P.length P.length) P.length (iC (F j)) ∧ W.grownBy w' (some g)
theorem tb_set {W w' : World} {b g : Nat} {y z : Option Addr} {n c m d : Nat} (h : GBt W b y n c z m d) (hg : W.grownBy w' (some g)) (hne : b ≠ g) : GBt w' b y n c z m d := h.grown hg (fun e => by injection e with e; exact hne e)
set_option maxHeartbeats 2000000 in
theorem visitDown_dp (x : Option Addr) (c g base : Nat) (P : List Int) (F : Nat → List Int) (w : World) (hm : P.length ≤ 1048576) (h1 : 1 ≤ P.length) (hx : Rd w x (iC P)) (hxb : ∀ b off, x = some ⟨b, off, none⟩ → b < base) (hst : ∀ i, 1 ≤ i → i < P.length → StepP 73 x c g base P F i (i + 1))
    (ho : w.ownsRow base 3 1 (.slice (some ⟨g, 0, none⟩) P.length P.length) P.length (iC (F 1))) :
    Calls Tryd.prog 72 #[.agg #[.slice x P.length c, .slice (some ⟨g, 0, none⟩) P.length P.length], .func (.func 73) #[] #[]] w fun e w' => e = .returned (.tuple #[]) ∧ w'.ownsRow base 3 1 (.slice (some ⟨g, 0, none⟩) P.length P.length) P.length (iC (F P.length)) ∧ w.grownBy w' (some g) := by
  have hgl := own_lt ho
  have hoh := Lib.hid (ho.alloc (.cells #[.slice x P.length c, .slice (some ⟨g, 0, none⟩) P.length P.length] 105))
  have hxh := Lib.hid (hx.alloc (.cells #[.slice x P.length c, .slice (some ⟨g, 0, none⟩) P.length P.length] 105))
  have hst := Lib.hid hst
  have hxb := Lib.hid hxb
  clear ho hx
  go_enter Tryd.func72, Tryd.ntmps72
  go_wp2
  go_loopw [4] (fun q wr => ∃ i : Nat, 1 ≤ i ∧ i ≤ P.length ∧ q = .int .i64 i ∧ wr.ownsRow base 3 1 (.slice (some ⟨g, 0, none⟩) P.length P.length) P.length (iC (F i)) ∧ GBt wr w.heap.size x P.length c (some ⟨g, 0, none⟩) P.length P.length ∧ Rd wr x (iC P) ∧ w.grownBy wr (some g)) (fun q _ => P.length - (intOf q).toNat)
  case atStart => exact ⟨1, by omega, by omega, by go_num, hoh.out, GBt.new _ _ _ _ _ _ _ _, hxh.out, World.grownBy_alloc w _ _⟩
  case round =>
    clear hoh hxh
    obtain ⟨i, hi1, hi, rfl, hown, htb, hx, hb⟩ := hrel
    obtain ⟨ka, kb, kc⟩ := htb
    have hownh := Lib.hid hown
    have hxh := Lib.hid hx
    have htb := Lib.hid (show GBt wr w.heap.size x P.length c (some ⟨g, 0, none⟩) P.length P.length from ⟨ka, kb, kc⟩)
    clear hown hx
    by_cases hlt : i < P.length
    · have hlt' : (i : Int) < (P.length : Int) := by omega
      go_wp2_with fail
      go_at_call 73
      refine (hst.out i hi1 hlt _ hxh.out hownh.out).mono ?_
      rintro e w2 ⟨rfl, ho2, hg2⟩
      have ho2 := Lib.hid ho2
      have hg2 := Lib.hid hg2
      clear ka kb kc
      go_wp2
      go_roundw
      case rel => exact ⟨i + 1, by omega, by omega, by go_num, ho2.out, tb_set htb.out hg2.out (by omega), hxh.out.keep hg2.out (fun b off e q => by injection q with q; have := hxb.out b off e; omega), hb.trans hg2.out⟩
      case measure => simp [intOf]; omega
    · have hij : i = P.length := by omega
      subst hij
      go_wp2
      refine bodyPost_end (v := .tuple #[]) (by simp [results, Tryd.results72, go_sem]) rfl ?_
      exact ⟨rfl, hownh.out, hb⟩
end Go.Proofs.YtgkaalonmkcclaaDoor

namespace Go.Proofs.YtgkaalonmkcclaaDoor
open Go.RowKit
set_option maxRecDepth 100000

theorem iC_appG (A B : List Int) : iC (A ++ B) = iC A ++ iC B := by unfold iC; rw [List.map_append]
theorem rd_oneG (w : World) (t : TypeId) (n : Int) (g : Nat) (h : w.heap.size = g) : Rd (w.alloc (.cells #[.int .i64 n] t)) (some ⟨g, 0, none⟩) (iC [n]) := by
  subst h
  refine Or.inr ⟨w.heap.size, 0, rfl, by simp, fun j u hj => ?_⟩
  rw [Nat.zero_add, World.cell?_alloc_at _ _ _ _ rfl, ← hj, ← Array.getElem?_toList]
  rfl
/-- A list that a function hands back. -/
def RetG (L : List Int) (w : World) (e : Ending) (w' : World) : Prop := ∃ v, e = .returned v ∧ w'.ownsRow w.heap.size 3 1 v L.length (iC L) ∧ Below w.heap.size w w'
def RetGB (L : List Int) (b : Bool) (w : World) (e : Ending) (w' : World) : Prop := ∃ v, e = .returned (.tuple #[v, .bool b]) ∧ w'.ownsRow w.heap.size 3 1 v L.length (iC L) ∧ Below w.heap.size w w'
theorem ret_ibG {a b : Int} {p q : Bool} (h : a = b) (k : p = q) : Ending.returned (.tuple #[.int .i64 a, .bool p]) = .returned (.tuple #[.int .i64 b, .bool q]) := by rw [h, k]
theorem ret_vb {v : Value} {p q : Bool} (k : p = q) : Ending.returned (.tuple #[v, .bool p]) = .returned (.tuple #[v, .bool q]) := by rw [k]

/-- Is it an area of a geography? -/
def gaB (P : List Int) (i : Int) : Bool := geB P && inB i 0 ((P.length : Int) - 1)
theorem ga_no1 {P : List Int} {i : Int} (h : geB P = false) : gaB P i = false := by unfold gaB; rw [h]; rfl
theorem ga_no2 {P : List Int} {i : Int} (h : inB i 0 ((P.length : Int) - 1) = false) : gaB P i = false := by unfold gaB; rw [h, Bool.and_false]
theorem ga_yes {P : List Int} {i : Int} (h : geB P = true) (k : inB i 0 ((P.length : Int) - 1) = true) : gaB P i = true := by unfold gaB; rw [h, k]; rfl
theorem ga_get {P : List Int} {i : Int} (h : gaB P i = true) : geB P = true ∧ ∃ k : Nat, i = (k : Int) ∧ k < P.length := by
  unfold gaB at h
  rw [Bool.and_eq_true, inB_iff] at h
  exact ⟨h.1, i.toNat, by omega, by omega⟩
/-- Depths of the areas before i, the others 0. -/
def dpF (P : List Int) (i : Nat) : List Int := (List.range P.length).map fun j : Nat => if j < i then (dpN P j : Int) else 0
theorem dpF_len (P : List Int) (i : Nat) : (dpF P i).length = P.length := by unfold dpF; simp
theorem dpF_at {P : List Int} {i j : Nat} (h : j < P.length) : (dpF P i)[j]? = some (if j < i then (dpN P j : Int) else 0) := by unfold dpF; simp [h]
theorem dpF_one (P : List Int) : dpF P 1 = zL P.length := by
  apply List.ext_getElem?
  intro j
  by_cases h : j < P.length
  · rw [dpF_at h]
    unfold zL
    rw [List.getElem?_replicate, if_pos h]
    split
    · obtain rfl : j = 0 := by omega
      rw [dp_zero]; rfl
    · rfl
  · rw [List.getElem?_eq_none (by rw [dpF_len]; omega), List.getElem?_eq_none (by rw [zL_len]; omega)]
theorem dpF_all (P : List Int) : dpF P P.length = dpL P := by
  unfold dpF dpL
  apply List.map_congr_left
  intro j hj
  rw [if_pos (List.mem_range.1 hj)]
theorem dpF_step {P : List Int} {i p : Nat} (h : P[i]? = some (p : Int)) (hp : p < i) (hi : i < P.length) : (dpF P i).set i ((dpN P p : Int) + 1) = dpF P (i + 1) := by
  apply List.ext_getElem?
  intro j
  rw [List.getElem?_set, dpF_len]
  by_cases hj : j < P.length
  · rw [dpF_at hj, dpF_at hj]
    by_cases e : i = j
    · subst e
      rw [if_pos rfl, if_pos hi, if_pos (by omega), dp_step h hp]
      rfl
    · rw [if_neg e]
      by_cases k : j < i
      · rw [if_pos k, if_pos (by omega)]
      · rw [if_neg k, if_neg (by omega)]
  · rw [if_neg (by omega), List.getElem?_eq_none (by rw [dpF_len]; omega), List.getElem?_eq_none (by rw [dpF_len]; omega)]
theorem stepP_dp {x : Option Addr} {c g base : Nat} {P : List Int} (hg : geB P = true) {i : Nat} (h1 : 1 ≤ i) (hi : i < P.length) :
    StepP 73 x c g base P (dpF P) i (i + 1) := by
  intro W hR ho
  obtain ⟨p, hp, hpl⟩ := ge_par hg h1 hi
  have hd := dp_le hg (i := p) (by omega)
  have hl := ge_len hg
  have h := stepP_any x c g P.length base i p (dpN P p) P (dpF P i) W hp hR hi (by omega) (by rw [dpF_at (by omega), if_pos hpl]) (by omega) ho
  rw [dpF_step hp hpl hi] at h
  exact h

theorem rd_low {w : World} {x : Option Addr} {xs : List Value} (h : Rd w x xs) (hne : 0 < xs.length) : ∀ b off, x = some ⟨b, off, none⟩ → b < w.heap.size := by
  intro b off e
  rcases h with h | ⟨b2, off2, e2, hl, _⟩
  · rw [h] at hne; simp at hne
  · rw [e2] at e
    injection e with e
    injection e with e3
    omega
/-- The same row, read from below. -/
theorem own_low {w : World} {base base' e size n : Nat} {v : Value} {xs : List Value} (h : w.ownsRow base e size v n xs) (hb : base' ≤ base) : w.ownsRow base' e size v n xs := own_more h hb
set_option maxHeartbeats 2000000 in
theorem depthsOf_any (x : Option Addr) (c : Nat) (P : List Int) (w : World) (hg : geB P = true) (h : IIn w x P) :
    Calls Tryd.prog 55 #[.agg #[.slice x P.length c]] w (RetG (dpL P) w) := by
  have hm := h.1
  have hl := ge_len hg
  have hxl := Lib.hid (rd_low h.2.2 (by rw [iC_len]; omega))
  have hh := Lib.hid h.2.2
  have hgh := Lib.hid hg
  clear h hg
  go_enter Tryd.func55, Tryd.ntmps55
  go_wp2_with fail
  refine (newTally_any _ _ P _ hm).mono ?_
  rintro e w1 ⟨g, rfl, ho, hb1⟩
  obtain ⟨hcl1, hfr1⟩ := bcell hb1
  have hz1 := hb1.size; (try simp at hz1); (try (have hly1 := Nat.lt_of_succ_le hz1)); (try (have hlx1 := Nat.lt_of_succ_lt hly1)); (try (have hlw1 := Nat.lt_of_succ_lt hlx1)); (try (have hle1 := Nat.le_of_lt hly1))
  have hz1' : w.heap.size + 1 ≤ w1.heap.size := by have := hb1.size; simpa using this
  have hgl := own_lt ho
  have hgl1 : w.heap.size < g := by have := hgl.1; simp at this; omega
  have B1 : Below w.heap.size w w1 := (by repeat (first | exact Below.refl _ _ | assumption | refine Below.drew ?_ | refine below_drewN ?_ _ | refine Below.alloc' ?_ _ | (refine Below.setCell ?_ (by first | omega | (simp; done) | (simp; omega) | exact Below.size (by assumption) | exact Nat.le_trans (Below.size (by assumption)) (by simp)) _) | (refine Below.via' ?_ (by assumption)) | (refine Below.alloc ?_ (by first | omega | (simp; done) | (simp; omega) | exact Below.size (by assumption) | exact Nat.le_trans (Below.size (by assumption)) (by simp)) _) | (refine Below.via ?_ (by assumption) (by first | omega | (simp; done) | (simp; omega) | exact Below.size (by assumption) | exact Nat.le_trans (Below.size (by assumption)) (by simp)))))
  have hb1 := Lib.hid hb1
  have hoh := Lib.hid ho
  clear ho
  go_wp2_with fail
  refine (visitDown_dp x c g (w.heap.size + 1) P (dpF P) _ hm (by omega) ((hh.out.below B1).alloc _) (fun b off e => by have := hxl.out b off e; omega) (fun i h1 h2 => stepP_dp hgh.out h1 h2) (by rw [dpF_one]; exact (own_more hoh.out (by simp)).alloc _)).mono ?_
  rintro e w2 ⟨rfl, ho2, hg2⟩
  have hgm : g < w1.heap.size := hgl.2
  obtain ⟨ka, kb, kc⟩ := (GBt.new w1 x P.length c (some ⟨g, 0, none⟩) P.length P.length 105).grown hg2 (fun e => by injection e with e; omega)
  have B2 : Below w.heap.size w w2 := (Below.alloc' B1 _).grown hg2 (by simp; omega) (fun k hk => by injection hk with hk; omega)
  have ho2 := Lib.hid ho2
  clear hg2
  go_wp2
  go_ret
  exact ⟨_, rfl, by rw [dpL_len, ← dpF_all]; exact own_more ho2.out (by omega), B2⟩

set_option maxHeartbeats 2000000 in
theorem gDepth_any (x : Option Addr) (c : Nat) (P : List Int) (i : Nat) (w : World) (hg : geB P = true) (hi : i < P.length) (h : IIn w x P) :
    Calls Tryd.prog 60 #[.agg #[.slice x P.length c], .int .i64 i] w fun e w' => e = .returned (.int .i64 (dpN P i)) ∧ Below w.heap.size w w' := by
  have hm := h.1
  have hr := Lib.hid h.2.2
  have hl := ge_len hg
  have hd := dp_le hg hi
  have hgh := Lib.hid hg
  clear h hg
  go_enter Tryd.func60, Tryd.ntmps60
  go_wp2
  go_loop [1, 5] (fun a q => ∃ j m : Nat, a = .int .i64 j ∧ q = .int .i64 m ∧ j < P.length ∧ Hid (m + dpN P j = dpN P i) ∧ m ≤ 30) (fun a _ => (intOf a).toNat)
  case atStart => exact ⟨i, 0, rfl, by go_num, hi, Nat.zero_add _, by omega⟩
  case round =>
    obtain ⟨j, m, rfl, rfl, hj, hmd, hm30⟩ := hrel
    obtain ⟨b, off, v, rfl, hbl, hPj, hc0⟩ := hr.out.int (i := j) hj
    have hj0 : (0 : Int) ≤ (j : Int) := by omega
    have hj1 : (j : Int) < (P.length : Int) := by omega
    rcases Nat.eq_zero_or_pos j with e0 | e0
    · subst e0
      have hz := ge_zero hgh.out
      obtain rfl : v = -1 := Option.some.inj (hPj.symm.trans hz)
      have hv : Hid ((m : Int) = (dpN P i : Int)) := by
        have := hmd.out
        rw [dp_zero] at this
        unfold Hid
        omega
      replace hPj := Lib.hid hPj
      replace hz := Lib.hid hz
      rw [Nat.add_zero] at hc0
      have hj2 : (0 : Int) < (P.length : Int) := by omega
      clear hmd hj0 hj1
      go_wp2
      go_ret
      exact ⟨ret_int hv.out, (by repeat (first | exact Below.refl _ _ | assumption | refine Below.drew ?_ | refine below_drewN ?_ _ | refine Below.alloc' ?_ _ | (refine Below.setCell ?_ (by first | omega | (simp; done) | (simp; omega) | exact Below.size (by assumption) | exact Nat.le_trans (Below.size (by assumption)) (by simp)) _) | (refine Below.via' ?_ (by assumption)) | (refine Below.alloc ?_ (by first | omega | (simp; done) | (simp; omega) | exact Below.size (by assumption) | exact Nat.le_trans (Below.size (by assumption)) (by simp)) _) | (refine Below.via ?_ (by assumption) (by first | omega | (simp; done) | (simp; omega) | exact Below.size (by assumption) | exact Nat.le_trans (Below.size (by assumption)) (by simp)))))⟩
    · obtain ⟨p, hp, hpl⟩ := ge_par hgh.out e0 hj
      obtain rfl : v = p := Option.some.inj (hPj.symm.trans hp)
      have hs := dp_step hp hpl
      have hmd2 : Hid (m + 1 + dpN P p = dpN P i) := by
        have := hmd.out
        unfold Hid
        omega
      have hm2 : m + 1 ≤ 30 := by have := hmd.out; omega
      have hp0 : (0 : Int) ≤ (p : Int) := by omega
      clear hmd hs
      replace hPj := Lib.hid hPj
      replace hp := Lib.hid hp
      go_wp2
      go_round
      case rel => exact ⟨p, m + 1, rfl, by go_num, by omega, hmd2, hm2⟩
      case measure => simp [intOf]; omega
end Go.Proofs.YtgkaalonmkcclaaDoor

namespace Go.Proofs.YtgkaalonmkcclaaDoor
open Go.RowKit
set_option maxRecDepth 100000

theorem own_snoc {w : World} {base e k : Nat} {u : Value} {L M : List Int} {a : Int} (h : w.ownsRow base e 1 u (L.length + 1) (iC L ++ iC [a])) (hk : M = L ++ [a]) (hn : k = M.length) : w.ownsRow base e 1 u k (iC M) := by
  subst hk hn
  rw [iC_appG, List.length_append]
  exact h
set_option maxHeartbeats 2000000 in
theorem areasWith_any (x : Option Addr) (c : Nat) (L : List Int) (n : Int) (w : World) (hm : L.length ≤ 1048576) (hL : Rd w x (iC L)) :
    Calls Tryd.prog 54 #[.slice x L.length c, .int .i64 n] w (RetG (awL L n) w) := by
  obtain ⟨i0, hii, hz0, hz1, hz2⟩ := info_parts Tryd.infoInt
  have hLh := Lib.hid hL
  clear hL
  go_enter Tryd.func54, Tryd.ntmps54
  go_wp2
  go_loopw [5, 10] (fun u q wr => ∃ i : Nat, i ≤ L.length ∧ q = .int .i64 i ∧ wr.ownsRow w.heap.size 3 1 u (selK (eqP L n) i).length (iC (selK (eqP L n) i)) ∧ Below w.heap.size w wr) (fun _ q _ => L.length - (intOf q).toNat)
  case atStart => exact ⟨0, by omega, by go_num, World.ownsRow_nil _ _ _ _, (by repeat (first | exact Below.refl _ _ | assumption | refine Below.drew ?_ | refine below_drewN ?_ _ | refine Below.alloc' ?_ _ | (refine Below.setCell ?_ (by first | omega | (simp; done) | (simp; omega) | exact Below.size (by assumption) | exact Nat.le_trans (Below.size (by assumption)) (by simp)) _) | (refine Below.via' ?_ (by assumption)) | (refine Below.alloc ?_ (by first | omega | (simp; done) | (simp; omega) | exact Below.size (by assumption) | exact Nat.le_trans (Below.size (by assumption)) (by simp)) _) | (refine Below.via ?_ (by assumption) (by first | omega | (simp; done) | (simp; omega) | exact Below.size (by assumption) | exact Nat.le_trans (Below.size (by assumption)) (by simp)))))⟩
  case round =>
    obtain ⟨i, hi, rfl, hown, hb⟩ := hrel
    have hownh := Lib.hid hown
    clear hown
    have hsl := sel_len (eqP L n) i
    by_cases hlt : i < L.length
    · obtain ⟨bl, off, v, rfl, hbl, hLi, hc0⟩ := (hLh.out.below hb).int hlt
      have hlt' : (i : Int) < (L.length : Int) := by omega
      have he := eqP_at (n := n) hLi
      replace hLi := Lib.hid hLi
      by_cases hvn : v = n
      · have ht : (v == n) = true := by rw [beq_iff_eq]; exact hvn
        have hsel := Lib.hid (sel_yes (p := eqP L n) (k := i) (by rw [he]; exact decide_eq_true hvn))
        replace hvn := Lib.hid hvn
        clear he
        have hs0 := hb.size
        go_wp2_with (at_builtin; go_loud (refine wpList_append_rd _ rfl (.tmp 18) (.tmp 20) 22 rfl (w.heap.size) 3 i0 (.int .i64 0) 1 8 Tryd.underlying22 hii hz0 hz1 hz2 rfl (by decide) _ (selK (eqP L n) i).length (iC (selK (eqP L n) i)) rfl ((hownh.out.alloc _)) _ 1 1 rfl (Nat.le_refl _) (by intro h; cases h) (iC [((i : Int) : Int)]) rfl (rd_oneG _ _ _ _ (by simp)) (iC_one _) (by unfold maxLen; omega) (by omega) (by simp; omega) ?_); intro v3 w3 hown3 hgrow3 hwhere3)
        obtain ⟨hb3, hl3⟩ := append_below hb (fun k hk => (hownh.out.lt k hk).1) hgrow3 hwhere3
        have hown3 := Lib.hid (own_snoc hown3 hsel.out rfl)
        clear hgrow3 hwhere3
        go_wp2
        go_roundw
        case rel => exact ⟨i + 1, by omega, by go_num, hown3.out, hb3⟩
        case measure => simp [intOf]; omega
      · have ht : (v == n) = false := by rw [beq_eq_false_iff_ne]; exact hvn
        have hsel := Lib.hid (sel_no (p := eqP L n) (k := i) (by rw [he]; exact decide_eq_false hvn))
        replace hvn := Lib.hid hvn
        clear he
        go_wp2
        go_roundw
        case rel => exact ⟨i + 1, by omega, by go_num, by rw [hsel.out]; exact hownh.out, hb⟩
        case measure => simp [intOf]; omega
    · have hij : i = L.length := by omega
      subst hij
      go_wp2
      go_ret
      exact ⟨_, rfl, hownh.out, hb⟩
theorem QB.rest {w1 w3 : World} {g : Nat} {y : Option Addr} {n c : Nat} {o : Obj} {r : Option Nat} (h : QB w1 g y n c) (hg : (w1.alloc o).grownBy w3 r) (hr : ∀ k, r = some k → g < k) : QB w3 g y n c :=
  (h.below ((Below.refl _ _).alloc (Nat.le_refl _) o)).grown hg (fun e => by have := hr g e.symm; omega)
set_option maxHeartbeats 4000000 in
theorem gLevel_any (x : Option Addr) (c : Nat) (P : List Int) (l : Int) (w : World) (hg : geB P = true) (h : IIn w x P) :
    Calls Tryd.prog 36 #[.agg #[.slice x P.length c], .int .i64 l] w (RetG (lvL P l) w) := by
  obtain ⟨i0, hii, hz0, hz1, hz2⟩ := info_parts Tryd.infoInt
  have hm := h.1
  have hh := Lib.hid h
  have hgh := Lib.hid hg
  have hq0 := Lib.hid (QB.new w x P.length c 33)
  clear h hg
  go_enter Tryd.func36, Tryd.ntmps36
  go_wp2
  go_loopw [5, 10] (fun u q wr => ∃ i : Nat, i ≤ P.length ∧ q = .int .i64 i ∧ wr.ownsRow (w.heap.size + 1) 3 1 u (selK (fun i => decide ((dpN P i : Int) = l)) i).length (iC (selK (fun i => decide ((dpN P i : Int) = l)) i)) ∧ QB wr w.heap.size x P.length c ∧ Below w.heap.size w wr) (fun _ q _ => P.length - (intOf q).toNat)
  case atStart => exact ⟨0, by omega, by go_num, World.ownsRow_nil _ _ _ _, hq0.out, (by repeat (first | exact Below.refl _ _ | assumption | refine Below.drew ?_ | refine below_drewN ?_ _ | refine Below.alloc' ?_ _ | (refine Below.setCell ?_ (by first | omega | (simp; done) | (simp; omega) | exact Below.size (by assumption) | exact Nat.le_trans (Below.size (by assumption)) (by simp)) _) | (refine Below.via' ?_ (by assumption)) | (refine Below.alloc ?_ (by first | omega | (simp; done) | (simp; omega) | exact Below.size (by assumption) | exact Nat.le_trans (Below.size (by assumption)) (by simp)) _) | (refine Below.via ?_ (by assumption) (by first | omega | (simp; done) | (simp; omega) | exact Below.size (by assumption) | exact Nat.le_trans (Below.size (by assumption)) (by simp)))))⟩
  case round =>
    clear hq0
    obtain ⟨i, hi, rfl, hown, hq, hb⟩ := hrel
    obtain ⟨ka, kb, kc⟩ := hq
    have hqh := Lib.hid (show QB wr w.heap.size x P.length c from ⟨ka, kb, kc⟩)
    have hownh := Lib.hid hown
    clear hown
    have hsl := sel_len (fun i => decide ((dpN P i : Int) = l)) i
    by_cases hlt : i < P.length
    · have hlt' : (i : Int) < (P.length : Int) := by omega
      go_wp2_with fail
      refine (gDepth_any _ _ P i _ hgh.out hlt (hh.out.below (by exact (by repeat (first | exact Below.refl _ _ | assumption | refine Below.drew ?_ | refine below_drewN ?_ _ | refine Below.alloc' ?_ _ | (refine Below.setCell ?_ (by first | omega | (simp; done) | (simp; omega) | exact Below.size (by assumption) | exact Nat.le_trans (Below.size (by assumption)) (by simp)) _) | (refine Below.via' ?_ (by assumption)) | (refine Below.alloc ?_ (by first | omega | (simp; done) | (simp; omega) | exact Below.size (by assumption) | exact Nat.le_trans (Below.size (by assumption)) (by simp)) _) | (refine Below.via ?_ (by assumption) (by first | omega | (simp; done) | (simp; omega) | exact Below.size (by assumption) | exact Nat.le_trans (Below.size (by assumption)) (by simp)))))))).mono ?_
      rintro e w1 ⟨rfl, hb1⟩
      have hb2 : Below w.heap.size w w1 := (by repeat (first | exact Below.refl _ _ | assumption | refine Below.drew ?_ | refine below_drewN ?_ _ | refine Below.alloc' ?_ _ | (refine Below.setCell ?_ (by first | omega | (simp; done) | (simp; omega) | exact Below.size (by assumption) | exact Nat.le_trans (Below.size (by assumption)) (by simp)) _) | (refine Below.via' ?_ (by assumption)) | (refine Below.alloc ?_ (by first | omega | (simp; done) | (simp; omega) | exact Below.size (by assumption) | exact Nat.le_trans (Below.size (by assumption)) (by simp)) _) | (refine Below.via ?_ (by assumption) (by first | omega | (simp; done) | (simp; omega) | exact Below.size (by assumption) | exact Nat.le_trans (Below.size (by assumption)) (by simp)))))
      have hq1 := Lib.hid (hqh.out.below hb1)
      have ho1 := Lib.hid (own_below hownh.out hb1)
      clear ka kb kc
      have hs0 := hb2.size
      have hs1 : w.heap.size + 1 ≤ w1.heap.size := hq1.out.2.2
      by_cases hvn : ((dpN P i : Nat) : Int) = l
      · have ht : (((dpN P i : Nat) : Int) == l) = true := by rw [beq_iff_eq]; exact hvn
        have hsel := Lib.hid (sel_yes (p := fun i => decide ((dpN P i : Int) = l)) (k := i) (decide_eq_true hvn))
        replace hvn := Lib.hid hvn
        go_wp2_with (at_builtin; go_loud (refine wpList_append_rd _ rfl (.tmp 18) (.tmp 20) 22 rfl ((w.heap.size + 1)) 3 i0 (.int .i64 0) 1 8 Tryd.underlying22 hii hz0 hz1 hz2 rfl (by decide) _ (selK (fun i => decide ((dpN P i : Int) = l)) i).length (iC (selK (fun i => decide ((dpN P i : Int) = l)) i)) rfl ((ho1.out.alloc _)) _ 1 1 rfl (Nat.le_refl _) (by intro h; cases h) (iC [((i : Int) : Int)]) rfl (rd_oneG _ _ _ _ (by simp)) (iC_one _) (by unfold maxLen; omega) (by omega) (by simp; omega) ?_); intro v3 w3 hown3 hgrow3 hwhere3)
        obtain ⟨hb3, -⟩ := append_below hb2 (fun k hk => by have := (ho1.out.lt k hk).1; omega) hgrow3 hwhere3
        have hq3 := Lib.hid (hq1.out.rest hgrow3 (fun k hk => by have := (ho1.out.lt k hk).1; omega))
        have hown3 := Lib.hid (own_snoc hown3 hsel.out rfl)
        have hb3 := Lib.hid hb3
        clear hgrow3 hwhere3
        go_wp2
        go_roundw
        case rel => exact ⟨i + 1, by omega, by go_num, hown3.out, hq3.out, hb3.out⟩
        case measure => simp [intOf]; omega
      · have ht : (((dpN P i : Nat) : Int) == l) = false := by rw [← Bool.not_eq_true]; intro e; exact hvn (by simpa using e)
        have hsel := Lib.hid (sel_no (p := fun i => decide ((dpN P i : Int) = l)) (k := i) (decide_eq_false hvn))
        replace hvn := Lib.hid hvn
        go_wp2
        go_roundw
        case rel => exact ⟨i + 1, by omega, by go_num, by rw [hsel.out]; exact ho1.out, hq1.out, hb2⟩
        case measure => simp [intOf]; omega
    · have hij : i = P.length := by omega
      subst hij
      go_wp2
      go_ret
      exact ⟨_, rfl, own_more hownh.out (by omega), hb⟩
end Go.Proofs.YtgkaalonmkcclaaDoor

namespace Go.Proofs.YtgkaalonmkcclaaDoor
open Go.RowKit
set_option maxRecDepth 100000

/-- How many children the areas have among those before i. -/
def cnF (P : List Int) (i : Nat) : List Int := (List.range P.length).map fun j : Nat => cnK P i j
theorem cnF_len (P : List Int) (i : Nat) : (cnF P i).length = P.length := by unfold cnF; simp
theorem cnF_at {P : List Int} {i j : Nat} (h : j < P.length) : (cnF P i)[j]? = some (cnK P i j) := by unfold cnF; simp [h]
theorem cnF_one {P : List Int} (hg : geB P = true) : cnF P 1 = zL P.length := by
  apply List.ext_getElem?
  intro j
  by_cases h : j < P.length
  · rw [cnF_at h, gcn_zero P hg]
    unfold zL
    rw [List.getElem?_replicate, if_pos h]
  · rw [List.getElem?_eq_none (by rw [cnF_len]; omega), List.getElem?_eq_none (by rw [zL_len]; omega)]
theorem cnF_step {P : List Int} {i p : Nat} (h : P[i]? = some (p : Int)) (hp : p < P.length) : (cnF P i).set p (cnK P i p + 1) = cnF P (i + 1) := by
  apply List.ext_getElem?
  intro j
  rw [List.getElem?_set, cnF_len]
  by_cases hj : j < P.length
  · rw [cnF_at hj, cnF_at hj]
    by_cases e : p = j
    · subst e; rw [if_pos rfl, if_pos hp, gcn_yes h]
    · rw [if_neg e, gcn_no h (fun k => e k.symm)]
  · rw [if_neg (by omega), List.getElem?_eq_none (by rw [cnF_len]; omega), List.getElem?_eq_none (by rw [cnF_len]; omega)]
theorem own_someV {w : World} {base e size n : Nat} {v : Value} {xs : List Value} (h : w.ownsRow base e size v n xs) (hn : 0 < n) : ∃ g cap, v = .slice (some ⟨g, 0, none⟩) n cap := by
  rcases h.2 with ⟨_, h2⟩ | ⟨g, cap, cur, hv, _⟩
  · omega
  · exact ⟨g, cap, hv⟩
theorem own_lit1 (w : World) (base g : Nat) (a : Int) (hg : w.heap.size = g) (hb : base ≤ g) : (w.alloc (.cells #[.int .i64 a] 3)).ownsRow base 3 1 (.slice (some ⟨g, 0, none⟩) 1 1) 1 (iC [a]) := by
  subst hg
  exact ⟨rfl, .inr ⟨w.heap.size, 1, _, rfl, hb, heap_alloc_new w _, Nat.le_refl _, by unfold maxLen; omega, rfl, rfl⟩⟩
/-- The rest of a path while it is climbed. -/
def Clm (P : List Int) (a : Int) (R : List Int) : Prop := a = -1 ∧ R = [] ∨ ∃ j : Nat, a = (j : Int) ∧ j < P.length ∧ R = upW P j
theorem clm_zero {P : List Int} : Clm P (-1) [] := Or.inl ⟨rfl, rfl⟩
theorem up_len (P : List Int) (j : Nat) : (upW P j).length = dpN P j + 1 := by have := pt_len P j; unfold ptL at this; rwa [List.length_reverse] at this
theorem upW_root {P : List Int} : upW P 0 = ((0 : Nat) : Int) :: [] := upW_zero P

end Go.Proofs.YtgkaalonmkcclaaDoor
