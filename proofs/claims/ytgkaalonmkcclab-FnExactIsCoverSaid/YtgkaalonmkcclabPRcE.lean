import Derived.Test.YtgkaalonmkcclabPRcA
import Derived.Test.YtgkaalonmkcclabPRcD
import Derived.Deep.DeepCutAuto
import Derived.Test.YtgkaalonmkcclabEdS
namespace Go.Proofs.Ytgkaalonmkcclab
open Go.RowKit
set_option maxRecDepth 100000

/-- Strictly increasing from b on, below n. -/
def rsU (n : Int) : Int → List Int → Bool
  | _, [] => true
  | b, v :: r => decide (b ≤ v ∧ v < n) && rsU n (v + 1) r
theorem rsU_at {n b : Int} {F : List Int} {i : Nat} {v : Int} (h : F[i]? = some v) : rsU n b (F.drop i) = (decide (b ≤ v ∧ v < n) && rsU n (v + 1) (F.drop (i + 1))) := by
  obtain ⟨hi, e⟩ := List.getElem?_eq_some_iff.1 h
  rw [List.drop_eq_getElem_cons hi, e]
  rfl
theorem rs_end {n b : Int} {F : List Int} : rsU n b (F.drop F.length) = true := by rw [List.drop_length]; rfl
theorem rs_bd {n : Int} : ∀ {b : Int} {F : List Int}, rsU n b F = true → ∀ v ∈ F, b ≤ v ∧ v < n
  | _, [], _, v, hv => by cases hv
  | b, u :: r, h, v, hv => by
    unfold rsU at h
    rw [Bool.and_eq_true, decide_eq_true_eq] at h
    rcases List.mem_cons.1 hv with rfl | hm
    · exact h.1
    · have := rs_bd h.2 v hm
      omega
def rsB (S : List (ByteArray × Int)) (F : List Int) : Bool := rsU S.length 0 F
theorem ag_hit {F V x : List Int} {i : Nat} {v : Int} (h : F[i]? = some v) (hne : ¬ x[v.toNat]? = V[v.toNat]?) : agB F V x = false := by
  unfold agB
  rw [List.all_eq_false]
  exact ⟨v, List.mem_of_getElem? h, by simp [hne]⟩
theorem ag_all {F V x : List Int} (h : ∀ j, j < F.length → ∃ v, F[j]? = some v ∧ x[v.toNat]? = V[v.toNat]?) : agB F V x = true := by
  unfold agB
  rw [List.all_eq_true]
  intro v hv
  obtain ⟨j, hj, e⟩ := List.getElem_of_mem hv
  obtain ⟨u, h1, h2⟩ := h j hj
  rw [List.getElem?_eq_getElem hj, e] at h1
  cases h1
  exact decide_eq_true h2
theorem ag_snoc {F V x : List Int} {i : Nat} {v : Int} (h : F[i]? = some v) : agB (F.take (i + 1)) V x = (agB (F.take i) V x && decide (x[v.toNat]? = V[v.toNat]?)) := by
  unfold agB
  rw [take_snoc h, List.all_append]
  simp
theorem ag_zero (F V x : List Int) : agB (F.take 0) V x = true := by rw [List.take_zero]; rfl
/-- Is all well asked? -/
def cgG (S : List (ByteArray × Int)) (M : List (List Int)) (F V : List Int) : Bool := smB S M && rsB S F && fitB S V
def ccB (S : List (ByteArray × Int)) (M : List (List Int)) (F V : List Int) : Bool := cgG S M F V && (coN S M F V).isSome
theorem cg_no1 {S : List (ByteArray × Int)} {M : List (List Int)} {F V : List Int} (h : smB S M = false) : cgG S M F V = false := by unfold cgG; rw [h]; rfl
theorem cg_no2 {S : List (ByteArray × Int)} {M : List (List Int)} {F V : List Int} (h : rsB S F = false) : cgG S M F V = false := by unfold cgG; rw [h, Bool.and_false]; rfl
theorem cg_no3 {S : List (ByteArray × Int)} {M : List (List Int)} {F V : List Int} (h : fitB S V = false) : cgG S M F V = false := by unfold cgG; rw [h, Bool.and_false]
theorem cg_yes {S : List (ByteArray × Int)} {M : List (List Int)} {F V : List Int} (h : smB S M = true) (k : rsB S F = true) (m : fitB S V = true) : cgG S M F V = true := by unfold cgG; rw [h, k, m]; rfl
theorem cg_get {S : List (ByteArray × Int)} {M : List (List Int)} {F V : List Int} (h : cgG S M F V = true) : smB S M = true ∧ rsB S F = true ∧ fitB S V = true := by
  unfold cgG at h
  rw [Bool.and_eq_true, Bool.and_eq_true] at h
  exact ⟨h.1.1, h.1.2, h.2⟩
theorem cc_no {S : List (ByteArray × Int)} {M : List (List Int)} {F V : List Int} (h : cgG S M F V = false) : ccB S M F V = false := by unfold ccB; rw [h]; rfl
theorem cc_ok {S : List (ByteArray × Int)} {M : List (List Int)} {F V : List Int} (h : cgG S M F V = true) : ccB S M F V = (coN S M F V).isSome := by unfold ccB; rw [h]; rfl
theorem co_none {S : List (ByteArray × Int)} {M : List (List Int)} {F V : List Int} (h : coN S M F V = none) : coL S M F V = [] := by unfold coL; rw [h]
theorem co_some {S : List (ByteArray × Int)} {M : List (List Int)} {F V : List Int} {k : Nat} (h : coN S M F V = some k) : coL S M F V = atL S k := by unfold coL; rw [h]
theorem co_len (S : List (ByteArray × Int)) (M : List (List Int)) (F V : List Int) : (coL S M F V).length ≤ S.length := by
  cases h : coN S M F V with
  | none => rw [co_none h]; exact Nat.zero_le _
  | some k => rw [co_some h, atL_len]; exact Nat.le_refl _
theorem coP_eq {S : List (ByteArray × Int)} {M : List (List Int)} {F V : List Int} (k : Nat) : coP S M F V k = (!faB M (atL S k) && agB F V (atL S k)) := rfl
set_option maxHeartbeats 1000000 in
theorem areIndices_any (y : Option Addr) (c2 : Nat) (n : Nat) (F : List Int) (w : World) (hm : n ≤ 1048576) (hF : IIn w y F) :
    Calls Try.prog 118 #[.slice y F.length c2, .int .i64 (n : Int)] w fun e w' => e = .returned (.bool (rsU n 0 F)) ∧ w = w' := by
  have hFh := Lib.hid hF
  have hFl := hF.1
  clear hF
  go_enter Try.func118, Try.ntmps118
  go_wp2
  go_loopw [5, 10] (fun b c wr => ∃ (i : Nat) (bz : Int), i ≤ F.length ∧ c = .int .i64 i ∧ b = .int .i64 bz ∧ 0 ≤ bz ∧ bz ≤ 1048576 ∧ Hid (rsU n bz (F.drop i) = rsU n 0 F) ∧ w = wr) (fun _ c _ => F.length - (intOf c).toNat)
  case atStart => exact ⟨0, 0, by omega, rfl, rfl, by omega, by omega, (by unfold Hid; rw [List.drop_zero]), rfl⟩
  case round =>
    obtain ⟨i, bz, hi, rfl, rfl, hb0, hb1, hrs, rfl⟩ := hrel
    by_cases hlt : i < F.length
    · obtain ⟨bl, off, v, rfl, hbl, hFi, hc0⟩ := hFh.out.2.2.int hlt
      have hv64 := hFh.out.2.1 v (List.mem_of_getElem? hFi)
      unfold IsI64 at hv64
      have hat := Lib.hid (rsU_at (n := (n : Int)) (b := bz) hFi)
      have hlt' : (i : Int) < (F.length : Int) := by omega
      have hi0 : (0 : Int) ≤ (i : Int) := by omega
      clear hFi
      by_cases h1 : v < bz
      · have hv : Hid (rsU n 0 F = false) := by unfold Hid; rw [← hrs.out, hat.out, decide_eq_false (by omega)]; rfl
        go_wp2
        go_ret
        exact ⟨ret_bool hv.out.symm, rfl⟩
      · by_cases h2 : (n : Int) ≤ v
        · have hv : Hid (rsU n 0 F = false) := by unfold Hid; rw [← hrs.out, hat.out, decide_eq_false (by omega)]; rfl
          go_wp2
          go_ret
          exact ⟨ret_bool hv.out.symm, rfl⟩
        · have hv : Hid (rsU n (v + 1) (F.drop (i + 1)) = rsU n 0 F) := by unfold Hid; rw [← hrs.out, hat.out, decide_eq_true (by omega), Bool.true_and]
          go_wp2
          go_roundw
          case rel => exact ⟨i + 1, v + 1, by omega, by go_num, by go_num, by omega, by omega, hv.out, by first | rfl | trivial⟩
          case measure => simp [intOf]; omega
    · have hij : i = F.length := by omega
      subst hij
      have hv : Hid (rsU n 0 F = true) := by unfold Hid; rw [← hrs.out]; exact rs_end
      clear hrs
      go_wp2
      go_ret
      exact ⟨ret_bool hv.out.symm, rfl⟩
theorem areVariablesOf_any (x y : Option Addr) (c1 c2 : Nat) (S : List (ByteArray × Int)) (F : List Int) (w : World) (hm : S.length ≤ 1048576) (hF : IIn w y F) :
    Calls Try.prog 58 #[.slice x S.length c1, .slice y F.length c2] w fun e w' => e = .returned (.bool (rsB S F)) ∧ w = w' := by
  have hFh := Lib.hid hF
  clear hF
  go_enter Try.func58, Try.ntmps58
  go_wp2_with fail
  refine (areIndices_any _ _ S.length F _ hm hFh.out).mono ?_
  rintro e w1 ⟨rfl, rfl⟩
  go_wp2
  go_ret
  exact ⟨rfl, rfl⟩
set_option maxHeartbeats 2000000 in
theorem l1Rising_any (y : Option Addr) (c2 : Nat) (S : List (ByteArray × Int)) (F : List Int) (w : World) (hm : S.length ≤ 1048576) (hF : IIn w y F) :
    Calls Try.prog 48 #[.slice y F.length c2, .int .i64 0, .int .i64 ((S.length : Int) - 1)] w fun e w' => e = .returned (.bool (rsB S F)) ∧ Below w.heap.size w w' := by
  have hFh := Lib.hid hF
  have hFl := hF.1
  clear hF
  go_enter Try.func48, Try.ntmps48
  go_wp2
  go_loopw [11] (fun c wr => ∃ (i : Nat) (bz : Int), i ≤ F.length ∧ c = .int .i64 i ∧ Hid ((i = 0 ∧ bz = 0) ∨ ∃ u, 0 < i ∧ F[i - 1]? = some u ∧ bz = u + 1) ∧ 0 ≤ bz ∧ bz ≤ 1048576 ∧ Hid (rsU S.length bz (F.drop i) = rsB S F) ∧ Below w.heap.size w wr) (fun c _ => F.length - (intOf c).toNat)
  case atStart => exact ⟨0, 0, by omega, rfl, .inl ⟨rfl, rfl⟩, by omega, by omega, (by unfold Hid; rw [List.drop_zero]; rfl), Below.refl _ _⟩
  case round =>
    obtain ⟨i, bz, hi, rfl, hpre, hb0, hb1, hrs, hBr⟩ := hrel
    by_cases hlt : i < F.length
    · obtain ⟨bl, off, v, hy, hbl, hFi, hc0⟩ := (hFh.out.below hBr).2.2.int hlt
      have hv64 := hFh.out.2.1 v (List.mem_of_getElem? hFi)
      unfold IsI64 at hv64
      have hat := Lib.hid (rsU_at (n := (S.length : Int)) (b := bz) hFi)
      have hFih := Lib.hid hFi
      have hlt' : (i : Int) < (F.length : Int) := by omega
      have hi0 : (0 : Int) ≤ (i : Int) := by omega
      clear hFi
      subst hy
      go_wp2_with fail
      refine (l1In_any _ _ _ _).mono ?_
      rintro e w2 ⟨rfl, rfl⟩
      by_cases hin : 0 ≤ v ∧ v < (S.length : Int)
      · have hb : inB v 0 ((S.length : Int) - 1) = true := (inB_iff ..).2 ⟨hin.1, by omega⟩
        rw [hb]
        clear hb
        rcases hpre.out with ⟨rfl, rfl⟩ | ⟨u, hi1, hu, rfl⟩
        · have hv : Hid (rsU S.length (v + 1) (F.drop (0 + 1)) = rsB S F) := by unfold Hid; rw [← hrs.out, hat.out, decide_eq_true (by omega), Bool.true_and]
          go_wp2
          go_roundw
          case rel => exact ⟨0 + 1, v + 1, by omega, by go_num, .inr ⟨v, by omega, by simpa using hFih.out, rfl⟩, by omega, by omega, hv.out, (by repeat (first | exact Below.refl _ _ | assumption | refine Below.drew ?_ | refine below_drewN ?_ _ | refine Below.alloc' ?_ _ | (refine Below.setCell ?_ (by first | omega | (simp; done) | (simp; omega) | exact Below.size (by assumption) | exact Nat.le_trans (Below.size (by assumption)) (by simp)) _) | (refine Below.via' ?_ (by assumption)) | (refine Below.alloc ?_ (by first | omega | (simp; done) | (simp; omega) | exact Below.size (by assumption) | exact Nat.le_trans (Below.size (by assumption)) (by simp)) _) | (refine Below.via ?_ (by assumption) (by first | omega | (simp; done) | (simp; omega) | exact Below.size (by assumption) | exact Nat.le_trans (Below.size (by assumption)) (by simp)))))⟩
          case measure => simp [intOf]; omega
        · obtain ⟨bl2, off2, u2, e2, hbl2, hu2, hc1⟩ := (hFh.out.below hBr).2.2.int (i := i - 1) (by omega)
          injection e2 with e2
          injection e2 with e2 e3
          subst e2 e3
          obtain rfl := Option.some.inj (hu2.symm.trans hu)
          have hpos : (0 : Int) < (i : Int) := by omega
          have hge : (0 : Int) ≤ (i : Int) - 1 := by omega
          have hlt2 : (i : Int) - 1 < (F.length : Int) := by omega
          replace hu := Lib.hid hu
          replace hu2 := Lib.hid hu2
          by_cases h1 : v ≤ u2
          · have hv : Hid (rsB S F = false) := by unfold Hid; rw [← hrs.out, hat.out, decide_eq_false (by omega)]; rfl
            go_wp2
            go_ret
            exact ⟨ret_bool hv.out.symm, (by repeat (first | exact Below.refl _ _ | assumption | refine Below.drew ?_ | refine below_drewN ?_ _ | refine Below.alloc' ?_ _ | (refine Below.setCell ?_ (by first | omega | (simp; done) | (simp; omega) | exact Below.size (by assumption) | exact Nat.le_trans (Below.size (by assumption)) (by simp)) _) | (refine Below.via' ?_ (by assumption)) | (refine Below.alloc ?_ (by first | omega | (simp; done) | (simp; omega) | exact Below.size (by assumption) | exact Nat.le_trans (Below.size (by assumption)) (by simp)) _) | (refine Below.via ?_ (by assumption) (by first | omega | (simp; done) | (simp; omega) | exact Below.size (by assumption) | exact Nat.le_trans (Below.size (by assumption)) (by simp)))))⟩
          · have hv : Hid (rsU S.length (v + 1) (F.drop (i + 1)) = rsB S F) := by unfold Hid; rw [← hrs.out, hat.out, decide_eq_true (by omega), Bool.true_and]
            go_wp2
            go_roundw
            case rel => exact ⟨i + 1, v + 1, by omega, by go_num, .inr ⟨v, by omega, by simpa using hFih.out, rfl⟩, by omega, by omega, hv.out, (by repeat (first | exact Below.refl _ _ | assumption | refine Below.drew ?_ | refine below_drewN ?_ _ | refine Below.alloc' ?_ _ | (refine Below.setCell ?_ (by first | omega | (simp; done) | (simp; omega) | exact Below.size (by assumption) | exact Nat.le_trans (Below.size (by assumption)) (by simp)) _) | (refine Below.via' ?_ (by assumption)) | (refine Below.alloc ?_ (by first | omega | (simp; done) | (simp; omega) | exact Below.size (by assumption) | exact Nat.le_trans (Below.size (by assumption)) (by simp)) _) | (refine Below.via ?_ (by assumption) (by first | omega | (simp; done) | (simp; omega) | exact Below.size (by assumption) | exact Nat.le_trans (Below.size (by assumption)) (by simp)))))⟩
            case measure => simp [intOf]; omega
      · have hb : inB v 0 ((S.length : Int) - 1) = false := by
          cases h : inB v 0 ((S.length : Int) - 1) with
          | false => rfl
          | true => exact absurd ⟨((inB_iff ..).1 h).1, by have := ((inB_iff ..).1 h).2; omega⟩ hin
        have hv : Hid (rsB S F = false) := by unfold Hid; rw [← hrs.out, hat.out, decide_eq_false (by omega)]; rfl
        rw [hb]
        clear hb
        go_wp2
        go_ret
        exact ⟨ret_bool hv.out.symm, (by repeat (first | exact Below.refl _ _ | assumption | refine Below.drew ?_ | refine below_drewN ?_ _ | refine Below.alloc' ?_ _ | (refine Below.setCell ?_ (by first | omega | (simp; done) | (simp; omega) | exact Below.size (by assumption) | exact Nat.le_trans (Below.size (by assumption)) (by simp)) _) | (refine Below.via' ?_ (by assumption)) | (refine Below.alloc ?_ (by first | omega | (simp; done) | (simp; omega) | exact Below.size (by assumption) | exact Nat.le_trans (Below.size (by assumption)) (by simp)) _) | (refine Below.via ?_ (by assumption) (by first | omega | (simp; done) | (simp; omega) | exact Below.size (by assumption) | exact Nat.le_trans (Below.size (by assumption)) (by simp)))))⟩
    · have hij : i = F.length := by omega
      subst hij
      have hv : Hid (rsB S F = true) := by unfold Hid; rw [← hrs.out]; exact rs_end
      clear hrs hpre
      go_wp2
      go_ret
      exact ⟨ret_bool hv.out.symm, hBr⟩
end Go.Proofs.Ytgkaalonmkcclab

namespace Go.Proofs.Ytgkaalonmkcclab
open Go.RowKit
set_option maxRecDepth 100000

/-- Are the variables that are involved in an edit all among some? -/
def eoB (S : List (ByteArray × Int)) (I E : List Int) : Bool := (ivL S E).all fun v => I.contains v
def eoL (S : List (ByteArray × Int)) (M : List (List Int)) (I : List Int) : List (List Int) := (mxL S M (-1)).filter (eoB S I)
def eoG (S : List (ByteArray × Int)) (M : List (List Int)) (I : List Int) : Bool := smB S M && rsB S I
theorem eo_no1 {S : List (ByteArray × Int)} {M : List (List Int)} {I : List Int} (h : smB S M = false) : eoG S M I = false := by unfold eoG; rw [h]; rfl
theorem eo_no2 {S : List (ByteArray × Int)} {M : List (List Int)} {I : List Int} (h : rsB S I = false) : eoG S M I = false := by unfold eoG; rw [h, Bool.and_false]
theorem eo_yes {S : List (ByteArray × Int)} {M : List (List Int)} {I : List Int} (h : smB S M = true) (k : rsB S I = true) : eoG S M I = true := by unfold eoG; rw [h, k]; rfl
theorem eo_sm {S : List (ByteArray × Int)} {M : List (List Int)} {I : List Int} (h : eoG S M I = true) : smB S M = true := by unfold eoG at h; rw [Bool.and_eq_true] at h; exact h.1
/-- The edits that are taken, of a beginning of the list. -/
def eoQ (S : List (ByteArray × Int)) (I : List Int) (T : List PR) (i : Nat) : List PR := (T.take i).filter fun q => eoB S I q.L
theorem eoQ_no {S : List (ByteArray × Int)} {I : List Int} {T : List PR} {i : Nat} {q : PR} (h : T[i]? = some q) (hn : eoB S I q.L = false) : eoQ S I T (i + 1) = eoQ S I T i := by
  unfold eoQ
  rw [take_snoc h, List.filter_append]
  simp [List.filter, hn]
theorem eoQ_yes {S : List (ByteArray × Int)} {I : List Int} {T : List PR} {i : Nat} {q : PR} (h : T[i]? = some q) (hn : eoB S I q.L = true) : eoQ S I T (i + 1) = eoQ S I T i ++ [q] := by
  unfold eoQ
  rw [take_snoc h, List.filter_append]
  simp [List.filter, hn]
theorem eoQ_len (S : List (ByteArray × Int)) (I : List Int) (T : List PR) (i : Nat) : (eoQ S I T i).length ≤ i := Nat.le_trans (List.length_filter_le _ _) (by rw [List.length_take]; omega)
theorem eoQ_eM {S : List (ByteArray × Int)} {I : List Int} {T : List PR} : eM (eoQ S I T T.length) = (eM T).filter (eoB S I) := by
  unfold eoQ eM
  rw [List.take_length, List.filter_map]
  rfl
theorem OwL.pick {w w' : World} {lo b : Nat} {v u : Value} {T T2 : List PR} (h : OwL w lo v T) (hs : T2.Sublist T) (hb : Below w.heap.size w w') (hu : w'.ownsRow b 90 1 u T2.length (eC T2)) (hlo : lo ≤ b) : OwL w' lo u T2 :=
  ⟨own_more hu hlo, fun q hq => own_below (h.2.1 q (hs.subset hq)) hb, h.2.2.sublist (hs.filterMap _)⟩
theorem eoQ_sub (S : List (ByteArray × Int)) (I : List Int) (T : List PR) (i : Nat) : (eoQ S I T i).Sublist T := (List.filter_sublist).trans (List.take_sublist _ _)
theorem OwL.ein {w : World} {lo : Nat} {x : Option Addr} {c : Nat} {T : List PR} {S : List (ByteArray × Int)} {M : List (List Int)} {v : Int} (h : OwL w lo (.slice x T.length c) T) (hs : schB S = true) (hM : eM T = mxL S M v) (hc : cnZ S ≤ 100) : EIn w x T := by
  refine ⟨?_, fun q hq => ?_, Rd.of_own h.1⟩
  · have h1 := (mx_small (M := M) v hs hc).2
    rw [← hM, eM_len] at h1
    omega
  · have h1 := mx_ed (M := M) (v := v) hs (by rw [← hM]; exact List.mem_map_of_mem hq)
    have h2 := h.2.1 q hq
    unfold PR.v at h2
    exact ed_iin hs h1 (Rd.of_own h2)
theorem eo_tot {S : List (ByteArray × Int)} {M : List (List Int)} {I : List Int} {b : Bool} (h : b = true → smB S M = true) : (eE b (eoL S M I)).length ≤ 1048576 ∧ ((eE b (eoL S M I)).map List.length).sum ≤ 1048576 := by
  cases b with
  | false => exact ⟨by simp [eE], by simp [eE]⟩
  | true =>
    obtain ⟨h1, h2⟩ := sm_get (h rfl)
    have hs := (el_get h1).1
    obtain ⟨h3, h4⟩ := mx_small (M := M) (-1) hs h2
    have hsub : (eoL S M I).length ≤ (mxL S M (-1)).length := List.length_filter_le _ _
    have hmul : (eoL S M I).length * S.length ≤ (mxL S M (-1)).length * S.length := Nat.mul_le_mul_right _ hsub
    have hs1 : ∀ e ∈ eoL S M I, e.length = S.length := fun e he => ed_len (mx_ed hs (List.mem_filter.1 he).1)
    rw [eE_yes _ rfl, sum_len _ hs1]
    exact ⟨by omega, by omega⟩
theorem eC_app (A B : List PR) : eC (A ++ B) = eC A ++ eC B := by unfold eC; rw [List.map_append]
theorem all_snoc {L : List Int} {p : Int → Bool} {j : Nat} {v : Int} (h : L[j]? = some v) : (L.take (j + 1)).all p = ((L.take j).all p && p v) := by
  rw [take_snoc h, List.all_append]
  simp

end Go.Proofs.Ytgkaalonmkcclab

namespace Go.Proofs.Ytgkaalonmkcclab
open Go.RowKit
set_option maxRecDepth 100000

/-- Have two lists a number in common? -/
def shB (A B : List Int) : Bool := A.any fun v => B.contains v
theorem sh_hit {A B : List Int} {i : Nat} {v : Int} (h : A[i]? = some v) (hn : B.contains v = true) : shB A B = true := by
  unfold shB
  rw [List.any_eq_true]
  exact ⟨v, List.mem_of_getElem? h, hn⟩
theorem sh_none {A B : List Int} (h : ∀ (j : Nat) (v : Int), A[j]? = some v → B.contains v = false) : shB A B = false := by
  unfold shB
  rw [List.any_eq_false]
  intro v hv
  obtain ⟨j, hj, e⟩ := List.getElem_of_mem hv
  rw [h j v (by rw [List.getElem?_eq_getElem hj, e])]
  exact Bool.false_ne_true
/-- Is an edit covered, if the values fail it? -/
def cvE (S : List (ByteArray × Int)) (V I E : List Int) : Bool := !fsB E V || shB (ivL S E) I
def cvA (S : List (ByteArray × Int)) (M : List (List Int)) (V I : List Int) : Bool := (mxL S M (-1)).all (cvE S V I)
def cvZ (S : List (ByteArray × Int)) (M : List (List Int)) (V I : List Int) : Bool := cgG S M I V && cvA S M V I
theorem cv_no {S : List (ByteArray × Int)} {M : List (List Int)} {V I : List Int} (h : cgG S M I V = false) : cvZ S M V I = false := by unfold cvZ; rw [h]; rfl
theorem cv_ok {S : List (ByteArray × Int)} {M : List (List Int)} {V I : List Int} {b : Bool} (h : cgG S M I V = true) (k : cvA S M V I = b) : cvZ S M V I = b := by unfold cvZ; rw [h, k]; rfl
theorem cva_hit {S : List (ByteArray × Int)} {M : List (List Int)} {V I E : List Int} {i : Nat} (h : (mxL S M (-1))[i]? = some E) (hn : cvE S V I E = false) : cvA S M V I = false := by
  unfold cvA
  rw [List.all_eq_false]
  exact ⟨E, List.mem_of_getElem? h, by rw [hn]; exact Bool.false_ne_true⟩
theorem cva_all {S : List (ByteArray × Int)} {M : List (List Int)} {V I : List Int} (h : ∀ (j : Nat) (E : List Int), (mxL S M (-1))[j]? = some E → cvE S V I E = true) : cvA S M V I = true := by
  unfold cvA
  rw [List.all_eq_true]
  intro E hE
  obtain ⟨j, hj, e⟩ := List.getElem_of_mem hE
  exact h j E (by rw [List.getElem?_eq_getElem hj, e])
theorem cvE_pass {S : List (ByteArray × Int)} {V I E : List Int} (h : fsB E V = false) : cvE S V I E = true := by unfold cvE; rw [h]; rfl
theorem cvE_fail {S : List (ByteArray × Int)} {V I E : List Int} (h : fsB E V = true) : cvE S V I E = shB (ivL S E) I := by unfold cvE; rw [h]; rfl
theorem ret_twoK {a b c d : Bool} (h : a = c) (k : b = d) : Ending.returned (.tuple #[.bool a, .bool b]) = .returned (.tuple #[.bool c, .bool d]) := by rw [h, k]

set_option maxHeartbeats 1000000 in
theorem iShares_any (x y : Option Addr) (c1 c2 : Nat) (A B : List Int) (w : World) (hA : IIn w x A) (hB : IIn w y B) :
    Calls Try.prog 51 #[.slice x A.length c1, .slice y B.length c2] w fun e w' => e = .returned (.bool (shB A B)) ∧ w = w' := by
  have hAh := Lib.hid hA
  have hBh := Lib.hid hB
  have hAl := hA.1
  clear hA hB
  go_enter Try.func51, Try.ntmps51
  go_wp2
  go_loopw [9] (fun c wr => ∃ i : Nat, i ≤ A.length ∧ c = .int .i64 i ∧ Hid (∀ j, j < i → ∀ v, A[j]? = some v → B.contains v = false) ∧ w = wr) (fun c _ => A.length - (intOf c).toNat)
  case atStart => exact ⟨0, by omega, rfl, (fun j hj => absurd hj (by omega)), rfl⟩
  case round =>
    obtain ⟨i, hi, rfl, hall, rfl⟩ := hrel
    by_cases hlt : i < A.length
    · obtain ⟨bl, off, v, rfl, hbl, hLi, hc0⟩ := hAh.out.2.2.int hlt
      have hLih := Lib.hid hLi
      have hlt' : (i : Int) < (A.length : Int) := by omega
      have hi0 : (0 : Int) ≤ (i : Int) := by omega
      clear hLi
      go_wp2_with fail
      refine (l1Has_any _ _ B v _ hBh.out).mono ?_
      rintro e w2 ⟨rfl, rfl⟩
      cases hc : B.contains v
      · have hch := Lib.hid hc
        clear hc
        go_wp2
        go_roundw
        case rel =>
          refine ⟨i + 1, by omega, by go_num, fun j hj u hu => ?_, by first | rfl | trivial⟩
          rcases Nat.lt_or_ge j i with hj2 | hj2
          · exact hall.out j hj2 u hu
          · obtain rfl : j = i := by omega
            rw [hLih.out] at hu
            cases hu
            exact hch.out
        case measure => simp [intOf]; omega
      · have hv := Lib.hid (sh_hit hLih.out hc)
        replace hc := Lib.hid hc
        go_wp2
        go_ret
        exact ⟨ret_bool hv.out.symm, rfl⟩
    · have hij : i = A.length := by omega
      have hv : Hid (shB A B = false) := sh_none fun j v hv => hall.out j (by have := (List.getElem?_eq_some_iff.1 hv).1; omega) v hv
      subst hij
      clear hall
      go_wp2
      go_ret
      exact ⟨ret_bool hv.out.symm, rfl⟩
/-- The closure that tells whether a variable is in a set. -/
theorem inSet_any (B : Nat) (y : Option Addr) (c : Nat) (I : List Int) (v : Int) (w : World) (hb : Boxed w B 24 (.slice y I.length c)) (hI : IIn w y I) :
    Calls Try.prog 59 #[.int .i64 v, .pointer (some ⟨B, 0, none⟩)] w fun e w' => e = .returned (.bool (I.contains v)) ∧ w = w' := by
  have hc := hb.cell
  have hIh := Lib.hid hI
  clear hb hI
  go_enter Try.func59, Try.ntmps59
  go_wp2_with fail
  refine (contains_any _ _ I v _ hIh.out).mono ?_
  rintro e w2 ⟨rfl, rfl⟩
  go_wp2
  go_ret
  exact ⟨by first | rfl | (simp; done), by first | rfl | trivial⟩
/-- What slices.IndexFunc tells. -/
def ixN (A B : List Int) (k : Int) : Prop := -1 ≤ k ∧ k < 1048577 ∧ decide (0 ≤ k) = shB A B
set_option maxHeartbeats 1000000 in
theorem indexIn_any (B : Nat) (x y : Option Addr) (c1 c2 : Nat) (A I : List Int) (w : World) (hA : IIn w x A) (hb : Boxed w B 24 (.slice y I.length c2)) (hI : IIn w y I) :
    Calls Try.prog 124 #[.slice x A.length c1, .func (.func 59) #[] #[.pointer (some ⟨B, 0, none⟩)]] w fun e w' => ∃ k, e = .returned (.int .i64 k) ∧ ixN A I k ∧ w = w' := by
  have hAh := Lib.hid hA
  have hIh := Lib.hid hI
  have hbh := Lib.hid hb
  have hAl := hA.1
  clear hA hI hb
  go_enter Try.func124, Try.ntmps124
  go_wp2
  go_loopw [8] (fun c wr => ∃ i : Nat, i ≤ A.length ∧ c = .int .i64 i ∧ Hid (∀ j, j < i → ∀ v, A[j]? = some v → I.contains v = false) ∧ w = wr) (fun c _ => A.length - (intOf c).toNat)
  case atStart => exact ⟨0, by omega, rfl, (fun j hj => absurd hj (by omega)), rfl⟩
  case round =>
    obtain ⟨i, hi, rfl, hall, rfl⟩ := hrel
    by_cases hlt : i < A.length
    · obtain ⟨bl, off, v, rfl, hbl, hLi, hc0⟩ := hAh.out.2.2.int hlt
      have hLih := Lib.hid hLi
      have hlt' : (i : Int) < (A.length : Int) := by omega
      have hi0 : (0 : Int) ≤ (i : Int) := by omega
      clear hLi
      go_wp2_with fail
      refine (inSet_any B _ _ I v _ hbh.out hIh.out).mono ?_
      rintro e w2 ⟨rfl, rfl⟩
      cases hc : I.contains v
      · have hch := Lib.hid hc
        clear hc
        go_wp2
        go_roundw
        case rel =>
          refine ⟨i + 1, by omega, by go_num, fun j hj u hu => ?_, by first | rfl | trivial⟩
          rcases Nat.lt_or_ge j i with hj2 | hj2
          · exact hall.out j hj2 u hu
          · obtain rfl : j = i := by omega
            rw [hLih.out] at hu
            cases hu
            exact hch.out
        case measure => simp [intOf]; omega
      · have hv := Lib.hid (sh_hit hLih.out hc)
        replace hc := Lib.hid hc
        go_wp2
        go_ret
        exact ⟨_, rfl, ⟨by omega, by omega, by rw [hv.out]; exact decide_eq_true (by omega)⟩, rfl⟩
    · have hij : i = A.length := by omega
      have hv : Hid (shB A I = false) := sh_none fun j v hv => hall.out j (by have := (List.getElem?_eq_some_iff.1 hv).1; omega) v hv
      subst hij
      clear hall
      go_wp2
      go_ret
      exact ⟨_, rfl, ⟨by omega, by omega, by rw [hv.out]; exact decide_eq_false (by omega)⟩, rfl⟩
theorem containsIn_any (B : Nat) (x y : Option Addr) (c1 c2 : Nat) (A I : List Int) (w : World) (hA : IIn w x A) (hb : Boxed w B 24 (.slice y I.length c2)) (hI : IIn w y I) :
    Calls Try.prog 63 #[.slice x A.length c1, .func (.func 59) #[] #[.pointer (some ⟨B, 0, none⟩)]] w fun e w' => e = .returned (.bool (shB A I)) ∧ w = w' := by
  have hc := Lib.hid (indexIn_any B x y c1 c2 A I w hA hb hI)
  clear hA hb hI
  go_enter Try.func63, Try.ntmps63
  go_wp2_with fail
  refine hc.out.mono ?_
  rintro e w1 ⟨k, rfl, ⟨h0, h1, h2⟩, rfl⟩
  have hv := Lib.hid h2
  clear h2
  go_wp2
  go_ret
  exact ⟨ret_bool hv.out, rfl⟩
end Go.Proofs.Ytgkaalonmkcclab

namespace Go.Proofs.Ytgkaalonmkcclab
open Go.RowKit
set_option maxRecDepth 100000

theorem cva_idx {S : List (ByteArray × Int)} {M : List (List Int)} {V I : List Int} (h : ∀ (k : Nat) (E : List Int), (mxL S M (-1))[k]? = some E → fsB E V = true → shB (ivL S E) I = true) : cvA S M V I = true :=
  cva_all fun j E hE => by
    cases hf : fsB E V
    · exact cvE_pass hf
    · rw [cvE_fail hf]
      exact h j E hE hf
set_option maxHeartbeats 2000000 in
theorem sCv_x (x y z f : Option Addr) (c1 c2 c3 c4 : Nat) (S : List (ByteArray × Int)) (Q : List PR) (V I : List Int) (w : World) (hS : SIn w x c1 S) (hQ : EIn w y Q) (hV : IIn w z V) (hI : IIn w f I) :
    Calls Try.prog 9 #[.slice x S.length c1, .slice y Q.length c2, .slice z V.length c3, .slice f I.length c4] w fun e w' => e = .returned (.tuple #[.bool (cvZ S (eM Q) V I), .bool (cgG S (eM Q) I V)]) ∧ Below w.heap.size w w' := by
  have hSh := Lib.hid hS
  have hQh := Lib.hid hQ
  have hVh := Lib.hid hV
  have hIh := Lib.hid hI
  have hm := hS.1
  clear hS hQ hV hI
  have hw1 : IntKind.i64.wrap ((S.length : Int) - 1) = (S.length : Int) - 1 := IntWalk.i64_in _ (by omega)
  go_enter Try.func9, Try.ntmps9
  go_wp2_with fail
  refine (eSmall_any _ _ _ _ S Q _ (hSh.out.below (by exact (by repeat (first | exact Below.refl _ _ | assumption | refine Below.drew ?_ | refine below_drewN ?_ _ | refine Below.alloc' ?_ _ | (refine Below.setCell ?_ (by first | omega | (simp; done) | (simp; omega) | exact Below.size (by assumption) | exact Nat.le_trans (Below.size (by assumption)) (by simp)) _) | (refine Below.via' ?_ (by assumption)) | (refine Below.alloc ?_ (by first | omega | (simp; done) | (simp; omega) | exact Below.size (by assumption) | exact Nat.le_trans (Below.size (by assumption)) (by simp)) _) | (refine Below.via ?_ (by assumption) (by first | omega | (simp; done) | (simp; omega) | exact Below.size (by assumption) | exact Nat.le_trans (Below.size (by assumption)) (by simp))))))) (hQh.out.below (by exact (by repeat (first | exact Below.refl _ _ | assumption | refine Below.drew ?_ | refine below_drewN ?_ _ | refine Below.alloc' ?_ _ | (refine Below.setCell ?_ (by first | omega | (simp; done) | (simp; omega) | exact Below.size (by assumption) | exact Nat.le_trans (Below.size (by assumption)) (by simp)) _) | (refine Below.via' ?_ (by assumption)) | (refine Below.alloc ?_ (by first | omega | (simp; done) | (simp; omega) | exact Below.size (by assumption) | exact Nat.le_trans (Below.size (by assumption)) (by simp)) _) | (refine Below.via ?_ (by assumption) (by first | omega | (simp; done) | (simp; omega) | exact Below.size (by assumption) | exact Nat.le_trans (Below.size (by assumption)) (by simp)))))))).mono ?_
  rintro e w1 ⟨rfl, hb1⟩
  cases he : smB S (eM Q)
  · have hv := Lib.hid (cg_no1 (F := I) (V := V) he)
    have hv2 := Lib.hid (cv_no hv.out)
    go_wp2
    go_ret2
    exact ⟨ret_twoK hv2.out.symm hv.out.symm, (by repeat (first | exact Below.refl _ _ | assumption | refine Below.drew ?_ | refine below_drewN ?_ _ | refine Below.alloc' ?_ _ | (refine Below.setCell ?_ (by first | omega | (simp; done) | (simp; omega) | exact Below.size (by assumption) | exact Nat.le_trans (Below.size (by assumption)) (by simp)) _) | (refine Below.via' ?_ (by assumption)) | (refine Below.alloc ?_ (by first | omega | (simp; done) | (simp; omega) | exact Below.size (by assumption) | exact Nat.le_trans (Below.size (by assumption)) (by simp)) _) | (refine Below.via ?_ (by assumption) (by first | omega | (simp; done) | (simp; omega) | exact Below.size (by assumption) | exact Nat.le_trans (Below.size (by assumption)) (by simp)))))⟩
  have heh := Lib.hid he
  have hsh := Lib.hid (el_get (sm_get he).1).1
  have hcn := Lib.hid (sm_get he).2
  clear he
  go_wp2_with fail
  refine (sFits_any _ _ _ _ S V _ hsh.out hm (hSh.out.rd.below (by exact (by repeat (first | exact Below.refl _ _ | assumption | refine Below.drew ?_ | refine below_drewN ?_ _ | refine Below.alloc' ?_ _ | (refine Below.setCell ?_ (by first | omega | (simp; done) | (simp; omega) | exact Below.size (by assumption) | exact Nat.le_trans (Below.size (by assumption)) (by simp)) _) | (refine Below.via' ?_ (by assumption)) | (refine Below.alloc ?_ (by first | omega | (simp; done) | (simp; omega) | exact Below.size (by assumption) | exact Nat.le_trans (Below.size (by assumption)) (by simp)) _) | (refine Below.via ?_ (by assumption) (by first | omega | (simp; done) | (simp; omega) | exact Below.size (by assumption) | exact Nat.le_trans (Below.size (by assumption)) (by simp))))))) (hVh.out.below (by exact (by repeat (first | exact Below.refl _ _ | assumption | refine Below.drew ?_ | refine below_drewN ?_ _ | refine Below.alloc' ?_ _ | (refine Below.setCell ?_ (by first | omega | (simp; done) | (simp; omega) | exact Below.size (by assumption) | exact Nat.le_trans (Below.size (by assumption)) (by simp)) _) | (refine Below.via' ?_ (by assumption)) | (refine Below.alloc ?_ (by first | omega | (simp; done) | (simp; omega) | exact Below.size (by assumption) | exact Nat.le_trans (Below.size (by assumption)) (by simp)) _) | (refine Below.via ?_ (by assumption) (by first | omega | (simp; done) | (simp; omega) | exact Below.size (by assumption) | exact Nat.le_trans (Below.size (by assumption)) (by simp)))))))).mono ?_
  rintro e w2 ⟨rfl, hb2⟩
  cases hf : fitB S V
  · have hv := Lib.hid (cg_no3 (M := eM Q) (F := I) hf)
    have hv2 := Lib.hid (cv_no hv.out)
    go_wp2
    go_ret2
    exact ⟨ret_twoK hv2.out.symm hv.out.symm, (by repeat (first | exact Below.refl _ _ | assumption | refine Below.drew ?_ | refine below_drewN ?_ _ | refine Below.alloc' ?_ _ | (refine Below.setCell ?_ (by first | omega | (simp; done) | (simp; omega) | exact Below.size (by assumption) | exact Nat.le_trans (Below.size (by assumption)) (by simp)) _) | (refine Below.via' ?_ (by assumption)) | (refine Below.alloc ?_ (by first | omega | (simp; done) | (simp; omega) | exact Below.size (by assumption) | exact Nat.le_trans (Below.size (by assumption)) (by simp)) _) | (refine Below.via ?_ (by assumption) (by first | omega | (simp; done) | (simp; omega) | exact Below.size (by assumption) | exact Nat.le_trans (Below.size (by assumption)) (by simp)))))⟩
  have hfv := Lib.hid hf
  clear hf
  go_wp2_with fail
  refine (l1Rising_any _ _ S I _ hm (hIh.out.below (by exact (by repeat (first | exact Below.refl _ _ | assumption | refine Below.drew ?_ | refine below_drewN ?_ _ | refine Below.alloc' ?_ _ | (refine Below.setCell ?_ (by first | omega | (simp; done) | (simp; omega) | exact Below.size (by assumption) | exact Nat.le_trans (Below.size (by assumption)) (by simp)) _) | (refine Below.via' ?_ (by assumption)) | (refine Below.alloc ?_ (by first | omega | (simp; done) | (simp; omega) | exact Below.size (by assumption) | exact Nat.le_trans (Below.size (by assumption)) (by simp)) _) | (refine Below.via ?_ (by assumption) (by first | omega | (simp; done) | (simp; omega) | exact Below.size (by assumption) | exact Nat.le_trans (Below.size (by assumption)) (by simp)))))))).mono ?_
  rintro e w2b ⟨rfl, hb2b⟩
  cases hr : rsB S I
  · have hv := Lib.hid (cg_no2 (M := eM Q) (V := V) hr)
    have hv2 := Lib.hid (cv_no hv.out)
    go_wp2
    go_ret2
    exact ⟨ret_twoK hv2.out.symm hv.out.symm, (by repeat (first | exact Below.refl _ _ | assumption | refine Below.drew ?_ | refine below_drewN ?_ _ | refine Below.alloc' ?_ _ | (refine Below.setCell ?_ (by first | omega | (simp; done) | (simp; omega) | exact Below.size (by assumption) | exact Nat.le_trans (Below.size (by assumption)) (by simp)) _) | (refine Below.via' ?_ (by assumption)) | (refine Below.alloc ?_ (by first | omega | (simp; done) | (simp; omega) | exact Below.size (by assumption) | exact Nat.le_trans (Below.size (by assumption)) (by simp)) _) | (refine Below.via ?_ (by assumption) (by first | omega | (simp; done) | (simp; omega) | exact Below.size (by assumption) | exact Nat.le_trans (Below.size (by assumption)) (by simp)))))⟩
  have hv := Lib.hid (cg_yes heh.out hr hfv.out)
  clear hr
  have B2 : Below w.heap.size w w2b := (by repeat (first | exact Below.refl _ _ | assumption | refine Below.drew ?_ | refine below_drewN ?_ _ | refine Below.alloc' ?_ _ | (refine Below.setCell ?_ (by first | omega | (simp; done) | (simp; omega) | exact Below.size (by assumption) | exact Nat.le_trans (Below.size (by assumption)) (by simp)) _) | (refine Below.via' ?_ (by assumption)) | (refine Below.alloc ?_ (by first | omega | (simp; done) | (simp; omega) | exact Below.size (by assumption) | exact Nat.le_trans (Below.size (by assumption)) (by simp)) _) | (refine Below.via ?_ (by assumption) (by first | omega | (simp; done) | (simp; omega) | exact Below.size (by assumption) | exact Nat.le_trans (Below.size (by assumption)) (by simp)))))
  clear hb1 hb2 hb2b
  go_wp2_with fail
  refine (eMaximal_any _ _ _ _ S Q _ _ heh.out (hSh.out.below (by exact (by repeat (first | exact Below.refl _ _ | assumption | refine Below.drew ?_ | refine below_drewN ?_ _ | refine Below.alloc' ?_ _ | (refine Below.setCell ?_ (by first | omega | (simp; done) | (simp; omega) | exact Below.size (by assumption) | exact Nat.le_trans (Below.size (by assumption)) (by simp)) _) | (refine Below.via' ?_ (by assumption)) | (refine Below.alloc ?_ (by first | omega | (simp; done) | (simp; omega) | exact Below.size (by assumption) | exact Nat.le_trans (Below.size (by assumption)) (by simp)) _) | (refine Below.via ?_ (by assumption) (by first | omega | (simp; done) | (simp; omega) | exact Below.size (by assumption) | exact Nat.le_trans (Below.size (by assumption)) (by simp))))))) (hQh.out.below (by exact (by repeat (first | exact Below.refl _ _ | assumption | refine Below.drew ?_ | refine below_drewN ?_ _ | refine Below.alloc' ?_ _ | (refine Below.setCell ?_ (by first | omega | (simp; done) | (simp; omega) | exact Below.size (by assumption) | exact Nat.le_trans (Below.size (by assumption)) (by simp)) _) | (refine Below.via' ?_ (by assumption)) | (refine Below.alloc ?_ (by first | omega | (simp; done) | (simp; omega) | exact Below.size (by assumption) | exact Nat.le_trans (Below.size (by assumption)) (by simp)) _) | (refine Below.via ?_ (by assumption) (by first | omega | (simp; done) | (simp; omega) | exact Below.size (by assumption) | exact Nat.le_trans (Below.size (by assumption)) (by simp)))))))).mono ?_
  rintro e w3 ⟨u3, T, rfl, hM, ho3, hb3⟩
  obtain ⟨x3, n3, rfl, -, -⟩ := (OwR.of ho3.1).form
  have hT := Lib.hid (ho3.ein hsh.out hM hcn.out)
  have hTl := hT.out.1
  have hMh := Lib.hid hM
  have B3 : Below w.heap.size w w3 := (by repeat (first | exact Below.refl _ _ | assumption | refine Below.drew ?_ | refine below_drewN ?_ _ | refine Below.alloc' ?_ _ | (refine Below.setCell ?_ (by first | omega | (simp; done) | (simp; omega) | exact Below.size (by assumption) | exact Nat.le_trans (Below.size (by assumption)) (by simp)) _) | (refine Below.via' ?_ (by assumption)) | (refine Below.alloc ?_ (by first | omega | (simp; done) | (simp; omega) | exact Below.size (by assumption) | exact Nat.le_trans (Below.size (by assumption)) (by simp)) _) | (refine Below.via ?_ (by assumption) (by first | omega | (simp; done) | (simp; omega) | exact Below.size (by assumption) | exact Nat.le_trans (Below.size (by assumption)) (by simp)))))
  have hs3 := B3.size
  have hl6 := (schB_len hsh.out).2
  have hTM : Hid (T.length = (mxL S (eM Q) (-1)).length) := by unfold Hid; rw [← hM, eM_len]
  clear hM hb3 B2 ho3
  go_wp2
  go_loopw [34] (fun c wr => ∃ i : Nat, i ≤ T.length ∧ c = .int .i64 i ∧ Hid (∀ j, j < i → ∀ E, (mxL S (eM Q) (-1))[j]? = some E → cvE S V I E = true) ∧ Below w3.heap.size w3 wr) (fun c _ => T.length - (intOf c).toNat)
  case atStart => exact ⟨0, by omega, rfl, (fun j hj => absurd hj (by omega)), Below.refl _ _⟩
  case round =>
    obtain ⟨i, hi, rfl, hall, hBr⟩ := hrel
    have hszr := hBr.size
    by_cases hlt : i < T.length
    · obtain ⟨bl, off, ⟨qa, qh, qx, qc, qL⟩, hxe, hbl, hTq, hc0⟩ := (hT.out.below hBr).2.2.ed hlt
      subst hxe
      have hqin := Lib.hid ((hT.out.2.1 _ (List.mem_of_getElem? hTq)).below hBr)
      have hqe := eM_at hTq
      rw [hMh.out] at hqe
      dsimp only at hc0 hqin hqe hTq
      have hqh := Lib.hid hqe
      have hed := Lib.hid (mx_ed (M := eM Q) (v := -1) hsh.out (List.mem_of_getElem? hqe))
      have hfi := Lib.hid (fine_of hsh.out hed.out hfv.out)
      have hlt' : (i : Int) < (T.length : Int) := by omega
      have hBw : Below w.heap.size w wr := B3.trans (hBr.mono hs3)
      have hBrh := Lib.hid hBr
      have hstep : Hid (cvE S V I qL = true → ∀ j, j < i + 1 → ∀ E, (mxL S (eM Q) (-1))[j]? = some E → cvE S V I E = true) := by
        intro hc j hj E hE
        rcases Nat.lt_or_ge j i with hj2 | hj2
        · exact hall.out j hj2 E hE
        · obtain rfl : j = i := by omega
          rw [hqh.out] at hE
          cases hE
          exact hc
      clear hTq hqe hBr
      obtain ⟨wo, rfl⟩ : ∃ q : World, q = wr := ⟨_, rfl⟩
      go_wp2_with fail
      refine (eFails_any _ _ _ _ qL V _ hfi.out (hqin.out.below (by exact (by repeat (first | exact Below.refl _ _ | assumption | refine Below.drew ?_ | refine below_drewN ?_ _ | refine Below.alloc' ?_ _ | (refine Below.setCell ?_ (by first | omega | (simp; done) | (simp; omega) | exact Below.size (by assumption) | exact Nat.le_trans (Below.size (by assumption)) (by simp)) _) | (refine Below.via' ?_ (by assumption)) | (refine Below.alloc ?_ (by first | omega | (simp; done) | (simp; omega) | exact Below.size (by assumption) | exact Nat.le_trans (Below.size (by assumption)) (by simp)) _) | (refine Below.via ?_ (by assumption) (by first | omega | (simp; done) | (simp; omega) | exact Below.size (by assumption) | exact Nat.le_trans (Below.size (by assumption)) (by simp))))))) (hVh.out.below (by exact (by repeat (first | exact Below.refl _ _ | assumption | refine Below.drew ?_ | refine below_drewN ?_ _ | refine Below.alloc' ?_ _ | (refine Below.setCell ?_ (by first | omega | (simp; done) | (simp; omega) | exact Below.size (by assumption) | exact Nat.le_trans (Below.size (by assumption)) (by simp)) _) | (refine Below.via' ?_ (by assumption)) | (refine Below.alloc ?_ (by first | omega | (simp; done) | (simp; omega) | exact Below.size (by assumption) | exact Nat.le_trans (Below.size (by assumption)) (by simp)) _) | (refine Below.via ?_ (by assumption) (by first | omega | (simp; done) | (simp; omega) | exact Below.size (by assumption) | exact Nat.le_trans (Below.size (by assumption)) (by simp)))))))).mono ?_
      rintro e w4 ⟨rfl, hb4⟩
      have hB4 : Below wo.heap.size wo w4 := (by repeat (first | exact Below.refl _ _ | assumption | refine Below.drew ?_ | refine below_drewN ?_ _ | refine Below.alloc' ?_ _ | (refine Below.setCell ?_ (by first | omega | (simp; done) | (simp; omega) | exact Below.size (by assumption) | exact Nat.le_trans (Below.size (by assumption)) (by simp)) _) | (refine Below.via' ?_ (by assumption)) | (refine Below.alloc ?_ (by first | omega | (simp; done) | (simp; omega) | exact Below.size (by assumption) | exact Nat.le_trans (Below.size (by assumption)) (by simp)) _) | (refine Below.via ?_ (by assumption) (by first | omega | (simp; done) | (simp; omega) | exact Below.size (by assumption) | exact Nat.le_trans (Below.size (by assumption)) (by simp)))))
      have hBw4 : Below w.heap.size w w4 := hBw.trans (hB4.mono hBw.size)
      have hB34 : Below w3.heap.size w3 w4 := hBrh.out.trans (hB4.mono hszr)
      cases hh : fsB qL V
      · have hok := Lib.hid (hstep.out (cvE_pass hh))
        clear hh hb4
        go_wp2
        go_roundw
        case rel => exact ⟨i + 1, by omega, by go_num, hok.out, hB34⟩
        case measure => simp [intOf]; omega
      · have hce := Lib.hid (cvE_fail (S := S) (I := I) hh)
        have z1 := (hb4.cell (p := ⟨wo.heap.size, 0, none⟩) (by simp)).trans (Boxed.new wo 90 (.slice qx qL.length qc)).cell
        clear hh hb4
        go_wp2_with fail
        refine (eInvolved_any _ _ _ _ S qL _ hsh.out hed.out (hSh.out.below (by exact hBw4)) (hqin.out.below (by exact hB4))).mono ?_
        rintro e w5 ⟨u5, rfl, ho5, hb5⟩
        obtain ⟨x5, n5, rfl, -, -⟩ := (OwR.of ho5).form
        have hiv : Hid (IIn w5 x5 (ivL S qL)) := pk_iin (by omega) (Rd.of_own ho5)
        have hBw5 : Below w.heap.size w w5 := hBw4.trans (hb5.mono hBw4.size)
        have hB35 : Below w3.heap.size w3 w5 := hB34.trans (hb5.mono hB34.size)
        clear ho5 hb5 z1
        go_wp2_with fail
        refine (iShares_any _ _ _ _ (ivL S qL) I _ hiv.out (hIh.out.below (by exact hBw5))).mono ?_
        rintro e w6 ⟨rfl, rfl⟩
        cases hc : shB (ivL S qL) I
        · have hv2 := Lib.hid (cv_ok hv.out (cva_hit hqh.out (by rw [hce.out, hc])))
          replace hc := Lib.hid hc
          go_wp2
          go_ret2
          exact ⟨ret_twoK hv2.out.symm hv.out.symm, hBw5⟩
        · have hok := Lib.hid (hstep.out (by rw [hce.out, hc]))
          replace hc := Lib.hid hc
          go_wp2
          go_roundw
          case rel => exact ⟨i + 1, by omega, by go_num, hok.out, hB35⟩
          case measure => simp [intOf]; omega
    · have hij : i = T.length := by omega
      have hv2 := Lib.hid (cv_ok hv.out (cva_all fun j E hE => hall.out j (by have := (List.getElem?_eq_some_iff.1 hE).1; have := hTM.out; omega) E hE))
      have hBr2 := B3.trans (hBr.mono hs3)
      subst hij
      clear hall
      go_wp2
      go_ret2
      exact ⟨ret_twoK hv2.out.symm hv.out.symm, hBr2⟩
set_option maxHeartbeats 2000000 in
theorem iCv_x (x y z f : Option Addr) (c1 c2 c3 c4 : Nat) (S : List (ByteArray × Int)) (Q : List PR) (V I : List Int) (w : World) (hS : SIn w x c1 S) (hQ : EIn w y Q) (hV : IIn w z V) (hI : IIn w f I) :
    Calls Try.prog 13 #[.slice x S.length c1, .slice y Q.length c2, .slice z V.length c3, .slice f I.length c4] w fun e w' => e = .returned (.tuple #[.bool (cvZ S (eM Q) V I), .bool (cgG S (eM Q) I V)]) ∧ Below w.heap.size w w' := by
  have hSh := Lib.hid hS
  have hQh := Lib.hid hQ
  have hVh := Lib.hid hV
  have hIh := Lib.hid hI
  have hm := hS.1
  clear hS hQ hV hI
  have hbx0 := Lib.hid (Boxed.new w 24 (.slice f I.length c4))
  go_enter Try.func13, Try.ntmps13
  go_wp2_with fail
  refine (isSmall_any _ _ _ _ (hSh.out.below (by exact (by repeat (first | exact Below.refl _ _ | assumption | refine Below.drew ?_ | refine below_drewN ?_ _ | refine Below.alloc' ?_ _ | (refine Below.setCell ?_ (by first | omega | (simp; done) | (simp; omega) | exact Below.size (by assumption) | exact Nat.le_trans (Below.size (by assumption)) (by simp)) _) | (refine Below.via' ?_ (by assumption)) | (refine Below.alloc ?_ (by first | omega | (simp; done) | (simp; omega) | exact Below.size (by assumption) | exact Nat.le_trans (Below.size (by assumption)) (by simp)) _) | (refine Below.via ?_ (by assumption) (by first | omega | (simp; done) | (simp; omega) | exact Below.size (by assumption) | exact Nat.le_trans (Below.size (by assumption)) (by simp)))))))).mono ?_
  rintro e w0 ⟨rfl, hb0⟩
  cases hs : smS S
  · have hv := Lib.hid (cg_no1 (F := I) (V := V) (sm_no3 (M := eM Q) hs))
    have hv2 := Lib.hid (cv_no hv.out)
    go_wp2
    go_ret2
    exact ⟨ret_twoK hv2.out.symm hv.out.symm, (by repeat (first | exact Below.refl _ _ | assumption | refine Below.drew ?_ | refine below_drewN ?_ _ | refine Below.alloc' ?_ _ | (refine Below.setCell ?_ (by first | omega | (simp; done) | (simp; omega) | exact Below.size (by assumption) | exact Nat.le_trans (Below.size (by assumption)) (by simp)) _) | (refine Below.via' ?_ (by assumption)) | (refine Below.alloc ?_ (by first | omega | (simp; done) | (simp; omega) | exact Below.size (by assumption) | exact Nat.le_trans (Below.size (by assumption)) (by simp)) _) | (refine Below.via ?_ (by assumption) (by first | omega | (simp; done) | (simp; omega) | exact Below.size (by assumption) | exact Nat.le_trans (Below.size (by assumption)) (by simp)))))⟩
  have hsh := Lib.hid (smS_get hs).1
  have hcn := Lib.hid (smS_get hs).2
  clear hs
  go_wp2_with fail
  refine (areEditsFor_any _ _ _ _ S Q _ hsh.out hm (hSh.out.rd.below (by exact (by repeat (first | exact Below.refl _ _ | assumption | refine Below.drew ?_ | refine below_drewN ?_ _ | refine Below.alloc' ?_ _ | (refine Below.setCell ?_ (by first | omega | (simp; done) | (simp; omega) | exact Below.size (by assumption) | exact Nat.le_trans (Below.size (by assumption)) (by simp)) _) | (refine Below.via' ?_ (by assumption)) | (refine Below.alloc ?_ (by first | omega | (simp; done) | (simp; omega) | exact Below.size (by assumption) | exact Nat.le_trans (Below.size (by assumption)) (by simp)) _) | (refine Below.via ?_ (by assumption) (by first | omega | (simp; done) | (simp; omega) | exact Below.size (by assumption) | exact Nat.le_trans (Below.size (by assumption)) (by simp))))))) (hQh.out.below (by exact (by repeat (first | exact Below.refl _ _ | assumption | refine Below.drew ?_ | refine below_drewN ?_ _ | refine Below.alloc' ?_ _ | (refine Below.setCell ?_ (by first | omega | (simp; done) | (simp; omega) | exact Below.size (by assumption) | exact Nat.le_trans (Below.size (by assumption)) (by simp)) _) | (refine Below.via' ?_ (by assumption)) | (refine Below.alloc ?_ (by first | omega | (simp; done) | (simp; omega) | exact Below.size (by assumption) | exact Nat.le_trans (Below.size (by assumption)) (by simp)) _) | (refine Below.via ?_ (by assumption) (by first | omega | (simp; done) | (simp; omega) | exact Below.size (by assumption) | exact Nat.le_trans (Below.size (by assumption)) (by simp)))))))).mono ?_
  rintro e w1 ⟨rfl, hb1⟩
  cases he : elB S (eM Q)
  · have hv := Lib.hid (cg_no1 (F := I) (V := V) (sm_no1 he))
    have hv2 := Lib.hid (cv_no hv.out)
    go_wp2
    go_ret2
    exact ⟨ret_twoK hv2.out.symm hv.out.symm, (by repeat (first | exact Below.refl _ _ | assumption | refine Below.drew ?_ | refine below_drewN ?_ _ | refine Below.alloc' ?_ _ | (refine Below.setCell ?_ (by first | omega | (simp; done) | (simp; omega) | exact Below.size (by assumption) | exact Nat.le_trans (Below.size (by assumption)) (by simp)) _) | (refine Below.via' ?_ (by assumption)) | (refine Below.alloc ?_ (by first | omega | (simp; done) | (simp; omega) | exact Below.size (by assumption) | exact Nat.le_trans (Below.size (by assumption)) (by simp)) _) | (refine Below.via ?_ (by assumption) (by first | omega | (simp; done) | (simp; omega) | exact Below.size (by assumption) | exact Nat.le_trans (Below.size (by assumption)) (by simp)))))⟩
  have hsm := Lib.hid (sm_yes he hcn.out)
  have heh := Lib.hid he
  clear he
  go_wp2_with fail
  refine (areValues_any _ _ _ _ S V _ hsh.out hm (hSh.out.rd.below (by exact (by repeat (first | exact Below.refl _ _ | assumption | refine Below.drew ?_ | refine below_drewN ?_ _ | refine Below.alloc' ?_ _ | (refine Below.setCell ?_ (by first | omega | (simp; done) | (simp; omega) | exact Below.size (by assumption) | exact Nat.le_trans (Below.size (by assumption)) (by simp)) _) | (refine Below.via' ?_ (by assumption)) | (refine Below.alloc ?_ (by first | omega | (simp; done) | (simp; omega) | exact Below.size (by assumption) | exact Nat.le_trans (Below.size (by assumption)) (by simp)) _) | (refine Below.via ?_ (by assumption) (by first | omega | (simp; done) | (simp; omega) | exact Below.size (by assumption) | exact Nat.le_trans (Below.size (by assumption)) (by simp))))))) (hVh.out.below (by exact (by repeat (first | exact Below.refl _ _ | assumption | refine Below.drew ?_ | refine below_drewN ?_ _ | refine Below.alloc' ?_ _ | (refine Below.setCell ?_ (by first | omega | (simp; done) | (simp; omega) | exact Below.size (by assumption) | exact Nat.le_trans (Below.size (by assumption)) (by simp)) _) | (refine Below.via' ?_ (by assumption)) | (refine Below.alloc ?_ (by first | omega | (simp; done) | (simp; omega) | exact Below.size (by assumption) | exact Nat.le_trans (Below.size (by assumption)) (by simp)) _) | (refine Below.via ?_ (by assumption) (by first | omega | (simp; done) | (simp; omega) | exact Below.size (by assumption) | exact Nat.le_trans (Below.size (by assumption)) (by simp)))))))).mono ?_
  rintro e w2 ⟨rfl, hb2⟩
  have hbx2 := Lib.hid (boxed_below (boxed_below (boxed_below hbx0.out hb0) hb1) hb2)
  have hc2 := hbx2.out.cell
  have B2 : Below w.heap.size w w2 := (by repeat (first | exact Below.refl _ _ | assumption | refine Below.drew ?_ | refine below_drewN ?_ _ | refine Below.alloc' ?_ _ | (refine Below.setCell ?_ (by first | omega | (simp; done) | (simp; omega) | exact Below.size (by assumption) | exact Nat.le_trans (Below.size (by assumption)) (by simp)) _) | (refine Below.via' ?_ (by assumption)) | (refine Below.alloc ?_ (by first | omega | (simp; done) | (simp; omega) | exact Below.size (by assumption) | exact Nat.le_trans (Below.size (by assumption)) (by simp)) _) | (refine Below.via ?_ (by assumption) (by first | omega | (simp; done) | (simp; omega) | exact Below.size (by assumption) | exact Nat.le_trans (Below.size (by assumption)) (by simp)))))
  cases hf : fitB S V
  · have hv := Lib.hid (cg_no3 (M := eM Q) (F := I) hf)
    have hv2 := Lib.hid (cv_no hv.out)
    go_wp2
    go_ret2
    exact ⟨ret_twoK hv2.out.symm hv.out.symm, B2⟩
  have hfv := Lib.hid hf
  clear hf hb0 hb1 hb2
  go_wp2_with fail
  refine (areVariablesOf_any _ _ _ _ S I _ hm (hIh.out.below (by exact B2))).mono ?_
  rintro e w2b ⟨rfl, rfl⟩
  cases hr : rsB S I
  · have hv := Lib.hid (cg_no2 (M := eM Q) (V := V) hr)
    have hv2 := Lib.hid (cv_no hv.out)
    go_wp2
    go_ret2
    exact ⟨ret_twoK hv2.out.symm hv.out.symm, B2⟩
  have hv := Lib.hid (cg_yes hsm.out hr hfv.out)
  clear hr hc2
  go_wp2_with fail
  refine (maximalEdits_any _ _ _ _ S Q _ heh.out hcn.out (hSh.out.below (by exact B2)) (hQh.out.below (by exact B2))).mono ?_
  rintro e w3 ⟨u3, T, rfl, hM, ho3, hb3⟩
  obtain ⟨x3, n3, rfl, -, -⟩ := (OwR.of ho3.1).form
  have hT := Lib.hid (ho3.ein hsh.out hM hcn.out)
  have hTl := hT.out.1
  have hMh := Lib.hid hM
  have hbx3 := Lib.hid (boxed_below hbx2.out hb3)
  have B3 : Below w.heap.size w w3 := B2.trans (hb3.mono B2.size)
  have hs3 := B3.size
  have hl6 := (schB_len hsh.out).2
  have hTM : Hid (T.length = (mxL S (eM Q) (-1)).length) := by unfold Hid; rw [← hM, eM_len]
  have hfi := Lib.hid (fun E (hE : E ∈ eM T) => fine_of hsh.out (mx_ed (M := eM Q) (v := -1) hsh.out (by rw [← hMh.out]; exact hE)) hfv.out)
  clear hM hb3 ho3
  go_wp2_with fail
  refine (failedEdits_any _ _ _ _ T V _ hfi.out hT.out (hVh.out.below (by exact B3))).mono ?_
  rintro e w4 ⟨u4, rfl, ho4, hb4⟩
  obtain ⟨x4, n4, rfl, -, -⟩ := (OwR.of ho4).form
  have hfl : Hid (IIn w4 x4 (feL (eM T) V)) := ⟨by have := feL_len (eM T) V; rw [eM_len] at this; omega, fun v hv => by
    obtain ⟨k, rfl, hk, _⟩ := pkUp_mem hv
    rw [eM_len] at hk
    unfold IsI64
    omega, Rd.of_own ho4⟩
  have hfll : (feL (eM T) V).length ≤ T.length := by have := feL_len (eM T) V; rw [eM_len] at this; exact this
  have hT4 := Lib.hid (hT.out.below hb4)
  have hbx4 := Lib.hid (boxed_below hbx3.out hb4)
  have B4 : Below w.heap.size w w4 := B3.trans (hb4.mono B3.size)
  clear ho4 hb4 B2
  go_wp2
  go_loopw [43] (fun c wr => ∃ i : Nat, i ≤ (feL (eM T) V).length ∧ c = .int .i64 i ∧ Hid (∀ j, j < i → ∀ k : Nat, (feL (eM T) V)[j]? = some (k : Int) → ∀ E, (mxL S (eM Q) (-1))[k]? = some E → shB (ivL S E) I = true) ∧ Below w4.heap.size w4 wr) (fun c _ => (feL (eM T) V).length - (intOf c).toNat)
  case atStart => exact ⟨0, by omega, rfl, (fun j hj => absurd hj (by omega)), Below.refl _ _⟩
  case round =>
    obtain ⟨i, hi, rfl, hall, hBr⟩ := hrel
    have hszr := hBr.size
    by_cases hlt : i < (feL (eM T) V).length
    · obtain ⟨bl0, off0, v, hxe4, hbl0, hvi, hc5⟩ := (hfl.out.below hBr).2.2.int hlt
      subst hxe4
      obtain ⟨k, rfl, hk, -⟩ := pkUp_mem (List.mem_of_getElem? hvi)
      rw [eM_len] at hk
      obtain ⟨bl, off, ⟨qa, qh, qx, qc, qL⟩, hxe, hbl, hTq, hc0⟩ := (hT4.out.below hBr).2.2.ed hk
      subst hxe
      have hqin := Lib.hid ((hT4.out.2.1 _ (List.mem_of_getElem? hTq)).below hBr)
      have hqe := eM_at hTq
      rw [hMh.out] at hqe
      dsimp only at hc0 hqin hqe hTq
      have hqh := Lib.hid hqe
      have hed := Lib.hid (mx_ed (M := eM Q) (v := -1) hsh.out (List.mem_of_getElem? hqe))
      have hlt' : (i : Int) < ((feL (eM T) V).length : Int) := by omega
      have hkT : (k : Int) < (T.length : Int) := by omega
      have hk0 : (0 : Int) ≤ (k : Int) := by omega
      have hBw : Below w.heap.size w wr := B4.trans (hBr.mono B4.size)
      have hBrh := Lib.hid hBr
      have hvih := Lib.hid hvi
      have hbxr := Lib.hid (boxed_below hbx4.out hBr)
      clear hTq hqe hBr hvi
      obtain ⟨wo, rfl⟩ : ∃ q : World, q = wr := ⟨_, rfl⟩
      go_wp2_with fail
      refine (involvedIn_any _ _ _ _ S qL _ hsh.out hed.out (hSh.out.below (by exact hBw)) hqin.out).mono ?_
      rintro e w5 ⟨u5, rfl, ho5, hb5⟩
      obtain ⟨x5, n5, rfl, -, -⟩ := (OwR.of ho5).form
      have hiv : Hid (IIn w5 x5 (ivL S qL)) := pk_iin (by omega) (Rd.of_own ho5)
      have hBw5 : Below w.heap.size w w5 := hBw.trans (hb5.mono hBw.size)
      have hB45 : Below w4.heap.size w4 w5 := hBrh.out.trans (hb5.mono hszr)
      have hbx5 := Lib.hid (boxed_below hbxr.out hb5)
      clear ho5 hb5
      go_wp2_with fail
      refine (containsIn_any _ _ _ _ _ (ivL S qL) I _ hiv.out hbx5.out (hIh.out.below (by exact hBw5))).mono ?_
      rintro e w6 ⟨rfl, rfl⟩
      cases hc : shB (ivL S qL) I
      · have hfs : Hid (fsB qL V = true) := by
          obtain ⟨k2, h2, h3, h4⟩ := pkUp_mem (List.mem_of_getElem? hvih.out)
          obtain rfl : k = k2 := by omega
          rw [hMh.out] at h4
          rw [fe_at hqh.out] at h4
          exact h4
        have hv2 := Lib.hid (cv_ok hv.out (cva_hit hqh.out (by rw [cvE_fail hfs.out, hc])))
        replace hc := Lib.hid hc
        go_wp2
        go_ret2
        exact ⟨ret_twoK hv2.out.symm hv.out.symm, hBw5⟩
      · have hch := Lib.hid hc
        clear hc
        go_wp2
        go_roundw
        case rel =>
          refine ⟨i + 1, by omega, by go_num, fun j hj k2 h2 E hE => ?_, hB45⟩
          rcases Nat.lt_or_ge j i with hj2 | hj2
          · exact hall.out j hj2 k2 h2 E hE
          · obtain rfl : j = i := by omega
            rw [hvih.out] at h2
            have hkk : k = k2 := by have := Option.some.inj h2; omega
            subst hkk
            rw [hqh.out] at hE
            cases hE
            exact hch.out
        case measure => simp [intOf]; omega
    · have hij : i = (feL (eM T) V).length := by omega
      have hv2 := Lib.hid (cv_ok hv.out (cva_idx (S := S) (M := eM Q) (V := V) (I := I) fun k E hE hf => by
        have hk : k < (eM T).length := by rw [hMh.out]; exact (List.getElem?_eq_some_iff.1 hE).1
        have hmem : ((k : Nat) : Int) ∈ feL (eM T) V := List.mem_map.2 ⟨k, List.mem_filter.2 ⟨List.mem_range.2 hk, by rw [hMh.out, fe_at hE]; exact hf⟩, rfl⟩
        obtain ⟨j, hj, e⟩ := List.getElem_of_mem hmem
        exact hall.out j (by omega) k (by rw [List.getElem?_eq_getElem hj, e]) E hE))
      have hBr2 := B4.trans (hBr.mono B4.size)
      subst hij
      clear hall
      go_wp2
      go_ret2
      exact ⟨ret_twoK hv2.out.symm hv.out.symm, hBr2⟩
theorem sCv_m (x y z f : Option Addr) (c1 c2 c3 c4 : Nat) (S : List (ByteArray × Int)) (Q : List PR) (V I : List Int) (w : World) (hS : SIn w x c1 S) (hQ : EIn w y Q) (hV : IIn w z V) (hI : IIn w f I) (M : List (List Int)) (hM : eM Q = M) :
    Calls Try.prog 9 #[.slice x S.length c1, .slice y Q.length c2, .slice z V.length c3, .slice f I.length c4] w fun e w' => e = .returned (.tuple #[.bool (cvZ S M V I), .bool (cgG S M I V)]) ∧ Below w.heap.size w w' := by subst hM; exact sCv_x x y z f c1 c2 c3 c4 S Q V I w hS hQ hV hI
theorem iCv_m (x y z f : Option Addr) (c1 c2 c3 c4 : Nat) (S : List (ByteArray × Int)) (Q : List PR) (V I : List Int) (w : World) (hS : SIn w x c1 S) (hQ : EIn w y Q) (hV : IIn w z V) (hI : IIn w f I) (M : List (List Int)) (hM : eM Q = M) :
    Calls Try.prog 13 #[.slice x S.length c1, .slice y Q.length c2, .slice z V.length c3, .slice f I.length c4] w fun e w' => e = .returned (.tuple #[.bool (cvZ S M V I), .bool (cgG S M I V)]) ∧ Below w.heap.size w w' := by subst hM; exact iCv_x x y z f c1 c2 c3 c4 S Q V I w hS hQ hV hI
end Go.Proofs.Ytgkaalonmkcclab

namespace Go.Proofs.Ytgkaalonmkcclab
open Go.RowKit
set_option maxRecDepth 100000

/-- The edits that are marked from k on. -/
def mE (k : Int) : List PR → List PR
  | [] => []
  | q :: r => ⟨q.a, q.h, q.x, q.c, mkL k q.L.length⟩ :: mE (k + q.L.length) r
theorem mE_len : ∀ (k : Int) (Q : List PR), (mE k Q).length = Q.length
  | _, [] => rfl
  | k, q :: r => by simp [mE, mE_len _ r]
theorem mE_app : ∀ (k : Int) (Q T : List PR), mE k (Q ++ T) = mE k Q ++ mE (k + tot Q) T
  | k, [], T => by simp [mE, tot]
  | k, q :: r, T => by
    simp only [List.cons_append, mE, mE_app _ r T]
    congr 3
    unfold tot
    simp only [List.map_cons, List.sum_cons]
    omega
theorem mE_step (k : Int) {Q : List PR} {i : Nat} {q : PR} (h : Q[i]? = some q) (hi : i < Q.length) :
    mE k (Q.take (i + 1)) ++ Q.drop (i + 1) = (mE k (Q.take i) ++ Q.drop i).set i ⟨q.a, q.h, q.x, q.c, mkL (k + tot (Q.take i)) q.L.length⟩ := by
  have hl : (mE k (Q.take i)).length = i := by rw [mE_len, List.length_take]; omega
  have hd : Q.drop i = q :: Q.drop (i + 1) := by
    rw [List.drop_eq_getElem_cons hi]
    rw [List.getElem?_eq_getElem hi] at h
    injection h with h
    rw [h]
  rw [List.set_append_right _ _ (by omega), hl, Nat.sub_self, hd, List.set_cons_zero, take_snoc h, mE_app, List.append_assoc]
  rfl
theorem mE_at (k : Int) {Q : List PR} {i : Nat} {q : PR} (h : Q[i]? = some q) (hi : i < Q.length) :
    (mE k Q)[i]? = some ⟨q.a, q.h, q.x, q.c, mkL (k + tot (Q.take i)) q.L.length⟩ := by
  have hl : (mE k (Q.take i)).length = i := by rw [mE_len, List.length_take]; omega
  have e : mE k Q = mE k (Q.take (i + 1)) ++ mE (k + tot (Q.take (i + 1))) (Q.drop (i + 1)) := by rw [← mE_app, List.take_append_drop]
  rw [e, List.getElem?_append_left (by rw [mE_len, List.length_take]; omega), take_snoc h, mE_app, List.getElem?_append_right (by omega), hl, Nat.sub_self]
  rfl
theorem eC_setL : ∀ (Q : List PR) (i : Nat) (q : PR) (M : List Int), Q[i]? = some q → M.length = q.L.length → eC (Q.set i ⟨q.a, q.h, q.x, q.c, M⟩) = eC Q
  | [], i, q, M, h, _ => by simp at h
  | p :: r, 0, q, M, h, hl => by simp at h; subst h; simp [eC, PR.v, hl]
  | p :: r, i + 1, q, M, h, hl => by
    simp only [List.getElem?_cons_succ] at h
    have := eC_setL r i q M h hl
    unfold eC at this ⊢
    simp only [List.set_cons_succ, List.map_cons, this]
section
variable {w w1 : World} {lo hi : Nat} {te ti : TypeId} {Q : List PR} {i g c : Nat} {q : PR}
/-- The row of edit i is written. -/
theorem OwE.turn {M : List Int} (h : OwE w lo hi te ti (.slice (some ⟨g, 0, none⟩) Q.length c) Q) (hq : Q[i]? = some q) (hl : M.length = q.L.length) (hr : w1.ownsRow lo ti 1 q.v q.L.length (iC M)) (hg : w.grownBy w1 q.v.ownBlock) :
    OwE w1 lo hi te ti (.slice (some ⟨g, 0, none⟩) (Q.set i ⟨q.a, q.h, q.x, q.c, M⟩).length c) (Q.set i ⟨q.a, q.h, q.x, q.c, M⟩) := by
  obtain ⟨h1, h2, h3⟩ := h
  have hmem := List.mem_of_getElem? hq
  have hpv : (PR.mk q.a q.h q.x q.c M).v = q.v := by unfold PR.v; rw [hl]
  refine ⟨⟨?_, fun k hk => h1.2 k hk⟩, ⟨fun r hr2 => ?_, ?_⟩, fun r hr2 k hk => ?_⟩
  · rw [List.length_set, eC_setL Q i q M hq hl]
    refine h1.1.kept hg (Or.inr fun e => h3 q hmem g rfl ?_)
    rw [← e]; rfl
  · rcases mem_set_cases hr2 with rfl | ⟨j, hji, hj⟩
    · rw [hpv]; exact ⟨by rw [hl]; exact hr, (h2.1 q hmem).2⟩
    · have hrm := List.mem_of_getElem? hj
      refine ⟨(h2.1 r hrm).1.kept hg ?_, (h2.1 r hrm).2⟩
      cases hb : r.v.ownBlock with
      | none => exact Or.inl rfl
      | some k => exact Or.inr fun e => blk_ne h2.2 hq hj hji e.symm hb
  · rw [blk_set hq (by rw [hpv])]; exact h2.2
  · rcases mem_set_cases hr2 with rfl | ⟨j, _, hj⟩
    · rw [hpv]; exact h3 q hmem k hk
    · exact h3 r (List.mem_of_getElem? hj) k hk
end
end Go.Proofs.Ytgkaalonmkcclab
