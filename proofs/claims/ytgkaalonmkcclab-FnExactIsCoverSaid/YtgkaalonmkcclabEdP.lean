/-
  The walks of chapter 5: how many lists of values pass; the model's; does any edit fail.
-/
import Derived.Test.YtgkaalonmkcclabEdX
import Derived.Test.YtgkaalonmkcclabAtK
namespace Go.Proofs.Ytgkaalonmkcclab
open Go.RowKit
set_option maxRecDepth 100000

/-- Does any edit of a list fail? How many of the first n lists of values pass? -/
def faB (M : List (List Int)) (V : List Int) : Bool := M.any fun E => fsB E V
theorem fa_hit {M : List (List Int)} {V E : List Int} {i : Nat} (h : M[i]? = some E) (k : fsB E V = true) : faB M V = true := by
  unfold faB
  rw [List.any_eq_true]
  exact ⟨E, List.mem_of_getElem? h, k⟩
theorem fa_none {M : List (List Int)} {V : List Int} (h : ∀ j, j < M.length → ∃ E, M[j]? = some E ∧ fsB E V = false) : faB M V = false := by
  unfold faB
  rw [List.any_eq_false]
  intro E hE
  obtain ⟨j, hj, e⟩ := List.getElem_of_mem hE
  obtain ⟨F, h1, h2⟩ := h j hj
  rw [List.getElem?_eq_getElem hj, e] at h1
  cases h1
  rw [h2]
  exact Bool.false_ne_true
theorem fe_none {M : List (List Int)} {V : List Int} : ((feL M V).length = 0) ↔ faB M V = false := by
  unfold feL feUp pkUp faB
  rw [List.length_map, List.length_eq_zero_iff, List.filter_eq_nil_iff, List.any_eq_false]
  constructor
  · intro h E hE
    obtain ⟨j, hj, e⟩ := List.getElem_of_mem hE
    have := h j (List.mem_range.2 hj)
    rwa [fe_at (List.getElem?_eq_getElem hj), e] at this
  · intro h j hj
    have hj := List.mem_range.1 hj
    rw [fe_at (List.getElem?_eq_getElem hj)]
    exact h _ (List.getElem_mem hj)
def cpN (S : List (ByteArray × Int)) (M : List (List Int)) (n : Nat) : Nat := ((List.range n).filter fun i : Nat => !faB M (atL S i)).length
theorem cpN_zero (S : List (ByteArray × Int)) (M : List (List Int)) : cpN S M 0 = 0 := rfl
theorem cpN_yes {S : List (ByteArray × Int)} {M : List (List Int)} {n : Nat} (h : faB M (atL S n) = false) : cpN S M (n + 1) = cpN S M n + 1 := by
  unfold cpN
  rw [List.range_succ, List.filter_append]
  simp [h]
theorem cpN_no {S : List (ByteArray × Int)} {M : List (List Int)} {n : Nat} (h : faB M (atL S n) = true) : cpN S M (n + 1) = cpN S M n := by
  unfold cpN
  rw [List.range_succ, List.filter_append]
  simp [h]
theorem cpN_le (S : List (ByteArray × Int)) (M : List (List Int)) (n : Nat) : cpN S M n ≤ n := by
  unfold cpN
  exact Nat.le_trans (List.length_filter_le _ _) (by simp)
/-- A schema, a list of edits, and not too many lists of values. -/
def cpB (S : List (ByteArray × Int)) (M : List (List Int)) : Bool := elB S M && decide (cnZ S ≤ 20000)
theorem cp_no1 {S : List (ByteArray × Int)} {M : List (List Int)} (h : elB S M = false) : cpB S M = false := by unfold cpB; rw [h]; rfl
theorem cp_no2 {S : List (ByteArray × Int)} {M : List (List Int)} (h : 20000 < cnZ S) : cpB S M = false := by unfold cpB; rw [decide_eq_false (by omega), Bool.and_false]
theorem cp_yes {S : List (ByteArray × Int)} {M : List (List Int)} (h : elB S M = true) (k : ¬ 20000 < cnZ S) : cpB S M = true := by unfold cpB; rw [h, decide_eq_true (by omega)]; rfl
theorem at_digE {S : List (ByteArray × Int)} (i : Int) {m : Nat} (hm : m < S.length) : ∀ d j, j + d = m → (atF S i j).2[m]? = some ((atF S i (m + 1)).1 % lvA S m)
  | 0, j, h => by
    obtain rfl : j = m := by omega
    rw [atF_step i hm]
    unfold atStp
    simp only
    rw [List.getElem?_set_self]
    have := atFr_len S i (cmL S.length (j + 1))
    unfold atF
    omega
  | d + 1, j, h => by
    rw [atF_step i (show j < S.length by omega)]
    unfold atStp
    simp only
    rw [List.getElem?_set_ne (by omega)]
    exact at_digE i hm d (j + 1) (by omega)
theorem at_fitE {S : List (ByteArray × Int)} (hs : schB S = true) {i : Int} (h0 : 0 ≤ i) : fitB S (atL S i) = true := by
  refine fit_all (atL_len S i) (fun j hj => ?_)
  obtain ⟨l1, l2⟩ := lvA_bd hs hj
  have p := (atFr_bd hs h0 (cmL S.length (j + 1)) (fun k hk => cmL_lt hk)).1
  exact ⟨_, _, _, at_nm hj, at_digE (S := S) i hj j 0 (by omega), Int.emod_nonneg _ (by omega), Int.emod_lt_of_pos _ (by omega)⟩
theorem atL_iin {w : World} {u : Option Addr} {S : List (ByteArray × Int)} (hs : schB S = true) {i : Int} (h0 : 0 ≤ i) (hr : Rd w u (iC (atL S i))) : IIn w u (atL S i) := by
  have hf := at_fitE hs h0
  have hl := fit_len hf
  have h6 := (schB_len hs).2
  refine ⟨by omega, fun n hn => ?_, hr⟩
  obtain ⟨j, hj, e⟩ := List.getElem_of_mem hn
  have h1 : S[j]? = some ((S[j]'(by omega)).1, (S[j]'(by omega)).2) := List.getElem?_eq_getElem (by omega)
  have h2 := List.getElem?_eq_getElem hj
  have h3 := fit_get hf h1 h2
  have h4 := schB_lv hs h1
  rw [e] at h3
  unfold IsI64
  omega
set_option maxHeartbeats 1000000 in
theorem failsAny_any (y z : Option Addr) (c2 c3 : Nat) (Q : List PR) (V : List Int) (w : World) (hf : ∀ E ∈ eM Q, Fine E V) (hQ : EIn w y Q) (hV : IIn w z V) :
    Calls Try.prog 69 #[.slice y Q.length c2, .slice z V.length c3] w fun e w' => e = .returned (.bool (faB (eM Q) V)) ∧ Below w.heap.size w w' := by
  have hQh := Lib.hid hQ
  have hVh := Lib.hid hV
  have hfh := Lib.hid hf
  have hQl := hQ.1
  have hel := Lib.hid (eM_len Q)
  clear hQ hV hf
  go_enter Try.func69, Try.ntmps69
  go_wp2
  go_loopw [9] (fun c wr => ∃ i : Nat, i ≤ Q.length ∧ c = .int .i64 i ∧ Hid (∀ j, j < i → ∃ E, (eM Q)[j]? = some E ∧ fsB E V = false) ∧ Below w.heap.size w wr) (fun c _ => Q.length - (intOf c).toNat)
  case atStart => exact ⟨0, by omega, rfl, (fun j hj => absurd hj (by omega)), Below.refl _ _⟩
  case round =>
    obtain ⟨i, hi, rfl, hall, hBr⟩ := hrel
    by_cases hlt : i < Q.length
    · obtain ⟨bl, off, q, rfl, hbl, hQq, hc0⟩ := (hQh.out.below hBr).2.2.ed hlt
      have hE := Lib.hid ((hQh.out.2.1 q (List.mem_of_getElem? hQq)).below hBr)
      have hqe := Lib.hid (eM_at hQq)
      have hfi := Lib.hid (hfh.out _ (List.mem_of_getElem? hqe.out))
      have hlt' : (i : Int) < (Q.length : Int) := by omega
      clear hQq
      cases hh : fsB q.L V
      · have hhh := Lib.hid hh
        go_wp2_with fail
        refine (failsEdit_any _ _ _ _ q.L V _ hfi.out (hE.out.below (by exact (by repeat (first | exact Below.refl _ _ | assumption | refine Below.drew ?_ | refine below_drewN ?_ _ | refine Below.alloc' ?_ _ | (refine Below.setCell ?_ (by first | omega | (simp; done) | (simp; omega) | exact Below.size (by assumption) | exact Nat.le_trans (Below.size (by assumption)) (by simp)) _) | (refine Below.via' ?_ (by assumption)) | (refine Below.alloc ?_ (by first | omega | (simp; done) | (simp; omega) | exact Below.size (by assumption) | exact Nat.le_trans (Below.size (by assumption)) (by simp)) _) | (refine Below.via ?_ (by assumption) (by first | omega | (simp; done) | (simp; omega) | exact Below.size (by assumption) | exact Nat.le_trans (Below.size (by assumption)) (by simp))))))) (hVh.out.below (by exact (by repeat (first | exact Below.refl _ _ | assumption | refine Below.drew ?_ | refine below_drewN ?_ _ | refine Below.alloc' ?_ _ | (refine Below.setCell ?_ (by first | omega | (simp; done) | (simp; omega) | exact Below.size (by assumption) | exact Nat.le_trans (Below.size (by assumption)) (by simp)) _) | (refine Below.via' ?_ (by assumption)) | (refine Below.alloc ?_ (by first | omega | (simp; done) | (simp; omega) | exact Below.size (by assumption) | exact Nat.le_trans (Below.size (by assumption)) (by simp)) _) | (refine Below.via ?_ (by assumption) (by first | omega | (simp; done) | (simp; omega) | exact Below.size (by assumption) | exact Nat.le_trans (Below.size (by assumption)) (by simp)))))))).mono ?_
        rintro e w3 ⟨rfl, hb3⟩
        rw [hh]
        go_wp2
        go_roundw
        case rel =>
          refine ⟨i + 1, by omega, by go_num, fun j hj => ?_, (by repeat (first | exact Below.refl _ _ | assumption | refine Below.drew ?_ | refine below_drewN ?_ _ | refine Below.alloc' ?_ _ | (refine Below.setCell ?_ (by first | omega | (simp; done) | (simp; omega) | exact Below.size (by assumption) | exact Nat.le_trans (Below.size (by assumption)) (by simp)) _) | (refine Below.via' ?_ (by assumption)) | (refine Below.alloc ?_ (by first | omega | (simp; done) | (simp; omega) | exact Below.size (by assumption) | exact Nat.le_trans (Below.size (by assumption)) (by simp)) _) | (refine Below.via ?_ (by assumption) (by first | omega | (simp; done) | (simp; omega) | exact Below.size (by assumption) | exact Nat.le_trans (Below.size (by assumption)) (by simp)))))⟩
          rcases Nat.lt_or_ge j i with hj2 | hj2
          · exact hall.out j hj2
          · obtain rfl : j = i := by omega
            exact ⟨_, hqe.out, hhh.out⟩
        case measure => simp [intOf]; omega
      · have hv := Lib.hid (fa_hit hqe.out hh)
        go_wp2_with fail
        refine (failsEdit_any _ _ _ _ q.L V _ hfi.out (hE.out.below (by exact (by repeat (first | exact Below.refl _ _ | assumption | refine Below.drew ?_ | refine below_drewN ?_ _ | refine Below.alloc' ?_ _ | (refine Below.setCell ?_ (by first | omega | (simp; done) | (simp; omega) | exact Below.size (by assumption) | exact Nat.le_trans (Below.size (by assumption)) (by simp)) _) | (refine Below.via' ?_ (by assumption)) | (refine Below.alloc ?_ (by first | omega | (simp; done) | (simp; omega) | exact Below.size (by assumption) | exact Nat.le_trans (Below.size (by assumption)) (by simp)) _) | (refine Below.via ?_ (by assumption) (by first | omega | (simp; done) | (simp; omega) | exact Below.size (by assumption) | exact Nat.le_trans (Below.size (by assumption)) (by simp))))))) (hVh.out.below (by exact (by repeat (first | exact Below.refl _ _ | assumption | refine Below.drew ?_ | refine below_drewN ?_ _ | refine Below.alloc' ?_ _ | (refine Below.setCell ?_ (by first | omega | (simp; done) | (simp; omega) | exact Below.size (by assumption) | exact Nat.le_trans (Below.size (by assumption)) (by simp)) _) | (refine Below.via' ?_ (by assumption)) | (refine Below.alloc ?_ (by first | omega | (simp; done) | (simp; omega) | exact Below.size (by assumption) | exact Nat.le_trans (Below.size (by assumption)) (by simp)) _) | (refine Below.via ?_ (by assumption) (by first | omega | (simp; done) | (simp; omega) | exact Below.size (by assumption) | exact Nat.le_trans (Below.size (by assumption)) (by simp)))))))).mono ?_
        rintro e w3 ⟨rfl, hb3⟩
        rw [hh]
        go_wp2
        go_ret
        exact ⟨ret_bool hv.out.symm, (by repeat (first | exact Below.refl _ _ | assumption | refine Below.drew ?_ | refine below_drewN ?_ _ | refine Below.alloc' ?_ _ | (refine Below.setCell ?_ (by first | omega | (simp; done) | (simp; omega) | exact Below.size (by assumption) | exact Nat.le_trans (Below.size (by assumption)) (by simp)) _) | (refine Below.via' ?_ (by assumption)) | (refine Below.alloc ?_ (by first | omega | (simp; done) | (simp; omega) | exact Below.size (by assumption) | exact Nat.le_trans (Below.size (by assumption)) (by simp)) _) | (refine Below.via ?_ (by assumption) (by first | omega | (simp; done) | (simp; omega) | exact Below.size (by assumption) | exact Nat.le_trans (Below.size (by assumption)) (by simp)))))⟩
    · have hij : i = Q.length := by omega
      subst hij
      have hv := Lib.hid (fa_none (V := V) (fun j hj => hall.out j (by rw [hel.out] at hj; exact hj)))
      clear hall
      go_wp2
      go_ret
      exact ⟨ret_bool hv.out.symm, hBr⟩

/-- What the model's search gives: the number, and some slice. -/
def EpPost (S : List (ByteArray × Int)) (M : List (List Int)) (w : World) (e : Ending) (w' : World) : Prop := ∃ u, e = .returned (.tuple #[.int .i64 (cpN S M (cnZ S).toNat), u]) ∧ Below w.heap.size w w'
end Go.Proofs.Ytgkaalonmkcclab
