/-
  The walks of chapter 3: the same data; the program's and the model's.
-/
import Derived.Test.YtdakmdjcmjpogaaRecY
namespace Go.Proofs.Ytdakmdjcmjpogaa
open Go.RowKit
set_option maxRecDepth 100000

/-- Are two lists of records the same? -/
def smB (A B : List RV) : Bool := decide (A = B)
theorem smB_len {A B : List RV} (h : A.length ≠ B.length) : smB A B = false := by
  unfold smB; rw [decide_eq_false_iff_not]; intro e; exact h (by rw [e])
theorem smB_bad {A B : List RV} {i : Nat} {a b : RV} (ha : A[i]? = some a) (hb : B[i]? = some b) (h : rcZ a b ≠ 0) : smB A B = false := by
  unfold smB; rw [decide_eq_false_iff_not]; intro e
  rw [e, hb] at ha
  injection ha with ha
  exact h (by rw [ha]; exact rcZ_self _)
theorem smB_all {A B : List RV} (hl : A.length = B.length) (h : ∀ j, j < A.length → A[j]? = B[j]?) : smB A B = true := by
  unfold smB; rw [decide_eq_true_eq]
  apply List.ext_getElem?
  intro j
  rcases Nat.lt_or_ge j A.length with hj | hj
  · exact h j hj
  · rw [List.getElem?_eq_none (by omega), List.getElem?_eq_none (by omega)]

theorem areEqualRecords_any (x y : Option Addr) (c1 c2 : Nat) (a h b k : Int) (A B : List Int) (w : World) (hA : A.length ≤ 9223372036854775807) (hx : Rd w x (iC A)) (hy : Rd w y (iC B)) :
    Calls Try.prog 102 #[.agg #[.int .i64 a, .int .i64 h, .slice x A.length c1], .agg #[.int .i64 b, .int .i64 k, .slice y B.length c2]] w fun e w' => e = .returned (.bool (rcZ (a, h, A) (b, k, B) == 0)) ∧ Below w.heap.size w w' := by
  have hAh := Lib.hid hx
  have hBh := Lib.hid hy
  clear hx hy
  go_enter Try.func102, Try.ntmps102
  go_wp2_with fail
  refine (iCR_x _ _ _ _ a h b k A B _ hA (hAh.out.below (by exact (by repeat (first | exact Below.refl _ _ | assumption | refine Below.drew ?_ | refine below_drewN ?_ _ | refine Below.alloc' ?_ _ | (refine Below.setCell ?_ (by first | omega | (simp; done) | (simp; omega) | exact Below.size (by assumption) | exact Nat.le_trans (Below.size (by assumption)) (by simp)) _) | (refine Below.via' ?_ (by assumption)) | (refine Below.alloc ?_ (by first | omega | (simp; done) | (simp; omega) | exact Below.size (by assumption) | exact Nat.le_trans (Below.size (by assumption)) (by simp)) _) | (refine Below.via ?_ (by assumption) (by first | omega | (simp; done) | (simp; omega) | exact Below.size (by assumption) | exact Nat.le_trans (Below.size (by assumption)) (by simp))))))) (hBh.out.below (by exact (by repeat (first | exact Below.refl _ _ | assumption | refine Below.drew ?_ | refine below_drewN ?_ _ | refine Below.alloc' ?_ _ | (refine Below.setCell ?_ (by first | omega | (simp; done) | (simp; omega) | exact Below.size (by assumption) | exact Nat.le_trans (Below.size (by assumption)) (by simp)) _) | (refine Below.via' ?_ (by assumption)) | (refine Below.alloc ?_ (by first | omega | (simp; done) | (simp; omega) | exact Below.size (by assumption) | exact Nat.le_trans (Below.size (by assumption)) (by simp)) _) | (refine Below.via ?_ (by assumption) (by first | omega | (simp; done) | (simp; omega) | exact Below.size (by assumption) | exact Nat.le_trans (Below.size (by assumption)) (by simp)))))))).mono ?_
  rintro e w2 ⟨rfl, hb2, -⟩
  go_wp2
  go_ret
  exact ⟨rfl, (by repeat (first | exact Below.refl _ _ | assumption | refine Below.drew ?_ | refine below_drewN ?_ _ | refine Below.alloc' ?_ _ | (refine Below.setCell ?_ (by first | omega | (simp; done) | (simp; omega) | exact Below.size (by assumption) | exact Nat.le_trans (Below.size (by assumption)) (by simp)) _) | (refine Below.via' ?_ (by assumption)) | (refine Below.alloc ?_ (by first | omega | (simp; done) | (simp; omega) | exact Below.size (by assumption) | exact Nat.le_trans (Below.size (by assumption)) (by simp)) _) | (refine Below.via ?_ (by assumption) (by first | omega | (simp; done) | (simp; omega) | exact Below.size (by assumption) | exact Nat.le_trans (Below.size (by assumption)) (by simp)))))⟩

set_option maxHeartbeats 4000000 in
theorem equalFunc_any (x y : Option Addr) (c1 c2 : Nat) (Q T : List PR) (w : World) (hm : Q.length ≤ 1048576) (hQ : Rd w x (pC Q) ∧ ∀ q ∈ Q, q.L.length ≤ 1048576 ∧ Rd w q.x (iC q.L)) (hT : Rd w y (pC T) ∧ ∀ q ∈ T, q.L.length ≤ 1048576 ∧ Rd w q.x (iC q.L)) :
    Calls Try.prog 101 #[.slice x Q.length c1, .slice y T.length c2, .func (.func 102) #[] #[]] w fun e w' => e = .returned (.bool (smB (pM Q) (pM T))) ∧ Below w.heap.size w w' := by
  have hQh := Lib.hid hQ
  have hTh := Lib.hid hT
  clear hQ hT
  by_cases hl : Q.length = T.length
  · have e1 : ((Q.length : Int) == (T.length : Int)) = true := by rw [beq_iff_eq]; omega
    have e2 : ((Q.length : Int) != (T.length : Int)) = false := by show (!((Q.length : Int) == (T.length : Int))) = false; rw [e1]; rfl
    have hll := Lib.hid hl
    clear hl
    go_enter Try.func101, Try.ntmps101
    go_wp2
    clear e1 e2
    go_loopw [17] (fun c wr => ∃ i : Nat, i ≤ Q.length ∧ c = .int .i64 i ∧ Hid (∀ j, j < i → (pM Q)[j]? = (pM T)[j]?) ∧ Below w.heap.size w wr) (fun c _ => Q.length - (intOf c).toNat)
    case atStart => exact ⟨0, by omega, rfl, (fun j hj => absurd hj (by omega)), (by repeat (first | exact Below.refl _ _ | assumption | refine Below.drew ?_ | refine below_drewN ?_ _ | refine Below.alloc' ?_ _ | (refine Below.setCell ?_ (by first | omega | (simp; done) | (simp; omega) | exact Below.size (by assumption) | exact Nat.le_trans (Below.size (by assumption)) (by simp)) _) | (refine Below.via' ?_ (by assumption)) | (refine Below.alloc ?_ (by first | omega | (simp; done) | (simp; omega) | exact Below.size (by assumption) | exact Nat.le_trans (Below.size (by assumption)) (by simp)) _) | (refine Below.via ?_ (by assumption) (by first | omega | (simp; done) | (simp; omega) | exact Below.size (by assumption) | exact Nat.le_trans (Below.size (by assumption)) (by simp)))))⟩
    case round =>
      obtain ⟨i, hi, rfl, hall, hb⟩ := hrel
      by_cases hlt : i < Q.length
      · obtain ⟨bl, off, q, rfl, hbl, hQi, hc0, hc1, hc2⟩ := (hQh.out.1.below hb).rec hlt
        obtain ⟨bl2, off2, t, rfl, hbl2, hTi, hd0, hd1, hd2⟩ := (hTh.out.1.below hb).rec (i := i) (by have := hll.out; omega)
        have hqm := hQh.out.2 q (List.mem_of_getElem? hQi)
        have htm := hTh.out.2 t (List.mem_of_getElem? hTi)
        have hqr := Lib.hid (hqm.2.below hb)
        have htr := Lib.hid (htm.2.below hb)
        have hql := hqm.1
        have htl := htm.1
        clear hqm htm
        have hlt' : (i : Int) < (Q.length : Int) := by omega
        have hlt2' : (i : Int) < (T.length : Int) := by have := hll.out; omega
        have hi0 : (0 : Int) ≤ (i : Int) := by omega
        by_cases hz : rcZ (q.a, q.h, q.L) (t.a, t.h, t.L) = 0
        · have hzb : (rcZ (q.a, q.h, q.L) (t.a, t.h, t.L) == 0) = true := by rw [beq_iff_eq]; exact hz
          have hzn : (rcZ (q.a, q.h, q.L) (t.a, t.h, t.L) != 0) = false := by show (!(rcZ (q.a, q.h, q.L) (t.a, t.h, t.L) == 0)) = false; rw [hzb]; rfl
          have hst := Lib.hid (show (pM Q)[i]? = (pM T)[i]? from by rw [pM_at hQi, pM_at hTi]; exact congrArg some (rcZ_zero hz))
          clear hQi hTi
          replace hz := Lib.hid hz
          go_wp2_with fail
          refine (areEqualRecords_any _ _ _ _ q.a q.h t.a t.h q.L t.L _ (by omega) (hqr.out.below (by exact (by repeat (first | exact Below.refl _ _ | assumption | refine Below.drew ?_ | refine below_drewN ?_ _ | refine Below.alloc' ?_ _ | (refine Below.setCell ?_ (by first | omega | (simp; done) | (simp; omega) | exact Below.size (by assumption) | exact Nat.le_trans (Below.size (by assumption)) (by simp)) _) | (refine Below.via' ?_ (by assumption)) | (refine Below.alloc ?_ (by first | omega | (simp; done) | (simp; omega) | exact Below.size (by assumption) | exact Nat.le_trans (Below.size (by assumption)) (by simp)) _) | (refine Below.via ?_ (by assumption) (by first | omega | (simp; done) | (simp; omega) | exact Below.size (by assumption) | exact Nat.le_trans (Below.size (by assumption)) (by simp))))))) (htr.out.below (by exact (by repeat (first | exact Below.refl _ _ | assumption | refine Below.drew ?_ | refine below_drewN ?_ _ | refine Below.alloc' ?_ _ | (refine Below.setCell ?_ (by first | omega | (simp; done) | (simp; omega) | exact Below.size (by assumption) | exact Nat.le_trans (Below.size (by assumption)) (by simp)) _) | (refine Below.via' ?_ (by assumption)) | (refine Below.alloc ?_ (by first | omega | (simp; done) | (simp; omega) | exact Below.size (by assumption) | exact Nat.le_trans (Below.size (by assumption)) (by simp)) _) | (refine Below.via ?_ (by assumption) (by first | omega | (simp; done) | (simp; omega) | exact Below.size (by assumption) | exact Nat.le_trans (Below.size (by assumption)) (by simp)))))))).mono ?_
          rintro e w5 ⟨rfl, hb5⟩
          rw [hzb]
          go_wp2
          go_roundw
          case rel =>
            refine ⟨i + 1, by omega, by go_num, fun j hj => ?_, (by repeat (first | exact Below.refl _ _ | assumption | refine Below.drew ?_ | refine below_drewN ?_ _ | refine Below.alloc' ?_ _ | (refine Below.setCell ?_ (by first | omega | (simp; done) | (simp; omega) | exact Below.size (by assumption) | exact Nat.le_trans (Below.size (by assumption)) (by simp)) _) | (refine Below.via' ?_ (by assumption)) | (refine Below.alloc ?_ (by first | omega | (simp; done) | (simp; omega) | exact Below.size (by assumption) | exact Nat.le_trans (Below.size (by assumption)) (by simp)) _) | (refine Below.via ?_ (by assumption) (by first | omega | (simp; done) | (simp; omega) | exact Below.size (by assumption) | exact Nat.le_trans (Below.size (by assumption)) (by simp)))))⟩
            rcases Nat.lt_or_ge j i with hj2 | hj2
            · exact hall.out j hj2
            · obtain rfl : j = i := by omega
              exact hst.out
          case measure => simp [intOf]; omega
        · have hzb : (rcZ (q.a, q.h, q.L) (t.a, t.h, t.L) == 0) = false := by rw [beq_eq_false_iff_ne]; exact hz
          have hzn : (rcZ (q.a, q.h, q.L) (t.a, t.h, t.L) != 0) = true := by show (!(rcZ (q.a, q.h, q.L) (t.a, t.h, t.L) == 0)) = true; rw [hzb]; rfl
          have hv := Lib.hid (smB_bad (pM_at hQi) (pM_at hTi) hz)
          clear hQi hTi
          replace hz := Lib.hid hz
          go_wp2_with fail
          refine (areEqualRecords_any _ _ _ _ q.a q.h t.a t.h q.L t.L _ (by omega) (hqr.out.below (by exact (by repeat (first | exact Below.refl _ _ | assumption | refine Below.drew ?_ | refine below_drewN ?_ _ | refine Below.alloc' ?_ _ | (refine Below.setCell ?_ (by first | omega | (simp; done) | (simp; omega) | exact Below.size (by assumption) | exact Nat.le_trans (Below.size (by assumption)) (by simp)) _) | (refine Below.via' ?_ (by assumption)) | (refine Below.alloc ?_ (by first | omega | (simp; done) | (simp; omega) | exact Below.size (by assumption) | exact Nat.le_trans (Below.size (by assumption)) (by simp)) _) | (refine Below.via ?_ (by assumption) (by first | omega | (simp; done) | (simp; omega) | exact Below.size (by assumption) | exact Nat.le_trans (Below.size (by assumption)) (by simp))))))) (htr.out.below (by exact (by repeat (first | exact Below.refl _ _ | assumption | refine Below.drew ?_ | refine below_drewN ?_ _ | refine Below.alloc' ?_ _ | (refine Below.setCell ?_ (by first | omega | (simp; done) | (simp; omega) | exact Below.size (by assumption) | exact Nat.le_trans (Below.size (by assumption)) (by simp)) _) | (refine Below.via' ?_ (by assumption)) | (refine Below.alloc ?_ (by first | omega | (simp; done) | (simp; omega) | exact Below.size (by assumption) | exact Nat.le_trans (Below.size (by assumption)) (by simp)) _) | (refine Below.via ?_ (by assumption) (by first | omega | (simp; done) | (simp; omega) | exact Below.size (by assumption) | exact Nat.le_trans (Below.size (by assumption)) (by simp)))))))).mono ?_
          rintro e w5 ⟨rfl, hb5⟩
          rw [hzb]
          go_wp2
          go_ret
          exact ⟨ret_bool hv.out.symm, (by repeat (first | exact Below.refl _ _ | assumption | refine Below.drew ?_ | refine below_drewN ?_ _ | refine Below.alloc' ?_ _ | (refine Below.setCell ?_ (by first | omega | (simp; done) | (simp; omega) | exact Below.size (by assumption) | exact Nat.le_trans (Below.size (by assumption)) (by simp)) _) | (refine Below.via' ?_ (by assumption)) | (refine Below.alloc ?_ (by first | omega | (simp; done) | (simp; omega) | exact Below.size (by assumption) | exact Nat.le_trans (Below.size (by assumption)) (by simp)) _) | (refine Below.via ?_ (by assumption) (by first | omega | (simp; done) | (simp; omega) | exact Below.size (by assumption) | exact Nat.le_trans (Below.size (by assumption)) (by simp)))))⟩
      · have hij : i = Q.length := by omega
        subst hij
        have hv := Lib.hid (smB_all (A := pM Q) (B := pM T) (by rw [pM_len, pM_len, hll.out]) (by rw [pM_len]; exact hall.out))
        clear hall
        go_wp2
        go_ret
        exact ⟨ret_bool hv.out.symm, (by repeat (first | exact Below.refl _ _ | assumption | refine Below.drew ?_ | refine below_drewN ?_ _ | refine Below.alloc' ?_ _ | (refine Below.setCell ?_ (by first | omega | (simp; done) | (simp; omega) | exact Below.size (by assumption) | exact Nat.le_trans (Below.size (by assumption)) (by simp)) _) | (refine Below.via' ?_ (by assumption)) | (refine Below.alloc ?_ (by first | omega | (simp; done) | (simp; omega) | exact Below.size (by assumption) | exact Nat.le_trans (Below.size (by assumption)) (by simp)) _) | (refine Below.via ?_ (by assumption) (by first | omega | (simp; done) | (simp; omega) | exact Below.size (by assumption) | exact Nat.le_trans (Below.size (by assumption)) (by simp)))))⟩
  · have e1 : ((Q.length : Int) == (T.length : Int)) = false := by rw [beq_eq_false_iff_ne]; omega
    have e2 : ((Q.length : Int) != (T.length : Int)) = true := by show (!((Q.length : Int) == (T.length : Int))) = true; rw [e1]; rfl
    have hv := Lib.hid (smB_len (A := pM Q) (B := pM T) (by rw [pM_len, pM_len]; exact hl))
    replace hl := Lib.hid hl
    go_enter Try.func101, Try.ntmps101
    go_wp2
    go_ret
    exact ⟨ret_bool hv.out.symm, (by repeat (first | exact Below.refl _ _ | assumption | refine Below.drew ?_ | refine below_drewN ?_ _ | refine Below.alloc' ?_ _ | (refine Below.setCell ?_ (by first | omega | (simp; done) | (simp; omega) | exact Below.size (by assumption) | exact Nat.le_trans (Below.size (by assumption)) (by simp)) _) | (refine Below.via' ?_ (by assumption)) | (refine Below.alloc ?_ (by first | omega | (simp; done) | (simp; omega) | exact Below.size (by assumption) | exact Nat.le_trans (Below.size (by assumption)) (by simp)) _) | (refine Below.via ?_ (by assumption) (by first | omega | (simp; done) | (simp; omega) | exact Below.size (by assumption) | exact Nat.le_trans (Below.size (by assumption)) (by simp)))))⟩
set_option maxHeartbeats 4000000 in
theorem dSame_any (x y : Option Addr) (c1 c2 : Nat) (Q T : List PR) (w : World) (hm : Q.length ≤ 1048576) (hQ : Rd w x (pC Q) ∧ ∀ q ∈ Q, q.L.length ≤ 1048576 ∧ Rd w q.x (iC q.L)) (hT : Rd w y (pC T) ∧ ∀ q ∈ T, q.L.length ≤ 1048576 ∧ Rd w q.x (iC q.L)) :
    Calls Try.prog 100 #[.slice x Q.length c1, .slice y T.length c2] w fun e w' => e = .returned (.bool (smB (pM Q) (pM T))) ∧ Below w.heap.size w w' := by
  have hQh := Lib.hid hQ
  have hTh := Lib.hid hT
  clear hQ hT
  by_cases hl : Q.length = T.length
  · have e1 : ((Q.length : Int) == (T.length : Int)) = true := by rw [beq_iff_eq]; omega
    have e2 : ((Q.length : Int) != (T.length : Int)) = false := by show (!((Q.length : Int) == (T.length : Int))) = false; rw [e1]; rfl
    have hll := Lib.hid hl
    clear hl
    go_enter Try.func100, Try.ntmps100
    go_wp2
    clear e1 e2
    go_loopw [13] (fun c wr => ∃ i : Nat, i ≤ Q.length ∧ c = .int .i64 i ∧ Hid (∀ j, j < i → (pM Q)[j]? = (pM T)[j]?) ∧ Below w.heap.size w wr) (fun c _ => Q.length - (intOf c).toNat)
    case atStart => exact ⟨0, by omega, rfl, (fun j hj => absurd hj (by omega)), (by repeat (first | exact Below.refl _ _ | assumption | refine Below.drew ?_ | refine below_drewN ?_ _ | refine Below.alloc' ?_ _ | (refine Below.setCell ?_ (by first | omega | (simp; done) | (simp; omega) | exact Below.size (by assumption) | exact Nat.le_trans (Below.size (by assumption)) (by simp)) _) | (refine Below.via' ?_ (by assumption)) | (refine Below.alloc ?_ (by first | omega | (simp; done) | (simp; omega) | exact Below.size (by assumption) | exact Nat.le_trans (Below.size (by assumption)) (by simp)) _) | (refine Below.via ?_ (by assumption) (by first | omega | (simp; done) | (simp; omega) | exact Below.size (by assumption) | exact Nat.le_trans (Below.size (by assumption)) (by simp)))))⟩
    case round =>
      obtain ⟨i, hi, rfl, hall, hb⟩ := hrel
      by_cases hlt : i < Q.length
      · obtain ⟨bl, off, q, rfl, hbl, hQi, hc0, hc1, hc2⟩ := (hQh.out.1.below hb).rec hlt
        obtain ⟨bl2, off2, t, rfl, hbl2, hTi, hd0, hd1, hd2⟩ := (hTh.out.1.below hb).rec (i := i) (by have := hll.out; omega)
        have hqm := hQh.out.2 q (List.mem_of_getElem? hQi)
        have htm := hTh.out.2 t (List.mem_of_getElem? hTi)
        have hqr := Lib.hid (hqm.2.below hb)
        have htr := Lib.hid (htm.2.below hb)
        have hql := hqm.1
        have htl := htm.1
        clear hqm htm
        have hlt' : (i : Int) < (Q.length : Int) := by omega
        have hlt2' : (i : Int) < (T.length : Int) := by have := hll.out; omega
        have hi0 : (0 : Int) ≤ (i : Int) := by omega
        by_cases hz : rcZ (q.a, q.h, q.L) (t.a, t.h, t.L) = 0
        · have hzb : (rcZ (q.a, q.h, q.L) (t.a, t.h, t.L) == 0) = true := by rw [beq_iff_eq]; exact hz
          have hzn : (rcZ (q.a, q.h, q.L) (t.a, t.h, t.L) != 0) = false := by show (!(rcZ (q.a, q.h, q.L) (t.a, t.h, t.L) == 0)) = false; rw [hzb]; rfl
          have hst := Lib.hid (show (pM Q)[i]? = (pM T)[i]? from by rw [pM_at hQi, pM_at hTi]; exact congrArg some (rcZ_zero hz))
          clear hQi hTi
          replace hz := Lib.hid hz
          go_wp2
          go_region_held3 (fun w' => Below (wr).heap.size (wr) w' ∧ (∀ b o, b < (wr).heap.size → w'.cell? ⟨b, o, none⟩ = (wr).cell? ⟨b, o, none⟩)) (first | exact keep_of (Below.refl _ _) | ((try go_split_ands); exact keep_of (by repeat (first | exact Below.refl _ _ | assumption | refine Below.drew ?_ | refine below_drewN ?_ _ | refine Below.alloc' ?_ _ | (refine Below.setCell ?_ (by first | omega | (simp; done) | (simp; omega) | exact Below.size (by assumption) | exact Nat.le_trans (Below.size (by assumption)) (by simp)) _) | (refine Below.via' ?_ (by assumption)) | (refine Below.alloc ?_ (by first | omega | (simp; done) | (simp; omega) | exact Below.size (by assumption) | exact Nat.le_trans (Below.size (by assumption)) (by simp)) _) | (refine Below.via ?_ (by assumption) (by first | omega | (simp; done) | (simp; omega) | exact Below.size (by assumption) | exact Nat.le_trans (Below.size (by assumption)) (by simp))))))) (first | (go_at_call 92; refine (rCompare_any _ _ _ _ q.a q.h t.a t.h q.L t.L _ hql htl (hqr.out.below (by exact (by repeat (first | exact Below.refl _ _ | assumption | refine Below.drew ?_ | refine below_drewN ?_ _ | refine Below.alloc' ?_ _ | (refine Below.setCell ?_ (by first | omega | (simp; done) | (simp; omega) | exact Below.size (by assumption) | exact Nat.le_trans (Below.size (by assumption)) (by simp)) _) | (refine Below.via' ?_ (by assumption)) | (refine Below.alloc ?_ (by first | omega | (simp; done) | (simp; omega) | exact Below.size (by assumption) | exact Nat.le_trans (Below.size (by assumption)) (by simp)) _) | (refine Below.via ?_ (by assumption) (by first | omega | (simp; done) | (simp; omega) | exact Below.size (by assumption) | exact Nat.le_trans (Below.size (by assumption)) (by simp))))))) (htr.out.below (by exact (by repeat (first | exact Below.refl _ _ | assumption | refine Below.drew ?_ | refine below_drewN ?_ _ | refine Below.alloc' ?_ _ | (refine Below.setCell ?_ (by first | omega | (simp; done) | (simp; omega) | exact Below.size (by assumption) | exact Nat.le_trans (Below.size (by assumption)) (by simp)) _) | (refine Below.via' ?_ (by assumption)) | (refine Below.alloc ?_ (by first | omega | (simp; done) | (simp; omega) | exact Below.size (by assumption) | exact Nat.le_trans (Below.size (by assumption)) (by simp)) _) | (refine Below.via ?_ (by assumption) (by first | omega | (simp; done) | (simp; omega) | exact Below.size (by assumption) | exact Nat.le_trans (Below.size (by assumption)) (by simp)))))))).mono ?_; rintro e5 w5 ⟨rfl, hb5⟩)); rename_i hH; obtain ⟨hb5, hcl5⟩ := hH; have hz5 := hb5.size; (try simp at hz5); (try (have hly5 := Nat.lt_of_succ_le hz5)); (try (have hlx5 := Nat.lt_of_succ_lt hly5)); (try (have hlw5 := Nat.lt_of_succ_lt hlx5)); (try (have hle5 := Nat.le_of_lt hly5)); (try (have hya5 : w.heap.size < w5.heap.size := by omega)); (try (have hyb5 : w.heap.size + 1 < w5.heap.size := by omega)); (try (have hyc5 : w.heap.size + 1 + 1 < w5.heap.size := by omega)); (try (have hyd5 : wa.heap.size < w5.heap.size := by omega))
          go_wp2
          go_roundw
          case rel =>
            refine ⟨i + 1, by omega, by go_num, fun j hj => ?_, (by repeat (first | exact Below.refl _ _ | assumption | refine Below.drew ?_ | refine below_drewN ?_ _ | refine Below.alloc' ?_ _ | (refine Below.setCell ?_ (by first | omega | (simp; done) | (simp; omega) | exact Below.size (by assumption) | exact Nat.le_trans (Below.size (by assumption)) (by simp)) _) | (refine Below.via' ?_ (by assumption)) | (refine Below.alloc ?_ (by first | omega | (simp; done) | (simp; omega) | exact Below.size (by assumption) | exact Nat.le_trans (Below.size (by assumption)) (by simp)) _) | (refine Below.via ?_ (by assumption) (by first | omega | (simp; done) | (simp; omega) | exact Below.size (by assumption) | exact Nat.le_trans (Below.size (by assumption)) (by simp)))))⟩
            rcases Nat.lt_or_ge j i with hj2 | hj2
            · exact hall.out j hj2
            · obtain rfl : j = i := by omega
              exact hst.out
          case measure => simp [intOf]; omega
        · have hzb : (rcZ (q.a, q.h, q.L) (t.a, t.h, t.L) == 0) = false := by rw [beq_eq_false_iff_ne]; exact hz
          have hzn : (rcZ (q.a, q.h, q.L) (t.a, t.h, t.L) != 0) = true := by show (!(rcZ (q.a, q.h, q.L) (t.a, t.h, t.L) == 0)) = true; rw [hzb]; rfl
          have hv := Lib.hid (smB_bad (pM_at hQi) (pM_at hTi) hz)
          clear hQi hTi
          replace hz := Lib.hid hz
          go_wp2
          go_region_held3 (fun w' => Below (wr).heap.size (wr) w' ∧ (∀ b o, b < (wr).heap.size → w'.cell? ⟨b, o, none⟩ = (wr).cell? ⟨b, o, none⟩)) (first | exact keep_of (Below.refl _ _) | ((try go_split_ands); exact keep_of (by repeat (first | exact Below.refl _ _ | assumption | refine Below.drew ?_ | refine below_drewN ?_ _ | refine Below.alloc' ?_ _ | (refine Below.setCell ?_ (by first | omega | (simp; done) | (simp; omega) | exact Below.size (by assumption) | exact Nat.le_trans (Below.size (by assumption)) (by simp)) _) | (refine Below.via' ?_ (by assumption)) | (refine Below.alloc ?_ (by first | omega | (simp; done) | (simp; omega) | exact Below.size (by assumption) | exact Nat.le_trans (Below.size (by assumption)) (by simp)) _) | (refine Below.via ?_ (by assumption) (by first | omega | (simp; done) | (simp; omega) | exact Below.size (by assumption) | exact Nat.le_trans (Below.size (by assumption)) (by simp))))))) (first | (go_at_call 92; refine (rCompare_any _ _ _ _ q.a q.h t.a t.h q.L t.L _ hql htl (hqr.out.below (by exact (by repeat (first | exact Below.refl _ _ | assumption | refine Below.drew ?_ | refine below_drewN ?_ _ | refine Below.alloc' ?_ _ | (refine Below.setCell ?_ (by first | omega | (simp; done) | (simp; omega) | exact Below.size (by assumption) | exact Nat.le_trans (Below.size (by assumption)) (by simp)) _) | (refine Below.via' ?_ (by assumption)) | (refine Below.alloc ?_ (by first | omega | (simp; done) | (simp; omega) | exact Below.size (by assumption) | exact Nat.le_trans (Below.size (by assumption)) (by simp)) _) | (refine Below.via ?_ (by assumption) (by first | omega | (simp; done) | (simp; omega) | exact Below.size (by assumption) | exact Nat.le_trans (Below.size (by assumption)) (by simp))))))) (htr.out.below (by exact (by repeat (first | exact Below.refl _ _ | assumption | refine Below.drew ?_ | refine below_drewN ?_ _ | refine Below.alloc' ?_ _ | (refine Below.setCell ?_ (by first | omega | (simp; done) | (simp; omega) | exact Below.size (by assumption) | exact Nat.le_trans (Below.size (by assumption)) (by simp)) _) | (refine Below.via' ?_ (by assumption)) | (refine Below.alloc ?_ (by first | omega | (simp; done) | (simp; omega) | exact Below.size (by assumption) | exact Nat.le_trans (Below.size (by assumption)) (by simp)) _) | (refine Below.via ?_ (by assumption) (by first | omega | (simp; done) | (simp; omega) | exact Below.size (by assumption) | exact Nat.le_trans (Below.size (by assumption)) (by simp)))))))).mono ?_; rintro e5 w5 ⟨rfl, hb5⟩)); rename_i hH; obtain ⟨hb5, hcl5⟩ := hH; have hz5 := hb5.size; (try simp at hz5); (try (have hly5 := Nat.lt_of_succ_le hz5)); (try (have hlx5 := Nat.lt_of_succ_lt hly5)); (try (have hlw5 := Nat.lt_of_succ_lt hlx5)); (try (have hle5 := Nat.le_of_lt hly5)); (try (have hya5 : w.heap.size < w5.heap.size := by omega)); (try (have hyb5 : w.heap.size + 1 < w5.heap.size := by omega)); (try (have hyc5 : w.heap.size + 1 + 1 < w5.heap.size := by omega)); (try (have hyd5 : wa.heap.size < w5.heap.size := by omega))
          go_wp2
          go_ret
          exact ⟨ret_bool hv.out.symm, (by repeat (first | exact Below.refl _ _ | assumption | refine Below.drew ?_ | refine below_drewN ?_ _ | refine Below.alloc' ?_ _ | (refine Below.setCell ?_ (by first | omega | (simp; done) | (simp; omega) | exact Below.size (by assumption) | exact Nat.le_trans (Below.size (by assumption)) (by simp)) _) | (refine Below.via' ?_ (by assumption)) | (refine Below.alloc ?_ (by first | omega | (simp; done) | (simp; omega) | exact Below.size (by assumption) | exact Nat.le_trans (Below.size (by assumption)) (by simp)) _) | (refine Below.via ?_ (by assumption) (by first | omega | (simp; done) | (simp; omega) | exact Below.size (by assumption) | exact Nat.le_trans (Below.size (by assumption)) (by simp)))))⟩
      · have hij : i = Q.length := by omega
        subst hij
        have hv := Lib.hid (smB_all (A := pM Q) (B := pM T) (by rw [pM_len, pM_len, hll.out]) (by rw [pM_len]; exact hall.out))
        clear hall
        go_wp2
        go_ret
        exact ⟨ret_bool hv.out.symm, (by repeat (first | exact Below.refl _ _ | assumption | refine Below.drew ?_ | refine below_drewN ?_ _ | refine Below.alloc' ?_ _ | (refine Below.setCell ?_ (by first | omega | (simp; done) | (simp; omega) | exact Below.size (by assumption) | exact Nat.le_trans (Below.size (by assumption)) (by simp)) _) | (refine Below.via' ?_ (by assumption)) | (refine Below.alloc ?_ (by first | omega | (simp; done) | (simp; omega) | exact Below.size (by assumption) | exact Nat.le_trans (Below.size (by assumption)) (by simp)) _) | (refine Below.via ?_ (by assumption) (by first | omega | (simp; done) | (simp; omega) | exact Below.size (by assumption) | exact Nat.le_trans (Below.size (by assumption)) (by simp)))))⟩
  · have e1 : ((Q.length : Int) == (T.length : Int)) = false := by rw [beq_eq_false_iff_ne]; omega
    have e2 : ((Q.length : Int) != (T.length : Int)) = true := by show (!((Q.length : Int) == (T.length : Int))) = true; rw [e1]; rfl
    have hv := Lib.hid (smB_len (A := pM Q) (B := pM T) (by rw [pM_len, pM_len]; exact hl))
    replace hl := Lib.hid hl
    go_enter Try.func100, Try.ntmps100
    go_wp2
    go_ret
    exact ⟨ret_bool hv.out.symm, (by repeat (first | exact Below.refl _ _ | assumption | refine Below.drew ?_ | refine below_drewN ?_ _ | refine Below.alloc' ?_ _ | (refine Below.setCell ?_ (by first | omega | (simp; done) | (simp; omega) | exact Below.size (by assumption) | exact Nat.le_trans (Below.size (by assumption)) (by simp)) _) | (refine Below.via' ?_ (by assumption)) | (refine Below.alloc ?_ (by first | omega | (simp; done) | (simp; omega) | exact Below.size (by assumption) | exact Nat.le_trans (Below.size (by assumption)) (by simp)) _) | (refine Below.via ?_ (by assumption) (by first | omega | (simp; done) | (simp; omega) | exact Below.size (by assumption) | exact Nat.le_trans (Below.size (by assumption)) (by simp)))))⟩
end Go.Proofs.Ytdakmdjcmjpogaa
