/-
  The walks of chapter 3: data without a record; the program's and the model's.
-/
import Derived.Test.YtelnbjhnjcbjoaaDel
import Derived.Test.YtelnbjhnjcbjoaaIns
namespace Go.Proofs.Ytelnbjhnjcbjoaa
open Go.RowKit
set_option maxRecDepth 100000

/-- A list without one element. -/
def woL {α : Type} (R : List α) (i : Nat) : List α := R.take i ++ R.drop (i + 1)
theorem wo_ne {α : Type} {R : List α} {i k : Nat} {r : α} (h : R[k]? = some r) (hk : k ≠ i) : woL (R.take (k + 1)) i = woL (R.take k) i ++ [r] := by
  have hkl := (List.getElem?_eq_some_iff.1 h).1
  have hl : (R.take k).length = k := by rw [List.length_take]; omega
  unfold woL
  rw [take_snoc h, List.take_append, List.drop_append, hl]
  rcases Nat.lt_or_ge k i with h1 | h1
  · rw [List.drop_eq_nil_of_le (show (R.take k).length ≤ i + 1 by omega), List.drop_eq_nil_of_le (show [r].length ≤ i + 1 - k by simp; omega), List.take_of_length_le (show [r].length ≤ i - k by simp; omega)]
    simp
  · rw [show i - k = 0 by omega, show i + 1 - k = 0 by omega, List.take_zero, List.append_nil, List.drop_zero, List.append_assoc]
theorem wo_eq {α : Type} {R : List α} {k : Nat} {r : α} (h : R[k]? = some r) : woL (R.take (k + 1)) k = woL (R.take k) k := by
  have hkl := (List.getElem?_eq_some_iff.1 h).1
  have hl : (R.take k).length = k := by rw [List.length_take]; omega
  unfold woL
  rw [take_snoc h, List.take_append, List.drop_append, hl, Nat.sub_self, List.take_zero, List.append_nil, List.drop_eq_nil_of_le (show [r].length ≤ k + 1 - k by simp)]
  simp
theorem wo_pM (Q : List PR) (i : Nat) : pM (woL Q i) = woL (pM Q) i := by unfold woL pM; rw [List.map_append, List.map_take, List.map_drop]
theorem wo_mem {α : Type} {R : List α} {i : Nat} : ∀ q ∈ woL R i, q ∈ R := fun q hq => by
  unfold woL at hq
  rcases List.mem_append.1 hq with h | h
  · exact List.mem_of_mem_take h
  · exact List.mem_of_mem_drop h
theorem wo_le {α : Type} (R : List α) (i : Nat) : (woL R i).length ≤ R.length := by unfold woL; rw [List.length_append, List.length_take, List.length_drop]; omega

/-- Does RemoveRecord succeed? What it gives. -/
def rrB (S : List (ByteArray × Int)) (R : List RV) (i : Int) : Bool := idB S R && inB i 0 ((R.length : Int) - 1)
def rrL (S : List (ByteArray × Int)) (R : List RV) (i : Int) : List RV := rsL (rrB S R i) (woL R i.toNat)
theorem rr_id {S : List (ByteArray × Int)} {R : List RV} {i : Int} (h : rrB S R i = true) : idB S R = true := by unfold rrB at h; rw [Bool.and_eq_true] at h; exact h.1
theorem rr_small (S : List (ByteArray × Int)) (R : List RV) (i : Int) : (rrL S R i).length ≤ 40 ∧ totR (rrL S R i) ≤ 240 :=
  rsL_small fun h => ⟨Nat.le_trans (wo_le _ _) (dok_small (rr_id h)).1, fun q hq => (dok_small (rr_id h)).2 q (wo_mem q hq)⟩
theorem rr_no1 {S : List (ByteArray × Int)} {R : List RV} {i : Int} (h : idB S R = false) : rrB S R i = false := by unfold rrB; rw [h]; rfl
theorem rr_no2 {S : List (ByteArray × Int)} {R : List RV} {i : Int} (h : ¬ (0 ≤ i ∧ i < (R.length : Int))) : rrB S R i = false := by
  unfold rrB; rw [(inB_no _ _ _).2 (by omega), Bool.and_false]
theorem rr_yes {S : List (ByteArray × Int)} {R : List RV} {i : Nat} (h : idB S R = true) (k : i < R.length) : rrB S R i = true := by
  unfold rrB; rw [h, (inB_iff _ _ _).2 (by omega)]; rfl

theorem idB_lenE {S : List (ByteArray × Int)} {Q : List PR} (h : idB S (pM Q) = true) : Q.length ≤ 40 := by rw [← pM_len]; exact (dok_small h).1
set_option maxHeartbeats 4000000 in
theorem iRR_x (x y : Option Addr) (c1 c2 : Nat) (S : List (ByteArray × Int)) (Q : List PR) (i : Int) (w : World) (h : SIn w x c1 S) (hQ : DIn w y Q) (_ : ∀ q ∈ Q, RCap q) :
    Calls Try.prog 16 #[.slice x S.length c1, .slice y Q.length c2, .int .i64 i] w (DsI (rrB S (pM Q) i) (rrL S (pM Q) i) w) := by
  have hm := h.1
  have hQm := hQ.1
  have hh := Lib.hid h
  have hQh := Lib.hid hQ
  have hpl := pM_len Q
  clear h hQ
  by_cases hs : schB S = false
  · have hv := Lib.hid (rr_no1 (i := i) (idB_no1 (R := pM Q) hs))
    replace hs := Lib.hid hs
    clear hpl
    go_enter Try.func16, Try.ntmps16
    go_wp2_with fail
    refine (isSch_x _ _ _ _ (hh.out.below (by exact (by repeat (first | exact Below.refl _ _ | assumption | refine Below.drew ?_ | refine below_drewN ?_ _ | refine Below.alloc' ?_ _ | (refine Below.setCell ?_ (by first | omega | (simp; done) | (simp; omega) | exact Below.size (by assumption) | exact Nat.le_trans (Below.size (by assumption)) (by simp)) _) | (refine Below.via' ?_ (by assumption)) | (refine Below.alloc ?_ (by first | omega | (simp; done) | (simp; omega) | exact Below.size (by assumption) | exact Nat.le_trans (Below.size (by assumption)) (by simp)) _) | (refine Below.via ?_ (by assumption) (by first | omega | (simp; done) | (simp; omega) | exact Below.size (by assumption) | exact Nat.le_trans (Below.size (by assumption)) (by simp)))))))).mono ?_
    rintro e w1 ⟨he, hb1⟩
    rw [hs.out] at he
    subst he
    go_wp2
    go_ret2
    exact DsI.no hv.out (by repeat (first | exact Below.refl _ _ | assumption | refine Below.drew ?_ | refine below_drewN ?_ _ | refine Below.alloc' ?_ _ | (refine Below.setCell ?_ (by first | omega | (simp; done) | (simp; omega) | exact Below.size (by assumption) | exact Nat.le_trans (Below.size (by assumption)) (by simp)) _) | (refine Below.via' ?_ (by assumption)) | (refine Below.alloc ?_ (by first | omega | (simp; done) | (simp; omega) | exact Below.size (by assumption) | exact Nat.le_trans (Below.size (by assumption)) (by simp)) _) | (refine Below.via ?_ (by assumption) (by first | omega | (simp; done) | (simp; omega) | exact Below.size (by assumption) | exact Nat.le_trans (Below.size (by assumption)) (by simp)))))
  have hs : schB S = true := by simpa using hs
  by_cases hd : dokB S (pM Q) = false
  · have hv := Lib.hid (rr_no1 (i := i) (idB_no2 hd))
    replace hd := Lib.hid hd
    clear hpl
    go_enter Try.func16, Try.ntmps16
    go_wp2_with fail
    refine (isSch_x _ _ _ _ (hh.out.below (by exact (by repeat (first | exact Below.refl _ _ | assumption | refine Below.drew ?_ | refine below_drewN ?_ _ | refine Below.alloc' ?_ _ | (refine Below.setCell ?_ (by first | omega | (simp; done) | (simp; omega) | exact Below.size (by assumption) | exact Nat.le_trans (Below.size (by assumption)) (by simp)) _) | (refine Below.via' ?_ (by assumption)) | (refine Below.alloc ?_ (by first | omega | (simp; done) | (simp; omega) | exact Below.size (by assumption) | exact Nat.le_trans (Below.size (by assumption)) (by simp)) _) | (refine Below.via ?_ (by assumption) (by first | omega | (simp; done) | (simp; omega) | exact Below.size (by assumption) | exact Nat.le_trans (Below.size (by assumption)) (by simp)))))))).mono ?_
    rintro e w1 ⟨he, hb1⟩
    rw [hs] at he
    subst he
    go_wp2_with fail
    refine (areDataFor_any _ _ _ _ S Q _ hs hm (hh.out.rd.below (by exact (by repeat (first | exact Below.refl _ _ | assumption | refine Below.drew ?_ | refine below_drewN ?_ _ | refine Below.alloc' ?_ _ | (refine Below.setCell ?_ (by first | omega | (simp; done) | (simp; omega) | exact Below.size (by assumption) | exact Nat.le_trans (Below.size (by assumption)) (by simp)) _) | (refine Below.via' ?_ (by assumption)) | (refine Below.alloc ?_ (by first | omega | (simp; done) | (simp; omega) | exact Below.size (by assumption) | exact Nat.le_trans (Below.size (by assumption)) (by simp)) _) | (refine Below.via ?_ (by assumption) (by first | omega | (simp; done) | (simp; omega) | exact Below.size (by assumption) | exact Nat.le_trans (Below.size (by assumption)) (by simp))))))) (hQh.out.below (by exact (by repeat (first | exact Below.refl _ _ | assumption | refine Below.drew ?_ | refine below_drewN ?_ _ | refine Below.alloc' ?_ _ | (refine Below.setCell ?_ (by first | omega | (simp; done) | (simp; omega) | exact Below.size (by assumption) | exact Nat.le_trans (Below.size (by assumption)) (by simp)) _) | (refine Below.via' ?_ (by assumption)) | (refine Below.alloc ?_ (by first | omega | (simp; done) | (simp; omega) | exact Below.size (by assumption) | exact Nat.le_trans (Below.size (by assumption)) (by simp)) _) | (refine Below.via ?_ (by assumption) (by first | omega | (simp; done) | (simp; omega) | exact Below.size (by assumption) | exact Nat.le_trans (Below.size (by assumption)) (by simp)))))))).mono ?_
    rintro e w2 ⟨he, hb2⟩
    rw [hd.out] at he
    subst he
    go_wp2
    go_ret2
    exact DsI.no hv.out (by repeat (first | exact Below.refl _ _ | assumption | refine Below.drew ?_ | refine below_drewN ?_ _ | refine Below.alloc' ?_ _ | (refine Below.setCell ?_ (by first | omega | (simp; done) | (simp; omega) | exact Below.size (by assumption) | exact Nat.le_trans (Below.size (by assumption)) (by simp)) _) | (refine Below.via' ?_ (by assumption)) | (refine Below.alloc ?_ (by first | omega | (simp; done) | (simp; omega) | exact Below.size (by assumption) | exact Nat.le_trans (Below.size (by assumption)) (by simp)) _) | (refine Below.via ?_ (by assumption) (by first | omega | (simp; done) | (simp; omega) | exact Below.size (by assumption) | exact Nat.le_trans (Below.size (by assumption)) (by simp)))))
  have hd : dokB S (pM Q) = true := by simpa using hd
  have hid := Lib.hid (idB_yes hs hd)
  replace hd := Lib.hid hd
  by_cases h1 : i < 0
  · have hv := Lib.hid (rr_no2 (S := S) (R := pM Q) (i := i) (by omega))
    clear hpl
    go_enter Try.func16, Try.ntmps16
    go_wp2_with fail
    refine (isSch_x _ _ _ _ (hh.out.below (by exact (by repeat (first | exact Below.refl _ _ | assumption | refine Below.drew ?_ | refine below_drewN ?_ _ | refine Below.alloc' ?_ _ | (refine Below.setCell ?_ (by first | omega | (simp; done) | (simp; omega) | exact Below.size (by assumption) | exact Nat.le_trans (Below.size (by assumption)) (by simp)) _) | (refine Below.via' ?_ (by assumption)) | (refine Below.alloc ?_ (by first | omega | (simp; done) | (simp; omega) | exact Below.size (by assumption) | exact Nat.le_trans (Below.size (by assumption)) (by simp)) _) | (refine Below.via ?_ (by assumption) (by first | omega | (simp; done) | (simp; omega) | exact Below.size (by assumption) | exact Nat.le_trans (Below.size (by assumption)) (by simp)))))))).mono ?_
    rintro e w1 ⟨he, hb1⟩
    rw [hs] at he
    subst he
    go_wp2_with fail
    refine (areDataFor_any _ _ _ _ S Q _ hs hm (hh.out.rd.below (by exact (by repeat (first | exact Below.refl _ _ | assumption | refine Below.drew ?_ | refine below_drewN ?_ _ | refine Below.alloc' ?_ _ | (refine Below.setCell ?_ (by first | omega | (simp; done) | (simp; omega) | exact Below.size (by assumption) | exact Nat.le_trans (Below.size (by assumption)) (by simp)) _) | (refine Below.via' ?_ (by assumption)) | (refine Below.alloc ?_ (by first | omega | (simp; done) | (simp; omega) | exact Below.size (by assumption) | exact Nat.le_trans (Below.size (by assumption)) (by simp)) _) | (refine Below.via ?_ (by assumption) (by first | omega | (simp; done) | (simp; omega) | exact Below.size (by assumption) | exact Nat.le_trans (Below.size (by assumption)) (by simp))))))) (hQh.out.below (by exact (by repeat (first | exact Below.refl _ _ | assumption | refine Below.drew ?_ | refine below_drewN ?_ _ | refine Below.alloc' ?_ _ | (refine Below.setCell ?_ (by first | omega | (simp; done) | (simp; omega) | exact Below.size (by assumption) | exact Nat.le_trans (Below.size (by assumption)) (by simp)) _) | (refine Below.via' ?_ (by assumption)) | (refine Below.alloc ?_ (by first | omega | (simp; done) | (simp; omega) | exact Below.size (by assumption) | exact Nat.le_trans (Below.size (by assumption)) (by simp)) _) | (refine Below.via ?_ (by assumption) (by first | omega | (simp; done) | (simp; omega) | exact Below.size (by assumption) | exact Nat.le_trans (Below.size (by assumption)) (by simp)))))))).mono ?_
    rintro e w2 ⟨he, hb2⟩
    rw [hd.out] at he
    subst he
    go_wp2
    go_ret2
    exact DsI.no hv.out (by repeat (first | exact Below.refl _ _ | assumption | refine Below.drew ?_ | refine below_drewN ?_ _ | refine Below.alloc' ?_ _ | (refine Below.setCell ?_ (by first | omega | (simp; done) | (simp; omega) | exact Below.size (by assumption) | exact Nat.le_trans (Below.size (by assumption)) (by simp)) _) | (refine Below.via' ?_ (by assumption)) | (refine Below.alloc ?_ (by first | omega | (simp; done) | (simp; omega) | exact Below.size (by assumption) | exact Nat.le_trans (Below.size (by assumption)) (by simp)) _) | (refine Below.via ?_ (by assumption) (by first | omega | (simp; done) | (simp; omega) | exact Below.size (by assumption) | exact Nat.le_trans (Below.size (by assumption)) (by simp)))))
  by_cases h2 : (Q.length : Int) ≤ i
  · have hv := Lib.hid (rr_no2 (S := S) (R := pM Q) (i := i) (by rw [hpl]; omega))
    clear hpl
    go_enter Try.func16, Try.ntmps16
    go_wp2_with fail
    refine (isSch_x _ _ _ _ (hh.out.below (by exact (by repeat (first | exact Below.refl _ _ | assumption | refine Below.drew ?_ | refine below_drewN ?_ _ | refine Below.alloc' ?_ _ | (refine Below.setCell ?_ (by first | omega | (simp; done) | (simp; omega) | exact Below.size (by assumption) | exact Nat.le_trans (Below.size (by assumption)) (by simp)) _) | (refine Below.via' ?_ (by assumption)) | (refine Below.alloc ?_ (by first | omega | (simp; done) | (simp; omega) | exact Below.size (by assumption) | exact Nat.le_trans (Below.size (by assumption)) (by simp)) _) | (refine Below.via ?_ (by assumption) (by first | omega | (simp; done) | (simp; omega) | exact Below.size (by assumption) | exact Nat.le_trans (Below.size (by assumption)) (by simp)))))))).mono ?_
    rintro e w1 ⟨he, hb1⟩
    rw [hs] at he
    subst he
    go_wp2_with fail
    refine (areDataFor_any _ _ _ _ S Q _ hs hm (hh.out.rd.below (by exact (by repeat (first | exact Below.refl _ _ | assumption | refine Below.drew ?_ | refine below_drewN ?_ _ | refine Below.alloc' ?_ _ | (refine Below.setCell ?_ (by first | omega | (simp; done) | (simp; omega) | exact Below.size (by assumption) | exact Nat.le_trans (Below.size (by assumption)) (by simp)) _) | (refine Below.via' ?_ (by assumption)) | (refine Below.alloc ?_ (by first | omega | (simp; done) | (simp; omega) | exact Below.size (by assumption) | exact Nat.le_trans (Below.size (by assumption)) (by simp)) _) | (refine Below.via ?_ (by assumption) (by first | omega | (simp; done) | (simp; omega) | exact Below.size (by assumption) | exact Nat.le_trans (Below.size (by assumption)) (by simp))))))) (hQh.out.below (by exact (by repeat (first | exact Below.refl _ _ | assumption | refine Below.drew ?_ | refine below_drewN ?_ _ | refine Below.alloc' ?_ _ | (refine Below.setCell ?_ (by first | omega | (simp; done) | (simp; omega) | exact Below.size (by assumption) | exact Nat.le_trans (Below.size (by assumption)) (by simp)) _) | (refine Below.via' ?_ (by assumption)) | (refine Below.alloc ?_ (by first | omega | (simp; done) | (simp; omega) | exact Below.size (by assumption) | exact Nat.le_trans (Below.size (by assumption)) (by simp)) _) | (refine Below.via ?_ (by assumption) (by first | omega | (simp; done) | (simp; omega) | exact Below.size (by assumption) | exact Nat.le_trans (Below.size (by assumption)) (by simp)))))))).mono ?_
    rintro e w2 ⟨he, hb2⟩
    rw [hd.out] at he
    subst he
    go_wp2
    go_ret2
    exact DsI.no hv.out (by repeat (first | exact Below.refl _ _ | assumption | refine Below.drew ?_ | refine below_drewN ?_ _ | refine Below.alloc' ?_ _ | (refine Below.setCell ?_ (by first | omega | (simp; done) | (simp; omega) | exact Below.size (by assumption) | exact Nat.le_trans (Below.size (by assumption)) (by simp)) _) | (refine Below.via' ?_ (by assumption)) | (refine Below.alloc ?_ (by first | omega | (simp; done) | (simp; omega) | exact Below.size (by assumption) | exact Nat.le_trans (Below.size (by assumption)) (by simp)) _) | (refine Below.via ?_ (by assumption) (by first | omega | (simp; done) | (simp; omega) | exact Below.size (by assumption) | exact Nat.le_trans (Below.size (by assumption)) (by simp)))))
  obtain ⟨k, rfl⟩ := Int.eq_ofNat_of_zero_le (show 0 ≤ i by omega)
  have hk : k < Q.length := by omega
  have hv := Lib.hid (rr_yes (i := k) hid.out (by rw [hpl]; exact hk))
  have hw : IntKind.i64.wrap ((k : Int) + 1) = (k : Int) + 1 := IntWalk.i64_in _ (by omega)
  have hk0 : (0 : Int) ≤ (k : Int) := by omega
  have hkl : (k : Int) < (Q.length : Int) := by omega
  clear hpl
  · skip
    go_enter Try.func16, Try.ntmps16
    go_wp2_with fail
    refine (isSch_x _ _ _ _ (hh.out.below (by exact (by repeat (first | exact Below.refl _ _ | assumption | refine Below.drew ?_ | refine below_drewN ?_ _ | refine Below.alloc' ?_ _ | (refine Below.setCell ?_ (by first | omega | (simp; done) | (simp; omega) | exact Below.size (by assumption) | exact Nat.le_trans (Below.size (by assumption)) (by simp)) _) | (refine Below.via' ?_ (by assumption)) | (refine Below.alloc ?_ (by first | omega | (simp; done) | (simp; omega) | exact Below.size (by assumption) | exact Nat.le_trans (Below.size (by assumption)) (by simp)) _) | (refine Below.via ?_ (by assumption) (by first | omega | (simp; done) | (simp; omega) | exact Below.size (by assumption) | exact Nat.le_trans (Below.size (by assumption)) (by simp)))))))).mono ?_
    rintro e w1 ⟨he, hb1⟩
    rw [hs] at he
    subst he
    go_wp2_with fail
    refine (areDataFor_any _ _ _ _ S Q _ hs hm (hh.out.rd.below (by exact (by repeat (first | exact Below.refl _ _ | assumption | refine Below.drew ?_ | refine below_drewN ?_ _ | refine Below.alloc' ?_ _ | (refine Below.setCell ?_ (by first | omega | (simp; done) | (simp; omega) | exact Below.size (by assumption) | exact Nat.le_trans (Below.size (by assumption)) (by simp)) _) | (refine Below.via' ?_ (by assumption)) | (refine Below.alloc ?_ (by first | omega | (simp; done) | (simp; omega) | exact Below.size (by assumption) | exact Nat.le_trans (Below.size (by assumption)) (by simp)) _) | (refine Below.via ?_ (by assumption) (by first | omega | (simp; done) | (simp; omega) | exact Below.size (by assumption) | exact Nat.le_trans (Below.size (by assumption)) (by simp))))))) (hQh.out.below (by exact (by repeat (first | exact Below.refl _ _ | assumption | refine Below.drew ?_ | refine below_drewN ?_ _ | refine Below.alloc' ?_ _ | (refine Below.setCell ?_ (by first | omega | (simp; done) | (simp; omega) | exact Below.size (by assumption) | exact Nat.le_trans (Below.size (by assumption)) (by simp)) _) | (refine Below.via' ?_ (by assumption)) | (refine Below.alloc ?_ (by first | omega | (simp; done) | (simp; omega) | exact Below.size (by assumption) | exact Nat.le_trans (Below.size (by assumption)) (by simp)) _) | (refine Below.via ?_ (by assumption) (by first | omega | (simp; done) | (simp; omega) | exact Below.size (by assumption) | exact Nat.le_trans (Below.size (by assumption)) (by simp)))))))).mono ?_
    rintro e w2 ⟨he, hb2⟩
    rw [hd.out] at he
    subst he
    have hz2 : w.heap.size ≤ w2.heap.size := (show Below w.heap.size w w2 from (by repeat (first | exact Below.refl _ _ | assumption | refine Below.drew ?_ | refine below_drewN ?_ _ | refine Below.alloc' ?_ _ | (refine Below.setCell ?_ (by first | omega | (simp; done) | (simp; omega) | exact Below.size (by assumption) | exact Nat.le_trans (Below.size (by assumption)) (by simp)) _) | (refine Below.via' ?_ (by assumption)) | (refine Below.alloc ?_ (by first | omega | (simp; done) | (simp; omega) | exact Below.size (by assumption) | exact Nat.le_trans (Below.size (by assumption)) (by simp)) _) | (refine Below.via ?_ (by assumption) (by first | omega | (simp; done) | (simp; omega) | exact Below.size (by assumption) | exact Nat.le_trans (Below.size (by assumption)) (by simp)))))).size
    have hQ2 := Lib.hid (hQh.out.below (show Below w.heap.size w w2 from (by repeat (first | exact Below.refl _ _ | assumption | refine Below.drew ?_ | refine below_drewN ?_ _ | refine Below.alloc' ?_ _ | (refine Below.setCell ?_ (by first | omega | (simp; done) | (simp; omega) | exact Below.size (by assumption) | exact Nat.le_trans (Below.size (by assumption)) (by simp)) _) | (refine Below.via' ?_ (by assumption)) | (refine Below.alloc ?_ (by first | omega | (simp; done) | (simp; omega) | exact Below.size (by assumption) | exact Nat.le_trans (Below.size (by assumption)) (by simp)) _) | (refine Below.via ?_ (by assumption) (by first | omega | (simp; done) | (simp; omega) | exact Below.size (by assumption) | exact Nat.le_trans (Below.size (by assumption)) (by simp)))))))
    go_wp2_with fail
    refine (copyRecords_any _ _ Q _ hQm (fun q hq => ⟨(hQ2.out.2.1 q hq).2.2.1, (hQ2.out.2.1 q hq).2.2.2.2⟩) hQ2.out.2.2).mono ?_
    rintro e w3 ⟨T, rfl, hpm, ho, hb3⟩
    have hTl := pM_length hpm
    have hz3 := hb3.size
    have hB3 := Lib.hid (show Below w.heap.size w w3 from (by repeat (first | exact Below.refl _ _ | assumption | refine Below.drew ?_ | refine below_drewN ?_ _ | refine Below.alloc' ?_ _ | (refine Below.setCell ?_ (by first | omega | (simp; done) | (simp; omega) | exact Below.size (by assumption) | exact Nat.le_trans (Below.size (by assumption)) (by simp)) _) | (refine Below.via' ?_ (by assumption)) | (refine Below.alloc ?_ (by first | omega | (simp; done) | (simp; omega) | exact Below.size (by assumption) | exact Nat.le_trans (Below.size (by assumption)) (by simp)) _) | (refine Below.via ?_ (by assumption) (by first | omega | (simp; done) | (simp; omega) | exact Below.size (by assumption) | exact Nat.le_trans (Below.size (by assumption)) (by simp))))))
    have hoh := Lib.hid ho
    have hpmh := Lib.hid hpm
    have hdel := Lib.hid (delete_any T k (k + 1) w2.heap.size w3.heap.size w2.heap.size T.length w3 rfl (by omega) (by omega) (Nat.le_refl _) hoh.out)
    clear ho hpm hb1 hb2 hb3 hTl
    go_wp2_with fail
    refine hdel.out.mono ?_
    rintro e w4 ⟨he, ho4, hf4⟩
    obtain ⟨n4, hn4⟩ : ∃ n, n = (T.take k ++ T.drop (k + 1)).length := ⟨_, rfl⟩
    rw [← hn4] at he
    subst he
    have hres := Lib.hid (show DsI (rrB S (pM Q) k) (rrL S (pM Q) k) w (.returned (.tuple #[.slice (some ⟨w2.heap.size, 0, none⟩) n4 T.length, .bool true])) w4 from by
      rw [hn4]
      exact DsI.yes hv.out (by rw [Int.toNat_natCast, ← hpmh.out, ← wo_pM]; rfl) (ho4.more hz2 hf4.size) (Below.off hB3.out hf4 hz2))
    clear ho4 hf4 hn4
    go_wp2
    go_ret2
    exact hres.out

set_option maxHeartbeats 8000000 in
theorem dWithout_any (x : Option Addr) (cap : Nat) (Q : List PR) (n : Nat) (w : World) (hm : Q.length ≤ 1000) (hn : n < Q.length) (hQ : DIn w x Q) (hc : ∀ q ∈ Q, RCap q) :
    Calls Try.prog 72 #[.slice x Q.length cap, .int .i64 n] w (SsP (woL (pM Q) n) w) := by
  obtain ⟨i0, hi, hz0, hz1, hz2⟩ := info_parts Try.infoRec
  have hQh := Lib.hid hQ
  have hch := Lib.hid hc
  clear hQ hc
  go_enter Try.func72, Try.ntmps72
  go_wp2
  go_loopw [5, 10] (fun v c wr => ∃ (i : Nat) (T : List PR), i ≤ Q.length ∧ c = .int .i64 i ∧ T.length ≤ i ∧ wr.ownsRow w.heap.size 36 3 v T.length (pC T) ∧ Hid (pM T = woL ((pM Q).take i) n) ∧ Hid (InsW wr w.heap.size v T) ∧ Below w.heap.size w wr) (fun _ c _ => Q.length - (intOf c).toNat)
  case atStart => exact ⟨0, [], by omega, rfl, by simp, World.ownsRow_nil _ _ _ _, (by unfold Hid woL pM; simp), ⟨fun k hk => by (cases hk), fun q hq => by (cases hq)⟩, Below.refl _ _⟩
  case round =>
    obtain ⟨i, T, hi', rfl, hTl, hown, hTs, hins, hb⟩ := hrel
    obtain ⟨wo, rfl⟩ : ∃ u : World, u = wr := ⟨_, rfl⟩
    have hbs := hb.size
    by_cases hlt : i < Q.length
    · obtain ⟨bl, off, q, rfl, hbl, hQi, hc0, hc1, hc2⟩ := (hQh.out.2.2.below hb).rec hlt
      have hqm := List.mem_of_getElem? hQi
      have hql := (hQh.out.2.1 q hqm).2.2.1
      have hqc := hch.out q hqm
      have hqr := Lib.hid ((hQh.out.2.1 q hqm).2.2.2.2)
      replace hQi := Lib.hid hQi
      have hlt' : (i : Int) < (Q.length : Int) := by omega
      have hi0' : (0 : Int) ≤ (i : Int) := by omega
      by_cases hin : i = n
      · have q1 : ((i : Int) == (n : Int)) = true := by rw [beq_iff_eq]; omega
        have q2 : ((i : Int) != (n : Int)) = false := by show (!((i : Int) == (n : Int))) = false; rw [q1]; rfl
        have hst := Lib.hid (show pM T = woL ((pM Q).take (i + 1)) n from by have e := hTs.out; subst hin; rw [wo_eq (pM_at hQi.out)]; exact e)
        have hownh := Lib.hid hown
        clear hown
        replace hin := Lib.hid hin
        go_wp2
        go_roundw
        case rel => exact ⟨i + 1, T, by omega, by go_num, by omega, own_below hownh.out (by exact (by repeat (first | exact Below.refl _ _ | assumption | refine Below.drew ?_ | refine below_drewN ?_ _ | refine Below.alloc' ?_ _ | (refine Below.setCell ?_ (by first | omega | (simp; done) | (simp; omega) | exact Below.size (by assumption) | exact Nat.le_trans (Below.size (by assumption)) (by simp)) _) | (refine Below.via' ?_ (by assumption)) | (refine Below.alloc ?_ (by first | omega | (simp; done) | (simp; omega) | exact Below.size (by assumption) | exact Nat.le_trans (Below.size (by assumption)) (by simp)) _) | (refine Below.via ?_ (by assumption) (by first | omega | (simp; done) | (simp; omega) | exact Below.size (by assumption) | exact Nat.le_trans (Below.size (by assumption)) (by simp)))))), hst.out, Lib.hid (hins.out.below (by exact (by repeat (first | exact Below.refl _ _ | assumption | refine Below.drew ?_ | refine below_drewN ?_ _ | refine Below.alloc' ?_ _ | (refine Below.setCell ?_ (by first | omega | (simp; done) | (simp; omega) | exact Below.size (by assumption) | exact Nat.le_trans (Below.size (by assumption)) (by simp)) _) | (refine Below.via' ?_ (by assumption)) | (refine Below.alloc ?_ (by first | omega | (simp; done) | (simp; omega) | exact Below.size (by assumption) | exact Nat.le_trans (Below.size (by assumption)) (by simp)) _) | (refine Below.via ?_ (by assumption) (by first | omega | (simp; done) | (simp; omega) | exact Below.size (by assumption) | exact Nat.le_trans (Below.size (by assumption)) (by simp))))))), (by repeat (first | exact Below.refl _ _ | assumption | refine Below.drew ?_ | refine below_drewN ?_ _ | refine Below.alloc' ?_ _ | (refine Below.setCell ?_ (by first | omega | (simp; done) | (simp; omega) | exact Below.size (by assumption) | exact Nat.le_trans (Below.size (by assumption)) (by simp)) _) | (refine Below.via' ?_ (by assumption)) | (refine Below.alloc ?_ (by first | omega | (simp; done) | (simp; omega) | exact Below.size (by assumption) | exact Nat.le_trans (Below.size (by assumption)) (by simp)) _) | (refine Below.via ?_ (by assumption) (by first | omega | (simp; done) | (simp; omega) | exact Below.size (by assumption) | exact Nat.le_trans (Below.size (by assumption)) (by simp)))))⟩
        case measure => simp [intOf]; omega
      · have q1 : ((i : Int) == (n : Int)) = false := by rw [beq_eq_false_iff_ne]; omega
        have q2 : ((i : Int) != (n : Int)) = true := by show (!((i : Int) == (n : Int))) = true; rw [q1]; rfl
        have hst := Lib.hid (show pM T ++ [q.m] = woL ((pM Q).take (i + 1)) n from by rw [wo_ne (pM_at hQi.out) hin, hTs.out])
        have hbox := Lib.hid (RB.new wo q.a q.h q.x q.L.length q.c 36)
        have hownh := Lib.hid hown
        clear hown
        have hform := Lib.hid (OwR.of hownh.out).form
        obtain ⟨vx, vc, rfl, -, -⟩ := hform.out
        go_wp2_with fail
        refine (rOwn_any _ _ _ _ q.L _ hql hqc.1 hqc.2 (hqr.out.below (by exact (by repeat (first | exact Below.refl _ _ | assumption | refine Below.drew ?_ | refine below_drewN ?_ _ | refine Below.alloc' ?_ _ | (refine Below.setCell ?_ (by first | omega | (simp; done) | (simp; omega) | exact Below.size (by assumption) | exact Nat.le_trans (Below.size (by assumption)) (by simp)) _) | (refine Below.via' ?_ (by assumption)) | (refine Below.alloc ?_ (by first | omega | (simp; done) | (simp; omega) | exact Below.size (by assumption) | exact Nat.le_trans (Below.size (by assumption)) (by simp)) _) | (refine Below.via ?_ (by assumption) (by first | omega | (simp; done) | (simp; omega) | exact Below.size (by assumption) | exact Nat.le_trans (Below.size (by assumption)) (by simp)))))))).mono ?_
        rintro e2 w2 ⟨x2, c2, rfl, ho2, hb2⟩
        have hbx2 : Below wo.heap.size wo w2 := (by repeat (first | exact Below.refl _ _ | assumption | refine Below.drew ?_ | refine below_drewN ?_ _ | refine Below.alloc' ?_ _ | (refine Below.setCell ?_ (by first | omega | (simp; done) | (simp; omega) | exact Below.size (by assumption) | exact Nat.le_trans (Below.size (by assumption)) (by simp)) _) | (refine Below.via' ?_ (by assumption)) | (refine Below.alloc ?_ (by first | omega | (simp; done) | (simp; omega) | exact Below.size (by assumption) | exact Nat.le_trans (Below.size (by assumption)) (by simp)) _) | (refine Below.via ?_ (by assumption) (by first | omega | (simp; done) | (simp; omega) | exact Below.size (by assumption) | exact Nat.le_trans (Below.size (by assumption)) (by simp)))))
        have hown2 := own_below hownh.out hbx2
        have hins2 := Lib.hid (hins.out.below hbx2)
        have hz2' := hbx2.size
        have hz3' := hb2.size
        simp at hz3'
        have ho2h := Lib.hid ho2
        have hB2 : Below w.heap.size w w2 := (by repeat (first | exact Below.refl _ _ | assumption | refine Below.drew ?_ | refine below_drewN ?_ _ | refine Below.alloc' ?_ _ | (refine Below.setCell ?_ (by first | omega | (simp; done) | (simp; omega) | exact Below.size (by assumption) | exact Nat.le_trans (Below.size (by assumption)) (by simp)) _) | (refine Below.via' ?_ (by assumption)) | (refine Below.alloc ?_ (by first | omega | (simp; done) | (simp; omega) | exact Below.size (by assumption) | exact Nat.le_trans (Below.size (by assumption)) (by simp)) _) | (refine Below.via ?_ (by assumption) (by first | omega | (simp; done) | (simp; omega) | exact Below.size (by assumption) | exact Nat.le_trans (Below.size (by assumption)) (by simp)))))
        have hvl := Lib.hid (fun k hk => (hins.out.1 k hk).2)
        clear ho2 hownh hbox hb2 hbx2 hins
        go_wp2_with (at_builtin; go_loud (refine wpList_append_rd _ rfl (.tmp 18) (.tmp 21) 27 rfl w.heap.size 36 i0 (.agg #[.int .i64 0, .int .i64 0, .slice none 0 0]) 3 40 Try.underlying27 hi hz0 hz1 hz2 rfl (by decide) _ T.length (pC T) rfl (hown2.alloc _) _ 1 1 rfl (Nat.le_refl _) (by intro h; cases h) (pC [⟨q.a, q.h, x2, c2, q.L⟩]) rfl (Rd.oneR _ _ _ _ _ _ _) (pC_one _) (by unfold maxLen; omega) (by omega) (by simp; omega) ?_); intro v1 w3 hown3 hgrow3 hwhere3)
        have hh := append_below hB2 (fun k hk => (hins2.out.1 k hk).1) hgrow3 hwhere3
        have hown3' := Lib.hid (own_eq hown3 (show T.length + 1 = (T ++ [(⟨q.a, q.h, x2, c2, q.L⟩ : PR)]).length by simp) (pC_app T [⟨q.a, q.h, x2, c2, q.L⟩]).symm)
        obtain ⟨g, vc3, rfl⟩ := own_some hown3 (by omega)
        have hin2 := (hins2.out.below ((Below.refl _ _).alloc (Nat.le_refl _) (.cells #[.int .i64 q.a, .int .i64 q.h, .slice x2 q.L.length c2] 36)))
        have hsn := hin2.snoc (q := ⟨q.a, q.h, x2, c2, q.L⟩) (ho2h.out.rd.below ((Below.refl _ _).alloc (Nat.le_refl _) _)) hql (fun b off e => by
          have h1 := ho2h.out.inr b off e
          simp at h1
          refine ⟨by omega, by simp; omega, ?_⟩
          intro e2
          have := hvl.out b e2
          omega)
        have hins3 := Lib.hid (hsn.row hgrow3 hwhere3 (fun k hk => by injection hk with hk; subst hk; exact (own_lt hown3).2) (by simp; omega))
        exact ⟨⟨i + 1, T ++ [⟨q.a, q.h, x2, c2, q.L⟩], by omega, by go_num, by simp; omega, hown3'.out, (by unfold Hid; rw [pM_app]; exact hst.out), hins3, hh.1⟩, by simp [intOf]; omega⟩
    · have hij : i = Q.length := by omega
      obtain ⟨vx, vc, rfl, -, -⟩ := (OwR.of hown).form
      have hfin := Lib.hid (show SsP (woL (pM Q) n) w (.returned (.slice vx T.length vc)) wo from ⟨vx, vc, T, rfl, by rw [hTs.out, hij, ← pM_len Q, List.take_length], hins.out.drd hown, hb⟩)
      have hn' : ¬ (i : Int) < (Q.length : Int) := by omega
      clear hown hTs hins hij hlt
      go_wp2
      go_ret
      exact hfin.out

set_option maxHeartbeats 4000000 in
theorem sRR_x (x y : Option Addr) (c1 c2 : Nat) (S : List (ByteArray × Int)) (Q : List PR) (i : Int) (w : World) (h : SIn w x c1 S) (hQ : DIn w y Q) (hc : ∀ q ∈ Q, RCap q) :
    Calls Try.prog 17 #[.slice x S.length c1, .slice y Q.length c2, .int .i64 i] w (DsS (rrB S (pM Q) i) (rrL S (pM Q) i) w) := by
  have hh := Lib.hid h
  have hQh := Lib.hid hQ
  have hch := Lib.hid hc
  have hpl := pM_len Q
  clear h hQ hc
  by_cases hd : idB S (pM Q) = false
  · have hv := Lib.hid (rr_no1 (i := i) hd)
    replace hd := Lib.hid hd
    clear hpl
    go_enter Try.func17, Try.ntmps17
    go_wp2_with fail
    refine (dInput_any _ _ _ _ S Q _ (hh.out.below (by exact (by repeat (first | exact Below.refl _ _ | assumption | refine Below.drew ?_ | refine below_drewN ?_ _ | refine Below.alloc' ?_ _ | (refine Below.setCell ?_ (by first | omega | (simp; done) | (simp; omega) | exact Below.size (by assumption) | exact Nat.le_trans (Below.size (by assumption)) (by simp)) _) | (refine Below.via' ?_ (by assumption)) | (refine Below.alloc ?_ (by first | omega | (simp; done) | (simp; omega) | exact Below.size (by assumption) | exact Nat.le_trans (Below.size (by assumption)) (by simp)) _) | (refine Below.via ?_ (by assumption) (by first | omega | (simp; done) | (simp; omega) | exact Below.size (by assumption) | exact Nat.le_trans (Below.size (by assumption)) (by simp))))))) (hQh.out.below (by exact (by repeat (first | exact Below.refl _ _ | assumption | refine Below.drew ?_ | refine below_drewN ?_ _ | refine Below.alloc' ?_ _ | (refine Below.setCell ?_ (by first | omega | (simp; done) | (simp; omega) | exact Below.size (by assumption) | exact Nat.le_trans (Below.size (by assumption)) (by simp)) _) | (refine Below.via' ?_ (by assumption)) | (refine Below.alloc ?_ (by first | omega | (simp; done) | (simp; omega) | exact Below.size (by assumption) | exact Nat.le_trans (Below.size (by assumption)) (by simp)) _) | (refine Below.via ?_ (by assumption) (by first | omega | (simp; done) | (simp; omega) | exact Below.size (by assumption) | exact Nat.le_trans (Below.size (by assumption)) (by simp)))))))).mono ?_
    rintro e w1 ⟨he, hb1⟩
    rw [hd.out] at he
    subst he
    go_wp2
    go_ret2
    exact DsS.no hv.out (by repeat (first | exact Below.refl _ _ | assumption | refine Below.drew ?_ | refine below_drewN ?_ _ | refine Below.alloc' ?_ _ | (refine Below.setCell ?_ (by first | omega | (simp; done) | (simp; omega) | exact Below.size (by assumption) | exact Nat.le_trans (Below.size (by assumption)) (by simp)) _) | (refine Below.via' ?_ (by assumption)) | (refine Below.alloc ?_ (by first | omega | (simp; done) | (simp; omega) | exact Below.size (by assumption) | exact Nat.le_trans (Below.size (by assumption)) (by simp)) _) | (refine Below.via ?_ (by assumption) (by first | omega | (simp; done) | (simp; omega) | exact Below.size (by assumption) | exact Nat.le_trans (Below.size (by assumption)) (by simp)))))
  have hd : idB S (pM Q) = true := by simpa using hd
  have hl := idB_lenE hd
  replace hd := Lib.hid hd
  have hw : IntKind.i64.wrap ((Q.length : Int) - 1) = (Q.length : Int) - 1 := IntWalk.i64_in _ (by omega)
  by_cases hin : inB i 0 ((Q.length : Int) - 1) = false
  · have hv := Lib.hid (rr_no2 (S := S) (R := pM Q) (i := i) (by rw [inB_no] at hin; rw [hpl]; omega))
    replace hin := Lib.hid hin
    clear hpl
    go_enter Try.func17, Try.ntmps17
    go_wp2_with fail
    refine (dInput_any _ _ _ _ S Q _ (hh.out.below (by exact (by repeat (first | exact Below.refl _ _ | assumption | refine Below.drew ?_ | refine below_drewN ?_ _ | refine Below.alloc' ?_ _ | (refine Below.setCell ?_ (by first | omega | (simp; done) | (simp; omega) | exact Below.size (by assumption) | exact Nat.le_trans (Below.size (by assumption)) (by simp)) _) | (refine Below.via' ?_ (by assumption)) | (refine Below.alloc ?_ (by first | omega | (simp; done) | (simp; omega) | exact Below.size (by assumption) | exact Nat.le_trans (Below.size (by assumption)) (by simp)) _) | (refine Below.via ?_ (by assumption) (by first | omega | (simp; done) | (simp; omega) | exact Below.size (by assumption) | exact Nat.le_trans (Below.size (by assumption)) (by simp))))))) (hQh.out.below (by exact (by repeat (first | exact Below.refl _ _ | assumption | refine Below.drew ?_ | refine below_drewN ?_ _ | refine Below.alloc' ?_ _ | (refine Below.setCell ?_ (by first | omega | (simp; done) | (simp; omega) | exact Below.size (by assumption) | exact Nat.le_trans (Below.size (by assumption)) (by simp)) _) | (refine Below.via' ?_ (by assumption)) | (refine Below.alloc ?_ (by first | omega | (simp; done) | (simp; omega) | exact Below.size (by assumption) | exact Nat.le_trans (Below.size (by assumption)) (by simp)) _) | (refine Below.via ?_ (by assumption) (by first | omega | (simp; done) | (simp; omega) | exact Below.size (by assumption) | exact Nat.le_trans (Below.size (by assumption)) (by simp)))))))).mono ?_
    rintro e w1 ⟨he, hb1⟩
    rw [hd.out] at he
    subst he
    go_wp2_with fail
    refine (l1In_any _ _ _ _).mono ?_
    rintro e w2 ⟨he, rfl⟩
    rw [hin.out] at he
    subst he
    go_wp2
    go_ret2
    exact DsS.no hv.out (by repeat (first | exact Below.refl _ _ | assumption | refine Below.drew ?_ | refine below_drewN ?_ _ | refine Below.alloc' ?_ _ | (refine Below.setCell ?_ (by first | omega | (simp; done) | (simp; omega) | exact Below.size (by assumption) | exact Nat.le_trans (Below.size (by assumption)) (by simp)) _) | (refine Below.via' ?_ (by assumption)) | (refine Below.alloc ?_ (by first | omega | (simp; done) | (simp; omega) | exact Below.size (by assumption) | exact Nat.le_trans (Below.size (by assumption)) (by simp)) _) | (refine Below.via ?_ (by assumption) (by first | omega | (simp; done) | (simp; omega) | exact Below.size (by assumption) | exact Nat.le_trans (Below.size (by assumption)) (by simp)))))
  have hin : inB i 0 ((Q.length : Int) - 1) = true := by simpa using hin
  have hin2 := (inB_iff _ _ _).1 hin
  obtain ⟨k, rfl⟩ := Int.eq_ofNat_of_zero_le hin2.1
  have hk : k < Q.length := by omega
  have hv := Lib.hid (rr_yes (i := k) hd.out (by rw [hpl]; exact hk))
  replace hin := Lib.hid hin
  clear hpl hin2
  go_enter Try.func17, Try.ntmps17
  go_wp2_with fail
  refine (dInput_any _ _ _ _ S Q _ (hh.out.below (by exact (by repeat (first | exact Below.refl _ _ | assumption | refine Below.drew ?_ | refine below_drewN ?_ _ | refine Below.alloc' ?_ _ | (refine Below.setCell ?_ (by first | omega | (simp; done) | (simp; omega) | exact Below.size (by assumption) | exact Nat.le_trans (Below.size (by assumption)) (by simp)) _) | (refine Below.via' ?_ (by assumption)) | (refine Below.alloc ?_ (by first | omega | (simp; done) | (simp; omega) | exact Below.size (by assumption) | exact Nat.le_trans (Below.size (by assumption)) (by simp)) _) | (refine Below.via ?_ (by assumption) (by first | omega | (simp; done) | (simp; omega) | exact Below.size (by assumption) | exact Nat.le_trans (Below.size (by assumption)) (by simp))))))) (hQh.out.below (by exact (by repeat (first | exact Below.refl _ _ | assumption | refine Below.drew ?_ | refine below_drewN ?_ _ | refine Below.alloc' ?_ _ | (refine Below.setCell ?_ (by first | omega | (simp; done) | (simp; omega) | exact Below.size (by assumption) | exact Nat.le_trans (Below.size (by assumption)) (by simp)) _) | (refine Below.via' ?_ (by assumption)) | (refine Below.alloc ?_ (by first | omega | (simp; done) | (simp; omega) | exact Below.size (by assumption) | exact Nat.le_trans (Below.size (by assumption)) (by simp)) _) | (refine Below.via ?_ (by assumption) (by first | omega | (simp; done) | (simp; omega) | exact Below.size (by assumption) | exact Nat.le_trans (Below.size (by assumption)) (by simp)))))))).mono ?_
  rintro e w1 ⟨he, hb1⟩
  rw [hd.out] at he
  subst he
  go_wp2_with fail
  refine (l1In_any _ _ _ _).mono ?_
  rintro e w2 ⟨he, rfl⟩
  rw [hin.out] at he
  subst he
  have hz2 := hb1.size
  go_wp2_with fail
  refine (dWithout_any _ _ Q k _ (by omega) hk (hQh.out.below (by exact (by repeat (first | exact Below.refl _ _ | assumption | refine Below.drew ?_ | refine below_drewN ?_ _ | refine Below.alloc' ?_ _ | (refine Below.setCell ?_ (by first | omega | (simp; done) | (simp; omega) | exact Below.size (by assumption) | exact Nat.le_trans (Below.size (by assumption)) (by simp)) _) | (refine Below.via' ?_ (by assumption)) | (refine Below.alloc ?_ (by first | omega | (simp; done) | (simp; omega) | exact Below.size (by assumption) | exact Nat.le_trans (Below.size (by assumption)) (by simp)) _) | (refine Below.via ?_ (by assumption) (by first | omega | (simp; done) | (simp; omega) | exact Below.size (by assumption) | exact Nat.le_trans (Below.size (by assumption)) (by simp))))))) hch.out).mono ?_
  rintro e w3 ⟨x3, c3, T, rfl, hp, ho, hb3⟩
  have hres := Lib.hid (show DsS (rrB S (pM Q) k) (rrL S (pM Q) k) w (.returned (.tuple #[.slice x3 T.length c3, .bool true])) w3 from
    DsS.yes hv.out (by rw [Int.toNat_natCast]; exact hp) (ho.more hz2 (Nat.le_refl _)) (by repeat (first | exact Below.refl _ _ | assumption | refine Below.drew ?_ | refine below_drewN ?_ _ | refine Below.alloc' ?_ _ | (refine Below.setCell ?_ (by first | omega | (simp; done) | (simp; omega) | exact Below.size (by assumption) | exact Nat.le_trans (Below.size (by assumption)) (by simp)) _) | (refine Below.via' ?_ (by assumption)) | (refine Below.alloc ?_ (by first | omega | (simp; done) | (simp; omega) | exact Below.size (by assumption) | exact Nat.le_trans (Below.size (by assumption)) (by simp)) _) | (refine Below.via ?_ (by assumption) (by first | omega | (simp; done) | (simp; omega) | exact Below.size (by assumption) | exact Nat.le_trans (Below.size (by assumption)) (by simp))))))
  clear hp ho hb3
  go_wp2
  go_ret2
  exact hres.out
end Go.Proofs.Ytelnbjhnjcbjoaa
