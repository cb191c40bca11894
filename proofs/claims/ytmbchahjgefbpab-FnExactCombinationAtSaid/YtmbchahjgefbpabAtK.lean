/-
  The walks of chapter 2: the values with an index; the program's, whole.
-/
import Derived.Test.YtmbchahjgefbpabAtJ
namespace Go.Proofs.Ytmbchahjgefbpab
open Go.RowKit
set_option maxRecDepth 100000

set_option maxHeartbeats 1000000 in
theorem iCA_yes (x : Option Addr) (cap : Nat) (S : List (ByteArray × Int)) (i : Int) (w : World) (h : SIn w x cap S) (hs : schB S = true) (h0 : 0 ≤ i) (h1 : i < cnZ S) :
    Calls Try.prog 9 #[.slice x S.length cap, .int .i64 i] w fun e w' => ∃ u, e = .returned (.tuple #[u, .bool true]) ∧ Ret w w' 3 1 u (atL S i).length (iC (atL S i)) := by
  have hm := h.1
  have hh := Lib.hid h
  have hsh := Lib.hid hs
  clear h hs
  go_enter Try.func9, Try.ntmps9
  go_wp2_with fail
  refine (isSch_x _ _ _ _ (hh.out.below (by exact (by repeat (first | exact Below.refl _ _ | assumption | refine Below.drew ?_ | refine below_drewN ?_ _ | refine Below.alloc' ?_ _ | (refine Below.setCell ?_ (by first | omega | (simp; done) | (simp; omega) | exact Below.size (by assumption) | exact Nat.le_trans (Below.size (by assumption)) (by simp)) _) | (refine Below.via' ?_ (by assumption)) | (refine Below.alloc ?_ (by first | omega | (simp; done) | (simp; omega) | exact Below.size (by assumption) | exact Nat.le_trans (Below.size (by assumption)) (by simp)) _) | (refine Below.via ?_ (by assumption) (by first | omega | (simp; done) | (simp; omega) | exact Below.size (by assumption) | exact Nat.le_trans (Below.size (by assumption)) (by simp)))))))).mono ?_
  rintro e w1 ⟨rfl, hb1⟩
  rw [hsh.out]
  go_wp2_with fail
  refine (countCombinations_any _ _ _ _ hsh.out hm (hh.out.rd.below (by exact (by repeat (first | exact Below.refl _ _ | assumption | refine Below.drew ?_ | refine below_drewN ?_ _ | refine Below.alloc' ?_ _ | (refine Below.setCell ?_ (by first | omega | (simp; done) | (simp; omega) | exact Below.size (by assumption) | exact Nat.le_trans (Below.size (by assumption)) (by simp)) _) | (refine Below.via' ?_ (by assumption)) | (refine Below.alloc ?_ (by first | omega | (simp; done) | (simp; omega) | exact Below.size (by assumption) | exact Nat.le_trans (Below.size (by assumption)) (by simp)) _) | (refine Below.via ?_ (by assumption) (by first | omega | (simp; done) | (simp; omega) | exact Below.size (by assumption) | exact Nat.le_trans (Below.size (by assumption)) (by simp)))))))).mono ?_
  rintro e w2 ⟨rfl, hb2⟩
  have B2 : Below w.heap.size w w2 := (by repeat (first | exact Below.refl _ _ | assumption | refine Below.drew ?_ | refine below_drewN ?_ _ | refine Below.alloc' ?_ _ | (refine Below.setCell ?_ (by first | omega | (simp; done) | (simp; omega) | exact Below.size (by assumption) | exact Nat.le_trans (Below.size (by assumption)) (by simp)) _) | (refine Below.via' ?_ (by assumption)) | (refine Below.alloc ?_ (by first | omega | (simp; done) | (simp; omega) | exact Below.size (by assumption) | exact Nat.le_trans (Below.size (by assumption)) (by simp)) _) | (refine Below.via ?_ (by assumption) (by first | omega | (simp; done) | (simp; omega) | exact Below.size (by assumption) | exact Nat.le_trans (Below.size (by assumption)) (by simp)))))
  go_wp2_with fail
  refine (combAt_any _ _ S _ _ (hh.out.below (by exact (by repeat (first | exact Below.refl _ _ | assumption | refine Below.drew ?_ | refine below_drewN ?_ _ | refine Below.alloc' ?_ _ | (refine Below.setCell ?_ (by first | omega | (simp; done) | (simp; omega) | exact Below.size (by assumption) | exact Nat.le_trans (Below.size (by assumption)) (by simp)) _) | (refine Below.via' ?_ (by assumption)) | (refine Below.alloc ?_ (by first | omega | (simp; done) | (simp; omega) | exact Below.size (by assumption) | exact Nat.le_trans (Below.size (by assumption)) (by simp)) _) | (refine Below.via ?_ (by assumption) (by first | omega | (simp; done) | (simp; omega) | exact Below.size (by assumption) | exact Nat.le_trans (Below.size (by assumption)) (by simp))))))) hsh.out h0 h1).mono ?_
  rintro e w3 ⟨u3, rfl, ho3, hb3⟩
  have ho3 := Lib.hid (own_more ho3 B2.size)
  go_wp2
  go_ret2
  exact ⟨_, rfl, ho3.out, (by repeat (first | exact Below.refl _ _ | assumption | refine Below.drew ?_ | refine below_drewN ?_ _ | refine Below.alloc' ?_ _ | (refine Below.setCell ?_ (by first | omega | (simp; done) | (simp; omega) | exact Below.size (by assumption) | exact Nat.le_trans (Below.size (by assumption)) (by simp)) _) | (refine Below.via' ?_ (by assumption)) | (refine Below.alloc ?_ (by first | omega | (simp; done) | (simp; omega) | exact Below.size (by assumption) | exact Nat.le_trans (Below.size (by assumption)) (by simp)) _) | (refine Below.via ?_ (by assumption) (by first | omega | (simp; done) | (simp; omega) | exact Below.size (by assumption) | exact Nat.le_trans (Below.size (by assumption)) (by simp)))))⟩

theorem iCA_x (x : Option Addr) (cap : Nat) (S : List (ByteArray × Int)) (i : Int) (w : World) (h : SIn w x cap S) :
    Calls Try.prog 9 #[.slice x S.length cap, .int .i64 i] w fun e w' => ∃ u, e = .returned (.tuple #[u, .bool (caB S i)]) ∧ Ret w w' 3 1 u (caL S i).length (iC (caL S i)) := by
  have hno : caB S i = false → ∀ (e : Ending) (w' : World), e = .returned (.tuple #[.slice none 0 0, .bool false]) ∧ Below w.heap.size w w' → ∃ u, e = .returned (.tuple #[u, .bool (caB S i)]) ∧ Ret w w' 3 1 u (caL S i).length (iC (caL S i)) := by
    rintro hb e w' ⟨rfl, hB⟩
    rw [hb, ca_no hb]
    exact ⟨_, rfl, World.ownsRow_nil _ _ _ _, hB⟩
  cases hs : schB S
  · exact (iCA_no1 x cap S i w h hs).mono (hno (ca_no1 hs))
  obtain ⟨n1, n2⟩ := cn_all hs
  by_cases h0 : i < 0
  · exact (iCA_no2 x cap S i w h hs h0).mono (hno (ca_no2 ((inB_no _ _ _).2 (by omega))))
  by_cases h1 : cnZ S ≤ i
  · exact (iCA_no3 x cap S i w h hs (by omega) h1).mono (hno (ca_no2 ((inB_no _ _ _).2 (by omega))))
  have hb := ca_get hs ((inB_iff i 0 (cnZ S - 1)).2 (by omega))
  rw [hb, ca_yes hb]
  exact iCA_yes x cap S i w h hs (by omega) (by omega)
end Go.Proofs.Ytmbchahjgefbpab
