/-
  The walks of chapter 4: SumsUp; the program's and the model's.
-/
import Derived.Test.YtelnbjhnjcbjoabGeoP
namespace Go.Proofs.Ytelnbjhnjcbjoab
open Go.RowKit
set_option maxRecDepth 100000

def gIfQ (b : Bool) (L : List Int) : List Int := if b then L else []
theorem RetGB.noQ {b : Bool} {L : List Int} {w w' : World} (h : b = false) (hb : Below w.heap.size w w') : RetGB (gIfQ b L) b w (.returned (.tuple #[.slice none 0 0, .bool false])) w' := by
  subst h
  exact ⟨_, rfl, World.ownsRow_nil _ _ _ _, hb⟩
theorem RetGB.yesQ {b : Bool} {L : List Int} {w w' w2 : World} {v : Value} (h : b = true) (ho : w2.ownsRow w.heap.size 3 1 v L.length (iC L)) (hb2 : Below w2.heap.size w2 w') (hb : Below w.heap.size w w') : RetGB (gIfQ b L) b w (.returned (.tuple #[v, .bool true])) w' := by
  subst h
  exact ⟨_, rfl, own_below ho hb2, hb⟩
theorem sg_no1 {P V : List Int} (h : geB P = false) : sgB P V = false := by unfold sgB; rw [h]; rfl
theorem sg_no2 {P V : List Int} (h : svB P V = false) : sgB P V = false := by unfold sgB; rw [h, Bool.and_false]
theorem sg_yes {P V : List Int} (h : geB P = true) (k : svB P V = true) : sgB P V = true := by unfold sgB; rw [h, k]; rfl
theorem grown_setQ (w : World) (b o : Nat) (v : Value) : w.grownBy (w.setCell ⟨b, o, none⟩ v) (some b) :=
  ⟨rfl, rfl, rfl, by simp, fun k hk hne => by
    have hb : b ≠ k := fun e => hne (by rw [e])
    simp [World.setCell, Array.getElem?_modify, hb]⟩
set_option maxHeartbeats 4000000 in
theorem sSU_x (x y : Option Addr) (c c2 : Nat) (P V : List Int) (w : World) (h : IIn w x P) (hmV : V.length ≤ 1048576) (hV : Rd w y (iC V)) (hc : V.length ≤ c2) (hnil : y = none → c2 = 0) :
    Calls Try.prog 13 #[.agg #[.slice x P.length c], .slice y V.length c2] w (RetGB (gIfQ (sgB P V) (suL P V)) (sgB P V) w) := by
  have hm := h.1
  have hh := Lib.hid h
  have hVh := Lib.hid hV
  have hnl := Lib.hid hnil
  have hq := Lib.hid (QB.new w x P.length c 28)
  clear h hV hnil
  cases hg : geB P
  · have hv := Lib.hid (sg_no1 (V := V) hg)
    go_enter Try.func13, Try.ntmps13
    go_wp2_with fail
    refine (gGood_any _ _ _ _ (hh.out.below (by exact (by repeat (first | exact Below.refl _ _ | assumption | refine Below.drew ?_ | refine below_drewN ?_ _ | refine Below.alloc' ?_ _ | (refine Below.setCell ?_ (by first | omega | (simp; done) | (simp; omega) | exact Below.size (by assumption) | exact Nat.le_trans (Below.size (by assumption)) (by simp)) _) | (refine Below.via' ?_ (by assumption)) | (refine Below.alloc ?_ (by first | omega | (simp; done) | (simp; omega) | exact Below.size (by assumption) | exact Nat.le_trans (Below.size (by assumption)) (by simp)) _) | (refine Below.via ?_ (by assumption) (by first | omega | (simp; done) | (simp; omega) | exact Below.size (by assumption) | exact Nat.le_trans (Below.size (by assumption)) (by simp)))))))).mono ?_
    rintro e w1 ⟨rfl, hb1⟩
    rw [hg]
    go_wp2
    go_ret2
    exact RetGB.noQ hv.out (by repeat (first | exact Below.refl _ _ | assumption | refine Below.drew ?_ | refine below_drewN ?_ _ | refine Below.alloc' ?_ _ | (refine Below.setCell ?_ (by first | omega | (simp; done) | (simp; omega) | exact Below.size (by assumption) | exact Nat.le_trans (Below.size (by assumption)) (by simp)) _) | (refine Below.via' ?_ (by assumption)) | (refine Below.alloc ?_ (by first | omega | (simp; done) | (simp; omega) | exact Below.size (by assumption) | exact Nat.le_trans (Below.size (by assumption)) (by simp)) _) | (refine Below.via ?_ (by assumption) (by first | omega | (simp; done) | (simp; omega) | exact Below.size (by assumption) | exact Nat.le_trans (Below.size (by assumption)) (by simp)))))
  by_cases hl : V.length = P.length
  · have he1 : ((V.length : Int) == (P.length : Int)) = true := by rw [beq_iff_eq]; omega
    have he2 : ((V.length : Int) != (P.length : Int)) = false := by show (!((V.length : Int) == (P.length : Int))) = false; rw [he1]; rfl
    have hsv := sv_yes hl
    have hlh := Lib.hid hl
    cases hr : inR V (-1000000) 1000000
    · have hv := Lib.hid (sg_no2 (P := P) (hsv.trans hr))
      clear hl hsv
      go_enter Try.func13, Try.ntmps13
      go_wp2_with fail
      refine (gGood_any _ _ _ _ (hh.out.below (by exact (by repeat (first | exact Below.refl _ _ | assumption | refine Below.drew ?_ | refine below_drewN ?_ _ | refine Below.alloc' ?_ _ | (refine Below.setCell ?_ (by first | omega | (simp; done) | (simp; omega) | exact Below.size (by assumption) | exact Nat.le_trans (Below.size (by assumption)) (by simp)) _) | (refine Below.via' ?_ (by assumption)) | (refine Below.alloc ?_ (by first | omega | (simp; done) | (simp; omega) | exact Below.size (by assumption) | exact Nat.le_trans (Below.size (by assumption)) (by simp)) _) | (refine Below.via ?_ (by assumption) (by first | omega | (simp; done) | (simp; omega) | exact Below.size (by assumption) | exact Nat.le_trans (Below.size (by assumption)) (by simp)))))))).mono ?_
      rintro e w1 ⟨rfl, hb1⟩
      obtain ⟨ka, kb, kc⟩ := hq.out.below hb1
      rw [hg]
      go_wp2_with fail
      refine (l1All_any _ _ V _ _ _ hmV (hVh.out.below (by exact (by repeat (first | exact Below.refl _ _ | assumption | refine Below.drew ?_ | refine below_drewN ?_ _ | refine Below.alloc' ?_ _ | (refine Below.setCell ?_ (by first | omega | (simp; done) | (simp; omega) | exact Below.size (by assumption) | exact Nat.le_trans (Below.size (by assumption)) (by simp)) _) | (refine Below.via' ?_ (by assumption)) | (refine Below.alloc ?_ (by first | omega | (simp; done) | (simp; omega) | exact Below.size (by assumption) | exact Nat.le_trans (Below.size (by assumption)) (by simp)) _) | (refine Below.via ?_ (by assumption) (by first | omega | (simp; done) | (simp; omega) | exact Below.size (by assumption) | exact Nat.le_trans (Below.size (by assumption)) (by simp)))))))).mono ?_
      rintro e w2 ⟨rfl, rfl⟩
      rw [hr]
      go_wp2
      go_ret2
      exact RetGB.noQ hv.out (by repeat (first | exact Below.refl _ _ | assumption | refine Below.drew ?_ | refine below_drewN ?_ _ | refine Below.alloc' ?_ _ | (refine Below.setCell ?_ (by first | omega | (simp; done) | (simp; omega) | exact Below.size (by assumption) | exact Nat.le_trans (Below.size (by assumption)) (by simp)) _) | (refine Below.via' ?_ (by assumption)) | (refine Below.alloc ?_ (by first | omega | (simp; done) | (simp; omega) | exact Below.size (by assumption) | exact Nat.le_trans (Below.size (by assumption)) (by simp)) _) | (refine Below.via ?_ (by assumption) (by first | omega | (simp; done) | (simp; omega) | exact Below.size (by assumption) | exact Nat.le_trans (Below.size (by assumption)) (by simp)))))
    · have hv := Lib.hid (sg_yes hg (hsv.trans hr))
      clear hl hsv
      go_enter Try.func13, Try.ntmps13
      go_wp2_with fail
      refine (gGood_any _ _ _ _ (hh.out.below (by exact (by repeat (first | exact Below.refl _ _ | assumption | refine Below.drew ?_ | refine below_drewN ?_ _ | refine Below.alloc' ?_ _ | (refine Below.setCell ?_ (by first | omega | (simp; done) | (simp; omega) | exact Below.size (by assumption) | exact Nat.le_trans (Below.size (by assumption)) (by simp)) _) | (refine Below.via' ?_ (by assumption)) | (refine Below.alloc ?_ (by first | omega | (simp; done) | (simp; omega) | exact Below.size (by assumption) | exact Nat.le_trans (Below.size (by assumption)) (by simp)) _) | (refine Below.via ?_ (by assumption) (by first | omega | (simp; done) | (simp; omega) | exact Below.size (by assumption) | exact Nat.le_trans (Below.size (by assumption)) (by simp)))))))).mono ?_
      rintro e w1 ⟨rfl, hb1⟩
      obtain ⟨ka, kb, kc⟩ := hq.out.below hb1
      have hs : w.heap.size ≤ w1.heap.size := (show Below w.heap.size w w1 from (by repeat (first | exact Below.refl _ _ | assumption | refine Below.drew ?_ | refine below_drewN ?_ _ | refine Below.alloc' ?_ _ | (refine Below.setCell ?_ (by first | omega | (simp; done) | (simp; omega) | exact Below.size (by assumption) | exact Nat.le_trans (Below.size (by assumption)) (by simp)) _) | (refine Below.via' ?_ (by assumption)) | (refine Below.alloc ?_ (by first | omega | (simp; done) | (simp; omega) | exact Below.size (by assumption) | exact Nat.le_trans (Below.size (by assumption)) (by simp)) _) | (refine Below.via ?_ (by assumption) (by first | omega | (simp; done) | (simp; omega) | exact Below.size (by assumption) | exact Nat.le_trans (Below.size (by assumption)) (by simp)))))).size
      rw [hg]
      go_wp2_with fail
      refine (l1All_any _ _ V _ _ _ hmV (hVh.out.below (by exact (by repeat (first | exact Below.refl _ _ | assumption | refine Below.drew ?_ | refine below_drewN ?_ _ | refine Below.alloc' ?_ _ | (refine Below.setCell ?_ (by first | omega | (simp; done) | (simp; omega) | exact Below.size (by assumption) | exact Nat.le_trans (Below.size (by assumption)) (by simp)) _) | (refine Below.via' ?_ (by assumption)) | (refine Below.alloc ?_ (by first | omega | (simp; done) | (simp; omega) | exact Below.size (by assumption) | exact Nat.le_trans (Below.size (by assumption)) (by simp)) _) | (refine Below.via ?_ (by assumption) (by first | omega | (simp; done) | (simp; omega) | exact Below.size (by assumption) | exact Nat.le_trans (Below.size (by assumption)) (by simp)))))))).mono ?_
      rintro e w2 ⟨rfl, rfl⟩
      rw [hr]
      go_wp2_with fail
      refine (gSums_any _ _ _ _ P V _ hg hlh.out (hh.out.below (by exact (by repeat (first | exact Below.refl _ _ | assumption | refine Below.drew ?_ | refine below_drewN ?_ _ | refine Below.alloc' ?_ _ | (refine Below.setCell ?_ (by first | omega | (simp; done) | (simp; omega) | exact Below.size (by assumption) | exact Nat.le_trans (Below.size (by assumption)) (by simp)) _) | (refine Below.via' ?_ (by assumption)) | (refine Below.alloc ?_ (by first | omega | (simp; done) | (simp; omega) | exact Below.size (by assumption) | exact Nat.le_trans (Below.size (by assumption)) (by simp)) _) | (refine Below.via ?_ (by assumption) (by first | omega | (simp; done) | (simp; omega) | exact Below.size (by assumption) | exact Nat.le_trans (Below.size (by assumption)) (by simp))))))) (hVh.out.below (by exact (by repeat (first | exact Below.refl _ _ | assumption | refine Below.drew ?_ | refine below_drewN ?_ _ | refine Below.alloc' ?_ _ | (refine Below.setCell ?_ (by first | omega | (simp; done) | (simp; omega) | exact Below.size (by assumption) | exact Nat.le_trans (Below.size (by assumption)) (by simp)) _) | (refine Below.via' ?_ (by assumption)) | (refine Below.alloc ?_ (by first | omega | (simp; done) | (simp; omega) | exact Below.size (by assumption) | exact Nat.le_trans (Below.size (by assumption)) (by simp)) _) | (refine Below.via ?_ (by assumption) (by first | omega | (simp; done) | (simp; omega) | exact Below.size (by assumption) | exact Nat.le_trans (Below.size (by assumption)) (by simp))))))) hc hnl.out).mono ?_
      rintro e w3 ⟨v3, rfl, ho3, hb3⟩
      have ho3 := Lib.hid (own_more ho3 hs)
      go_wp2
      go_ret2
      exact RetGB.yesQ hv.out ho3.out (by repeat (first | exact Below.refl _ _ | assumption | refine Below.drew ?_ | refine below_drewN ?_ _ | refine Below.alloc' ?_ _ | (refine Below.setCell ?_ (by first | omega | (simp; done) | (simp; omega) | exact Below.size (by assumption) | exact Nat.le_trans (Below.size (by assumption)) (by simp)) _) | (refine Below.via' ?_ (by assumption)) | (refine Below.alloc ?_ (by first | omega | (simp; done) | (simp; omega) | exact Below.size (by assumption) | exact Nat.le_trans (Below.size (by assumption)) (by simp)) _) | (refine Below.via ?_ (by assumption) (by first | omega | (simp; done) | (simp; omega) | exact Below.size (by assumption) | exact Nat.le_trans (Below.size (by assumption)) (by simp))))) (by repeat (first | exact Below.refl _ _ | assumption | refine Below.drew ?_ | refine below_drewN ?_ _ | refine Below.alloc' ?_ _ | (refine Below.setCell ?_ (by first | omega | (simp; done) | (simp; omega) | exact Below.size (by assumption) | exact Nat.le_trans (Below.size (by assumption)) (by simp)) _) | (refine Below.via' ?_ (by assumption)) | (refine Below.alloc ?_ (by first | omega | (simp; done) | (simp; omega) | exact Below.size (by assumption) | exact Nat.le_trans (Below.size (by assumption)) (by simp)) _) | (refine Below.via ?_ (by assumption) (by first | omega | (simp; done) | (simp; omega) | exact Below.size (by assumption) | exact Nat.le_trans (Below.size (by assumption)) (by simp)))))
  · have he1 : ((V.length : Int) == (P.length : Int)) = false := by rw [beq_eq_false_iff_ne]; omega
    have he2 : ((V.length : Int) != (P.length : Int)) = true := by show (!((V.length : Int) == (P.length : Int))) = true; rw [he1]; rfl
    have hv := Lib.hid (sg_no2 (sv_no1 hl))
    replace hl := Lib.hid hl
    go_enter Try.func13, Try.ntmps13
    go_wp2_with fail
    refine (gGood_any _ _ _ _ (hh.out.below (by exact (by repeat (first | exact Below.refl _ _ | assumption | refine Below.drew ?_ | refine below_drewN ?_ _ | refine Below.alloc' ?_ _ | (refine Below.setCell ?_ (by first | omega | (simp; done) | (simp; omega) | exact Below.size (by assumption) | exact Nat.le_trans (Below.size (by assumption)) (by simp)) _) | (refine Below.via' ?_ (by assumption)) | (refine Below.alloc ?_ (by first | omega | (simp; done) | (simp; omega) | exact Below.size (by assumption) | exact Nat.le_trans (Below.size (by assumption)) (by simp)) _) | (refine Below.via ?_ (by assumption) (by first | omega | (simp; done) | (simp; omega) | exact Below.size (by assumption) | exact Nat.le_trans (Below.size (by assumption)) (by simp)))))))).mono ?_
    rintro e w1 ⟨rfl, hb1⟩
    obtain ⟨ka, kb, kc⟩ := hq.out.below hb1
    rw [hg]
    go_wp2
    go_ret2
    exact RetGB.noQ hv.out (by repeat (first | exact Below.refl _ _ | assumption | refine Below.drew ?_ | refine below_drewN ?_ _ | refine Below.alloc' ?_ _ | (refine Below.setCell ?_ (by first | omega | (simp; done) | (simp; omega) | exact Below.size (by assumption) | exact Nat.le_trans (Below.size (by assumption)) (by simp)) _) | (refine Below.via' ?_ (by assumption)) | (refine Below.alloc ?_ (by first | omega | (simp; done) | (simp; omega) | exact Below.size (by assumption) | exact Nat.le_trans (Below.size (by assumption)) (by simp)) _) | (refine Below.via ?_ (by assumption) (by first | omega | (simp; done) | (simp; omega) | exact Below.size (by assumption) | exact Nat.le_trans (Below.size (by assumption)) (by simp)))))

set_option maxHeartbeats 4000000 in
theorem iSU_x (x y : Option Addr) (c c2 : Nat) (P V : List Int) (w : World) (h : IIn w x P) (hmV : V.length ≤ 1048576) (hV : Rd w y (iC V)) (hc : V.length ≤ c2) (hnil : y = none → c2 = 0) :
    Calls Try.prog 15 #[.agg #[.slice x P.length c], .slice y V.length c2] w (RetGB (gIfQ (sgB P V) (suL P V)) (sgB P V) w) := by
  have hm := h.1
  have hh := Lib.hid h
  have hVh := Lib.hid hV
  have hnl := Lib.hid hnil
  have hq := Lib.hid (QB.new w x P.length c 28)
  clear h hV hnil
  cases hg : geB P
  · have hv := Lib.hid (sg_no1 (V := V) hg)
    go_enter Try.func15, Try.ntmps15
    go_wp2_with fail
    refine (iGeo_any _ _ _ _ (hh.out.below (by exact (by repeat (first | exact Below.refl _ _ | assumption | refine Below.drew ?_ | refine below_drewN ?_ _ | refine Below.alloc' ?_ _ | (refine Below.setCell ?_ (by first | omega | (simp; done) | (simp; omega) | exact Below.size (by assumption) | exact Nat.le_trans (Below.size (by assumption)) (by simp)) _) | (refine Below.via' ?_ (by assumption)) | (refine Below.alloc ?_ (by first | omega | (simp; done) | (simp; omega) | exact Below.size (by assumption) | exact Nat.le_trans (Below.size (by assumption)) (by simp)) _) | (refine Below.via ?_ (by assumption) (by first | omega | (simp; done) | (simp; omega) | exact Below.size (by assumption) | exact Nat.le_trans (Below.size (by assumption)) (by simp)))))))).mono ?_
    rintro e w1 ⟨rfl, hb1⟩
    rw [hg]
    go_wp2
    go_ret2
    exact RetGB.noQ hv.out (by repeat (first | exact Below.refl _ _ | assumption | refine Below.drew ?_ | refine below_drewN ?_ _ | refine Below.alloc' ?_ _ | (refine Below.setCell ?_ (by first | omega | (simp; done) | (simp; omega) | exact Below.size (by assumption) | exact Nat.le_trans (Below.size (by assumption)) (by simp)) _) | (refine Below.via' ?_ (by assumption)) | (refine Below.alloc ?_ (by first | omega | (simp; done) | (simp; omega) | exact Below.size (by assumption) | exact Nat.le_trans (Below.size (by assumption)) (by simp)) _) | (refine Below.via ?_ (by assumption) (by first | omega | (simp; done) | (simp; omega) | exact Below.size (by assumption) | exact Nat.le_trans (Below.size (by assumption)) (by simp)))))
  cases hsv : svB P V
  · have hv := Lib.hid (sg_no2 hsv)
    go_enter Try.func15, Try.ntmps15
    go_wp2_with fail
    refine (iGeo_any _ _ _ _ (hh.out.below (by exact (by repeat (first | exact Below.refl _ _ | assumption | refine Below.drew ?_ | refine below_drewN ?_ _ | refine Below.alloc' ?_ _ | (refine Below.setCell ?_ (by first | omega | (simp; done) | (simp; omega) | exact Below.size (by assumption) | exact Nat.le_trans (Below.size (by assumption)) (by simp)) _) | (refine Below.via' ?_ (by assumption)) | (refine Below.alloc ?_ (by first | omega | (simp; done) | (simp; omega) | exact Below.size (by assumption) | exact Nat.le_trans (Below.size (by assumption)) (by simp)) _) | (refine Below.via ?_ (by assumption) (by first | omega | (simp; done) | (simp; omega) | exact Below.size (by assumption) | exact Nat.le_trans (Below.size (by assumption)) (by simp)))))))).mono ?_
    rintro e w1 ⟨rfl, hb1⟩
    obtain ⟨ka, kb, kc⟩ := hq.out.below hb1
    rw [hg]
    go_wp2_with fail
    refine (areAreaValues_any _ _ _ _ P V _ hmV (hVh.out.below (by exact (by repeat (first | exact Below.refl _ _ | assumption | refine Below.drew ?_ | refine below_drewN ?_ _ | refine Below.alloc' ?_ _ | (refine Below.setCell ?_ (by first | omega | (simp; done) | (simp; omega) | exact Below.size (by assumption) | exact Nat.le_trans (Below.size (by assumption)) (by simp)) _) | (refine Below.via' ?_ (by assumption)) | (refine Below.alloc ?_ (by first | omega | (simp; done) | (simp; omega) | exact Below.size (by assumption) | exact Nat.le_trans (Below.size (by assumption)) (by simp)) _) | (refine Below.via ?_ (by assumption) (by first | omega | (simp; done) | (simp; omega) | exact Below.size (by assumption) | exact Nat.le_trans (Below.size (by assumption)) (by simp)))))))).mono ?_
    rintro e w2 ⟨rfl, hb2⟩
    rw [hsv]
    go_wp2
    go_ret2
    exact RetGB.noQ hv.out (by repeat (first | exact Below.refl _ _ | assumption | refine Below.drew ?_ | refine below_drewN ?_ _ | refine Below.alloc' ?_ _ | (refine Below.setCell ?_ (by first | omega | (simp; done) | (simp; omega) | exact Below.size (by assumption) | exact Nat.le_trans (Below.size (by assumption)) (by simp)) _) | (refine Below.via' ?_ (by assumption)) | (refine Below.alloc ?_ (by first | omega | (simp; done) | (simp; omega) | exact Below.size (by assumption) | exact Nat.le_trans (Below.size (by assumption)) (by simp)) _) | (refine Below.via ?_ (by assumption) (by first | omega | (simp; done) | (simp; omega) | exact Below.size (by assumption) | exact Nat.le_trans (Below.size (by assumption)) (by simp)))))
  have hv := Lib.hid (sg_yes hg hsv)
  have hl := sv_len hsv
  have hlen := ge_len hg
  have hgh := Lib.hid hg
  have hxl := Lib.hid (rd_low hh.out.2.2 (by rw [iC_len]; omega))
  have hll : V.length ≤ P.length := by omega
  have hll2 : P.length ≤ V.length := by omega
  have hvp : 0 < V.length := by omega
  replace hl := Lib.hid hl
  go_enter Try.func15, Try.ntmps15
  go_wp2_with fail
  refine (iGeo_any _ _ _ _ (hh.out.below (by exact (by repeat (first | exact Below.refl _ _ | assumption | refine Below.drew ?_ | refine below_drewN ?_ _ | refine Below.alloc' ?_ _ | (refine Below.setCell ?_ (by first | omega | (simp; done) | (simp; omega) | exact Below.size (by assumption) | exact Nat.le_trans (Below.size (by assumption)) (by simp)) _) | (refine Below.via' ?_ (by assumption)) | (refine Below.alloc ?_ (by first | omega | (simp; done) | (simp; omega) | exact Below.size (by assumption) | exact Nat.le_trans (Below.size (by assumption)) (by simp)) _) | (refine Below.via ?_ (by assumption) (by first | omega | (simp; done) | (simp; omega) | exact Below.size (by assumption) | exact Nat.le_trans (Below.size (by assumption)) (by simp)))))))).mono ?_
  rintro e w1 ⟨rfl, hb1⟩
  have hq1 := Lib.hid (hq.out.below hb1)
  obtain ⟨ka1, kb1, kc1⟩ := hq1.out
  rw [hg]
  go_wp2_with fail
  refine (areAreaValues_any _ _ _ _ P V _ hmV (hVh.out.below (by exact (by repeat (first | exact Below.refl _ _ | assumption | refine Below.drew ?_ | refine below_drewN ?_ _ | refine Below.alloc' ?_ _ | (refine Below.setCell ?_ (by first | omega | (simp; done) | (simp; omega) | exact Below.size (by assumption) | exact Nat.le_trans (Below.size (by assumption)) (by simp)) _) | (refine Below.via' ?_ (by assumption)) | (refine Below.alloc ?_ (by first | omega | (simp; done) | (simp; omega) | exact Below.size (by assumption) | exact Nat.le_trans (Below.size (by assumption)) (by simp)) _) | (refine Below.via ?_ (by assumption) (by first | omega | (simp; done) | (simp; omega) | exact Below.size (by assumption) | exact Nat.le_trans (Below.size (by assumption)) (by simp)))))))).mono ?_
  rintro e w2 ⟨rfl, hb2⟩
  have hq2 := Lib.hid (hq1.out.below hb2)
  have B2 : Below w.heap.size w w2 := (by repeat (first | exact Below.refl _ _ | assumption | refine Below.drew ?_ | refine below_drewN ?_ _ | refine Below.alloc' ?_ _ | (refine Below.setCell ?_ (by first | omega | (simp; done) | (simp; omega) | exact Below.size (by assumption) | exact Nat.le_trans (Below.size (by assumption)) (by simp)) _) | (refine Below.via' ?_ (by assumption)) | (refine Below.alloc ?_ (by first | omega | (simp; done) | (simp; omega) | exact Below.size (by assumption) | exact Nat.le_trans (Below.size (by assumption)) (by simp)) _) | (refine Below.via ?_ (by assumption) (by first | omega | (simp; done) | (simp; omega) | exact Below.size (by assumption) | exact Nat.le_trans (Below.size (by assumption)) (by simp)))))
  have H2 := Lib.hid (hh.out.below B2)
  have V2 := Lib.hid (hVh.out.below B2)
  rw [hsv]
  clear ka1 kb1 kc1 hb1 hb2 hq hq1 hg hsv
  obtain ⟨ka, kb, kc⟩ := hq2.out
  go_wp2_with fail
  go_region_law (first
    | (go_simp; go_at_call 32; refine (cloneInt_any _ _ V _ hmV hc hnl.out (V2.out.below (by exact (by repeat (first | exact Below.refl _ _ | assumption | refine Below.drew ?_ | refine below_drewN ?_ _ | refine Below.alloc' ?_ _ | (refine Below.setCell ?_ (by first | omega | (simp; done) | (simp; omega) | exact Below.size (by assumption) | exact Nat.le_trans (Below.size (by assumption)) (by simp)) _) | (refine Below.via' ?_ (by assumption)) | (refine Below.alloc ?_ (by first | omega | (simp; done) | (simp; omega) | exact Below.size (by assumption) | exact Nat.le_trans (Below.size (by assumption)) (by simp)) _) | (refine Below.via ?_ (by assumption) (by first | omega | (simp; done) | (simp; omega) | exact Below.size (by assumption) | exact Nat.le_trans (Below.size (by assumption)) (by simp)))))))).mono ?_; rintro e w5 ⟨u5, rfl, ho5⟩; (have hb5 := ho5.2); (obtain ⟨g5, c5, rfl⟩ := own_someV ho5.1 hvp); (obtain ⟨ka5, kb5, kc5⟩ := hq2.out.below (show Below w2.heap.size w2 w5 from (by repeat (first | exact Below.refl _ _ | assumption | refine Below.drew ?_ | refine below_drewN ?_ _ | refine Below.alloc' ?_ _ | (refine Below.setCell ?_ (by first | omega | (simp; done) | (simp; omega) | exact Below.size (by assumption) | exact Nat.le_trans (Below.size (by assumption)) (by simp)) _) | (refine Below.via' ?_ (by assumption)) | (refine Below.alloc ?_ (by first | omega | (simp; done) | (simp; omega) | exact Below.size (by assumption) | exact Nat.le_trans (Below.size (by assumption)) (by simp)) _) | (refine Below.via ?_ (by assumption) (by first | omega | (simp; done) | (simp; omega) | exact Below.size (by assumption) | exact Nat.le_trans (Below.size (by assumption)) (by simp))))))); (obtain ⟨hcl5, hfr5⟩ := bcell hb5); (have hz5 := hb5.size); (try simp at hz5); (try (have hl5 := Nat.lt_of_succ_le hz5))))
  all_goals
    have hgl5 := own_lt ho5.1
    have hg5 : w2.heap.size ≤ g5 := by have := hgl5.1; (try simp at this); omega
    have hgg5 : g5 < w5.heap.size := hgl5.2
    have hgw := B2.size
    have hwq : w.heap.size < w2.heap.size := kc
    have R5 := Lib.hid (H2.out.below (show Below w2.heap.size w2 w5 from (by repeat (first | exact Below.refl _ _ | assumption | refine Below.drew ?_ | refine below_drewN ?_ _ | refine Below.alloc' ?_ _ | (refine Below.setCell ?_ (by first | omega | (simp; done) | (simp; omega) | exact Below.size (by assumption) | exact Nat.le_trans (Below.size (by assumption)) (by simp)) _) | (refine Below.via' ?_ (by assumption)) | (refine Below.alloc ?_ (by first | omega | (simp; done) | (simp; omega) | exact Below.size (by assumption) | exact Nat.le_trans (Below.size (by assumption)) (by simp)) _) | (refine Below.via ?_ (by assumption) (by first | omega | (simp; done) | (simp; omega) | exact Below.size (by assumption) | exact Nat.le_trans (Below.size (by assumption)) (by simp)))))))
    have B5 := Lib.hid (show Below w.heap.size w w5 from (by repeat (first | exact Below.refl _ _ | assumption | refine Below.drew ?_ | refine below_drewN ?_ _ | refine Below.alloc' ?_ _ | (refine Below.setCell ?_ (by first | omega | (simp; done) | (simp; omega) | exact Below.size (by assumption) | exact Nat.le_trans (Below.size (by assumption)) (by simp)) _) | (refine Below.via' ?_ (by assumption)) | (refine Below.alloc ?_ (by first | omega | (simp; done) | (simp; omega) | exact Below.size (by assumption) | exact Nat.le_trans (Below.size (by assumption)) (by simp)) _) | (refine Below.via ?_ (by assumption) (by first | omega | (simp; done) | (simp; omega) | exact Below.size (by assumption) | exact Nat.le_trans (Below.size (by assumption)) (by simp))))))
    have O5 := Lib.hid (own_more (base' := w.heap.size + 1) ho5.1 (by (try simp); omega))
    clear ho5 hcl5 hfr5 ka kb kc ka5 kb5 kc5
    first
      | (have K5 := GBt.new w5 x P.length c (some ⟨g5, 0, none⟩) V.length c5 50
         have A5 := Lib.hid (O5.out.alloc (.cells #[.slice x P.length c, .slice (some ⟨g5, 0, none⟩) V.length c5] 50))
         have S5 := Lib.hid (R5.out.2.2.alloc (.cells #[.slice x P.length c, .slice (some ⟨g5, 0, none⟩) V.length c5] 50))
         have B6 := Below.alloc' B5.out (.cells #[.slice x P.length c, .slice (some ⟨g5, 0, none⟩) V.length c5] 50)
         clear hb5
         go_wp2_with fail
         refine (visitUp_su x c g5 c5 (w.heap.size + 1) V.length P (suF P V) _ hm (by omega) S5.out (fun b off e => by have := hxl.out b off e; omega) (fun i h1 h2 => stepA_su hgh.out hl.out h1 h2) (by rw [show P.length - 1 = V.length - 1 by omega, suF_top]; exact A5.out)).mono ?_
         rintro e w6 ⟨rfl, ho6, hg6⟩
         obtain ⟨kx, ky, kz⟩ := K5.grown hg6 (fun e => by injection e with e; omega)
         have B7 := Lib.hid (B6.grown hg6 (by simp; omega) (fun k hk => by injection hk with hk; omega))
         have ho6 := Lib.hid ho6
         clear hg6 B6 K5
         go_wp2
         go_ret2
         exact RetGB.yesQ hv.out (by rw [suL_len, ← suF_zero]; exact own_more ho6.out (by omega)) (Below.refl _ _) B7.out)
      | (have Q5 : Wb w5 w2.heap.size 50 #[.slice none 0 0, .slice none 0 0] := Wb.kept (show Wb (w2.alloc (.cells #[.slice none 0 0, .slice none 0 0] 50)).drew w2.heap.size 50 #[.slice none 0 0, .slice none 0 0] from Wb.new _ _ _) hb5
         have Q6 := (Q5.put 0 (.slice x P.length c)).put 1 (.slice (some ⟨g5, 0, none⟩) V.length c5)
         have hne5 : g5 ≠ w2.heap.size := by have := hgl5.1; (try simp at this); omega
         have K5 : GBt ((w5.setCell ⟨w2.heap.size, 0, none⟩ (.slice x P.length c)).setCell ⟨w2.heap.size, 1, none⟩ (.slice (some ⟨g5, 0, none⟩) V.length c5)) w2.heap.size x P.length c (some ⟨g5, 0, none⟩) V.length c5 := ⟨(Q6.read 0).trans rfl, (Q6.read 1).trans rfl, Q6.inside⟩
         have G5 : w5.grownBy ((w5.setCell ⟨w2.heap.size, 0, none⟩ (.slice x P.length c)).setCell ⟨w2.heap.size, 1, none⟩ (.slice (some ⟨g5, 0, none⟩) V.length c5)) (some w2.heap.size) := (grown_setQ _ _ _ _).trans (grown_setQ _ _ _ _)
         have A5 := Lib.hid (O5.out.kept G5 (Or.inr (fun e => by injection e with e; exact hne5 e)))
         have S5 := Lib.hid (R5.out.2.2.keep G5 (fun b off e q => by injection q with q; have := hxl.out b off e; omega))
         have B6 := B5.out.grown G5 (by omega) (fun k hk => by injection hk with hk; omega)
         clear hb5 G5 Q5 Q6
         obtain ⟨kx0, ky0, kz0⟩ := K5
         have K5 := Lib.hid (show GBt ((w5.setCell ⟨w2.heap.size, 0, none⟩ (.slice x P.length c)).setCell ⟨w2.heap.size, 1, none⟩ (.slice (some ⟨g5, 0, none⟩) V.length c5)) w2.heap.size x P.length c (some ⟨g5, 0, none⟩) V.length c5 from ⟨kx0, ky0, kz0⟩)
         go_wp2_with fail
         refine (visitUp_su x c g5 c5 (w.heap.size + 1) V.length P (suF P V) _ hm (by omega) S5.out (fun b off e => by have := hxl.out b off e; omega) (fun i h1 h2 => stepA_su hgh.out hl.out h1 h2) (by rw [show P.length - 1 = V.length - 1 by omega, suF_top]; exact A5.out)).mono ?_
         rintro e w6 ⟨rfl, ho6, hg6⟩
         obtain ⟨kx, ky, kz⟩ := K5.out.grown hg6 (fun e => by injection e with e; exact hne5 e.symm)
         have B7 := Lib.hid (B6.grown hg6 (by simp; omega) (fun k hk => by injection hk with hk; omega))
         have ho6 := Lib.hid ho6
         clear hg6 B6 K5 kx0 ky0 kz0
         go_wp2
         go_ret2
         exact RetGB.yesQ hv.out (by rw [suL_len, ← suF_zero]; exact own_more ho6.out (by omega)) (Below.refl _ _) B7.out)
end Go.Proofs.Ytelnbjhnjcbjoab
