/-
  The walks of chapter 10: PartsOf; the program's and the model's.
-/
import Derived.Test.YtnmpigedhpdenaaCbR
import Derived.Test.YtnmpigedhpdenaaCbS
namespace Go.Proofs.Ytnmpigedhpdenaa
open Go.RowKit
set_option maxRecDepth 100000

/-- Lists of lists and a Bool, handed back. -/
def RetSB (L : List (List Int)) (b : Bool) (w : World) (e : Ending) (w' : World) : Prop := ∃ v T, e = .returned (.tuple #[v, .bool b]) ∧ eM T = L ∧ OwS w' w.heap.size v T ∧ Below w.heap.size w w'
theorem retSB_no {Z : List Int} {i : Int} {w w' : World} (h : ppB Z i = false) (hb : Below w.heap.size w w') : RetSB (ppL Z i) (ppB Z i) w (.returned (.tuple #[.slice none 0 0, .bool false])) w' :=
  ⟨_, [], by rw [h], by rw [ppL_no h]; rfl, OwS.nil _ _, hb⟩
theorem retSB_yes {Z : List Int} {i : Int} {w w' : World} {v : Value} {T : List PR} (h : ppB Z i = true) (hT : eM T = ptZ Z i) (ho : OwS w' w.heap.size v T) (hb : Below w.heap.size w w') : RetSB (ppL Z i) (ppB Z i) w (.returned (.tuple #[v, .bool true])) w' :=
  ⟨_, T, by rw [h], by rw [ppL_yes h]; exact hT, ho, hb⟩
set_option maxHeartbeats 2000000 in
theorem iPO_x (x : Option Addr) (c : Nat) (Z : List Int) (i : Int) (w : World) (hZ : IIn w x Z) :
    Calls Try.prog 42 #[.slice x Z.length c, .int .i64 i] w (RetSB (ppL Z i) (ppB Z i) w) := by
  have hZh := Lib.hid hZ
  clear hZ
  cases hs : csB Z
  · have hv := Lib.hid (pp_no1 (i := i) hs)
    go_enter Try.func42, Try.ntmps42
    go_wp2_with fail
    refine (areSizes_any _ _ Z _ hZh.out).mono ?_
    rintro e w1 ⟨rfl, rfl⟩
    rw [hs]
    go_wp2
    go_ret2
    exact retSB_no hv.out (by repeat (first | exact Below.refl _ _ | assumption | refine Below.drew ?_ | refine below_drewN ?_ _ | refine Below.alloc' ?_ _ | (refine Below.setCell ?_ (by first | omega | (simp; done) | (simp; omega) | exact Below.size (by assumption) | exact Nat.le_trans (Below.size (by assumption)) (by simp)) _) | (refine Below.via' ?_ (by assumption)) | (refine Below.alloc ?_ (by first | omega | (simp; done) | (simp; omega) | exact Below.size (by assumption) | exact Nat.le_trans (Below.size (by assumption)) (by simp)) _) | (refine Below.via ?_ (by assumption) (by first | omega | (simp; done) | (simp; omega) | exact Below.size (by assumption) | exact Nat.le_trans (Below.size (by assumption)) (by simp)))))
  have hsh := Lib.hid hs
  have hok := Lib.hid (cs_get hs).1
  obtain ⟨n1, n2⟩ := cn_ok (cs_get hs).1
  have n3 := (cs_get hs).2
  clear hs
  by_cases h0 : i < 0
  · have hv := Lib.hid (pp_no2 (Z := Z) (i := i) ((inB_no _ _ _).2 (by omega)))
    go_enter Try.func42, Try.ntmps42
    go_wp2_with fail
    refine (areSizes_any _ _ Z _ hZh.out).mono ?_
    rintro e w1 ⟨rfl, rfl⟩
    rw [hsh.out]
    go_wp2
    go_ret2
    exact retSB_no hv.out (by repeat (first | exact Below.refl _ _ | assumption | refine Below.drew ?_ | refine below_drewN ?_ _ | refine Below.alloc' ?_ _ | (refine Below.setCell ?_ (by first | omega | (simp; done) | (simp; omega) | exact Below.size (by assumption) | exact Nat.le_trans (Below.size (by assumption)) (by simp)) _) | (refine Below.via' ?_ (by assumption)) | (refine Below.alloc ?_ (by first | omega | (simp; done) | (simp; omega) | exact Below.size (by assumption) | exact Nat.le_trans (Below.size (by assumption)) (by simp)) _) | (refine Below.via ?_ (by assumption) (by first | omega | (simp; done) | (simp; omega) | exact Below.size (by assumption) | exact Nat.le_trans (Below.size (by assumption)) (by simp)))))
  by_cases h1 : cnC Z ≤ i
  · have hv := Lib.hid (pp_no2 (Z := Z) (i := i) ((inB_no _ _ _).2 (by omega)))
    go_enter Try.func42, Try.ntmps42
    go_wp2_with fail
    refine (areSizes_any _ _ Z _ hZh.out).mono ?_
    rintro e w1 ⟨rfl, rfl⟩
    rw [hsh.out]
    go_wp2_with fail
    refine (ccount_any _ _ Z _ hok.out hZh.out).mono ?_
    rintro e w2 ⟨rfl, rfl⟩
    go_wp2
    go_ret2
    exact retSB_no hv.out (by repeat (first | exact Below.refl _ _ | assumption | refine Below.drew ?_ | refine below_drewN ?_ _ | refine Below.alloc' ?_ _ | (refine Below.setCell ?_ (by first | omega | (simp; done) | (simp; omega) | exact Below.size (by assumption) | exact Nat.le_trans (Below.size (by assumption)) (by simp)) _) | (refine Below.via' ?_ (by assumption)) | (refine Below.alloc ?_ (by first | omega | (simp; done) | (simp; omega) | exact Below.size (by assumption) | exact Nat.le_trans (Below.size (by assumption)) (by simp)) _) | (refine Below.via ?_ (by assumption) (by first | omega | (simp; done) | (simp; omega) | exact Below.size (by assumption) | exact Nat.le_trans (Below.size (by assumption)) (by simp)))))
  have hv := Lib.hid (pp_yes (Z := Z) (i := i) hsh.out ((inB_iff _ _ _).2 (by omega)))
  go_enter Try.func42, Try.ntmps42
  go_wp2_with fail
  refine (areSizes_any _ _ Z _ hZh.out).mono ?_
  rintro e w1 ⟨rfl, rfl⟩
  rw [hsh.out]
  go_wp2_with fail
  refine (ccount_any _ _ Z _ hok.out hZh.out).mono ?_
  rintro e w2 ⟨rfl, rfl⟩
  go_wp2_with fail
  refine (parts_any _ _ Z i _ hok.out (by omega) (by omega) hZh.out).mono ?_
  rintro e w3 ⟨v, T, rfl, hT, hS, hb⟩
  have hTh := Lib.hid hT
  have hSh := Lib.hid hS
  clear hT hS
  go_wp2
  go_ret2
  exact retSB_yes hv.out hTh.out hSh.out hb
set_option maxHeartbeats 8000000 in
theorem sPO_x (x : Option Addr) (c : Nat) (Z : List Int) (i : Int) (w : World) (hZ : IIn w x Z) :
    Calls Try.prog 41 #[.slice x Z.length c, .int .i64 i] w (RetSB (ppL Z i) (ppB Z i) w) := by
  obtain ⟨r0, hri, hrz0, hrz1, hrz2⟩ := info_parts Try.infoRowC
  have hZh := Lib.hid hZ
  clear hZ
  cases hs : csB Z
  · have hv := Lib.hid (pp_no1 (i := i) hs)
    have hcv := Lib.hid (cbV_no hs)
    have hin := Lib.hid (show inB i 0 (-1) = false from (inB_no _ _ _).2 (by omega))
    go_enter Try.func41, Try.ntmps41
    go_wp2_with fail
    refine (cbCount_any _ _ Z _ hZh.out).mono ?_
    rintro e w1 ⟨rfl, rfl⟩
    rw [hcv.out]
    go_wp2_with fail
    refine (l1In_any _ _ _ _).mono ?_
    rintro e w2 ⟨rfl, rfl⟩
    rw [show inB i 0 (-1) = false from hin.out]
    go_wp2
    go_ret2
    exact retSB_no hv.out (by repeat (first | exact Below.refl _ _ | assumption | refine Below.drew ?_ | refine below_drewN ?_ _ | refine Below.alloc' ?_ _ | (refine Below.setCell ?_ (by first | omega | (simp; done) | (simp; omega) | exact Below.size (by assumption) | exact Nat.le_trans (Below.size (by assumption)) (by simp)) _) | (refine Below.via' ?_ (by assumption)) | (refine Below.alloc ?_ (by first | omega | (simp; done) | (simp; omega) | exact Below.size (by assumption) | exact Nat.le_trans (Below.size (by assumption)) (by simp)) _) | (refine Below.via ?_ (by assumption) (by first | omega | (simp; done) | (simp; omega) | exact Below.size (by assumption) | exact Nat.le_trans (Below.size (by assumption)) (by simp)))))
  have hsh := Lib.hid hs
  have hok := Lib.hid (cs_get hs).1
  obtain ⟨n1, n2⟩ := cn_ok (cs_get hs).1
  have n3 := (cs_get hs).2
  have h4 := okZ_len (cs_get hs).1
  have hcv := Lib.hid (cbV_yes hs)
  clear hs
  cases hin : inB i 0 (cnC Z - 1)
  · have hv := Lib.hid (pp_no2 hin)
    go_enter Try.func41, Try.ntmps41
    go_wp2_with fail
    refine (cbCount_any _ _ Z _ hZh.out).mono ?_
    rintro e w1 ⟨rfl, rfl⟩
    rw [hcv.out]
    go_wp2_with fail
    refine (l1In_any _ _ _ _).mono ?_
    rintro e w2 ⟨rfl, rfl⟩
    rw [hin]
    go_wp2
    go_ret2
    exact retSB_no hv.out (by repeat (first | exact Below.refl _ _ | assumption | refine Below.drew ?_ | refine below_drewN ?_ _ | refine Below.alloc' ?_ _ | (refine Below.setCell ?_ (by first | omega | (simp; done) | (simp; omega) | exact Below.size (by assumption) | exact Nat.le_trans (Below.size (by assumption)) (by simp)) _) | (refine Below.via' ?_ (by assumption)) | (refine Below.alloc ?_ (by first | omega | (simp; done) | (simp; omega) | exact Below.size (by assumption) | exact Nat.le_trans (Below.size (by assumption)) (by simp)) _) | (refine Below.via ?_ (by assumption) (by first | omega | (simp; done) | (simp; omega) | exact Below.size (by assumption) | exact Nat.le_trans (Below.size (by assumption)) (by simp)))))
  have hv := Lib.hid (pp_yes hsh.out hin)
  obtain ⟨i0, i1⟩ := (inB_iff _ _ _).1 hin
  go_enter Try.func41, Try.ntmps41
  go_wp2_with fail
  refine (cbCount_any _ _ Z _ hZh.out).mono ?_
  rintro e w1 ⟨rfl, rfl⟩
  rw [hcv.out]
  go_wp2_with fail
  refine (l1In_any _ _ _ _).mono ?_
  rintro e w2 ⟨rfl, rfl⟩
  rw [hin]
  replace hin := Lib.hid hin
  go_wp2_with fail
  refine (cbIndices_any _ _ Z i _ hok.out (by omega) (by omega) hZh.out).mono ?_
  rintro e w3 ⟨rfl, ho3, hb3⟩
  have hoh := Lib.hid ho3
  have hb3h := Lib.hid hb3
  clear ho3 hb3
  go_wp2
  go_loopw [6, 19] (fun v q wr => ∃ (j : Nat) (T : List PR), j ≤ Z.length ∧ q = .int .i64 j ∧ Hid (eM T = ptU Z i j) ∧ Hid (OwS wr w.heap.size v T) ∧ Hid (wr.ownsRow w.heap.size 3 1 (.slice (some ⟨w.heap.size, 0, none⟩) Z.length Z.length) Z.length (iC (dgL Z i))) ∧ Below w.heap.size w wr) (fun _ q _ => Z.length - (intOf q).toNat)
  case atStart => exact ⟨0, [], by omega, by go_num, rfl, OwS.nil _ _, hoh.out, hb3h.out⟩
  case round =>
    clear hoh hb3h
    obtain ⟨j, T, hj, rfl, hT, hS, hI, hB⟩ := hrel
    have hTl : T.length ≤ j := by
      have h2 := ptU_len Z i j
      rw [← hT.out, eM_len] at h2
      exact h2
    by_cases hlt : j < Z.length
    · obtain ⟨bl, off, z, rfl, hbl, hZj, hc0⟩ := (hZh.out.below hB).2.2.int hlt
      obtain ⟨l1, l2⟩ := okZ_at hok.out hZj
      have hyd := dgL_at i hZj
      obtain ⟨y, hye⟩ : ∃ y, y = i / cnC (Z.drop (j + 1)) % (z + 1) := ⟨_, rfl⟩
      rw [← hye] at hyd
      obtain ⟨u, hu, k0⟩ := own_cell hI.out (j := j) (by omega)
      obtain rfl : u = .int .i64 y := iC_atI hyd hu
      have k4 := (own_lt hI.out).2
      have hlt' : (j : Int) < (Z.length : Int) := by omega
      have hZjh := Lib.hid hZj
      have hydh := Lib.hid hyd
      clear hZj hyd hye hu
      by_cases he : y = z
      · have heb : (y == z) = true := by rw [beq_iff_eq]; exact he
        replace he := Lib.hid he
        obtain ⟨wo, rfl⟩ : ∃ u : World, u = wr := ⟨_, rfl⟩
        have hlto := Lib.hid hS.out.lt
        have hbs := hB.size
        go_wp2_with fail
        refine (cbParts_any _ _ Z i j _ hok.out (by omega) (by omega) hlt (hZh.out.below hB)).mono ?_
        rintro e w4 ⟨v4, rfl, ho4, hb4⟩
        obtain ⟨x4, c4, rfl, -, -⟩ := (OwR.of ho4).form
        have hS4 := Lib.hid (hS.out.below hb4)
        have hI4 := Lib.hid (own_below hI.out hb4)
        have hB4 : Below w.heap.size w w4 := Below.via' hB hb4
        have ho4h := Lib.hid ho4
        have hb4s := hb4.size
        clear ho4 hb4
        go_wp2_with (at_builtin; go_loud (refine wpList_append_rd _ rfl (.tmp 30) (.tmp 35) 50 rfl w.heap.size 22 r0 (.slice none 0 0) 1 24 Try.underlying50 hri hrz0 hrz1 hrz2 rfl (by decide) _ T.length (eC T) rfl (hS4.out.1.alloc _) _ 1 1 rfl (Nat.le_refl _) (by intro h; cases h) (eC [⟨0, 0, x4, c4, ptD Z i j⟩]) rfl (rd_oneC _ _ ⟨0, 0, x4, c4, ptD Z i j⟩ _ (by simp)) (eC_one _) (by unfold maxLen; omega) (by omega) (by simp; omega) ?_); intro v3 w5 hown3 hgrow3 hwhere3)
        obtain ⟨hb5, hl5⟩ := append_below hB4 (fun k hk => (hS4.out.1.lt k hk).1) hgrow3 hwhere3
        have hS5 := Lib.hid (hS4.out.snoc hgrow3 hown3 ho4h.out hB.size hlto.out)
        have hI5 : Hid (w5.ownsRow w.heap.size 3 1 (.slice (some ⟨w.heap.size, 0, none⟩) Z.length Z.length) Z.length (iC (dgL Z i))) := (hI4.out.alloc _).kept hgrow3 (rows_apartC hI4.out hS4.out.1 (by decide))
        have hT5 := Lib.hid (ptU_row (r := ⟨0, 0, x4, c4, ptD Z i j⟩) hT.out hZjh.out hydh.out he.out rfl)
        clear hgrow3 hwhere3 hown3
        go_wp2
        go_roundw
        case rel => exact ⟨j + 1, T ++ [⟨0, 0, x4, c4, ptD Z i j⟩], by omega, by go_num, hT5, hS5, hI5, hb5⟩
        case measure => simp [intOf]; omega
      · have heb : (y == z) = false := by rw [beq_eq_false_iff_ne]; exact he
        have hst := Lib.hid (ptU_no hZjh.out hydh.out he)
        replace he := Lib.hid he
        go_wp2
        go_roundw
        case rel => exact ⟨j + 1, T, by omega, by go_num, by rw [hst.out]; exact hT.out, hS, hI, hB⟩
        case measure => simp [intOf]; omega
    · have hij : j = Z.length := by omega
      subst hij
      go_wp2
      go_ret2
      exact retSB_yes hv.out hT.out hS.out hB
end Go.Proofs.Ytnmpigedhpdenaa
