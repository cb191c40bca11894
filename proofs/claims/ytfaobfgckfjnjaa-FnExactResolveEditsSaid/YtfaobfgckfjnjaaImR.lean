/-
  The walks of chapter 6: ResolveEdits; the program's and the model's.
-/
import Derived.Test.YtfaobfgckfjnjaaEdR
import Derived.Test.YtfaobfgckfjnjaaImS
namespace Go.Proofs.Ytfaobfgckfjnjaa
open Go.RowKit
set_option maxRecDepth 100000

theorem ix_set {xs : List Value} {n i : Nat} {z : Int} (hl : xs.length = n) (hi : i < n) : (xs.set i (.int .i64 z))[i]? = some (.int .i64 z) := by
  rw [List.getElem?_set, if_pos rfl, if_pos (by omega)]
set_option maxHeartbeats 4000000 in
theorem iRV_x (x y z : Option Addr) (c1 c2 c3 : Nat) (S : List (ByteArray × Int)) (E F : List Int) (v : Int) (w : World) (hS : SIn w x c1 S) (hE : IIn w y E) (hF : IIn w z F) :
    Calls Try.prog 20 #[.slice x S.length c1, .agg #[.slice y E.length c2], .agg #[.slice z F.length c3], .int .i64 v] w (RetEB (rvR S E F v) (rvL E F v) w) := by
  obtain ⟨i0, hii, hz0, hz1, hz2⟩ := info_parts Try.infoInt
  have hSh := Lib.hid hS
  have hEh := Lib.hid hE
  have hFh := Lib.hid hF
  have hm := hS.1
  clear hS hE hF
  obtain ⟨W0, hW0, hqE, hqF, hqR, hB2, hW0z⟩ := three_box w y z E.length F.length c2 c3 28
  obtain ⟨ea0, eb0, ec0⟩ := hqE.out
  obtain ⟨fa0, fb0, fc0⟩ := hqF.out
  obtain ⟨ra0, rb0, rc0⟩ := hqR.out
  go_enter Try.func20, Try.ntmps20
  go_wp2_with fail
  refine (isSmall_any _ _ _ _ (hSh.out.below hB2)).mono ?_
  rintro e w1 ⟨rfl, hb1⟩
  clear hW0
  have hqE1 := Lib.hid (hqE.out.below hb1)
  obtain ⟨ea1, eb1, ec1⟩ := hqE1.out
  have hqF1 := Lib.hid (hqF.out.below hb1)
  obtain ⟨fa1, fb1, fc1⟩ := hqF1.out
  have hqR1 := Lib.hid (hqR.out.below hb1)
  obtain ⟨ra1, rb1, rc1⟩ := hqR1.out
  have B1 : Below w.heap.size w w1 := hB2.trans (hb1.mono hB2.size)
  clear ea0 eb0 fa0 fb0 ra0 rb0
  cases hs : smS S
  · have hv := Lib.hid (rvR_no1 (v := v) (sm_two1 (E := E) (F := F) hs))
    go_wp2
    refine bodyPost_ret (v := .tuple #[.agg #[.slice none 0 0], .bool false]) (by simp [results, Try.results20, go_sem, *]) rfl (RetEB.no hv.out ?_)
    exact (by repeat (first | exact Below.refl _ _ | assumption | refine Below.drew ?_ | refine below_drewN ?_ _ | refine Below.alloc' ?_ _ | (refine Below.setCell ?_ (by first | omega | (simp; done) | (simp; omega) | exact Below.size (by assumption) | exact Nat.le_trans (Below.size (by assumption)) (by simp)) _) | (refine Below.via' ?_ (by assumption)) | (refine Below.alloc ?_ (by first | omega | (simp; done) | (simp; omega) | exact Below.size (by assumption) | exact Nat.le_trans (Below.size (by assumption)) (by simp)) _) | (refine Below.via ?_ (by assumption) (by first | omega | (simp; done) | (simp; omega) | exact Below.size (by assumption) | exact Nat.le_trans (Below.size (by assumption)) (by simp)))))
  have hssh := Lib.hid hs
  have hsh := Lib.hid (smS_get hs).1
  clear hs
  go_wp2_with fail
  refine (isEditFor_any _ _ _ _ S E _ hsh.out hm (hSh.out.rd.below (by exact (by repeat (first | exact Below.refl _ _ | assumption | refine Below.drew ?_ | refine below_drewN ?_ _ | refine Below.alloc' ?_ _ | (refine Below.setCell ?_ (by first | omega | (simp; done) | (simp; omega) | exact Below.size (by assumption) | exact Nat.le_trans (Below.size (by assumption)) (by simp)) _) | (refine Below.via' ?_ (by assumption)) | (refine Below.alloc ?_ (by first | omega | (simp; done) | (simp; omega) | exact Below.size (by assumption) | exact Nat.le_trans (Below.size (by assumption)) (by simp)) _) | (refine Below.via ?_ (by assumption) (by first | omega | (simp; done) | (simp; omega) | exact Below.size (by assumption) | exact Nat.le_trans (Below.size (by assumption)) (by simp))))))) (hEh.out.below (by exact (by repeat (first | exact Below.refl _ _ | assumption | refine Below.drew ?_ | refine below_drewN ?_ _ | refine Below.alloc' ?_ _ | (refine Below.setCell ?_ (by first | omega | (simp; done) | (simp; omega) | exact Below.size (by assumption) | exact Nat.le_trans (Below.size (by assumption)) (by simp)) _) | (refine Below.via' ?_ (by assumption)) | (refine Below.alloc ?_ (by first | omega | (simp; done) | (simp; omega) | exact Below.size (by assumption) | exact Nat.le_trans (Below.size (by assumption)) (by simp)) _) | (refine Below.via ?_ (by assumption) (by first | omega | (simp; done) | (simp; omega) | exact Below.size (by assumption) | exact Nat.le_trans (Below.size (by assumption)) (by simp)))))))).mono ?_
  rintro e w2 ⟨rfl, hb2⟩
  have hqE2 := Lib.hid (hqE1.out.below hb2)
  obtain ⟨ea2, eb2, ec2⟩ := hqE2.out
  have hqF2 := Lib.hid (hqF1.out.below hb2)
  obtain ⟨fa2, fb2, fc2⟩ := hqF2.out
  have hqR2 := Lib.hid (hqR1.out.below hb2)
  obtain ⟨ra2, rb2, rc2⟩ := hqR2.out
  clear ea1 eb1 fa1 fb1 ra1 rb1
  cases he : edB S E
  · have hv := Lib.hid (rvR_no1 (v := v) (sm_two2 (see_no1 (F := F) (se_no2 (S := S) he)).1))
    go_wp2
    refine bodyPost_ret (v := .tuple #[.agg #[.slice none 0 0], .bool false]) (by simp [results, Try.results20, go_sem, *]) rfl (RetEB.no hv.out ?_)
    exact (by repeat (first | exact Below.refl _ _ | assumption | refine Below.drew ?_ | refine below_drewN ?_ _ | refine Below.alloc' ?_ _ | (refine Below.setCell ?_ (by first | omega | (simp; done) | (simp; omega) | exact Below.size (by assumption) | exact Nat.le_trans (Below.size (by assumption)) (by simp)) _) | (refine Below.via' ?_ (by assumption)) | (refine Below.alloc ?_ (by first | omega | (simp; done) | (simp; omega) | exact Below.size (by assumption) | exact Nat.le_trans (Below.size (by assumption)) (by simp)) _) | (refine Below.via ?_ (by assumption) (by first | omega | (simp; done) | (simp; omega) | exact Below.size (by assumption) | exact Nat.le_trans (Below.size (by assumption)) (by simp)))))
  have heh := Lib.hid he
  clear he
  go_wp2_with fail
  refine (isEditFor_any _ _ _ _ S F _ hsh.out hm (hSh.out.rd.below (by exact (by repeat (first | exact Below.refl _ _ | assumption | refine Below.drew ?_ | refine below_drewN ?_ _ | refine Below.alloc' ?_ _ | (refine Below.setCell ?_ (by first | omega | (simp; done) | (simp; omega) | exact Below.size (by assumption) | exact Nat.le_trans (Below.size (by assumption)) (by simp)) _) | (refine Below.via' ?_ (by assumption)) | (refine Below.alloc ?_ (by first | omega | (simp; done) | (simp; omega) | exact Below.size (by assumption) | exact Nat.le_trans (Below.size (by assumption)) (by simp)) _) | (refine Below.via ?_ (by assumption) (by first | omega | (simp; done) | (simp; omega) | exact Below.size (by assumption) | exact Nat.le_trans (Below.size (by assumption)) (by simp))))))) (hFh.out.below (by exact (by repeat (first | exact Below.refl _ _ | assumption | refine Below.drew ?_ | refine below_drewN ?_ _ | refine Below.alloc' ?_ _ | (refine Below.setCell ?_ (by first | omega | (simp; done) | (simp; omega) | exact Below.size (by assumption) | exact Nat.le_trans (Below.size (by assumption)) (by simp)) _) | (refine Below.via' ?_ (by assumption)) | (refine Below.alloc ?_ (by first | omega | (simp; done) | (simp; omega) | exact Below.size (by assumption) | exact Nat.le_trans (Below.size (by assumption)) (by simp)) _) | (refine Below.via ?_ (by assumption) (by first | omega | (simp; done) | (simp; omega) | exact Below.size (by assumption) | exact Nat.le_trans (Below.size (by assumption)) (by simp)))))))).mono ?_
  rintro e w3 ⟨rfl, hb3⟩
  have hqE3 := Lib.hid (hqE2.out.below hb3)
  obtain ⟨ea3, eb3, ec3⟩ := hqE3.out
  have hqF3 := Lib.hid (hqF2.out.below hb3)
  obtain ⟨fa3, fb3, fc3⟩ := hqF3.out
  have hqR3 := Lib.hid (hqR2.out.below hb3)
  obtain ⟨ra3, rb3, rc3⟩ := hqR3.out
  clear ea2 eb2 fa2 fb2 ra2 rb2
  cases hf : edB S F
  · have hv := Lib.hid (rvR_no1 (v := v) (sm_two2 (see_no2 (E := E) hf).1))
    go_wp2
    refine bodyPost_ret (v := .tuple #[.agg #[.slice none 0 0], .bool false]) (by simp [results, Try.results20, go_sem, *]) rfl (RetEB.no hv.out ?_)
    exact (by repeat (first | exact Below.refl _ _ | assumption | refine Below.drew ?_ | refine below_drewN ?_ _ | refine Below.alloc' ?_ _ | (refine Below.setCell ?_ (by first | omega | (simp; done) | (simp; omega) | exact Below.size (by assumption) | exact Nat.le_trans (Below.size (by assumption)) (by simp)) _) | (refine Below.via' ?_ (by assumption)) | (refine Below.alloc ?_ (by first | omega | (simp; done) | (simp; omega) | exact Below.size (by assumption) | exact Nat.le_trans (Below.size (by assumption)) (by simp)) _) | (refine Below.via ?_ (by assumption) (by first | omega | (simp; done) | (simp; omega) | exact Below.size (by assumption) | exact Nat.le_trans (Below.size (by assumption)) (by simp)))))
  have hfh := Lib.hid hf
  clear hf
  have hsee := Lib.hid (sm_two3 hssh.out (see_yes (se_yes hsh.out heh.out) hfh.out).1)
  have hlS := Lib.hid (ed_len heh.out)
  have hlF := Lib.hid (ed_len hfh.out)
  have hl6 := (schB_len hsh.out).2
  have B3 : Below w.heap.size w w3 := (by repeat (first | exact Below.refl _ _ | assumption | refine Below.drew ?_ | refine below_drewN ?_ _ | refine Below.alloc' ?_ _ | (refine Below.setCell ?_ (by first | omega | (simp; done) | (simp; omega) | exact Below.size (by assumption) | exact Nat.le_trans (Below.size (by assumption)) (by simp)) _) | (refine Below.via' ?_ (by assumption)) | (refine Below.alloc ?_ (by first | omega | (simp; done) | (simp; omega) | exact Below.size (by assumption) | exact Nat.le_trans (Below.size (by assumption)) (by simp)) _) | (refine Below.via ?_ (by assumption) (by first | omega | (simp; done) | (simp; omega) | exact Below.size (by assumption) | exact Nat.le_trans (Below.size (by assumption)) (by simp)))))
  have hs3 : w.heap.size + 2 < w3.heap.size := rc3
  by_cases hv0 : v < 0
  · have hv := Lib.hid (rvR_no2 (S := S) (E := E) (F := F) (v := v) (by omega))
    go_wp2
    refine bodyPost_ret (v := .tuple #[.agg #[.slice none 0 0], .bool false]) (by simp [results, Try.results20, go_sem, *]) rfl (RetEB.no hv.out ?_)
    exact (by repeat (first | exact Below.refl _ _ | assumption | refine Below.drew ?_ | refine below_drewN ?_ _ | refine Below.alloc' ?_ _ | (refine Below.setCell ?_ (by first | omega | (simp; done) | (simp; omega) | exact Below.size (by assumption) | exact Nat.le_trans (Below.size (by assumption)) (by simp)) _) | (refine Below.via' ?_ (by assumption)) | (refine Below.alloc ?_ (by first | omega | (simp; done) | (simp; omega) | exact Below.size (by assumption) | exact Nat.le_trans (Below.size (by assumption)) (by simp)) _) | (refine Below.via ?_ (by assumption) (by first | omega | (simp; done) | (simp; omega) | exact Below.size (by assumption) | exact Nat.le_trans (Below.size (by assumption)) (by simp)))))
  by_cases hv1 : (S.length : Int) ≤ v
  · have hv := Lib.hid (rvR_no2 (S := S) (E := E) (F := F) (v := v) (by omega))
    go_wp2
    refine bodyPost_ret (v := .tuple #[.agg #[.slice none 0 0], .bool false]) (by simp [results, Try.results20, go_sem, *]) rfl (RetEB.no hv.out ?_)
    exact (by repeat (first | exact Below.refl _ _ | assumption | refine Below.drew ?_ | refine below_drewN ?_ _ | refine Below.alloc' ?_ _ | (refine Below.setCell ?_ (by first | omega | (simp; done) | (simp; omega) | exact Below.size (by assumption) | exact Nat.le_trans (Below.size (by assumption)) (by simp)) _) | (refine Below.via' ?_ (by assumption)) | (refine Below.alloc ?_ (by first | omega | (simp; done) | (simp; omega) | exact Below.size (by assumption) | exact Nat.le_trans (Below.size (by assumption)) (by simp)) _) | (refine Below.via ?_ (by assumption) (by first | omega | (simp; done) | (simp; omega) | exact Below.size (by assumption) | exact Nat.le_trans (Below.size (by assumption)) (by simp)))))
  have hvr := Lib.hid (show 0 ≤ v ∧ v < (S.length : Int) by omega)
  have hbb : i0.bytes * S.length ≤ 281474976710656 := by rw [hz2]; omega
  have hmm : S.length ≤ maxLen := by unfold maxLen; omega
  go_wp2_with (at_make; go_loud (refine wpList_make_full _ rfl _ _ 23 rfl w3.heap.size 3 i0 (.int .i64 0) 1 Try.underlying23 hii hz0 hz1 .i64 .i64 _ _ S.length rfl rfl rfl rfl hbb hmm (Nat.le_refl _) (fun w4 hown hgrow => ?_)))
  have hb4 : Below w3.heap.size w3 w4 := (Below.refl _ _).grown hgrow (Nat.le_refl _) (by intro k hk; cases hk)
  clear hgrow hii hz0 hz1 hz2 hbb hmm
  have hqE4 := Lib.hid (hqE3.out.below hb4)
  obtain ⟨ea4, eb4, ec4⟩ := hqE4.out
  have hqF4 := Lib.hid (hqF3.out.below hb4)
  obtain ⟨fa4, fb4, fc4⟩ := hqF4.out
  have hqR4 := Lib.hid (hqR3.out.below hb4)
  obtain ⟨ra4, rb4, rc4⟩ := hqR4.out
  clear ea3 eb3 fa3 fb3 ra3 rb3 ea4 eb4 fa4 fb4 ra4 rb4
  have B4 : Below w.heap.size w w4 := (by repeat (first | exact Below.refl _ _ | assumption | refine Below.drew ?_ | refine below_drewN ?_ _ | refine Below.alloc' ?_ _ | (refine Below.setCell ?_ (by first | omega | (simp; done) | (simp; omega) | exact Below.size (by assumption) | exact Nat.le_trans (Below.size (by assumption)) (by simp)) _) | (refine Below.via' ?_ (by assumption)) | (refine Below.alloc ?_ (by first | omega | (simp; done) | (simp; omega) | exact Below.size (by assumption) | exact Nat.le_trans (Below.size (by assumption)) (by simp)) _) | (refine Below.via ?_ (by assumption) (by first | omega | (simp; done) | (simp; omega) | exact Below.size (by assumption) | exact Nat.le_trans (Below.size (by assumption)) (by simp)))))
  go_loopw [43] (fun c wr => ∃ (i : Nat) (xs : List Value), i ≤ S.length ∧ c = .int .i64 i ∧ wr.ownsRow w3.heap.size 3 1 (.slice (some ⟨w3.heap.size, 0, none⟩) S.length S.length) S.length xs ∧ Hid (∀ j, j < i → xs[j]? = (iC (rvL E F v))[j]?) ∧ Hid (∀ j, j < i → ∃ x y, E[j]? = some x ∧ F[j]? = some y ∧ rvI v j x y ≠ 0) ∧ QB wr w.heap.size y E.length c2 ∧ QB wr (w.heap.size + 1) z F.length c3 ∧ QB wr (w.heap.size + 2) none 0 0 ∧ Below w.heap.size w wr) (fun c _ => S.length - (intOf c).toNat)
  case atStart => exact ⟨0, _, by omega, rfl, hown, (fun j hj => absurd hj (by omega)), (fun j hj => absurd hj (by omega)), hqE4.out, hqF4.out, hqR4.out, B4⟩
  case round =>
    clear hown B4 hb4
    obtain ⟨i, xs, hi, rfl, hown, hdone, hall, hqa, hqb, hqc, hBr⟩ := hrel
    have hownh := Lib.hid hown
    have hqah := Lib.hid hqa
    have hqbh := Lib.hid hqb
    have hqch := Lib.hid hqc
    by_cases hlt : i < S.length
    · obtain ⟨a, b, hEi, hFi, x0, x1, y0, y1⟩ := see_at hsh.out heh.out hfh.out hlt
      obtain ⟨bl, off, x', rfl, hbl, hEi2, hc0⟩ := (hEh.out.below hBr).2.2.int (i := i) (by have := hlS.out; omega)
      obtain ⟨bl2, off2, u', rfl, hbl2, hFi2, hc1⟩ := (hFh.out.below hBr).2.2.int (i := i) (by have := hlF.out; omega)
      obtain rfl := Option.some.inj (hEi2.symm.trans hEi)
      obtain rfl := Option.some.inj (hFi2.symm.trans hFi)
      clear hEi2 hFi2
      obtain ⟨ka, kb, kc⟩ := hqa
      obtain ⟨la, lb, lc⟩ := hqb
      obtain ⟨ma, mb, mc⟩ := hqc
      obtain ⟨u0, hu0, k0⟩ := own_cell hown (j := i) (by omega)
      have k2 := hown.frozenAt i
      have k4 := (own_lt hown).2
      have hst := Lib.hid (hown.stored i (.int .i64 (meI x' u')))
      have g1 := Lib.hid (hqah.out.grown hst.out.2 (fun e => by injection e with e; omega))
      have g2 := Lib.hid (hqbh.out.grown hst.out.2 (fun e => by injection e with e; omega))
      have g3 := Lib.hid (hqch.out.grown hst.out.2 (fun e => by injection e with e; omega))
      have hme := and_me (x := x') (y := u') (by omega) x1 (by omega) y1
      have hxl := Lib.hid (show xs.length = S.length by rw [hown.1]; omega)
      have hlt' : (i : Int) < (S.length : Int) := by omega
      have hlt2 : (i : Int) < (E.length : Int) := by have := hlS.out; omega
      have hlt3 : (i : Int) < (F.length : Int) := by have := hlF.out; omega
      have hi0 : (0 : Int) ≤ (i : Int) := by omega
      have hne1 : w3.heap.size ≠ w.heap.size + 2 := by omega
      replace hu0 := Lib.hid hu0
      replace hEi := Lib.hid hEi
      replace hFi := Lib.hid hFi
      clear hown
      go_upto_region 7 with fail
      go_cut [59] (fun _ wx => Hid (wx.ownsRow w3.heap.size 3 1 (.slice (some ⟨w3.heap.size, 0, none⟩) S.length S.length) S.length (xs.set i (.int .i64 (meI x' u')))) ∧ Hid (QB wx w.heap.size (some ⟨bl, off, none⟩) E.length c2) ∧ Hid (QB wx (w.heap.size + 1) (some ⟨bl2, off2, none⟩) F.length c3) ∧ Hid (QB wx (w.heap.size + 2) none 0 0) ∧ Below w.heap.size w wx)
      case first =>
        go_region
        all_goals
          go_wp2_with fail
          go_meet
          exact ⟨hst.out.1, g1.out, g2.out, g3.out, (by repeat (first | exact Below.refl _ _ | assumption | refine Below.drew ?_ | refine below_drewN ?_ _ | refine Below.alloc' ?_ _ | (refine Below.setCell ?_ (by first | omega | (simp; done) | (simp; omega) | exact Below.size (by assumption) | exact Nat.le_trans (Below.size (by assumption)) (by simp)) _) | (refine Below.via' ?_ (by assumption)) | (refine Below.alloc ?_ (by first | omega | (simp; done) | (simp; omega) | exact Below.size (by assumption) | exact Nat.le_trans (Below.size (by assumption)) (by simp)) _) | (refine Below.via ?_ (by assumption) (by first | omega | (simp; done) | (simp; omega) | exact Below.size (by assumption) | exact Nat.le_trans (Below.size (by assumption)) (by simp)))))⟩
      · obtain ⟨ow, hq1, hq2, hq3, hB7⟩ := hcut
        obtain ⟨wx, rfl⟩ : ∃ x : World, x = wc := ⟨_, rfl⟩
        clear ka kb kc la lb lc ma mb mc k0 k2 k4 hst g1 g2 g3 hc0 hc1 hbl hbl2 hownh hqah hqbh hqch hme hBr
        by_cases hiv : (i : Int) = v
        · have hrv := rvI_eq (x := x') (y := u') hiv
          obtain ⟨ka, kb, kc⟩ := hq1.out
          obtain ⟨la, lb, lc⟩ := hq2.out
          obtain ⟨ma, mb, mc⟩ := hq3.out
          obtain ⟨bl3, off3, x3, e3, hbl, hEi3, hc0⟩ := (hEh.out.below hB7).2.2.int (i := i) (by have := hlS.out; omega)
          injection e3 with e3
          injection e3 with e3 e4
          subst e3 e4
          obtain rfl := Option.some.inj (hEi3.symm.trans hEi.out)
          obtain ⟨bl4, off4, u3, e4, hbl2, hFi3, hc1⟩ := (hFh.out.below hB7).2.2.int (i := i) (by have := hlF.out; omega)
          injection e4 with e4
          injection e4 with e4 e5
          subst e4 e5
          obtain rfl := Option.some.inj (hFi3.symm.trans hFi.out)
          clear hEi3 hFi3
          obtain ⟨u0, hu0, k0⟩ := own_cell ow.out (j := i) (by omega)
          have k2 := ow.out.frozenAt i
          have k4 := (own_lt ow.out).2
          have hst := Lib.hid (ow.out.stored i (.int .i64 (joI x3 u3)))
          have g1 := Lib.hid (hq1.out.grown hst.out.2 (fun e => by injection e with e; omega))
          have g2 := Lib.hid (hq2.out.grown hst.out.2 (fun e => by injection e with e; omega))
          have g3 := Lib.hid (hq3.out.grown hst.out.2 (fun e => by injection e with e; omega))
          have hjo := or_jo (x := x3) (y := u3) (by omega) x1 (by omega) y1
          have hivb : ((i : Int) == v) = true := by rw [beq_iff_eq]; exact hiv
          have hss : Hid ((xs.set i (.int .i64 (meI x3 u3))).set i (.int .i64 (joI x3 u3)) = xs.set i (.int .i64 (rvI v i x3 u3))) := by unfold Hid; rw [List.set_set, hrv]
          replace hiv := Lib.hid hiv
          replace hrv := Lib.hid hrv
          replace hu0 := Lib.hid hu0
          go_upto_region 9 with fail
          go_cut [76] (fun _ wx2 => Hid (wx2.ownsRow w3.heap.size 3 1 (.slice (some ⟨w3.heap.size, 0, none⟩) S.length S.length) S.length (xs.set i (.int .i64 (rvI v i x3 u3)))) ∧ Hid (QB wx2 w.heap.size (some ⟨bl, off, none⟩) E.length c2) ∧ Hid (QB wx2 (w.heap.size + 1) (some ⟨bl2, off2, none⟩) F.length c3) ∧ Hid (QB wx2 (w.heap.size + 2) none 0 0) ∧ Below w.heap.size w wx2)
          case first =>
            go_region
            all_goals
              go_wp2_with fail
              go_meet
              exact ⟨(by have h0 := hst.out.1; rw [hss.out] at h0; exact h0), g1.out, g2.out, g3.out, (by repeat (first | exact Below.refl _ _ | assumption | refine Below.drew ?_ | refine below_drewN ?_ _ | refine Below.alloc' ?_ _ | (refine Below.setCell ?_ (by first | omega | (simp; done) | (simp; omega) | exact Below.size (by assumption) | exact Nat.le_trans (Below.size (by assumption)) (by simp)) _) | (refine Below.via' ?_ (by assumption)) | (refine Below.alloc ?_ (by first | omega | (simp; done) | (simp; omega) | exact Below.size (by assumption) | exact Nat.le_trans (Below.size (by assumption)) (by simp)) _) | (refine Below.via ?_ (by assumption) (by first | omega | (simp; done) | (simp; omega) | exact Below.size (by assumption) | exact Nat.le_trans (Below.size (by assumption)) (by simp)))))⟩
          clear ka kb kc la lb lc ma mb mc k0 k2 k4 hst g1 g2 g3 hc0 hc1 hbl hbl2 hjo ow hq1 hq2 hq3 hss hrv
          obtain ⟨ow, hq1, hq2, hq3, hB9⟩ := hcut
          obtain ⟨wy, rfl⟩ : ∃ x : World, x = wc := ⟨_, rfl⟩
          obtain ⟨x', rfl⟩ : ∃ x, x = x3 := ⟨_, rfl⟩
          obtain ⟨u', rfl⟩ : ∃ x, x = u3 := ⟨_, rfl⟩
          obtain ⟨ka, kb, kc⟩ := hq1.out
          obtain ⟨la, lb, lc⟩ := hq2.out
          obtain ⟨ma, mb, mc⟩ := hq3.out
          obtain ⟨u9, hu9, k9⟩ := own_cell ow.out (j := i) (by omega)
          obtain rfl : Value.int .i64 (rvI v i x' u') = u9 := Option.some.inj ((ix_set hxl.out hlt).symm.trans hu9)
          have f9 := ow.out.frozenAt i
          have l9 := (own_lt ow.out).2
          by_cases hz : rvI v i x' u' = 0
          · have hv := Lib.hid (rvR_no3 (S := S) (rvB_bad hEi.out hFi.out hz))
            have hzz : (rvI v i x' u' == 0) = true := by rw [beq_iff_eq]; exact hz
            replace hz := Lib.hid hz
            go_wp2
            refine bodyPost_ret (v := .tuple #[.agg #[.slice none 0 0], .bool false]) (by simp [results, Try.results20, go_sem, *]) rfl (RetEB.no hv.out ?_)
            exact (by repeat (first | exact Below.refl _ _ | assumption | refine Below.drew ?_ | refine below_drewN ?_ _ | refine Below.alloc' ?_ _ | (refine Below.setCell ?_ (by first | omega | (simp; done) | (simp; omega) | exact Below.size (by assumption) | exact Nat.le_trans (Below.size (by assumption)) (by simp)) _) | (refine Below.via' ?_ (by assumption)) | (refine Below.alloc ?_ (by first | omega | (simp; done) | (simp; omega) | exact Below.size (by assumption) | exact Nat.le_trans (Below.size (by assumption)) (by simp)) _) | (refine Below.via ?_ (by assumption) (by first | omega | (simp; done) | (simp; omega) | exact Below.size (by assumption) | exact Nat.le_trans (Below.size (by assumption)) (by simp)))))
          · have hzz : (rvI v i x' u' == 0) = false := by rw [beq_eq_false_iff_ne]; exact hz
            have hzh := Lib.hid hz
            clear hz
            go_wp2
            go_roundw
            case rel =>
              refine ⟨i + 1, _, by omega, by go_num, ow.out, fun j hj => ?_, fun j hj => ?_, hq1.out, hq2.out, hq3.out, (by repeat (first | exact Below.refl _ _ | assumption | refine Below.drew ?_ | refine below_drewN ?_ _ | refine Below.alloc' ?_ _ | (refine Below.setCell ?_ (by first | omega | (simp; done) | (simp; omega) | exact Below.size (by assumption) | exact Nat.le_trans (Below.size (by assumption)) (by simp)) _) | (refine Below.via' ?_ (by assumption)) | (refine Below.alloc ?_ (by first | omega | (simp; done) | (simp; omega) | exact Below.size (by assumption) | exact Nat.le_trans (Below.size (by assumption)) (by simp)) _) | (refine Below.via ?_ (by assumption) (by first | omega | (simp; done) | (simp; omega) | exact Below.size (by assumption) | exact Nat.le_trans (Below.size (by assumption)) (by simp)))))⟩
              · rw [List.getElem?_set]
                by_cases hji : i = j
                · subst hji
                  rw [if_pos rfl, if_pos (by rw [hxl.out]; omega), iC_at (rvL_at hEi.out hFi.out)]
                · rw [if_neg hji]
                  exact hdone.out j (by omega)
              · rcases Nat.lt_or_ge j i with hj2 | hj2
                · exact hall.out j hj2
                · obtain rfl : j = i := by omega
                  exact ⟨_, _, hEi.out, hFi.out, hzh.out⟩
            case measure => simp [intOf]; omega
        · have hivb : ((i : Int) == v) = false := by rw [beq_eq_false_iff_ne]; exact hiv
          have hrv := rvI_ne (x := x') (y := u') hiv
          rw [← hrv] at ow
          replace hiv := Lib.hid hiv
          clear hrv
          obtain ⟨ka, kb, kc⟩ := hq1.out
          obtain ⟨la, lb, lc⟩ := hq2.out
          obtain ⟨ma, mb, mc⟩ := hq3.out
          obtain ⟨u9, hu9, k9⟩ := own_cell ow.out (j := i) (by omega)
          obtain rfl : Value.int .i64 (rvI v i x' u') = u9 := Option.some.inj ((ix_set hxl.out hlt).symm.trans hu9)
          have f9 := ow.out.frozenAt i
          have l9 := (own_lt ow.out).2
          by_cases hz : rvI v i x' u' = 0
          · have hv := Lib.hid (rvR_no3 (S := S) (rvB_bad hEi.out hFi.out hz))
            have hzz : (rvI v i x' u' == 0) = true := by rw [beq_iff_eq]; exact hz
            replace hz := Lib.hid hz
            go_wp2
            refine bodyPost_ret (v := .tuple #[.agg #[.slice none 0 0], .bool false]) (by simp [results, Try.results20, go_sem, *]) rfl (RetEB.no hv.out ?_)
            exact (by repeat (first | exact Below.refl _ _ | assumption | refine Below.drew ?_ | refine below_drewN ?_ _ | refine Below.alloc' ?_ _ | (refine Below.setCell ?_ (by first | omega | (simp; done) | (simp; omega) | exact Below.size (by assumption) | exact Nat.le_trans (Below.size (by assumption)) (by simp)) _) | (refine Below.via' ?_ (by assumption)) | (refine Below.alloc ?_ (by first | omega | (simp; done) | (simp; omega) | exact Below.size (by assumption) | exact Nat.le_trans (Below.size (by assumption)) (by simp)) _) | (refine Below.via ?_ (by assumption) (by first | omega | (simp; done) | (simp; omega) | exact Below.size (by assumption) | exact Nat.le_trans (Below.size (by assumption)) (by simp)))))
          · have hzz : (rvI v i x' u' == 0) = false := by rw [beq_eq_false_iff_ne]; exact hz
            have hzh := Lib.hid hz
            clear hz
            go_wp2
            go_roundw
            case rel =>
              refine ⟨i + 1, _, by omega, by go_num, ow.out, fun j hj => ?_, fun j hj => ?_, hq1.out, hq2.out, hq3.out, (by repeat (first | exact Below.refl _ _ | assumption | refine Below.drew ?_ | refine below_drewN ?_ _ | refine Below.alloc' ?_ _ | (refine Below.setCell ?_ (by first | omega | (simp; done) | (simp; omega) | exact Below.size (by assumption) | exact Nat.le_trans (Below.size (by assumption)) (by simp)) _) | (refine Below.via' ?_ (by assumption)) | (refine Below.alloc ?_ (by first | omega | (simp; done) | (simp; omega) | exact Below.size (by assumption) | exact Nat.le_trans (Below.size (by assumption)) (by simp)) _) | (refine Below.via ?_ (by assumption) (by first | omega | (simp; done) | (simp; omega) | exact Below.size (by assumption) | exact Nat.le_trans (Below.size (by assumption)) (by simp)))))⟩
              · rw [List.getElem?_set]
                by_cases hji : i = j
                · subst hji
                  rw [if_pos rfl, if_pos (by rw [hxl.out]; omega), iC_at (rvL_at hEi.out hFi.out)]
                · rw [if_neg hji]
                  exact hdone.out j (by omega)
              · rcases Nat.lt_or_ge j i with hj2 | hj2
                · exact hall.out j hj2
                · obtain rfl : j = i := by omega
                  exact ⟨_, _, hEi.out, hFi.out, hzh.out⟩
            case measure => simp [intOf]; omega
    · have hij : i = S.length := by omega
      subst hij
      obtain ⟨ma, mb, mc⟩ := hqc
      have hml := Lib.hid (show (rvL E F v).length = S.length by rw [rvL_len, hlS.out])
      have hv := Lib.hid (rvR_yes hsee.out hvr.out (rvB_all (n := S.length) (by rw [hlS.out]; omega) hall.out))
      have hxs : Hid (xs = iC (rvL E F v)) := by
        have hlen : xs.length = S.length := by rw [hown.1]; omega
        apply List.ext_getElem?
        intro j
        rcases Nat.lt_or_ge j S.length with hj | hj
        · exact hdone.out j hj
        · rw [List.getElem?_eq_none (by omega), List.getElem?_eq_none (by rw [iC_len, hml.out]; omega)]
      have hne1 : w3.heap.size ≠ w.heap.size + 2 := by omega
      clear hdone hall hown hqa hqb
      go_wp2
      refine bodyPost_ret (v := .tuple #[.agg #[.slice (some ⟨w3.heap.size, 0, none⟩) S.length S.length], .bool true]) (by simp [results, Try.results20, go_sem, *]) rfl (RetEB.yes hv.out hml.out.symm ?_ ?_)
      · have h0 := hownh.out
        rw [hxs.out] at h0
        refine own_more (base := w3.heap.size) ?_ (by omega)
        repeat (refine ownsRow_setCell_below ?_ (by simp; try omega) _)
        exact h0
      · exact (by repeat (first | exact Below.refl _ _ | assumption | refine Below.drew ?_ | refine below_drewN ?_ _ | refine Below.alloc' ?_ _ | (refine Below.setCell ?_ (by first | omega | (simp; done) | (simp; omega) | exact Below.size (by assumption) | exact Nat.le_trans (Below.size (by assumption)) (by simp)) _) | (refine Below.via' ?_ (by assumption)) | (refine Below.alloc ?_ (by first | omega | (simp; done) | (simp; omega) | exact Below.size (by assumption) | exact Nat.le_trans (Below.size (by assumption)) (by simp)) _) | (refine Below.via ?_ (by assumption) (by first | omega | (simp; done) | (simp; omega) | exact Below.size (by assumption) | exact Nat.le_trans (Below.size (by assumption)) (by simp)))))
/-- An edit that a helper hands back. -/
def RetE1 (L : List Int) (w : World) (e : Ending) (w' : World) : Prop := ∃ x n, e = .returned (.agg #[.slice x L.length n]) ∧ w'.ownsRow w.heap.size 3 1 (.slice x L.length n) L.length (iC L) ∧ Below w.heap.size w w'
set_option maxHeartbeats 4000000 in
theorem eResolve_any (y z : Option Addr) (c2 c3 : Nat) (S : List (ByteArray × Int)) (E F : List Int) (v : Int) (w : World) (hs : schB S = true) (he : edB S E = true) (hf : edB S F = true) (hE : IIn w y E) (hF : IIn w z F) :
    Calls Try.prog 71 #[.agg #[.slice y E.length c2], .agg #[.slice z F.length c3], .int .i64 v] w (RetE1 (rvL E F v) w) := by
  obtain ⟨i0, hii, hz0, hz1, hz2⟩ := info_parts Try.infoInt
  have hEh := Lib.hid hE
  have hFh := Lib.hid hF
  have hsh := Lib.hid hs
  have heh := Lib.hid he
  have hfh := Lib.hid hf
  have hlS := Lib.hid (ed_len he)
  have hlF := Lib.hid (ed_len hf)
  have hE6 : E.length ≤ 6 := by have := (schB_len hs).2; have := hlS.out; omega
  have hml := Lib.hid (rvL_len E F v)
  clear hE hF hs he hf
  obtain ⟨W0, hW0, hqE, hqF, hqR, hB2, hW0z⟩ := three_box w y z E.length F.length c2 c3 28
  have hV0 := Lib.hid (show Wb (W0.alloc (.cells #[.slice none 0 0] 28)) (w.heap.size + 3) 28 #[.slice none 0 0] by have h0 := Wb.new W0 28 #[.slice none 0 0]; rwa [hW0z.out] at h0)
  have hb00 : Below W0.heap.size W0 (W0.alloc (.cells #[.slice none 0 0] 28)) := (Below.refl _ _).alloc (Nat.le_refl _) _
  obtain ⟨ea0, eb0, ec0⟩ := hqE.out.below hb00
  obtain ⟨fa0, fb0, fc0⟩ := hqF.out.below hb00
  obtain ⟨ra0, rb0, rc0⟩ := hqR.out.below hb00
  have hsz0 := hW0z.out
  go_enter Try.func71, Try.ntmps71
  go_wp2
  try rw [hW0]
  clear hW0 ea0 eb0 fa0 fb0 ra0 rb0
  go_loopw [14] (fun c wr => ∃ (i : Nat) (u : Value) (L : List Int), i ≤ E.length ∧ c = .int .i64 i ∧ Hid (L = (rvL E F v).take i) ∧ wr.ownsRow (w.heap.size + 4) 3 1 u L.length (iC L) ∧ Wb wr (w.heap.size + 3) 28 #[u] ∧ QB wr w.heap.size y E.length c2 ∧ QB wr (w.heap.size + 1) z F.length c3 ∧ QB wr (w.heap.size + 2) none 0 0 ∧ Below w.heap.size w wr) (fun c _ => E.length - (intOf c).toNat)
  case atStart => exact ⟨0, _, [], by omega, rfl, rfl, World.ownsRow_nil _ _ _ _, hV0.out, hqE.out.below hb00, hqF.out.below hb00, hqR.out.below hb00, hB2.trans (hb00.mono hB2.size)⟩
  case round =>
    clear hV0 hb00
    obtain ⟨i, u, L, hi, rfl, hLi, hown, hV, hqa, hqb, hqc, hBr⟩ := hrel
    have hownh := Lib.hid hown
    have hVh := Lib.hid hV
    have hqah := Lib.hid hqa
    have hqbh := Lib.hid hqb
    have hqch := Lib.hid hqc
    have hin := hV.inside
    obtain ⟨xu, cu, rfl, -, -⟩ := (OwR.of hown).form
    have hlow := Lib.hid hown.lt
    have hlt6 : L.length ≤ i := by rw [hLi.out, List.length_take]; omega
    clear hown hV
    by_cases hlt : i < E.length
    · obtain ⟨a, b, hEi, hFi, x0, x1, y0, y1⟩ := see_at hsh.out heh.out hfh.out (i := i) (by have := hlS.out; omega)
      obtain ⟨bl, off, x', rfl, hbl, hEi2, hc0⟩ := (hEh.out.below hBr).2.2.int (i := i) hlt
      obtain ⟨bl2, off2, u', rfl, hbl2, hFi2, hc1⟩ := (hFh.out.below hBr).2.2.int (i := i) (by have := hlF.out; have := hlS.out; omega)
      obtain rfl := Option.some.inj (hEi2.symm.trans hEi)
      obtain rfl := Option.some.inj (hFi2.symm.trans hFi)
      clear hEi2 hFi2
      obtain ⟨ka, kb, kc⟩ := hqa
      obtain ⟨la, lb, lc⟩ := hqb
      obtain ⟨ma, mb, mc⟩ := hqc
      have v0 := hVh.out.read 0
      have vf := hVh.out.free 0
      have hst := Lib.hid (show L ++ [rvI v i x' u'] = (rvL E F v).take (i + 1) by rw [hLi.out]; exact (take_snoc (rvL_at hEi hFi)).symm)
      have hlt2 : (i : Int) < (E.length : Int) := by omega
      have hlt3 : (i : Int) < (F.length : Int) := by have := hlF.out; have := hlS.out; omega
      have hi0 : (0 : Int) ≤ (i : Int) := by omega
      replace hEi := Lib.hid hEi
      replace hFi := Lib.hid hFi
      by_cases hiv : (i : Int) = v
      · have hop : bits .or .i64 x' u' = rvI v i x' u' := (or_jo (by omega) x1 (by omega) y1).trans (rvI_eq hiv).symm
        have hivb : ((i : Int) == v) = true := by rw [beq_iff_eq]; exact hiv
        replace hiv := Lib.hid hiv
        go_wp2
        go_region_law (first | (go_loud (refine step_append_rd _ rfl (.tmp 23) (.tmp 31) 23 rfl (w.heap.size + 4) 3 i0 (.int .i64 0) 1 8 Try.underlying23 hii hz0 hz1 hz2 rfl (by decide) _ L.length (iC L) rfl ((hownh.out.alloc _).drew) _ 1 1 rfl (Nat.le_refl _) (by intro h; cases h) (iC [rvI v i x' u']) rfl (rd_oneE _ _ _ _ (by simp)) (iC_one _) (by unfold maxLen; omega) (by omega) (by simp; omega) ?_); intro v5 w5 hown5 hgrow5 hwhere5; (obtain ⟨z5, c5, rfl, -, -⟩ := (OwR.of hown5).form); (have hgr : (wr.alloc (.cells #[.int .i64 (rvI v i x' u')] 3)).drew.grownBy w5 (Value.ownBlock (.slice xu L.length cu)) := hgrow5); (have hg5 : wr.grownBy w5 (Value.ownBlock (.slice xu L.length cu)) := (show wr.grownBy (wr.alloc (.cells #[.int .i64 (rvI v i x' u')] 3)).drew _ from grown_drewE (World.grownBy_alloc wr _ _)).trans hgr); (have V5 := Lib.hid (hVh.out.grownE hg5 (fun e => by have := (hlow.out _ e).1; omega))); (have c50 := V5.out.read 0); (have f50 := V5.out.free 0)))
        all_goals
          have A5 := Lib.hid (hqah.out.grown hg5 (fun e => by have := (hlow.out _ e.symm).1; omega))
          have D5 := Lib.hid (hqbh.out.grown hg5 (fun e => by have := (hlow.out _ e.symm).1; omega))
          have R5 := Lib.hid (hqch.out.grown hg5 (fun e => by have := (hlow.out _ e.symm).1; omega))
          have hB5 : Below w.heap.size w w5 := hBr.grown hg5 hBr.size (fun k hk => by have := (hlow.out k hk).1; omega)
          have hown6 := Lib.hid (own_eq (n' := (L ++ [rvI v i x' u']).length) hown5 (by simp) (iC_appE _ _).symm)
          have hin5 := V5.out.inside
          clear hgrow5 hwhere5 hgr ka kb la lb ma mb v0 vf hown5
          go_wp2
          go_roundw
          case rel => exact ⟨i + 1, _, L ++ [rvI v i x' u'], by omega, by go_num, hst.out, ownsRow_setCell_below hown6.out (by simp) _, V5.out.put 0 _, (A5.out.grown (grownBy_setCellE _ _ _ _) (by intro e; injection e with e; omega)), (D5.out.grown (grownBy_setCellE _ _ _ _) (by intro e; injection e with e; omega)), (R5.out.grown (grownBy_setCellE _ _ _ _) (by intro e; injection e with e; omega)), (by repeat (first | exact Below.refl _ _ | assumption | refine Below.drew ?_ | refine below_drewN ?_ _ | refine Below.alloc' ?_ _ | (refine Below.setCell ?_ (by first | omega | (simp; done) | (simp; omega) | exact Below.size (by assumption) | exact Nat.le_trans (Below.size (by assumption)) (by simp)) _) | (refine Below.via' ?_ (by assumption)) | (refine Below.alloc ?_ (by first | omega | (simp; done) | (simp; omega) | exact Below.size (by assumption) | exact Nat.le_trans (Below.size (by assumption)) (by simp)) _) | (refine Below.via ?_ (by assumption) (by first | omega | (simp; done) | (simp; omega) | exact Below.size (by assumption) | exact Nat.le_trans (Below.size (by assumption)) (by simp)))))⟩
          case measure => simp [intOf]; omega
      · have hop : bits .and .i64 x' u' = rvI v i x' u' := (and_me (by omega) x1 (by omega) y1).trans (rvI_ne hiv).symm
        have hivb : ((i : Int) == v) = false := by rw [beq_eq_false_iff_ne]; exact hiv
        replace hiv := Lib.hid hiv
        go_wp2
        go_region_law (first | (go_loud (refine step_append_rd _ rfl (.tmp 35) (.tmp 43) 23 rfl (w.heap.size + 4) 3 i0 (.int .i64 0) 1 8 Try.underlying23 hii hz0 hz1 hz2 rfl (by decide) _ L.length (iC L) rfl ((hownh.out.alloc _).drew) _ 1 1 rfl (Nat.le_refl _) (by intro h; cases h) (iC [rvI v i x' u']) rfl (rd_oneE _ _ _ _ (by simp)) (iC_one _) (by unfold maxLen; omega) (by omega) (by simp; omega) ?_); intro v5 w5 hown5 hgrow5 hwhere5; (obtain ⟨z5, c5, rfl, -, -⟩ := (OwR.of hown5).form); (have hgr : (wr.alloc (.cells #[.int .i64 (rvI v i x' u')] 3)).drew.grownBy w5 (Value.ownBlock (.slice xu L.length cu)) := hgrow5); (have hg5 : wr.grownBy w5 (Value.ownBlock (.slice xu L.length cu)) := (show wr.grownBy (wr.alloc (.cells #[.int .i64 (rvI v i x' u')] 3)).drew _ from grown_drewE (World.grownBy_alloc wr _ _)).trans hgr); (have V5 := Lib.hid (hVh.out.grownE hg5 (fun e => by have := (hlow.out _ e).1; omega))); (have c50 := V5.out.read 0); (have f50 := V5.out.free 0)))
        all_goals
          have A5 := Lib.hid (hqah.out.grown hg5 (fun e => by have := (hlow.out _ e.symm).1; omega))
          have D5 := Lib.hid (hqbh.out.grown hg5 (fun e => by have := (hlow.out _ e.symm).1; omega))
          have R5 := Lib.hid (hqch.out.grown hg5 (fun e => by have := (hlow.out _ e.symm).1; omega))
          have hB5 : Below w.heap.size w w5 := hBr.grown hg5 hBr.size (fun k hk => by have := (hlow.out k hk).1; omega)
          have hown6 := Lib.hid (own_eq (n' := (L ++ [rvI v i x' u']).length) hown5 (by simp) (iC_appE _ _).symm)
          have hin5 := V5.out.inside
          clear hgrow5 hwhere5 hgr ka kb la lb ma mb v0 vf hown5
          go_wp2
          go_roundw
          case rel => exact ⟨i + 1, _, L ++ [rvI v i x' u'], by omega, by go_num, hst.out, ownsRow_setCell_below hown6.out (by simp) _, V5.out.put 0 _, (A5.out.grown (grownBy_setCellE _ _ _ _) (by intro e; injection e with e; omega)), (D5.out.grown (grownBy_setCellE _ _ _ _) (by intro e; injection e with e; omega)), (R5.out.grown (grownBy_setCellE _ _ _ _) (by intro e; injection e with e; omega)), (by repeat (first | exact Below.refl _ _ | assumption | refine Below.drew ?_ | refine below_drewN ?_ _ | refine Below.alloc' ?_ _ | (refine Below.setCell ?_ (by first | omega | (simp; done) | (simp; omega) | exact Below.size (by assumption) | exact Nat.le_trans (Below.size (by assumption)) (by simp)) _) | (refine Below.via' ?_ (by assumption)) | (refine Below.alloc ?_ (by first | omega | (simp; done) | (simp; omega) | exact Below.size (by assumption) | exact Nat.le_trans (Below.size (by assumption)) (by simp)) _) | (refine Below.via ?_ (by assumption) (by first | omega | (simp; done) | (simp; omega) | exact Below.size (by assumption) | exact Nat.le_trans (Below.size (by assumption)) (by simp)))))⟩
          case measure => simp [intOf]; omega
    · have hij : i = E.length := by omega
      subst hij
      obtain ⟨ma, mb, mc⟩ := hqc
      have v0 := hVh.out.read 0
      obtain rfl : L = rvL E F v := by rw [hLi.out, ← hml.out, List.take_length]
      clear hqa hqb
      go_wp2
      refine bodyPost_ret (v := .agg #[.slice xu (rvL E F v).length cu]) (by simp [results, Try.results71, go_sem, *]) rfl ⟨xu, cu, rfl, ?_, ?_⟩
      · refine own_more (base := w.heap.size + 4) ?_ (by omega)
        repeat (refine ownsRow_setCell_below ?_ (by simp; try omega) _)
        exact hownh.out
      · exact (by repeat (first | exact Below.refl _ _ | assumption | refine Below.drew ?_ | refine below_drewN ?_ _ | refine Below.alloc' ?_ _ | (refine Below.setCell ?_ (by first | omega | (simp; done) | (simp; omega) | exact Below.size (by assumption) | exact Nat.le_trans (Below.size (by assumption)) (by simp)) _) | (refine Below.via' ?_ (by assumption)) | (refine Below.alloc ?_ (by first | omega | (simp; done) | (simp; omega) | exact Below.size (by assumption) | exact Nat.le_trans (Below.size (by assumption)) (by simp)) _) | (refine Below.via ?_ (by assumption) (by first | omega | (simp; done) | (simp; omega) | exact Below.size (by assumption) | exact Nat.le_trans (Below.size (by assumption)) (by simp)))))
set_option maxHeartbeats 4000000 in
theorem sRV_x (x y z : Option Addr) (c1 c2 c3 : Nat) (S : List (ByteArray × Int)) (E F : List Int) (v : Int) (w : World) (hS : SIn w x c1 S) (hE : IIn w y E) (hF : IIn w z F) :
    Calls Try.prog 17 #[.slice x S.length c1, .agg #[.slice y E.length c2], .agg #[.slice z F.length c3], .int .i64 v] w (RetEB (rvR S E F v) (rvL E F v) w) := by
  have hSh := Lib.hid hS
  have hEh := Lib.hid hE
  have hFh := Lib.hid hF
  have hm := hS.1
  clear hS hE hF
  obtain ⟨W0, hW0, hqE, hqF, hqR, hB2, hW0z⟩ := three_box w y z E.length F.length c2 c3 28
  obtain ⟨ea0, eb0, ec0⟩ := hqE.out
  obtain ⟨fa0, fb0, fc0⟩ := hqF.out
  obtain ⟨ra0, rb0, rc0⟩ := hqR.out
  have hL : Hid (EIn (W0.alloc (.cells #[.slice y E.length c2, .slice z F.length c3] 28)) (some ⟨W0.heap.size, 0, none⟩) [⟨0, 0, y, c2, E⟩, ⟨0, 0, z, c3, F⟩]) := eIn_two (c := c2) (d := c3) 28 (hEh.out.below hB2) (hFh.out.below hB2)
  have hbL : Below W0.heap.size W0 (W0.alloc (.cells #[.slice y E.length c2, .slice z F.length c3] 28)) := (by repeat (first | exact Below.refl _ _ | assumption | refine Below.drew ?_ | refine below_drewN ?_ _ | refine Below.alloc' ?_ _ | (refine Below.setCell ?_ (by first | omega | (simp; done) | (simp; omega) | exact Below.size (by assumption) | exact Nat.le_trans (Below.size (by assumption)) (by simp)) _) | (refine Below.via' ?_ (by assumption)) | (refine Below.alloc ?_ (by first | omega | (simp; done) | (simp; omega) | exact Below.size (by assumption) | exact Nat.le_trans (Below.size (by assumption)) (by simp)) _) | (refine Below.via ?_ (by assumption) (by first | omega | (simp; done) | (simp; omega) | exact Below.size (by assumption) | exact Nat.le_trans (Below.size (by assumption)) (by simp)))))
  have hSW := Lib.hid (hSh.out.below (hB2.trans (hbL.mono hB2.size)))
  go_enter Try.func17, Try.ntmps17
  go_wp2_with fail
  refine (eSmall_any _ _ _ _ S [⟨0, 0, y, c2, E⟩, ⟨0, 0, z, c3, F⟩] _ hSW.out hL.out).mono ?_
  rintro e w1 ⟨rfl, hb1⟩
  have hqR1 := Lib.hid ((hqR.out.below hbL).below hb1)
  have hqE1 := Lib.hid ((hqE.out.below hbL).below hb1)
  have hqF1 := Lib.hid ((hqF.out.below hbL).below hb1)
  obtain ⟨ea1, eb1, ec1⟩ := hqE1.out
  obtain ⟨fa1, fb1, fc1⟩ := hqF1.out
  obtain ⟨ra1, rb1, rc1⟩ := hqR1.out
  have B1 : Below w.heap.size w w1 := (hB2.trans (hbL.mono hB2.size)).trans (hb1.mono (by have := hB2.size; simp; omega))
  clear hW0 ea0 eb0 fa0 fb0 ra0 rb0 hb1
  rw [show eM [⟨0, 0, y, c2, E⟩, ⟨0, 0, z, c3, F⟩] = [E, F] from rfl]
  cases hs : smB S [E, F]
  · have hv := Lib.hid (rvR_no1 (v := v) hs)
    have hs := Lib.hid hs
    go_wp2
    refine bodyPost_ret (v := .tuple #[.agg #[.slice none 0 0], .bool false]) (by simp [results, Try.results17, go_sem, *]) rfl (RetEB.no hv.out ?_)
    exact (by repeat (first | exact Below.refl _ _ | assumption | refine Below.drew ?_ | refine below_drewN ?_ _ | refine Below.alloc' ?_ _ | (refine Below.setCell ?_ (by first | omega | (simp; done) | (simp; omega) | exact Below.size (by assumption) | exact Nat.le_trans (Below.size (by assumption)) (by simp)) _) | (refine Below.via' ?_ (by assumption)) | (refine Below.alloc ?_ (by first | omega | (simp; done) | (simp; omega) | exact Below.size (by assumption) | exact Nat.le_trans (Below.size (by assumption)) (by simp)) _) | (refine Below.via ?_ (by assumption) (by first | omega | (simp; done) | (simp; omega) | exact Below.size (by assumption) | exact Nat.le_trans (Below.size (by assumption)) (by simp)))))
  obtain ⟨g0, g9⟩ := sm_get hs
  obtain ⟨g1, g2, g3⟩ := see_get ((el_two S E F).symm.trans g0)
  have hsmh := Lib.hid hs
  have hsh := Lib.hid g1
  have heh := Lib.hid g2
  have hfh := Lib.hid g3
  have hl6 := (schB_len g1).2
  clear hs g0 g1 g2 g3 g9
  go_wp2_with fail
  refine (l1In_any _ _ _ _).mono ?_
  rintro e w2 ⟨rfl, rfl⟩
  by_cases hvr : 0 ≤ v ∧ v < (S.length : Int)
  · have hin : inB v 0 ((S.length : Int) - 1) = true := (inB_iff ..).2 ⟨hvr.1, by omega⟩
    have hvh := Lib.hid hvr
    rw [hin]
    clear hin
    go_wp2_with fail
    refine (eResolve_any _ _ _ _ S E F v _ hsh.out heh.out hfh.out (hEh.out.below B1) (hFh.out.below B1)).mono ?_
    rintro e w3 ⟨x3, n3, rfl, ho3, hb3⟩
    have hqR3 := Lib.hid (hqR1.out.below hb3)
    have hs1 := B1.size
    have B3 : Below w.heap.size w w3 := B1.trans (hb3.mono hs1)
    have hq3 := Lib.hid (QB.new w3 x3 (rvL E F v).length n3 28)
    have hb4 : Below w3.heap.size w3 (w3.alloc (.cells #[.slice x3 (rvL E F v).length n3] 28)) := (Below.refl _ _).alloc (Nat.le_refl _) _
    have own4 := Lib.hid (own_below ho3 hb4)
    have B4 : Below w.heap.size w (w3.alloc (.cells #[.slice x3 (rvL E F v).length n3] 28)) := B3.trans (hb4.mono B3.size)
    have hqR4 := Lib.hid (hqR3.out.below hb4)
    have hIn := Lib.hid (show IIn (w3.alloc (.cells #[.slice x3 (rvL E F v).length n3] 28)) x3 (rvL E F v) from ⟨by rw [rvL_len]; have := ed_len heh.out; omega, rv_i64 v hsh.out heh.out hfh.out, Rd.of_own own4.out⟩)
    have hed := Lib.hid (rv_ed v hsh.out heh.out hfh.out)
    obtain ⟨ra4, rb4, rc4⟩ := hqR4.out
    obtain ⟨qa, qb, qc⟩ := hq3.out
    clear ho3 hb3 ea1 eb1 fa1 fb1 ra1 rb1
    go_wp2_with fail
    refine (eGood_any _ _ _ _ S (rvL E F v) _ hsh.out hm (hSh.out.rd.below B4) hIn.out).mono ?_
    rintro e w8 ⟨rfl, hb8⟩
    rw [hed.out]
    have B8 : Below w.heap.size w w8 := B4.trans (hb8.mono B4.size)
    have hq8 := Lib.hid (hqR4.out.below hb8)
    obtain ⟨na, nb, nc⟩ := hq8.out
    have hq38 := Lib.hid (hq3.out.below hb8)
    obtain ⟨oa, ob, oc⟩ := hq38.out
    have ho8 := Lib.hid (own_below own4.out hb8)
    clear ra4 rb4 qa qb
    cases hb : rvB E F v
    · have hv := Lib.hid (rvR_no3 (S := S) hb)
      go_wp2
      refine bodyPost_ret (v := .tuple #[.agg #[.slice none 0 0], .bool false]) (by simp [results, Try.results17, go_sem, *]) rfl (RetEB.no hv.out ?_)
      exact (by repeat (first | exact Below.refl _ _ | assumption | refine Below.drew ?_ | refine below_drewN ?_ _ | refine Below.alloc' ?_ _ | (refine Below.setCell ?_ (by first | omega | (simp; done) | (simp; omega) | exact Below.size (by assumption) | exact Nat.le_trans (Below.size (by assumption)) (by simp)) _) | (refine Below.via' ?_ (by assumption)) | (refine Below.alloc ?_ (by first | omega | (simp; done) | (simp; omega) | exact Below.size (by assumption) | exact Nat.le_trans (Below.size (by assumption)) (by simp)) _) | (refine Below.via ?_ (by assumption) (by first | omega | (simp; done) | (simp; omega) | exact Below.size (by assumption) | exact Nat.le_trans (Below.size (by assumption)) (by simp)))))
    · have hv := Lib.hid (rvR_yes hsmh.out hvh.out hb)
      go_wp2
      refine bodyPost_ret (v := .tuple #[.agg #[.slice x3 (rvL E F v).length n3], .bool true]) (by simp [results, Try.results17, go_sem, *]) rfl (RetEB.yes hv.out rfl ?_ ?_)
      · refine own_more (base := w1.heap.size) ?_ hs1
        repeat (refine ownsRow_setCell_below ?_ (by simp; try omega) _)
        exact ho8.out
      · exact (by repeat (first | exact Below.refl _ _ | assumption | refine Below.drew ?_ | refine below_drewN ?_ _ | refine Below.alloc' ?_ _ | (refine Below.setCell ?_ (by first | omega | (simp; done) | (simp; omega) | exact Below.size (by assumption) | exact Nat.le_trans (Below.size (by assumption)) (by simp)) _) | (refine Below.via' ?_ (by assumption)) | (refine Below.alloc ?_ (by first | omega | (simp; done) | (simp; omega) | exact Below.size (by assumption) | exact Nat.le_trans (Below.size (by assumption)) (by simp)) _) | (refine Below.via ?_ (by assumption) (by first | omega | (simp; done) | (simp; omega) | exact Below.size (by assumption) | exact Nat.le_trans (Below.size (by assumption)) (by simp)))))
  · have hv := Lib.hid (rvR_no2 (S := S) (E := E) (F := F) hvr)
    have hin : inB v 0 ((S.length : Int) - 1) = false := by
      cases h : inB v 0 ((S.length : Int) - 1) with
      | false => rfl
      | true => exact absurd ⟨((inB_iff ..).1 h).1, by have := ((inB_iff ..).1 h).2; omega⟩ hvr
    rw [hin]
    clear hin
    go_wp2
    refine bodyPost_ret (v := .tuple #[.agg #[.slice none 0 0], .bool false]) (by simp [results, Try.results17, go_sem, *]) rfl (RetEB.no hv.out ?_)
    exact (by repeat (first | exact Below.refl _ _ | assumption | refine Below.drew ?_ | refine below_drewN ?_ _ | refine Below.alloc' ?_ _ | (refine Below.setCell ?_ (by first | omega | (simp; done) | (simp; omega) | exact Below.size (by assumption) | exact Nat.le_trans (Below.size (by assumption)) (by simp)) _) | (refine Below.via' ?_ (by assumption)) | (refine Below.alloc ?_ (by first | omega | (simp; done) | (simp; omega) | exact Below.size (by assumption) | exact Nat.le_trans (Below.size (by assumption)) (by simp)) _) | (refine Below.via ?_ (by assumption) (by first | omega | (simp; done) | (simp; omega) | exact Below.size (by assumption) | exact Nat.le_trans (Below.size (by assumption)) (by simp)))))
end Go.Proofs.Ytfaobfgckfjnjaa
