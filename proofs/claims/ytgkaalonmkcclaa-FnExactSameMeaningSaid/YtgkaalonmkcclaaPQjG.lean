import Derived.Test.YtgkaalonmkcclaaPQjC
import Derived.Test.YtgkaalonmkcclaaPQjF
import Derived.Test.YtgkaalonmkcclaaEdI
import Derived.Test.YtgkaalonmkcclaaRd
import Derived.Test.YtgkaalonmkcclaaVec
import Derived.Test.YtgkaalonmkcclaaSchN
namespace Go.Proofs.Ytgkaalonmkcclaa
open Go.RowKit
set_option maxRecDepth 100000

theorem iC_setN (L : List Int) (k : Nat) (v : Int) : (iC L).set k (.int .i64 v) = iC (L.set k v) := by unfold iC; rw [List.map_set]
theorem wb_farN {w w' : World} {g t : Nat} {cs : Array Value} {r : Option Nat} (h : Wb w g t cs) (hg : w.grownBy w' r) (hne : r ≠ some g) : Wb w' g t cs := (hg.block g h.inside (fun e => hne e.symm)).trans h
theorem kd_ne {lv x : Int} (h : x ≠ flZ lv) : (kdZ lv x == 2) = false := by
  unfold kdZ
  by_cases k : x ≤ 0 ∨ flZ lv < x
  · rw [if_pos k]; rfl
  · rw [if_neg k, if_neg h]; rfl
theorem kd_eq {lv x : Int} (h : 2 ≤ lv ∧ lv ≤ 8) (k : x = flZ lv) : (kdZ lv x == 2) = true := by rw [kdZ_all h k]; rfl
theorem retT_of {l : Int} {F W V : List Int} {m : Int} {w w' : World} {xF : Option Addr} {cF g cW : Nat} (hl : V.length = W.length) (h : OwY w' w.heap.size w'.heap.size (.slice xF F.length cF) (.slice (some ⟨g, 0, none⟩) V.length cW) F V) (hb : Below w.heap.size w w') :
    RetT l F V m w (.returned (.agg #[.int .i64 l, .slice xF F.length cF, .slice (some ⟨g, 0, none⟩) W.length cW, .int .i64 m])) w' := by
  rw [← hl]
  exact ⟨_, _, _, _, rfl, h, hb⟩
set_option maxHeartbeats 4000000 in
theorem normalTable_any (y x z : Option Addr) (c1 c d : Nat) (S : List (ByteArray × Int)) (l : Int) (F W : List Int) (m : Int) (w : World) (hs : schB S = true) (hl : W.length = S.length) (hS : SIn w y c1 S) (hmF : F.length ≤ 1048576) (hcF : F.length ≤ c) (hnF : x = none → c = 0) (hcW : W.length ≤ d) (hnW : z = none → d = 0) (hF : Rd w x (iC F)) (hW : Rd w z (iC W)) :
    Calls Try.prog 96 #[.slice y S.length c1, .agg #[.int .i64 l, .slice x F.length c, .slice z W.length d, .int .i64 m]] w (RetT l F (nwL S W) m w) := by
  have hSh := Lib.hid hS
  have hFh := Lib.hid hF
  have hWh := Lib.hid hW
  have hsh := Lib.hid hs
  have h6 := schB_len hs
  have hlh := Lib.hid hl
  have hW6 : W.length ≤ 6 := by omega
  have hW1 : 0 < W.length := by omega
  clear hF hW hS hs hl
  have q0 := TQ.new w l x F.length c z W.length d m 37
  obtain ⟨W2, hW2⟩ : ∃ W2, W2 = (w.alloc (.cells #[.int .i64 l, .slice x F.length c, .slice z W.length d, .int .i64 m] 37)).alloc (.cells #[.int .i64 0, .slice none 0 0, .slice none 0 0, .int .i64 0] 37) := ⟨_, rfl⟩
  have B2 : Below w.heap.size w W2 := by rw [hW2]; exact (by repeat (first | exact Below.refl _ _ | assumption | refine Below.drew ?_ | refine below_drewN ?_ _ | refine Below.alloc' ?_ _ | (refine Below.setCell ?_ (by first | omega | (simp; done) | (simp; omega) | exact Below.size (by assumption) | exact Nat.le_trans (Below.size (by assumption)) (by simp)) _) | (refine Below.via' ?_ (by assumption)) | (refine Below.alloc ?_ (by first | omega | (simp; done) | (simp; omega) | exact Below.size (by assumption) | exact Nat.le_trans (Below.size (by assumption)) (by simp)) _) | (refine Below.via ?_ (by assumption) (by first | omega | (simp; done) | (simp; omega) | exact Below.size (by assumption) | exact Nat.le_trans (Below.size (by assumption)) (by simp)))))
  have zz := Wb.new (w.alloc (.cells #[.int .i64 l, .slice x F.length c, .slice z W.length d, .int .i64 m] 37)) 37 #[.int .i64 0, .slice none 0 0, .slice none 0 0, .int .i64 0]
  rw [← hW2, World.size_alloc] at zz
  have hs2 : W2.heap.size = w.heap.size + 1 + 1 := by rw [hW2]; simp
  replace zz := Lib.hid zz
  replace hW2 := Lib.hid hW2
  replace q0 := Lib.hid q0
  go_enter Try.func96, Try.ntmps96
  go_wp2_with fail
  rw [← hW2.out]
  refine (copyTable_any l x z _ _ F W m _ hmF (by omega) hcF hnF hcW hnW (hFh.out.below B2) (hWh.out.below B2)).mono ?_
  rintro e w3 ⟨xF, cF, xW, cW, rfl, ⟨a0, a1, a2, a3, o1, o2, o3, o4, o5, hOF, hOW⟩, hb3⟩
  obtain ⟨g, gc, hg⟩ := own_someV hOW.1 hW1
  injection hg with hg1 hg2 hg3
  subst hg1 hg3
  have B3 := Below.via' B2 hb3
  have zz3 := Lib.hid (zz.out.kept hb3)
  have hOFh := Lib.hid hOF
  have hOWh := Lib.hid hOW
  have hsz := hb3.size
  have hn := Wb.new w3 37 #[.int .i64 l, .slice xF F.length cF, .slice (some ⟨g, 0, none⟩) W.length cW, .int .i64 m]
  replace hn := Lib.hid hn
  clear hOF hOW zz q0
  have hbA : Below w3.heap.size w3 (w3.alloc (.cells #[.int .i64 l, .slice xF F.length cF, .slice (some ⟨g, 0, none⟩) W.length cW, .int .i64 m] 37)) := (by repeat (first | exact Below.refl _ _ | assumption | refine Below.drew ?_ | refine below_drewN ?_ _ | refine Below.alloc' ?_ _ | (refine Below.setCell ?_ (by first | omega | (simp; done) | (simp; omega) | exact Below.size (by assumption) | exact Nat.le_trans (Below.size (by assumption)) (by simp)) _) | (refine Below.via' ?_ (by assumption)) | (refine Below.alloc ?_ (by first | omega | (simp; done) | (simp; omega) | exact Below.size (by assumption) | exact Nat.le_trans (Below.size (by assumption)) (by simp)) _) | (refine Below.via ?_ (by assumption) (by first | omega | (simp; done) | (simp; omega) | exact Below.size (by assumption) | exact Nat.le_trans (Below.size (by assumption)) (by simp)))))
  go_wp2
  go_loopw [12] (fun c wr => ∃ i : Nat, i ≤ S.length ∧ c = .int .i64 i ∧ OwR wr a2 a3 3 1 (.slice (some ⟨g, 0, none⟩) W.length cW) W.length (iC (kK (nwL S W) W i)) ∧ OwR wr a0 a1 3 1 (.slice xF F.length cF) F.length (iC F) ∧ Wb wr w3.heap.size 37 #[.int .i64 l, .slice xF F.length cF, .slice (some ⟨g, 0, none⟩) W.length cW, .int .i64 m] ∧ Wb wr (w.heap.size + 1) 37 #[.int .i64 0, .slice none 0 0, .slice none 0 0, .int .i64 0] ∧ Below w.heap.size w wr) (fun c _ => S.length - (intOf c).toNat)
  case atStart => exact ⟨0, by omega, by go_num, by rw [kK_zero]; exact hOWh.out.below hbA, hOFh.out.below hbA, hn.out, zz3.out.kept hbA, Below.via' B3 hbA⟩
  case round =>
    obtain ⟨i, hi, rfl, hOW, hOF, hT, hZ, hb⟩ := hrel
    by_cases hlt : i < S.length
    · obtain ⟨bl, off, nm, lv, rfl, hbl, hSi, ks0, ks1⟩ := (hSh.out.rd.below hb).var hlt
      have hlv := schB_lv hsh.out hSi
      obtain ⟨x0, hx0⟩ : ∃ x0, W[i]? = some x0 := ⟨_, List.getElem?_eq_getElem (by have := hlh.out; omega)⟩
      have hkg := kK_get (A := nwL S W) (W := W) (by rw [nwL_len hlh.out]; exact hi) hx0
      obtain ⟨u0, hu0, k0r⟩ := own_cell hOW.1 (j := i) (by have := hlh.out; omega)
      obtain rfl : u0 = .int .i64 x0 := Option.some.inj (hu0.symm.trans (iC_at hkg))
      have lgr := (own_lt hOW.1).2
      have hb' := Below.via' (Below.refl _ _) hb
      obtain ⟨wv, hwv⟩ : ∃ wv, wv = wr.alloc (.cells #[.string nm, .int .i64 lv] 86) := ⟨_, rfl⟩
      have hv := Wb.new wr 86 #[.string nm, .int .i64 lv]
      have BV : Below wr.heap.size wr wv := by rw [hwv]; exact Below.alloc' (Below.refl _ _) _
      rw [← hwv] at hv
      have v0 := hv.read 0
      have v1 := hv.read 1
      have lv0 := hv.inside
      have hTv := hT.kept BV
      have t2 := hTv.read 2
      have lt0 := hTv.inside
      have k0 := (BV.cell (p := ⟨g, i, none⟩) lgr).trans k0r
      have lg0 : g < wv.heap.size := Nat.lt_of_lt_of_le lgr BV.size
      have hlt' : (i : Int) < (S.length : Int) := by omega
      have hi0 : (0 : Int) ≤ (i : Int) := by omega
      have hiW : (i : Int) < (W.length : Int) := by have := hlh.out; omega
      replace hwv := Lib.hid hwv
      replace hOW := Lib.hid hOW
      replace hOF := Lib.hid hOF
      replace hT := Lib.hid hT
      replace hZ := Lib.hid hZ
      replace hTv := Lib.hid hTv
      clear hv hu0
      replace hkg := Lib.hid hkg
      replace hx0 := Lib.hid hx0
      replace hSi := Lib.hid hSi
      go_upto_region 5 with fail
      rw [← hwv.out]
      refine wp_region_held_drew (S := fun X => Below wv.heap.size wv X) (by kernel_rfl) (Below.drew (Below.refl _ _)) (fun hH => ?_)
      refine wpAnyH_take (i := 0) (v := ?_) rfl (by kernel_rfl) (by kernel_rfl) (by kernel_rfl) (fun _ _ _ h => h) (Or.inl ⟨by rfl, ?_⟩) (by assumption) ?_; rotate_left; · (intro wz hz; (have f0 := (hz.cell (p := ⟨wr.heap.size, 0, none⟩) lv0).trans v0; have f1 := (hz.cell (p := ⟨wr.heap.size, 1, none⟩) lv0).trans v1; have f2 := (hz.cell (p := ⟨w3.heap.size, 2, none⟩) lt0).trans t2; have f3 := (hz.cell (p := ⟨g, i, none⟩) lg0).trans k0); clear hz; go_simp; try with_reducible rfl); (try simp only [Act.put, List.getElem_toArray, List.getElem_cons_succ, List.getElem_cons_zero, List.setIfInBounds_toArray, List.set_cons_zero, List.set_cons_succ])
      refine wpAnyH_take (i := 1) (v := ?_) rfl (by kernel_rfl) (by kernel_rfl) (by kernel_rfl) (fun _ _ _ h => h) (Or.inl ⟨by rfl, ?_⟩) (by assumption) ?_; rotate_left; · (intro wz hz; (have f0 := (hz.cell (p := ⟨wr.heap.size, 0, none⟩) lv0).trans v0; have f1 := (hz.cell (p := ⟨wr.heap.size, 1, none⟩) lv0).trans v1; have f2 := (hz.cell (p := ⟨w3.heap.size, 2, none⟩) lt0).trans t2; have f3 := (hz.cell (p := ⟨g, i, none⟩) lg0).trans k0); clear hz; go_simp; try with_reducible rfl); (try simp only [Act.put, List.getElem_toArray, List.getElem_cons_succ, List.getElem_cons_zero, List.setIfInBounds_toArray, List.set_cons_zero, List.set_cons_succ])
      refine wpAnyH_take (i := 2) (v := ?_) rfl (by kernel_rfl) (by kernel_rfl) (by kernel_rfl) (fun _ _ _ h => h) (Or.inl ⟨by rfl, ?_⟩) (by assumption) ?_; rotate_left; · (intro wz hz; (have f0 := (hz.cell (p := ⟨wr.heap.size, 0, none⟩) lv0).trans v0; have f1 := (hz.cell (p := ⟨wr.heap.size, 1, none⟩) lv0).trans v1; have f2 := (hz.cell (p := ⟨w3.heap.size, 2, none⟩) lt0).trans t2; have f3 := (hz.cell (p := ⟨g, i, none⟩) lg0).trans k0); clear hz; go_simp; try with_reducible rfl); (try simp only [Act.put, List.getElem_toArray, List.getElem_cons_succ, List.getElem_cons_zero, List.setIfInBounds_toArray, List.set_cons_zero, List.set_cons_succ])
      refine wpAnyH_take (i := 3) (v := ?_) rfl (by kernel_rfl) (by kernel_rfl) (by kernel_rfl) (fun _ _ _ h => h) (Or.inl ⟨by rfl, ?_⟩) (by assumption) ?_; rotate_left; · (intro wz hz; (have f0 := (hz.cell (p := ⟨wr.heap.size, 0, none⟩) lv0).trans v0; have f1 := (hz.cell (p := ⟨wr.heap.size, 1, none⟩) lv0).trans v1; have f2 := (hz.cell (p := ⟨w3.heap.size, 2, none⟩) lt0).trans t2; have f3 := (hz.cell (p := ⟨g, i, none⟩) lg0).trans k0); clear hz; go_simp; try with_reducible rfl); (try simp only [Act.put, List.getElem_toArray, List.getElem_cons_succ, List.getElem_cons_zero, List.setIfInBounds_toArray, List.set_cons_zero, List.set_cons_succ])
      refine wpAnyH_take (i := 4) (v := ?_) rfl (by kernel_rfl) (by kernel_rfl) (by kernel_rfl) (fun _ _ _ h => h) (Or.inl ⟨by rfl, ?_⟩) (by assumption) ?_; rotate_left; · (intro wz hz; (have f0 := (hz.cell (p := ⟨wr.heap.size, 0, none⟩) lv0).trans v0; have f1 := (hz.cell (p := ⟨wr.heap.size, 1, none⟩) lv0).trans v1; have f2 := (hz.cell (p := ⟨w3.heap.size, 2, none⟩) lt0).trans t2; have f3 := (hz.cell (p := ⟨g, i, none⟩) lg0).trans k0); clear hz; go_simp; try with_reducible rfl); (try simp only [Act.put, List.getElem_toArray, List.getElem_cons_succ, List.getElem_cons_zero, List.setIfInBounds_toArray, List.set_cons_zero, List.set_cons_succ])
      refine wpAnyH_take (i := 5) (v := ?_) rfl (by kernel_rfl) (by kernel_rfl) (by kernel_rfl) (fun _ _ _ h => h) (Or.inl ⟨by rfl, ?_⟩) (by assumption) ?_; rotate_left; · (intro wz hz; (have f0 := (hz.cell (p := ⟨wr.heap.size, 0, none⟩) lv0).trans v0; have f1 := (hz.cell (p := ⟨wr.heap.size, 1, none⟩) lv0).trans v1; have f2 := (hz.cell (p := ⟨w3.heap.size, 2, none⟩) lt0).trans t2; have f3 := (hz.cell (p := ⟨g, i, none⟩) lg0).trans k0); clear hz; go_simp; try with_reducible rfl); (try simp only [Act.put, List.getElem_toArray, List.getElem_cons_succ, List.getElem_cons_zero, List.setIfInBounds_toArray, List.set_cons_zero, List.set_cons_succ])
      refine wpAnyH_ready (rs := [6]) (by kernel_rfl) (by simp) (AllReadyH.cons rfl (fun K hK => ?_) AllReadyH.nil); go_simp
      refine (kindOfSet_any _ _ _ _ hlv).mono ?_
      rintro e w5 ⟨rfl, hb5⟩
      have h5 := Below.via' hH hb5
      refine hK.out _ _ h5 (fun _ => ?_)
      clear hK K
      (try simp only [Act.put, List.getElem_toArray, List.getElem_cons_succ, List.getElem_cons_zero, List.setIfInBounds_toArray, List.set_cons_zero, List.set_cons_succ])
      refine wpAnyH_take (i := 7) (v := ?_) rfl (by kernel_rfl) (by kernel_rfl) (by kernel_rfl) (fun _ _ _ h => h) (Or.inl ⟨by rfl, ?_⟩) (by assumption) ?_; rotate_left; · (intro wz hz; (skip); clear hz; go_simp; try with_reducible rfl); (try simp only [Act.put, List.getElem_toArray, List.getElem_cons_succ, List.getElem_cons_zero, List.setIfInBounds_toArray, List.set_cons_zero, List.set_cons_succ])
      refine wpAnyH_done (by kernel_rfl) ?_ _
      have B5 := Below.via' BV h5
      have hOW5 := hOW.out.below B5
      have hOF5 := hOF.out.below B5
      have hT5 := hTv.out.kept h5
      have hZ5 := hZ.out.kept B5
      have hbw := Below.via' hb B5
      by_cases hfl : x0 = flZ lv
      · have hkd := kd_eq hlv hfl
        have hst := kK_step (A := nwL S W) (W := W) (nwL_yes hSi.out hx0.out hfl) (by have := hlh.out; omega)
        obtain ⟨u1, hu1, k1⟩ := own_cell hOW5.1 (j := i) (by have := hlh.out; omega)
        have k2 := hOW5.1.frozenAt i
        have hsr := hOW5.1.stored i (.int .i64 0)
        have t5 := hT5.read 2
        have hg5 := hOW5.2 g rfl
        have hrel2 : OwR (w5.setCell ⟨g, i, none⟩ (.int .i64 0)) a2 a3 3 1 (.slice (some ⟨g, 0, none⟩) W.length cW) W.length (iC (kK (nwL S W) W (i + 1))) := by
          rw [← hst, ← iC_setN]
          exact hOW5.turn hsr.1
        have hF2 := hOF5.keep hsr.2 (fun k hk => by
          have e : g = k := by injection hk
          omega)
        have hT2 := wb_farN hT5 hsr.2 (fun hk => by
          have e : g = w3.heap.size := by injection hk
          omega)
        have hZ2 := wb_farN hZ5 hsr.2 (fun hk => by
          have e : g = w.heap.size + 1 := by injection hk
          omega)
        have hbw2 : Below w.heap.size w (w5.setCell ⟨g, i, none⟩ (.int .i64 0)) := Below.setCell hbw (by show w.heap.size ≤ g; omega) _
        replace hrel2 := Lib.hid hrel2
        replace hF2 := Lib.hid hF2
        replace hT2 := Lib.hid hT2
        replace hZ2 := Lib.hid hZ2
        replace hsr := Lib.hid hsr
        replace hst := Lib.hid hst
        replace hfl := Lib.hid hfl
        replace hbw2 := Lib.hid hbw2
        clear hOW5 hOF5 hT5 hZ5 hu1
        go_wp2
        go_roundw
        case rel => exact ⟨i + 1, by omega, by go_num, hrel2.out, hF2.out, hT2.out, hZ2.out, hbw2.out⟩
        case measure => simp [intOf]; omega
      · have hkd := kd_ne hfl
        have hst := kK_same (nwL_no hSi.out hx0.out hfl) hx0.out
        rw [← hst] at hOW5
        replace hOW5 := Lib.hid hOW5
        replace hOF5 := Lib.hid hOF5
        replace hT5 := Lib.hid hT5
        replace hZ5 := Lib.hid hZ5
        replace hst := Lib.hid hst
        replace hfl := Lib.hid hfl
        go_wp2
        go_roundw
        case rel => exact ⟨i + 1, by omega, by go_num, hOW5.out, hOF5.out, hT5.out, hZ5.out, hbw⟩
        case measure => simp [intOf]; omega
    · have hij : i = S.length := by omega
      subst hij
      rw [kK_all (nwL_len hlh.out) hlh.out] at hOW
      have ta := hT.read 0; have tb := hT.read 1; have tc := hT.read 2; have td := hT.read 3; have te := hT.free 0; have tf := hT.free 1; have tg := hT.free 2; have th := hT.free 3
      have ya := hZ.read 0; have yb := hZ.read 1; have yc := hZ.read 2; have yd := hZ.read 3; have ye := hZ.free 0; have yf := hZ.free 1; have yg := hZ.free 2; have yh := hZ.free 3
      have yin := hZ.inside
      have tin := hT.inside
      replace hOW := Lib.hid hOW
      replace hOF := Lib.hid hOF
      have hl2 := nwL_len2 (S := S) hlh.out
      replace hl2 := Lib.hid hl2
      have hbs := hb.size
      go_wp2
      refine bodyPost_ret (v := .agg #[.int .i64 l, .slice xF F.length cF, .slice (some ⟨g, 0, none⟩) W.length cW, .int .i64 m]) (by simp [results, Try.results96, go_sem, *]) rfl ?_
      refine retT_of (W := W) hl2.out ⟨a0, a1, a2, a3, ?_, ?_, ?_, ?_, o5, ?_, ?_⟩ (by repeat (first | exact Below.refl _ _ | assumption | refine Below.drew ?_ | refine below_drewN ?_ _ | refine Below.alloc' ?_ _ | (refine Below.setCell ?_ (by first | omega | (simp; done) | (simp; omega) | exact Below.size (by assumption) | exact Nat.le_trans (Below.size (by assumption)) (by simp)) _) | (refine Below.via' ?_ (by assumption)) | (refine Below.alloc ?_ (by first | omega | (simp; done) | (simp; omega) | exact Below.size (by assumption) | exact Nat.le_trans (Below.size (by assumption)) (by simp)) _) | (refine Below.via ?_ (by assumption) (by first | omega | (simp; done) | (simp; omega) | exact Below.size (by assumption) | exact Nat.le_trans (Below.size (by assumption)) (by simp)))))
      omega
      simp; omega
      omega
      simp; omega
      repeat (refine OwR.set ?_ _ _ (Or.inl (by show w.heap.size + 1 < a0; omega)))
      exact hOF.out
      repeat (refine OwR.set ?_ _ _ (Or.inl (by show w.heap.size + 1 < a2; omega)))
      rw [hl2.out]
      exact hOW.out
end Go.Proofs.Ytgkaalonmkcclaa

namespace Go.Proofs.Ytgkaalonmkcclaa
open Go.RowKit
set_option maxRecDepth 100000

set_option maxHeartbeats 4000000 in
theorem nNormal_any (y x z : Option Addr) (c1 c d : Nat) (S : List (ByteArray × Int)) (l : Int) (F W : List Int) (m : Int) (w : World) (hs : schB S = true) (hl : W.length = S.length) (hS : SIn w y c1 S) (hmF : F.length ≤ 1048576) (hcF : F.length ≤ c) (hnF : x = none → c = 0) (hcW : W.length ≤ d) (hnW : z = none → d = 0) (hF : Rd w x (iC F)) (hW : Rd w z (iC W)) :
    Calls Try.prog 95 #[.slice y S.length c1, .agg #[.int .i64 l, .slice x F.length c, .slice z W.length d, .int .i64 m]] w (RetT l F (nwL S W) m w) := by
  have hSh := Lib.hid hS
  have hFh := Lib.hid hF
  have hWh := Lib.hid hW
  have hsh := Lib.hid hs
  have h6 := schB_len hs
  have hlh := Lib.hid hl
  have hW6 : W.length ≤ 6 := by omega
  have hW1 : 0 < W.length := by omega
  clear hF hW hS hs hl
  have q0 := TQ.new w l x F.length c z W.length d m 37
  obtain ⟨W2, hW2⟩ : ∃ W2, W2 = (w.alloc (.cells #[.int .i64 l, .slice x F.length c, .slice z W.length d, .int .i64 m] 37)).alloc (.cells #[.int .i64 0, .slice none 0 0, .slice none 0 0, .int .i64 0] 37) := ⟨_, rfl⟩
  have B2 : Below w.heap.size w W2 := by rw [hW2]; exact (by repeat (first | exact Below.refl _ _ | assumption | refine Below.drew ?_ | refine below_drewN ?_ _ | refine Below.alloc' ?_ _ | (refine Below.setCell ?_ (by first | omega | (simp; done) | (simp; omega) | exact Below.size (by assumption) | exact Nat.le_trans (Below.size (by assumption)) (by simp)) _) | (refine Below.via' ?_ (by assumption)) | (refine Below.alloc ?_ (by first | omega | (simp; done) | (simp; omega) | exact Below.size (by assumption) | exact Nat.le_trans (Below.size (by assumption)) (by simp)) _) | (refine Below.via ?_ (by assumption) (by first | omega | (simp; done) | (simp; omega) | exact Below.size (by assumption) | exact Nat.le_trans (Below.size (by assumption)) (by simp)))))
  have zz := Wb.new (w.alloc (.cells #[.int .i64 l, .slice x F.length c, .slice z W.length d, .int .i64 m] 37)) 37 #[.int .i64 0, .slice none 0 0, .slice none 0 0, .int .i64 0]
  rw [← hW2, World.size_alloc] at zz
  have hs2 : W2.heap.size = w.heap.size + 1 + 1 := by rw [hW2]; simp
  replace zz := Lib.hid zz
  replace hW2 := Lib.hid hW2
  replace q0 := Lib.hid q0
  go_enter Try.func95, Try.ntmps95
  go_wp2_with fail
  rw [← hW2.out]
  refine (nOwn_any l x z _ _ F W m _ hmF (by omega) hcF hnF hcW hnW (hFh.out.below B2) (hWh.out.below B2)).mono ?_
  rintro e w3 ⟨xF, cF, xW, cW, rfl, ⟨a0, a1, a2, a3, o1, o2, o3, o4, o5, hOF, hOW⟩, hb3⟩
  obtain ⟨g, gc, hg⟩ := own_someV hOW.1 hW1
  injection hg with hg1 hg2 hg3
  subst hg1 hg3
  have B3 := Below.via' B2 hb3
  have zz3 := Lib.hid (zz.out.kept hb3)
  have hOFh := Lib.hid hOF
  have hOWh := Lib.hid hOW
  have hsz := hb3.size
  have hn := Wb.new w3 37 #[.int .i64 l, .slice xF F.length cF, .slice (some ⟨g, 0, none⟩) W.length cW, .int .i64 m]
  replace hn := Lib.hid hn
  clear hOF hOW zz q0
  have hbA : Below w3.heap.size w3 (w3.alloc (.cells #[.int .i64 l, .slice xF F.length cF, .slice (some ⟨g, 0, none⟩) W.length cW, .int .i64 m] 37)) := (by repeat (first | exact Below.refl _ _ | assumption | refine Below.drew ?_ | refine below_drewN ?_ _ | refine Below.alloc' ?_ _ | (refine Below.setCell ?_ (by first | omega | (simp; done) | (simp; omega) | exact Below.size (by assumption) | exact Nat.le_trans (Below.size (by assumption)) (by simp)) _) | (refine Below.via' ?_ (by assumption)) | (refine Below.alloc ?_ (by first | omega | (simp; done) | (simp; omega) | exact Below.size (by assumption) | exact Nat.le_trans (Below.size (by assumption)) (by simp)) _) | (refine Below.via ?_ (by assumption) (by first | omega | (simp; done) | (simp; omega) | exact Below.size (by assumption) | exact Nat.le_trans (Below.size (by assumption)) (by simp)))))
  go_wp2
  go_loopw [11] (fun c wr => ∃ i : Nat, i ≤ S.length ∧ c = .int .i64 i ∧ OwR wr a2 a3 3 1 (.slice (some ⟨g, 0, none⟩) W.length cW) W.length (iC (kK (nwL S W) W i)) ∧ OwR wr a0 a1 3 1 (.slice xF F.length cF) F.length (iC F) ∧ Wb wr w3.heap.size 37 #[.int .i64 l, .slice xF F.length cF, .slice (some ⟨g, 0, none⟩) W.length cW, .int .i64 m] ∧ Wb wr (w.heap.size + 1) 37 #[.int .i64 0, .slice none 0 0, .slice none 0 0, .int .i64 0] ∧ Below w.heap.size w wr) (fun c _ => S.length - (intOf c).toNat)
  case atStart => exact ⟨0, by omega, by go_num, by rw [kK_zero]; exact hOWh.out.below hbA, hOFh.out.below hbA, hn.out, zz3.out.kept hbA, Below.via' B3 hbA⟩
  case round =>
    obtain ⟨i, hi, rfl, hOW, hOF, hT, hZ, hb⟩ := hrel
    by_cases hlt : i < S.length
    · obtain ⟨bl, off, nm, lv, rfl, hbl, hSi, ks0, ks1⟩ := (hSh.out.rd.below hb).var hlt
      have hlv := schB_lv hsh.out hSi
      obtain ⟨x0, hx0⟩ : ∃ x0, W[i]? = some x0 := ⟨_, List.getElem?_eq_getElem (by have := hlh.out; omega)⟩
      have hkg := kK_get (A := nwL S W) (W := W) (by rw [nwL_len hlh.out]; exact hi) hx0
      obtain ⟨u0, hu0, k0r⟩ := own_cell hOW.1 (j := i) (by have := hlh.out; omega)
      obtain rfl : u0 = .int .i64 x0 := Option.some.inj (hu0.symm.trans (iC_at hkg))
      have lgr := (own_lt hOW.1).2
      have hTv := hT
      have t2 := hT.read 2
      have lt0 := hT.inside
      have k0 := k0r
      have lg0 := lgr
      have hlt' : (i : Int) < (S.length : Int) := by omega
      have hi0 : (0 : Int) ≤ (i : Int) := by omega
      have hiW : (i : Int) < (W.length : Int) := by have := hlh.out; omega
      replace hOW := Lib.hid hOW
      replace hOF := Lib.hid hOF
      replace hT := Lib.hid hT
      replace hZ := Lib.hid hZ
      replace hTv := Lib.hid hTv
      clear hu0
      replace hkg := Lib.hid hkg
      replace hx0 := Lib.hid hx0
      replace hSi := Lib.hid hSi
      go_upto_region 5 with fail
      refine wp_region_held_drew (S := fun X => Below wr.heap.size wr X) (by kernel_rfl) (Below.drew (Below.refl _ _)) (fun hH => ?_)
      refine wpAnyH_take (i := 0) (v := ?_) rfl (by kernel_rfl) (by kernel_rfl) (by kernel_rfl) (fun _ _ _ h => h) (Or.inl ⟨by rfl, ?_⟩) (by assumption) ?_; rotate_left; · (intro wz hz; (have f2 := (hz.cell (p := ⟨w3.heap.size, 2, none⟩) lt0).trans t2; have f3 := (hz.cell (p := ⟨g, i, none⟩) lg0).trans k0); clear hz; go_simp; try with_reducible rfl); (try simp only [Act.put, List.getElem_toArray, List.getElem_cons_succ, List.getElem_cons_zero, List.setIfInBounds_toArray, List.set_cons_zero, List.set_cons_succ])
      refine wpAnyH_take (i := 1) (v := ?_) rfl (by kernel_rfl) (by kernel_rfl) (by kernel_rfl) (fun _ _ _ h => h) (Or.inl ⟨by rfl, ?_⟩) (by assumption) ?_; rotate_left; · (intro wz hz; (have f2 := (hz.cell (p := ⟨w3.heap.size, 2, none⟩) lt0).trans t2; have f3 := (hz.cell (p := ⟨g, i, none⟩) lg0).trans k0); clear hz; go_simp; try with_reducible rfl); (try simp only [Act.put, List.getElem_toArray, List.getElem_cons_succ, List.getElem_cons_zero, List.setIfInBounds_toArray, List.set_cons_zero, List.set_cons_succ])
      refine wpAnyH_take (i := 2) (v := ?_) rfl (by kernel_rfl) (by kernel_rfl) (by kernel_rfl) (fun _ _ _ h => h) (Or.inl ⟨by rfl, ?_⟩) (by assumption) ?_; rotate_left; · (intro wz hz; (have f2 := (hz.cell (p := ⟨w3.heap.size, 2, none⟩) lt0).trans t2; have f3 := (hz.cell (p := ⟨g, i, none⟩) lg0).trans k0); clear hz; go_simp; try with_reducible rfl); (try simp only [Act.put, List.getElem_toArray, List.getElem_cons_succ, List.getElem_cons_zero, List.setIfInBounds_toArray, List.set_cons_zero, List.set_cons_succ])
      refine wpAnyH_take (i := 3) (v := ?_) rfl (by kernel_rfl) (by kernel_rfl) (by kernel_rfl) (fun _ _ _ h => h) (Or.inl ⟨by rfl, ?_⟩) (by assumption) ?_; rotate_left; · (intro wz hz; (have f2 := (hz.cell (p := ⟨w3.heap.size, 2, none⟩) lt0).trans t2; have f3 := (hz.cell (p := ⟨g, i, none⟩) lg0).trans k0); clear hz; go_simp; try with_reducible rfl); (try simp only [Act.put, List.getElem_toArray, List.getElem_cons_succ, List.getElem_cons_zero, List.setIfInBounds_toArray, List.set_cons_zero, List.set_cons_succ])
      refine wpAnyH_take (i := 4) (v := ?_) rfl (by kernel_rfl) (by kernel_rfl) (by kernel_rfl) (fun _ _ _ h => h) (Or.inl ⟨by rfl, ?_⟩) (by assumption) ?_; rotate_left; · (intro wz hz; (have f2 := (hz.cell (p := ⟨w3.heap.size, 2, none⟩) lt0).trans t2; have f3 := (hz.cell (p := ⟨g, i, none⟩) lg0).trans k0); clear hz; go_simp; try with_reducible rfl); (try simp only [Act.put, List.getElem_toArray, List.getElem_cons_succ, List.getElem_cons_zero, List.setIfInBounds_toArray, List.set_cons_zero, List.set_cons_succ])
      refine wpAnyH_take (i := 5) (v := ?_) rfl (by kernel_rfl) (by kernel_rfl) (by kernel_rfl) (fun _ _ _ h => h) (Or.inl ⟨by rfl, ?_⟩) (by assumption) ?_; rotate_left; · (intro wz hz; (have f2 := (hz.cell (p := ⟨w3.heap.size, 2, none⟩) lt0).trans t2; have f3 := (hz.cell (p := ⟨g, i, none⟩) lg0).trans k0); clear hz; go_simp; try with_reducible rfl); (try simp only [Act.put, List.getElem_toArray, List.getElem_cons_succ, List.getElem_cons_zero, List.setIfInBounds_toArray, List.set_cons_zero, List.set_cons_succ])
      refine wpAnyH_take (i := 6) (v := ?_) rfl (by kernel_rfl) (by kernel_rfl) (by kernel_rfl) (fun _ _ _ h => h) (Or.inl ⟨by rfl, ?_⟩) (by assumption) ?_; rotate_left; · (intro wz hz; (have f2 := (hz.cell (p := ⟨w3.heap.size, 2, none⟩) lt0).trans t2; have f3 := (hz.cell (p := ⟨g, i, none⟩) lg0).trans k0); clear hz; go_simp; try with_reducible rfl); (try simp only [Act.put, List.getElem_toArray, List.getElem_cons_succ, List.getElem_cons_zero, List.setIfInBounds_toArray, List.set_cons_zero, List.set_cons_succ])
      refine wpAnyH_ready (rs := [7]) (by kernel_rfl) (by simp) (AllReadyH.cons rfl (fun K hK => ?_) AllReadyH.nil); go_simp
      refine (eFull_any _ _ S i _ _ _ hlv hSi.out (hSh.out.rd.below (Below.via' hb hH))).mono ?_
      rintro e w5 ⟨rfl, rfl⟩
      have h5 := hH
      refine hK.out _ _ h5 (fun _ => ?_)
      clear hK K
      (try simp only [Act.put, List.getElem_toArray, List.getElem_cons_succ, List.getElem_cons_zero, List.setIfInBounds_toArray, List.set_cons_zero, List.set_cons_succ])
      refine wpAnyH_take (i := 8) (v := ?_) rfl (by kernel_rfl) (by kernel_rfl) (by kernel_rfl) (fun _ _ _ h => h) (Or.inl ⟨by rfl, ?_⟩) (by assumption) ?_; rotate_left; · (intro wz hz; (skip); clear hz; go_simp; try with_reducible rfl); (try simp only [Act.put, List.getElem_toArray, List.getElem_cons_succ, List.getElem_cons_zero, List.setIfInBounds_toArray, List.set_cons_zero, List.set_cons_succ])
      refine wpAnyH_done (by kernel_rfl) ?_ _
      have B5 := h5
      have hOW5 := hOW.out.below B5
      have hOF5 := hOF.out.below B5
      have hT5 := hTv.out.kept h5
      have hZ5 := hZ.out.kept B5
      have hbw := Below.via' hb B5
      by_cases hfl : x0 = flZ lv
      · have hkd : (x0 == flZ lv) = true := by rw [beq_iff_eq]; exact hfl
        have hst := kK_step (A := nwL S W) (W := W) (nwL_yes hSi.out hx0.out hfl) (by have := hlh.out; omega)
        obtain ⟨u1, hu1, k1⟩ := own_cell hOW5.1 (j := i) (by have := hlh.out; omega)
        have k2 := hOW5.1.frozenAt i
        have hsr := hOW5.1.stored i (.int .i64 0)
        have t5 := hT5.read 2
        have hg5 := hOW5.2 g rfl
        have hrel2 : OwR (wr.drew.setCell ⟨g, i, none⟩ (.int .i64 0)) a2 a3 3 1 (.slice (some ⟨g, 0, none⟩) W.length cW) W.length (iC (kK (nwL S W) W (i + 1))) := by
          rw [← hst, ← iC_setN]
          exact hOW5.turn hsr.1
        have hF2 := hOF5.keep hsr.2 (fun k hk => by
          have e : g = k := by injection hk
          omega)
        have hT2 := wb_farN hT5 hsr.2 (fun hk => by
          have e : g = w3.heap.size := by injection hk
          omega)
        have hZ2 := wb_farN hZ5 hsr.2 (fun hk => by
          have e : g = w.heap.size + 1 := by injection hk
          omega)
        have hbw2 : Below w.heap.size w (wr.drew.setCell ⟨g, i, none⟩ (.int .i64 0)) := Below.setCell hbw (by show w.heap.size ≤ g; omega) _
        replace hrel2 := Lib.hid hrel2
        replace hF2 := Lib.hid hF2
        replace hT2 := Lib.hid hT2
        replace hZ2 := Lib.hid hZ2
        replace hsr := Lib.hid hsr
        replace hst := Lib.hid hst
        replace hfl := Lib.hid hfl
        replace hbw2 := Lib.hid hbw2
        clear hOW5 hOF5 hT5 hZ5 hu1
        go_wp2
        go_roundw
        case rel => exact ⟨i + 1, by omega, by go_num, hrel2.out, hF2.out, hT2.out, hZ2.out, hbw2.out⟩
        case measure => simp [intOf]; omega
      · have hkd : (x0 == flZ lv) = false := by rw [beq_eq_false_iff_ne]; exact hfl
        have hst := kK_same (nwL_no hSi.out hx0.out hfl) hx0.out
        rw [← hst] at hOW5
        replace hOW5 := Lib.hid hOW5
        replace hOF5 := Lib.hid hOF5
        replace hT5 := Lib.hid hT5
        replace hZ5 := Lib.hid hZ5
        replace hst := Lib.hid hst
        replace hfl := Lib.hid hfl
        go_wp2
        go_roundw
        case rel => exact ⟨i + 1, by omega, by go_num, hOW5.out, hOF5.out, hT5.out, hZ5.out, hbw⟩
        case measure => simp [intOf]; omega
    · have hij : i = S.length := by omega
      subst hij
      rw [kK_all (nwL_len hlh.out) hlh.out] at hOW
      have ta := hT.read 0; have tb := hT.read 1; have tc := hT.read 2; have td := hT.read 3; have te := hT.free 0; have tf := hT.free 1; have tg := hT.free 2; have th := hT.free 3
      have ya := hZ.read 0; have yb := hZ.read 1; have yc := hZ.read 2; have yd := hZ.read 3; have ye := hZ.free 0; have yf := hZ.free 1; have yg := hZ.free 2; have yh := hZ.free 3
      have yin := hZ.inside
      have tin := hT.inside
      replace hOW := Lib.hid hOW
      replace hOF := Lib.hid hOF
      have hl2 := nwL_len2 (S := S) hlh.out
      replace hl2 := Lib.hid hl2
      have hbs := hb.size
      go_wp2
      refine bodyPost_ret (v := .agg #[.int .i64 l, .slice xF F.length cF, .slice (some ⟨g, 0, none⟩) W.length cW, .int .i64 m]) (by simp [results, Try.results95, go_sem, *]) rfl ?_
      refine retT_of (W := W) hl2.out ⟨a0, a1, a2, a3, ?_, ?_, ?_, ?_, o5, ?_, ?_⟩ (by repeat (first | exact Below.refl _ _ | assumption | refine Below.drew ?_ | refine below_drewN ?_ _ | refine Below.alloc' ?_ _ | (refine Below.setCell ?_ (by first | omega | (simp; done) | (simp; omega) | exact Below.size (by assumption) | exact Nat.le_trans (Below.size (by assumption)) (by simp)) _) | (refine Below.via' ?_ (by assumption)) | (refine Below.alloc ?_ (by first | omega | (simp; done) | (simp; omega) | exact Below.size (by assumption) | exact Nat.le_trans (Below.size (by assumption)) (by simp)) _) | (refine Below.via ?_ (by assumption) (by first | omega | (simp; done) | (simp; omega) | exact Below.size (by assumption) | exact Nat.le_trans (Below.size (by assumption)) (by simp)))))
      omega
      simp; omega
      omega
      simp; omega
      repeat (refine OwR.set ?_ _ _ (Or.inl (by show w.heap.size + 1 < a0; omega)))
      exact hOF.out
      repeat (refine OwR.set ?_ _ _ (Or.inl (by show w.heap.size + 1 < a2; omega)))
      rw [hl2.out]
      exact hOW.out
end Go.Proofs.Ytgkaalonmkcclaa

namespace Go.Proofs.Ytgkaalonmkcclaa
open Go.RowKit
set_option maxRecDepth 100000

theorem OwY.set {w : World} {lo hi : Nat} {u v : Value} {F W : List Int} (h : OwY w lo hi u v F W) (p : Addr) (q : Value) (hp : p.block < lo) : OwY (w.setCell p q) lo hi u v F W :=
  h.keep (grown_setN w p q) (fun k hk => by obtain rfl := Option.some.inj hk; exact Or.inl hp)
set_option maxHeartbeats 4000000 in
theorem iNT_x (p y x z : Option Addr) (c c1 c2 c3 : Nat) (P : List Int) (S : List (ByteArray × Int)) (l : Int) (F W : List Int) (m : Int) (w : World) (hP : IIn w p P) (hS : SIn w y c1 S) (hT : TIn w x z F W) (hcF : F.length ≤ c2) (hnF : x = none → c2 = 0) (hcW : W.length ≤ c3) (hnW : z = none → c3 = 0) :
    Calls Try.prog 53 #[.agg #[.slice p P.length c], .slice y S.length c1, .agg #[.int .i64 l, .slice x F.length c2, .slice z W.length c3, .int .i64 m]] w (RetTB (ntR P S l F W m) (tgB P S l F W m) w) := by
  have hPh := Lib.hid hP
  have hSh := Lib.hid hS
  have hFh := Lib.hid hT.1
  have hWh := Lib.hid hT.2
  clear hP hS hT
  have hmF := hFh.out.1
  have hcFh := Lib.hid hcF
  have hnFh := Lib.hid hnF
  have hcWh := Lib.hid hcW
  have hnWh := Lib.hid hnW
  clear hcF hnF hcW hnW
  have p1 := Lib.hid (QB.new w p P.length c 33)
  have p2 := Lib.hid (TQ.new (w.alloc (.cells #[.slice p P.length c] 33)) l x F.length c2 z W.length c3 m 37)
  have p3 := Wb.new ((w.alloc (.cells #[.slice p P.length c] 33)).alloc (.cells #[.int .i64 l, .slice x F.length c2, .slice z W.length c3, .int .i64 m] 37)) 37 #[.int .i64 0, .slice none 0 0, .slice none 0 0, .int .i64 0]
  obtain ⟨w0, hw0⟩ : ∃ w0, w0 = ((w.alloc (.cells #[.slice p P.length c] 33)).alloc (.cells #[.int .i64 l, .slice x F.length c2, .slice z W.length c3, .int .i64 m] 37)).alloc (.cells #[.int .i64 0, .slice none 0 0, .slice none 0 0, .int .i64 0] 37) := ⟨_, rfl⟩
  have B0 : Below w.heap.size w w0 := by rw [hw0]; exact (by repeat (first | exact Below.refl _ _ | assumption | refine Below.drew ?_ | refine below_drewN ?_ _ | refine Below.alloc' ?_ _ | (refine Below.setCell ?_ (by first | omega | (simp; done) | (simp; omega) | exact Below.size (by assumption) | exact Nat.le_trans (Below.size (by assumption)) (by simp)) _) | (refine Below.via' ?_ (by assumption)) | (refine Below.alloc ?_ (by first | omega | (simp; done) | (simp; omega) | exact Below.size (by assumption) | exact Nat.le_trans (Below.size (by assumption)) (by simp)) _) | (refine Below.via ?_ (by assumption) (by first | omega | (simp; done) | (simp; omega) | exact Below.size (by assumption) | exact Nat.le_trans (Below.size (by assumption)) (by simp)))))
  have g0 : Hid (QB w0 w.heap.size p P.length c) := by
    rw [hw0]
    exact p1.out.below (show Below (w.alloc (.cells #[.slice p P.length c] 33)).heap.size (w.alloc (.cells #[.slice p P.length c] 33)) _ from (by repeat (first | exact Below.refl _ _ | assumption | refine Below.drew ?_ | refine below_drewN ?_ _ | refine Below.alloc' ?_ _ | (refine Below.setCell ?_ (by first | omega | (simp; done) | (simp; omega) | exact Below.size (by assumption) | exact Nat.le_trans (Below.size (by assumption)) (by simp)) _) | (refine Below.via' ?_ (by assumption)) | (refine Below.alloc ?_ (by first | omega | (simp; done) | (simp; omega) | exact Below.size (by assumption) | exact Nat.le_trans (Below.size (by assumption)) (by simp)) _) | (refine Below.via ?_ (by assumption) (by first | omega | (simp; done) | (simp; omega) | exact Below.size (by assumption) | exact Nat.le_trans (Below.size (by assumption)) (by simp))))))
  have t0 : Hid (TQ w0 (w.heap.size + 1) l x F.length c2 z W.length c3 m) := by
    have h0 := p2.out.below (show Below ((w.alloc (.cells #[.slice p P.length c] 33)).alloc (.cells #[.int .i64 l, .slice x F.length c2, .slice z W.length c3, .int .i64 m] 37)).heap.size ((w.alloc (.cells #[.slice p P.length c] 33)).alloc (.cells #[.int .i64 l, .slice x F.length c2, .slice z W.length c3, .int .i64 m] 37)) w0 from by rw [hw0]; exact (by repeat (first | exact Below.refl _ _ | assumption | refine Below.drew ?_ | refine below_drewN ?_ _ | refine Below.alloc' ?_ _ | (refine Below.setCell ?_ (by first | omega | (simp; done) | (simp; omega) | exact Below.size (by assumption) | exact Nat.le_trans (Below.size (by assumption)) (by simp)) _) | (refine Below.via' ?_ (by assumption)) | (refine Below.alloc ?_ (by first | omega | (simp; done) | (simp; omega) | exact Below.size (by assumption) | exact Nat.le_trans (Below.size (by assumption)) (by simp)) _) | (refine Below.via ?_ (by assumption) (by first | omega | (simp; done) | (simp; omega) | exact Below.size (by assumption) | exact Nat.le_trans (Below.size (by assumption)) (by simp))))))
    rw [World.size_alloc] at h0
    exact h0
  have r0 : Hid (Wb w0 (w.heap.size + 1 + 1) 37 #[.int .i64 0, .slice none 0 0, .slice none 0 0, .int .i64 0]) := by
    rw [← hw0] at p3
    simpa [Hid] using p3
  have z0 : w0.heap.size = w.heap.size + 1 + 1 + 1 := by rw [hw0]; simp
  clear p1 p2 p3
  go_enter Try.func53, Try.ntmps53
  go_wp2_with fail
  rw [← hw0]
  replace hw0 := Lib.hid hw0
  replace z0 := Lib.hid z0
  refine (isTb_any p y x z _ _ _ _ P S l F W m _ (hPh.out.below B0) (hSh.out.below B0) ⟨hFh.out.below B0, hWh.out.below B0⟩).mono ?_
  rintro e w1 ⟨rfl, hb1⟩
  have r1 := Lib.hid (r0.out.kept hb1)
  have B1 : Below w.heap.size w w1 := Below.via' B0 hb1
  have g1 := Lib.hid (g0.out.below hb1)
  have t1 := Lib.hid (t0.out.below hb1)
  obtain ⟨ka1, kb1, kc1⟩ := g1.out
  obtain ⟨ta1, tb1, tc1, td1, te1⟩ := t1.out
  try clear ka0 kb0 kc0 ta0 tb0 tc0 td0 te0
  clear hb1
  have hs1 := B1.size
  have hr1 := r1.out.inside
  cases htb : tgB P S l F W m
  · have ya := r1.out.read 0; have yb := r1.out.read 1; have yc := r1.out.read 2; have yd := r1.out.read 3; have ye := r1.out.free 0; have yf := r1.out.free 1; have yg := r1.out.free 2; have yh := r1.out.free 3
    go_wp2
    refine bodyPost_ret (v := .tuple #[.agg #[.int .i64 0, .slice none 0 0, .slice none 0 0, .int .i64 0], .bool false]) (by simp [results, Try.results53, go_sem, *]) rfl ?_
    rw [ntR_no htb]
    exact retTB_no htb (by repeat (first | exact Below.refl _ _ | assumption | refine Below.drew ?_ | refine below_drewN ?_ _ | refine Below.alloc' ?_ _ | (refine Below.setCell ?_ (by first | omega | (simp; done) | (simp; omega) | exact Below.size (by assumption) | exact Nat.le_trans (Below.size (by assumption)) (by simp)) _) | (refine Below.via' ?_ (by assumption)) | (refine Below.alloc ?_ (by first | omega | (simp; done) | (simp; omega) | exact Below.size (by assumption) | exact Nat.le_trans (Below.size (by assumption)) (by simp)) _) | (refine Below.via ?_ (by assumption) (by first | omega | (simp; done) | (simp; omega) | exact Below.size (by assumption) | exact Nat.le_trans (Below.size (by assumption)) (by simp)))))
  have htg := tg_iff.1 htb
  have htbh := Lib.hid htb
  have hsh := Lib.hid htg.s
  have hwl := Lib.hid (tw_len htg.w)
  clear htg htb
  go_wp2_with fail
  refine (normalTable_any y x z _ _ _ S l F W m _ hsh.out hwl.out (hSh.out.below B1) hmF hcFh.out hnFh.out hcWh.out hnWh.out (hFh.out.below B1).2.2 (hWh.out.below B1).2.2).mono ?_
  rintro e w2 ⟨x2, d2, z2, e2, rfl, ho2, hb2⟩
  have r2 := Lib.hid (r1.out.kept hb2)
  have B2 := Below.via' B1 hb2
  have hs2 := hb2.size
  replace ho2 := Lib.hid ho2
  have ya := r2.out.read 0; have yb := r2.out.read 1; have yc := r2.out.read 2; have yd := r2.out.read 3; have ye := r2.out.free 0; have yf := r2.out.free 1; have yg := r2.out.free 2; have yh := r2.out.free 3
  have yin := r2.out.inside
  clear hb2 ka1 kb1 kc1 ta1 tb1 tc1 td1 te1
  go_wp2
  refine bodyPost_ret (v := .tuple #[.agg #[.int .i64 l, .slice x2 F.length d2, .slice z2 (nwL S W).length e2, .int .i64 m], .bool true]) (by simp [results, Try.results53, go_sem, *]) rfl ?_
  rw [ntR_yes htbh.out]
  refine ⟨_, _, _, _, ret_t (by rw [htbh.out]), OwY.more (lo := w1.heap.size) (hi := w2.heap.size) ?_ (by omega) (by simp), (by repeat (first | exact Below.refl _ _ | assumption | refine Below.drew ?_ | refine below_drewN ?_ _ | refine Below.alloc' ?_ _ | (refine Below.setCell ?_ (by first | omega | (simp; done) | (simp; omega) | exact Below.size (by assumption) | exact Nat.le_trans (Below.size (by assumption)) (by simp)) _) | (refine Below.via' ?_ (by assumption)) | (refine Below.alloc ?_ (by first | omega | (simp; done) | (simp; omega) | exact Below.size (by assumption) | exact Nat.le_trans (Below.size (by assumption)) (by simp)) _) | (refine Below.via ?_ (by assumption) (by first | omega | (simp; done) | (simp; omega) | exact Below.size (by assumption) | exact Nat.le_trans (Below.size (by assumption)) (by simp)))))⟩
  repeat (refine OwY.set ?_ _ _ (by show w.heap.size + 1 + 1 < w1.heap.size; omega))
  exact ho2.out
set_option maxHeartbeats 4000000 in
theorem sNT_x (p y x z : Option Addr) (c c1 c2 c3 : Nat) (P : List Int) (S : List (ByteArray × Int)) (l : Int) (F W : List Int) (m : Int) (w : World) (hP : IIn w p P) (hS : SIn w y c1 S) (hT : TIn w x z F W) (hcF : F.length ≤ c2) (hnF : x = none → c2 = 0) (hcW : W.length ≤ c3) (hnW : z = none → c3 = 0) :
    Calls Try.prog 52 #[.agg #[.slice p P.length c], .slice y S.length c1, .agg #[.int .i64 l, .slice x F.length c2, .slice z W.length c3, .int .i64 m]] w (RetTB (ntR P S l F W m) (tgB P S l F W m) w) := by
  have hPh := Lib.hid hP
  have hSh := Lib.hid hS
  have hFh := Lib.hid hT.1
  have hWh := Lib.hid hT.2
  clear hP hS hT
  have hmF := hFh.out.1
  have hcFh := Lib.hid hcF
  have hnFh := Lib.hid hnF
  have hcWh := Lib.hid hcW
  have hnWh := Lib.hid hnW
  clear hcF hnF hcW hnW
  have p1 := Lib.hid (QB.new w p P.length c 33)
  have p2 := Lib.hid (TQ.new (w.alloc (.cells #[.slice p P.length c] 33)) l x F.length c2 z W.length c3 m 37)
  have p3 := Wb.new ((w.alloc (.cells #[.slice p P.length c] 33)).alloc (.cells #[.int .i64 l, .slice x F.length c2, .slice z W.length c3, .int .i64 m] 37)) 37 #[.int .i64 0, .slice none 0 0, .slice none 0 0, .int .i64 0]
  obtain ⟨w0, hw0⟩ : ∃ w0, w0 = ((w.alloc (.cells #[.slice p P.length c] 33)).alloc (.cells #[.int .i64 l, .slice x F.length c2, .slice z W.length c3, .int .i64 m] 37)).alloc (.cells #[.int .i64 0, .slice none 0 0, .slice none 0 0, .int .i64 0] 37) := ⟨_, rfl⟩
  have B0 : Below w.heap.size w w0 := by rw [hw0]; exact (by repeat (first | exact Below.refl _ _ | assumption | refine Below.drew ?_ | refine below_drewN ?_ _ | refine Below.alloc' ?_ _ | (refine Below.setCell ?_ (by first | omega | (simp; done) | (simp; omega) | exact Below.size (by assumption) | exact Nat.le_trans (Below.size (by assumption)) (by simp)) _) | (refine Below.via' ?_ (by assumption)) | (refine Below.alloc ?_ (by first | omega | (simp; done) | (simp; omega) | exact Below.size (by assumption) | exact Nat.le_trans (Below.size (by assumption)) (by simp)) _) | (refine Below.via ?_ (by assumption) (by first | omega | (simp; done) | (simp; omega) | exact Below.size (by assumption) | exact Nat.le_trans (Below.size (by assumption)) (by simp)))))
  have g0 : Hid (QB w0 w.heap.size p P.length c) := by
    rw [hw0]
    exact p1.out.below (show Below (w.alloc (.cells #[.slice p P.length c] 33)).heap.size (w.alloc (.cells #[.slice p P.length c] 33)) _ from (by repeat (first | exact Below.refl _ _ | assumption | refine Below.drew ?_ | refine below_drewN ?_ _ | refine Below.alloc' ?_ _ | (refine Below.setCell ?_ (by first | omega | (simp; done) | (simp; omega) | exact Below.size (by assumption) | exact Nat.le_trans (Below.size (by assumption)) (by simp)) _) | (refine Below.via' ?_ (by assumption)) | (refine Below.alloc ?_ (by first | omega | (simp; done) | (simp; omega) | exact Below.size (by assumption) | exact Nat.le_trans (Below.size (by assumption)) (by simp)) _) | (refine Below.via ?_ (by assumption) (by first | omega | (simp; done) | (simp; omega) | exact Below.size (by assumption) | exact Nat.le_trans (Below.size (by assumption)) (by simp))))))
  have t0 : Hid (TQ w0 (w.heap.size + 1) l x F.length c2 z W.length c3 m) := by
    have h0 := p2.out.below (show Below ((w.alloc (.cells #[.slice p P.length c] 33)).alloc (.cells #[.int .i64 l, .slice x F.length c2, .slice z W.length c3, .int .i64 m] 37)).heap.size ((w.alloc (.cells #[.slice p P.length c] 33)).alloc (.cells #[.int .i64 l, .slice x F.length c2, .slice z W.length c3, .int .i64 m] 37)) w0 from by rw [hw0]; exact (by repeat (first | exact Below.refl _ _ | assumption | refine Below.drew ?_ | refine below_drewN ?_ _ | refine Below.alloc' ?_ _ | (refine Below.setCell ?_ (by first | omega | (simp; done) | (simp; omega) | exact Below.size (by assumption) | exact Nat.le_trans (Below.size (by assumption)) (by simp)) _) | (refine Below.via' ?_ (by assumption)) | (refine Below.alloc ?_ (by first | omega | (simp; done) | (simp; omega) | exact Below.size (by assumption) | exact Nat.le_trans (Below.size (by assumption)) (by simp)) _) | (refine Below.via ?_ (by assumption) (by first | omega | (simp; done) | (simp; omega) | exact Below.size (by assumption) | exact Nat.le_trans (Below.size (by assumption)) (by simp))))))
    rw [World.size_alloc] at h0
    exact h0
  have r0 : Hid (Wb w0 (w.heap.size + 1 + 1) 37 #[.int .i64 0, .slice none 0 0, .slice none 0 0, .int .i64 0]) := by
    rw [← hw0] at p3
    simpa [Hid] using p3
  have z0 : w0.heap.size = w.heap.size + 1 + 1 + 1 := by rw [hw0]; simp
  clear p1 p2 p3
  go_enter Try.func52, Try.ntmps52
  go_wp2_with fail
  rw [← hw0]
  replace hw0 := Lib.hid hw0
  replace z0 := Lib.hid z0
  refine (uGood_any p y x z _ _ _ _ P S l m F W _ (hPh.out.below B0) (hSh.out.below B0) ⟨hFh.out.below B0, hWh.out.below B0⟩).mono ?_
  rintro e w1 ⟨rfl, hb1⟩
  have r1 := Lib.hid (r0.out.kept hb1)
  have B1 : Below w.heap.size w w1 := Below.via' B0 hb1
  have g1 := Lib.hid (g0.out.below hb1)
  have t1 := Lib.hid (t0.out.below hb1)
  obtain ⟨ka1, kb1, kc1⟩ := g1.out
  obtain ⟨ta1, tb1, tc1, td1, te1⟩ := t1.out
  try clear ka0 kb0 kc0 ta0 tb0 tc0 td0 te0
  clear hb1
  have hs1 := B1.size
  have hr1 := r1.out.inside
  cases htb : tgB P S l F W m
  · have ya := r1.out.read 0; have yb := r1.out.read 1; have yc := r1.out.read 2; have yd := r1.out.read 3; have ye := r1.out.free 0; have yf := r1.out.free 1; have yg := r1.out.free 2; have yh := r1.out.free 3
    go_wp2
    refine bodyPost_ret (v := .tuple #[.agg #[.int .i64 0, .slice none 0 0, .slice none 0 0, .int .i64 0], .bool false]) (by simp [results, Try.results52, go_sem, *]) rfl ?_
    rw [ntR_no htb]
    exact retTB_no htb (by repeat (first | exact Below.refl _ _ | assumption | refine Below.drew ?_ | refine below_drewN ?_ _ | refine Below.alloc' ?_ _ | (refine Below.setCell ?_ (by first | omega | (simp; done) | (simp; omega) | exact Below.size (by assumption) | exact Nat.le_trans (Below.size (by assumption)) (by simp)) _) | (refine Below.via' ?_ (by assumption)) | (refine Below.alloc ?_ (by first | omega | (simp; done) | (simp; omega) | exact Below.size (by assumption) | exact Nat.le_trans (Below.size (by assumption)) (by simp)) _) | (refine Below.via ?_ (by assumption) (by first | omega | (simp; done) | (simp; omega) | exact Below.size (by assumption) | exact Nat.le_trans (Below.size (by assumption)) (by simp)))))
  have htg := tg_iff.1 htb
  have htbh := Lib.hid htb
  have hsh := Lib.hid htg.s
  have hwl := Lib.hid (tw_len htg.w)
  clear htg htb
  go_wp2_with fail
  refine (nNormal_any y x z _ _ _ S l F W m _ hsh.out hwl.out (hSh.out.below B1) hmF hcFh.out hnFh.out hcWh.out hnWh.out (hFh.out.below B1).2.2 (hWh.out.below B1).2.2).mono ?_
  rintro e w2 ⟨x2, d2, z2, e2, rfl, ho2, hb2⟩
  have r2 := Lib.hid (r1.out.kept hb2)
  have B2 := Below.via' B1 hb2
  have hs2 := hb2.size
  replace ho2 := Lib.hid ho2
  have ya := r2.out.read 0; have yb := r2.out.read 1; have yc := r2.out.read 2; have yd := r2.out.read 3; have ye := r2.out.free 0; have yf := r2.out.free 1; have yg := r2.out.free 2; have yh := r2.out.free 3
  have yin := r2.out.inside
  clear hb2 ka1 kb1 kc1 ta1 tb1 tc1 td1 te1
  go_wp2
  refine bodyPost_ret (v := .tuple #[.agg #[.int .i64 l, .slice x2 F.length d2, .slice z2 (nwL S W).length e2, .int .i64 m], .bool true]) (by simp [results, Try.results52, go_sem, *]) rfl ?_
  rw [ntR_yes htbh.out]
  refine ⟨_, _, _, _, ret_t (by rw [htbh.out]), OwY.more (lo := w1.heap.size) (hi := w2.heap.size) ?_ (by omega) (by simp), (by repeat (first | exact Below.refl _ _ | assumption | refine Below.drew ?_ | refine below_drewN ?_ _ | refine Below.alloc' ?_ _ | (refine Below.setCell ?_ (by first | omega | (simp; done) | (simp; omega) | exact Below.size (by assumption) | exact Nat.le_trans (Below.size (by assumption)) (by simp)) _) | (refine Below.via' ?_ (by assumption)) | (refine Below.alloc ?_ (by first | omega | (simp; done) | (simp; omega) | exact Below.size (by assumption) | exact Nat.le_trans (Below.size (by assumption)) (by simp)) _) | (refine Below.via ?_ (by assumption) (by first | omega | (simp; done) | (simp; omega) | exact Below.size (by assumption) | exact Nat.le_trans (Below.size (by assumption)) (by simp)))))⟩
  repeat (refine OwY.set ?_ _ _ (by show w.heap.size + 1 + 1 < w1.heap.size; omega))
  exact ho2.out
end Go.Proofs.Ytgkaalonmkcclaa

namespace Go.Proofs.Ytgkaalonmkcclaa
open Go.RowKit
set_option maxRecDepth 100000

def sqB (A B : List Int) : Bool := decide (A = B)
theorem sq_len {A B : List Int} (h : A.length ≠ B.length) : sqB A B = false := decide_eq_false (fun e => h (by rw [e]))
theorem sq_at {A B : List Int} {j : Nat} {a b : Int} (h1 : A[j]? = some a) (h2 : B[j]? = some b) (h : a ≠ b) : sqB A B = false := decide_eq_false (fun e => h (by rw [e, h2] at h1; exact (Option.some.inj h1).symm))
theorem sq_all {A B : List Int} (h : A.length = B.length) (k : ∀ j, j < A.length → A[j]? = B[j]?) : sqB A B = true := by
  apply decide_eq_true
  apply List.ext_getElem?
  intro j
  rcases Nat.lt_or_ge j A.length with hj | hj
  · exact k j hj
  · rw [List.getElem?_eq_none hj, List.getElem?_eq_none (by omega)]
theorem ret_sq {a b : Bool} (h : a = b) : Ending.returned (.bool a) = .returned (.bool b) := by rw [h]
set_option maxHeartbeats 1000000 in
theorem equalI_any (x y : Option Addr) (c1 c2 : Nat) (A B : List Int) (w : World) (hm : A.length ≤ 1048576) (hA : Rd w x (iC A)) (hB : Rd w y (iC B)) :
    Calls Try.prog 133 #[.slice x A.length c1, .slice y B.length c2] w fun e w' => e = .returned (.bool (sqB A B)) ∧ Below w.heap.size w w' := by
  have hAh := Lib.hid hA
  have hBh := Lib.hid hB
  clear hA hB
  by_cases hl : A.length = B.length
  · have e2 : ((A.length : Int) != (B.length : Int)) = false := by simp [hl]
    go_enter Try.func133, Try.ntmps133
    go_wp2
    clear e2
    go_loopw [13] (fun c wr => ∃ j : Nat, j ≤ A.length ∧ c = .int .i64 j ∧ Hid (∀ k, k < j → A[k]? = B[k]?) ∧ Below w.heap.size w wr) (fun c _ => A.length - (intOf c).toNat)
    case atStart => exact ⟨0, by omega, rfl, (fun k hk => absurd hk (by omega)), Below.refl _ _⟩
    case round =>
      obtain ⟨j, hj, rfl, hall, hbb⟩ := hrel
      by_cases hlt : j < A.length
      · obtain ⟨b1, o1, a, rfl, hb1, ha, ka⟩ := (hAh.out.below hbb).int hlt
        obtain ⟨b2, o2, b, rfl, hb2, hb, kb⟩ := (hBh.out.below hbb).int (i := j) (by omega)
        have hlt' : (j : Int) < (A.length : Int) := by omega
        have hltB : (j : Int) < (B.length : Int) := by omega
        have hj0 : (0 : Int) ≤ (j : Int) := by omega
        by_cases hab : a = b
        · have e3 : (a != b) = false := by simp [hab]
          have hn := Lib.hid (show ∀ k, k < j + 1 → A[k]? = B[k]? by
            intro k hk
            rcases Nat.lt_or_ge k j with h | h
            · exact hall.out k h
            · obtain rfl : k = j := by omega
              rw [ha, hb, hab])
          replace ha := Lib.hid ha
          replace hb := Lib.hid hb
          replace hab := Lib.hid hab
          go_wp2
          go_region
          all_goals
            go_wp2
            go_roundw
            case rel => exact ⟨j + 1, by omega, by go_num, hn.out, (by repeat (first | exact Below.refl _ _ | assumption | refine Below.drew ?_ | refine below_drewN ?_ _ | refine Below.alloc' ?_ _ | (refine Below.setCell ?_ (by first | omega | (simp; done) | (simp; omega) | exact Below.size (by assumption) | exact Nat.le_trans (Below.size (by assumption)) (by simp)) _) | (refine Below.via' ?_ (by assumption)) | (refine Below.alloc ?_ (by first | omega | (simp; done) | (simp; omega) | exact Below.size (by assumption) | exact Nat.le_trans (Below.size (by assumption)) (by simp)) _) | (refine Below.via ?_ (by assumption) (by first | omega | (simp; done) | (simp; omega) | exact Below.size (by assumption) | exact Nat.le_trans (Below.size (by assumption)) (by simp)))))⟩
            case measure => simp [intOf]; omega
        · have e3 : (a != b) = true := by simp [hab]
          have hv := Lib.hid (sq_at ha hb hab)
          replace ha := Lib.hid ha
          replace hb := Lib.hid hb
          replace hab := Lib.hid hab
          go_wp2
          go_region
          all_goals
            go_wp2
            go_ret
            exact ⟨ret_sq hv.out.symm, (by repeat (first | exact Below.refl _ _ | assumption | refine Below.drew ?_ | refine below_drewN ?_ _ | refine Below.alloc' ?_ _ | (refine Below.setCell ?_ (by first | omega | (simp; done) | (simp; omega) | exact Below.size (by assumption) | exact Nat.le_trans (Below.size (by assumption)) (by simp)) _) | (refine Below.via' ?_ (by assumption)) | (refine Below.alloc ?_ (by first | omega | (simp; done) | (simp; omega) | exact Below.size (by assumption) | exact Nat.le_trans (Below.size (by assumption)) (by simp)) _) | (refine Below.via ?_ (by assumption) (by first | omega | (simp; done) | (simp; omega) | exact Below.size (by assumption) | exact Nat.le_trans (Below.size (by assumption)) (by simp)))))⟩
      · have hij : j = A.length := by omega
        subst hij
        have hv := Lib.hid (sq_all hl hall.out)
        go_wp2
        go_ret
        exact ⟨ret_sq hv.out.symm, (by repeat (first | exact Below.refl _ _ | assumption | refine Below.drew ?_ | refine below_drewN ?_ _ | refine Below.alloc' ?_ _ | (refine Below.setCell ?_ (by first | omega | (simp; done) | (simp; omega) | exact Below.size (by assumption) | exact Nat.le_trans (Below.size (by assumption)) (by simp)) _) | (refine Below.via' ?_ (by assumption)) | (refine Below.alloc ?_ (by first | omega | (simp; done) | (simp; omega) | exact Below.size (by assumption) | exact Nat.le_trans (Below.size (by assumption)) (by simp)) _) | (refine Below.via ?_ (by assumption) (by first | omega | (simp; done) | (simp; omega) | exact Below.size (by assumption) | exact Nat.le_trans (Below.size (by assumption)) (by simp)))))⟩
  · have e2 : ((A.length : Int) != (B.length : Int)) = true := by simp; omega
    have hv := Lib.hid (sq_len hl)
    go_enter Try.func133, Try.ntmps133
    go_wp2
    go_ret
    exact ⟨ret_sq hv.out.symm, (by repeat (first | exact Below.refl _ _ | assumption | refine Below.drew ?_ | refine below_drewN ?_ _ | refine Below.alloc' ?_ _ | (refine Below.setCell ?_ (by first | omega | (simp; done) | (simp; omega) | exact Below.size (by assumption) | exact Nat.le_trans (Below.size (by assumption)) (by simp)) _) | (refine Below.via' ?_ (by assumption)) | (refine Below.alloc ?_ (by first | omega | (simp; done) | (simp; omega) | exact Below.size (by assumption) | exact Nat.le_trans (Below.size (by assumption)) (by simp)) _) | (refine Below.via ?_ (by assumption) (by first | omega | (simp; done) | (simp; omega) | exact Below.size (by assumption) | exact Nat.le_trans (Below.size (by assumption)) (by simp)))))⟩
set_option maxHeartbeats 1000000 in
theorem sameI_any (x y : Option Addr) (c1 c2 : Nat) (A B : List Int) (w : World) (hm : A.length ≤ 1048576) (hA : Rd w x (iC A)) (hB : Rd w y (iC B)) :
    Calls Try.prog 132 #[.slice x A.length c1, .slice y B.length c2] w fun e w' => e = .returned (.bool (sqB A B)) ∧ Below w.heap.size w w' := by
  have hAh := Lib.hid hA
  have hBh := Lib.hid hB
  clear hA hB
  by_cases hl : A.length = B.length
  · have e2 : ((A.length : Int) != (B.length : Int)) = false := by simp [hl]
    go_enter Try.func132, Try.ntmps132
    go_wp2
    clear e2
    go_loopw [13] (fun c wr => ∃ j : Nat, j ≤ A.length ∧ c = .int .i64 j ∧ Hid (∀ k, k < j → A[k]? = B[k]?) ∧ Below w.heap.size w wr) (fun c _ => A.length - (intOf c).toNat)
    case atStart => exact ⟨0, by omega, rfl, (fun k hk => absurd hk (by omega)), Below.refl _ _⟩
    case round =>
      obtain ⟨j, hj, rfl, hall, hbb⟩ := hrel
      by_cases hlt : j < A.length
      · obtain ⟨b1, o1, a, rfl, hb1, ha, ka⟩ := (hAh.out.below hbb).int hlt
        obtain ⟨b2, o2, b, rfl, hb2, hb, kb⟩ := (hBh.out.below hbb).int (i := j) (by omega)
        have hlt' : (j : Int) < (A.length : Int) := by omega
        have hltB : (j : Int) < (B.length : Int) := by omega
        have hj0 : (0 : Int) ≤ (j : Int) := by omega
        by_cases hab : a = b
        · have e3 : (a != b) = false := by simp [hab]
          have hn := Lib.hid (show ∀ k, k < j + 1 → A[k]? = B[k]? by
            intro k hk
            rcases Nat.lt_or_ge k j with h | h
            · exact hall.out k h
            · obtain rfl : k = j := by omega
              rw [ha, hb, hab])
          replace ha := Lib.hid ha
          replace hb := Lib.hid hb
          replace hab := Lib.hid hab
          go_wp2
          go_region
          all_goals
            go_wp2
            go_roundw
            case rel => exact ⟨j + 1, by omega, by go_num, hn.out, (by repeat (first | exact Below.refl _ _ | assumption | refine Below.drew ?_ | refine below_drewN ?_ _ | refine Below.alloc' ?_ _ | (refine Below.setCell ?_ (by first | omega | (simp; done) | (simp; omega) | exact Below.size (by assumption) | exact Nat.le_trans (Below.size (by assumption)) (by simp)) _) | (refine Below.via' ?_ (by assumption)) | (refine Below.alloc ?_ (by first | omega | (simp; done) | (simp; omega) | exact Below.size (by assumption) | exact Nat.le_trans (Below.size (by assumption)) (by simp)) _) | (refine Below.via ?_ (by assumption) (by first | omega | (simp; done) | (simp; omega) | exact Below.size (by assumption) | exact Nat.le_trans (Below.size (by assumption)) (by simp)))))⟩
            case measure => simp [intOf]; omega
        · have e3 : (a != b) = true := by simp [hab]
          have hv := Lib.hid (sq_at ha hb hab)
          replace ha := Lib.hid ha
          replace hb := Lib.hid hb
          replace hab := Lib.hid hab
          go_wp2
          go_region
          all_goals
            go_wp2
            go_ret
            exact ⟨ret_sq hv.out.symm, (by repeat (first | exact Below.refl _ _ | assumption | refine Below.drew ?_ | refine below_drewN ?_ _ | refine Below.alloc' ?_ _ | (refine Below.setCell ?_ (by first | omega | (simp; done) | (simp; omega) | exact Below.size (by assumption) | exact Nat.le_trans (Below.size (by assumption)) (by simp)) _) | (refine Below.via' ?_ (by assumption)) | (refine Below.alloc ?_ (by first | omega | (simp; done) | (simp; omega) | exact Below.size (by assumption) | exact Nat.le_trans (Below.size (by assumption)) (by simp)) _) | (refine Below.via ?_ (by assumption) (by first | omega | (simp; done) | (simp; omega) | exact Below.size (by assumption) | exact Nat.le_trans (Below.size (by assumption)) (by simp)))))⟩
      · have hij : j = A.length := by omega
        subst hij
        have hv := Lib.hid (sq_all hl hall.out)
        go_wp2
        go_ret
        exact ⟨ret_sq hv.out.symm, (by repeat (first | exact Below.refl _ _ | assumption | refine Below.drew ?_ | refine below_drewN ?_ _ | refine Below.alloc' ?_ _ | (refine Below.setCell ?_ (by first | omega | (simp; done) | (simp; omega) | exact Below.size (by assumption) | exact Nat.le_trans (Below.size (by assumption)) (by simp)) _) | (refine Below.via' ?_ (by assumption)) | (refine Below.alloc ?_ (by first | omega | (simp; done) | (simp; omega) | exact Below.size (by assumption) | exact Nat.le_trans (Below.size (by assumption)) (by simp)) _) | (refine Below.via ?_ (by assumption) (by first | omega | (simp; done) | (simp; omega) | exact Below.size (by assumption) | exact Nat.le_trans (Below.size (by assumption)) (by simp)))))⟩
  · have e2 : ((A.length : Int) != (B.length : Int)) = true := by simp; omega
    have hv := Lib.hid (sq_len hl)
    go_enter Try.func132, Try.ntmps132
    go_wp2
    go_ret
    exact ⟨ret_sq hv.out.symm, (by repeat (first | exact Below.refl _ _ | assumption | refine Below.drew ?_ | refine below_drewN ?_ _ | refine Below.alloc' ?_ _ | (refine Below.setCell ?_ (by first | omega | (simp; done) | (simp; omega) | exact Below.size (by assumption) | exact Nat.le_trans (Below.size (by assumption)) (by simp)) _) | (refine Below.via' ?_ (by assumption)) | (refine Below.alloc ?_ (by first | omega | (simp; done) | (simp; omega) | exact Below.size (by assumption) | exact Nat.le_trans (Below.size (by assumption)) (by simp)) _) | (refine Below.via ?_ (by assumption) (by first | omega | (simp; done) | (simp; omega) | exact Below.size (by assumption) | exact Nat.le_trans (Below.size (by assumption)) (by simp)))))⟩
end Go.Proofs.Ytgkaalonmkcclaa

namespace Go.Proofs.Ytgkaalonmkcclaa
open Go.RowKit
set_option maxRecDepth 100000

/-- Two tables have the same normal table. -/
def smT (S : List (ByteArray × Int)) (l : Int) (F W : List Int) (m k : Int) (G U : List Int) (n : Int) : Bool := decide (l = k) && decide (m = n) && sqB F G && sqB (nwL S W) (nwL S U)
section
variable {S : List (ByteArray × Int)} {l : Int} {F W : List Int} {m k : Int} {G U : List Int} {n : Int}
theorem smT_l (h : l ≠ k) : smT S l F W m k G U n = false := by unfold smT; rw [decide_eq_false h]; rfl
theorem smT_m (h : m ≠ n) : smT S l F W m k G U n = false := by unfold smT; rw [decide_eq_false h, Bool.and_false]; rfl
theorem smT_F (h : sqB F G = false) : smT S l F W m k G U n = false := by unfold smT; rw [h, Bool.and_false]; rfl
theorem smT_W (h : sqB (nwL S W) (nwL S U) = false) : smT S l F W m k G U n = false := by unfold smT; rw [h, Bool.and_false]
theorem smT_yes (h1 : l = k) (h2 : m = n) (h3 : sqB F G = true) (h4 : sqB (nwL S W) (nwL S U) = true) : smT S l F W m k G U n = true := by unfold smT; rw [decide_eq_true h1, decide_eq_true h2, h3, h4]; rfl
end
theorem drew_sizeN (w : World) : w.drew.heap.size = w.heap.size := rfl
theorem tq_of_wbN {w : World} {g t : Nat} {l : Int} {x : Option Addr} {n c : Nat} {z : Option Addr} {k d : Nat} {m : Int} (h : Wb w g t #[.int .i64 l, .slice x n c, .slice z k d, .int .i64 m]) : TQ w g l x n c z k d m :=
  ⟨(h.read 0).trans rfl, (h.read 1).trans rfl, (h.read 2).trans rfl, (h.read 3).trans rfl, h.inside⟩
theorem OwY.asideN {w : World} {lo hi : Nat} {u v : Value} {F W : List Int} (h : OwY w lo hi u v F W) (p : Addr) (q : Value) (hp : p.block < lo ∨ hi ≤ p.block) : OwY (w.setCell p q) lo hi u v F W :=
  h.keep (grown_setN w p q) (fun k hk => by obtain rfl := Option.some.inj hk; exact hp)
/-- A world behind a whole table's store. -/
def st4 (w : World) (g : Nat) (l : Int) (x : Option Addr) (n c : Nat) (z : Option Addr) (k d : Nat) (m : Int) : World := (((w.setCell ⟨g, 0, none⟩ (.int .i64 l)).setCell ⟨g, 1, none⟩ (.slice x n c)).setCell ⟨g, 2, none⟩ (.slice z k d)).setCell ⟨g, 3, none⟩ (.int .i64 m)
section
variable {w : World} {g : Nat} {l : Int} {x : Option Addr} {n c : Nat} {z : Option Addr} {k d : Nat} {m : Int}
theorem st4_wb {t : Nat} {a0 a1 a2 a3 : Value} (h : Wb w g t #[a0, a1, a2, a3]) : Wb (st4 w g l x n c z k d m) g t #[.int .i64 l, .slice x n c, .slice z k d, .int .i64 m] := (((h.put 0 _).put 1 _).put 2 _).put 3 _
theorem st4_far {t q : Nat} {cs : Array Value} (h : Wb w q t cs) (hne : q ≠ g) : Wb (st4 w g l x n c z k d m) q t cs :=
  (Below.heap_setCell _ _ _ _ hne).trans ((Below.heap_setCell _ _ _ _ hne).trans ((Below.heap_setCell _ _ _ _ hne).trans ((Below.heap_setCell _ _ _ _ hne).trans h)))
theorem st4_own {lo hi : Nat} {u v : Value} {A B : List Int} (h : OwY w lo hi u v A B) (hp : g < lo ∨ hi ≤ g) : OwY (st4 w g l x n c z k d m) lo hi u v A B :=
  (((h.asideN _ _ hp).asideN _ _ hp).asideN _ _ hp).asideN _ _ hp
theorem st4_below {b : Nat} {w0 : World} (h : Below b w0 w) (hg : b ≤ g) : Below b w0 (st4 w g l x n c z k d m) := (((h.setCell hg _).setCell hg _).setCell hg _).setCell hg _
end
set_option maxHeartbeats 16000000 in
theorem haveSame_any (y x z a b : Option Addr) (c1 c d c4 d4 : Nat) (S : List (ByteArray × Int)) (l : Int) (F W : List Int) (m k : Int) (G U : List Int) (n : Int) (w : World) (hs : schB S = true) (hl : W.length = S.length) (hl2 : U.length = S.length) (hS : SIn w y c1 S) (hmF : F.length ≤ 1048576) (hcF : F.length ≤ c) (hnF : x = none → c = 0) (hcW : W.length ≤ d) (hnW : z = none → d = 0) (hF : Rd w x (iC F)) (hW : Rd w z (iC W)) (hmG : G.length ≤ 1048576) (hcG : G.length ≤ c4) (hnG : a = none → c4 = 0) (hcU : U.length ≤ d4) (hnU : b = none → d4 = 0) (hG : Rd w a (iC G)) (hU : Rd w b (iC U)) :
    Calls Try.prog 98 #[.slice y S.length c1, .agg #[.int .i64 l, .slice x F.length c, .slice z W.length d, .int .i64 m], .agg #[.int .i64 k, .slice a G.length c4, .slice b U.length d4, .int .i64 n]] w fun e w' => e = .returned (.bool (smT S l F W m k G U n)) ∧ Below w.heap.size w w' := by
  have hSh := Lib.hid hS
  have hFh := Lib.hid hF
  have hWh := Lib.hid hW
  have hGh := Lib.hid hG
  have hUh := Lib.hid hU
  have hsh := Lib.hid hs
  have hlh := Lib.hid hl
  have hl2h := Lib.hid hl2
  have h6 := (schB_len hs).2
  have hF1 := Lib.hid (And.intro hcF hnF)
  have hW1 := Lib.hid (And.intro hcW hnW)
  have hG1 := Lib.hid (And.intro hcG hnG)
  have hU1 := Lib.hid (And.intro hcU hnU)
  clear hF hW hS hs hl hl2 hG hU hcF hnF hcW hnW hcG hnG hcU hnU
  have q1 := Wb.new w 37 #[.int .i64 l, .slice x F.length c, .slice z W.length d, .int .i64 m]
  obtain ⟨W2, hW2⟩ : ∃ W2, W2 = (w.alloc (.cells #[.int .i64 l, .slice x F.length c, .slice z W.length d, .int .i64 m] 37)).alloc (.cells #[.int .i64 k, .slice a G.length c4, .slice b U.length d4, .int .i64 n] 37) := ⟨_, rfl⟩
  replace q1 := q1.kept (show Below (w.alloc (.cells #[.int .i64 l, .slice x F.length c, .slice z W.length d, .int .i64 m] 37)).heap.size (w.alloc (.cells #[.int .i64 l, .slice x F.length c, .slice z W.length d, .int .i64 m] 37)) W2 from by rw [hW2]; exact (by repeat (first | exact Below.refl _ _ | assumption | refine Below.drew ?_ | refine below_drewN ?_ _ | refine Below.alloc' ?_ _ | (refine Below.setCell ?_ (by first | omega | (simp; done) | (simp; omega) | exact Below.size (by assumption) | exact Nat.le_trans (Below.size (by assumption)) (by simp)) _) | (refine Below.via' ?_ (by assumption)) | (refine Below.alloc ?_ (by first | omega | (simp; done) | (simp; omega) | exact Below.size (by assumption) | exact Nat.le_trans (Below.size (by assumption)) (by simp)) _) | (refine Below.via ?_ (by assumption) (by first | omega | (simp; done) | (simp; omega) | exact Below.size (by assumption) | exact Nat.le_trans (Below.size (by assumption)) (by simp))))))
  have q2 := Wb.new (w.alloc (.cells #[.int .i64 l, .slice x F.length c, .slice z W.length d, .int .i64 m] 37)) 37 #[.int .i64 k, .slice a G.length c4, .slice b U.length d4, .int .i64 n]
  rw [← hW2, World.size_alloc] at q2
  have B2 : Below w.heap.size w W2 := by rw [hW2]; exact (by repeat (first | exact Below.refl _ _ | assumption | refine Below.drew ?_ | refine below_drewN ?_ _ | refine Below.alloc' ?_ _ | (refine Below.setCell ?_ (by first | omega | (simp; done) | (simp; omega) | exact Below.size (by assumption) | exact Nat.le_trans (Below.size (by assumption)) (by simp)) _) | (refine Below.via' ?_ (by assumption)) | (refine Below.alloc ?_ (by first | omega | (simp; done) | (simp; omega) | exact Below.size (by assumption) | exact Nat.le_trans (Below.size (by assumption)) (by simp)) _) | (refine Below.via ?_ (by assumption) (by first | omega | (simp; done) | (simp; omega) | exact Below.size (by assumption) | exact Nat.le_trans (Below.size (by assumption)) (by simp)))))
  have hs2 : W2.heap.size = w.heap.size + 1 + 1 := by rw [hW2]; simp
  replace hW2 := Lib.hid hW2
  have q1h := Lib.hid (show Wb W2.drew w.heap.size 37 #[.int .i64 l, .slice x F.length c, .slice z W.length d, .int .i64 m] from q1)
  have q2h := Lib.hid (show Wb W2.drew (w.heap.size + 1) 37 #[.int .i64 k, .slice a G.length c4, .slice b U.length d4, .int .i64 n] from q2)
  have t1 := Lib.hid (tq_of_wbN q1h.out)
  have t2 := Lib.hid (tq_of_wbN q2h.out)
  clear q1 q2
  go_enter Try.func98, Try.ntmps98
  go_wp2_with fail
  rw [← hW2.out]
  go_cut [] (fun wx => ∃ xA cA zA dA xB cB zB dB, TQ wx w.heap.size l xA F.length cA zA (nwL S W).length dA m ∧ TQ wx (w.heap.size + 1) k xB G.length cB zB (nwL S U).length dB n ∧ (Rd wx xA (iC F) ∧ Rd wx zA (iC (nwL S W))) ∧ (Rd wx xB (iC G) ∧ Rd wx zB (iC (nwL S U))) ∧ Below w.heap.size w wx)
  case first =>
    obtain ⟨p0, p1, p2, p3, pl⟩ := t1.out
    obtain ⟨r0, r1, r2, r3, rl⟩ := t2.out
    refine wp_region_held_drew (S := fun X => Below w.heap.size w X) (by kernel_rfl) (Below.drew B2) (fun hH => ?_)
    replace hH := Lib.hid hH
    have hS := hH.out
    refine wpAnyH_take (i := 0) (v := ?_) rfl (by kernel_rfl) (by kernel_rfl) (by kernel_rfl) (fun _ _ _ h => h) (Or.inl ⟨by rfl, ?_⟩) (by assumption) ?_; rotate_left; · (intro wz hz; (skip); clear hz; go_simp; try with_reducible rfl); (try simp only [Act.put, List.getElem_toArray, List.getElem_cons_succ, List.getElem_cons_zero, List.setIfInBounds_toArray, List.set_cons_zero, List.set_cons_succ])
    refine wpAnyH_take (i := 3) (v := ?_) rfl (by kernel_rfl) (by kernel_rfl) (by kernel_rfl) (fun _ _ _ h => h) (Or.inl ⟨by rfl, ?_⟩) (by assumption) ?_; rotate_left; · (intro wz hz; (skip); clear hz; go_simp; try with_reducible rfl); (try simp only [Act.put, List.getElem_toArray, List.getElem_cons_succ, List.getElem_cons_zero, List.setIfInBounds_toArray, List.set_cons_zero, List.set_cons_succ])
    clear hS
    refine wpAnyH_ready (rs := [1, 4]) (by kernel_rfl) (by simp) (AllReadyH.cons rfl (fun K hK => ?_) (AllReadyH.cons rfl (fun K hK => ?_) AllReadyH.nil))
    go_simp
    refine hK.out _ _ hH.out (fun _ => ?_)
    clear hK K
    (try simp only [Act.put, List.getElem_toArray, List.getElem_cons_succ, List.getElem_cons_zero, List.setIfInBounds_toArray, List.set_cons_zero, List.set_cons_succ])
    refine wpAnyH_ready (rs := [2, 4]) (by kernel_rfl) (by simp) (AllReadyH.cons rfl (fun K hK => ?_) (AllReadyH.cons rfl (fun K hK => ?_) AllReadyH.nil))
    go_simp
    refine (normalTable_any y x z _ _ _ S l F W m _ hsh.out hlh.out (hSh.out.below hH.out) hmF hF1.out.1 hF1.out.2 hW1.out.1 hW1.out.2 (hFh.out.below hH.out) (hWh.out.below hH.out)).mono ?_
    rintro e wA ⟨xA, cA, zA, dA, rfl, hoA, hbA⟩
    have hoA := Lib.hid hoA
    have hqA := Lib.hid (Below.via' hH.out hbA)
    have tA2 := Lib.hid (t2.out.below hbA)
    obtain ⟨s0, s1, s2, s3, sl⟩ := tA2.out
    refine hK.out _ _ hqA.out (fun _ => ?_)
    clear hK K
    (try simp only [Act.put, List.getElem_toArray, List.getElem_cons_succ, List.getElem_cons_zero, List.setIfInBounds_toArray, List.set_cons_zero, List.set_cons_succ])
    refine wpAnyH_ready (rs := [4]) (by kernel_rfl) (by simp) (AllReadyH.cons rfl (fun K hK => ?_) AllReadyH.nil); go_simp
    refine hK.out _ _ hqA.out (fun _ => ?_)
    clear hK K
    (try simp only [Act.put, List.getElem_toArray, List.getElem_cons_succ, List.getElem_cons_zero, List.setIfInBounds_toArray, List.set_cons_zero, List.set_cons_succ])
    refine wpAnyH_ready (rs := [5]) (by kernel_rfl) (by simp) (AllReadyH.cons rfl (fun K hK => ?_) AllReadyH.nil); go_simp
    refine (normalTable_any y a b _ _ _ S k G U n _ hsh.out hl2h.out (hSh.out.below hqA.out) hmG hG1.out.1 hG1.out.2 hU1.out.1 hU1.out.2 (hGh.out.below hqA.out) (hUh.out.below hqA.out)).mono ?_
    rintro e wB ⟨xB, cB, zB, dB, rfl, hoB, hbB⟩
    have hoB := Lib.hid hoB
    have hqB := Lib.hid (Below.via' hqA.out hbB)
    refine hK.out _ _ hqB.out (fun _ => ?_)
    clear hK K p0 p1 p2 p3 r0 r1 r2 r3 s0 s1 s2 s3
    (try simp only [Act.put, List.getElem_toArray, List.getElem_cons_succ, List.getElem_cons_zero, List.setIfInBounds_toArray, List.set_cons_zero, List.set_cons_succ])
    have e1 := hbA.size
    have e2 := hbB.size
    have e0 : W2.drew.heap.size = W2.heap.size := rfl
    have f1 := Lib.hid ((q1h.out.kept hbA).kept hbB)
    have f2 := Lib.hid ((q2h.out.kept hbA).kept hbB)
    have oA := Lib.hid (hoA.out.below hbB)
    have oB := hoB
    have ya := f1.out.read 0
    have yb := f1.out.read 1
    have yc := f1.out.read 2
    have yd := f1.out.read 3
    have ye := f1.out.free 0
    have yf := f1.out.free 1
    have yg := f1.out.free 2
    have yh := f1.out.free 3
    have yin := f1.out.inside
    refine wpAnyH_ready (rs := [6]) (by kernel_rfl) (by simp) (AllReadyH.cons rfl (fun K hK => ?_) AllReadyH.nil); go_simp
    have g1 : Below w.heap.size w (st4 wB w.heap.size l xA F.length cA zA (nwL S W).length dA m) := st4_below hqB.out (Nat.le_refl _)
    refine hK.out _ _ g1 (fun _ => ?_)
    clear hK K ya yb yc yd ye yf yg yh
    (try simp only [Act.put, List.getElem_toArray, List.getElem_cons_succ, List.getElem_cons_zero, List.setIfInBounds_toArray, List.set_cons_zero, List.set_cons_succ])
    have f3 := Lib.hid (show Wb (st4 wB w.heap.size l xA F.length cA zA (nwL S W).length dA m) (w.heap.size + 1) _ _ from st4_far f2.out (by omega))
    obtain ⟨X1, hX1⟩ : ∃ X1, X1 = (st4 wB w.heap.size l xA F.length cA zA (nwL S W).length dA m) := ⟨_, rfl⟩
    have hX1b := hX1
    unfold st4 at hX1b
    rw [← hX1b]
    rw [← hX1] at g1 f3
    have f4 : Wb X1 w.heap.size 37 #[.int .i64 l, .slice xA F.length cA, .slice zA (nwL S W).length dA, .int .i64 m] := by rw [hX1]; exact st4_wb f1.out
    have eA1 : ∃ lo hi, (w.heap.size < lo ∨ hi ≤ w.heap.size) ∧ (w.heap.size + 1 < lo ∨ hi ≤ w.heap.size + 1) ∧ OwY wB lo hi (.slice xA F.length cA) (.slice zA (nwL S W).length dA) F (nwL S W) := ⟨_, _, Or.inl (by show w.heap.size < W2.heap.size; omega), Or.inl (by show w.heap.size + 1 < W2.heap.size; omega), oA.out⟩
    obtain ⟨loA, hiA, sgA, shA, pA⟩ := eA1
    have oA1 := st4_own (g := w.heap.size) (l := l) (x := xA) (n := F.length) (c := cA) (z := zA) (k := (nwL S W).length) (d := dA) (m := m) pA sgA
    rw [← hX1] at oA1
    clear pA
    replace oA1 := Lib.hid oA1
    have eB1 : ∃ lo hi, (w.heap.size < lo ∨ hi ≤ w.heap.size) ∧ (w.heap.size + 1 < lo ∨ hi ≤ w.heap.size + 1) ∧ OwY wB lo hi (.slice xB G.length cB) (.slice zB (nwL S U).length dB) G (nwL S U) := ⟨_, _, Or.inl (by omega), Or.inl (by omega), oB.out⟩
    obtain ⟨loB, hiB, sgB, shB, pB⟩ := eB1
    have oB1 := st4_own (g := w.heap.size) (l := l) (x := xA) (n := F.length) (c := cA) (z := zA) (k := (nwL S W).length) (d := dA) (m := m) pB sgB
    rw [← hX1] at oB1
    clear pB
    replace oB1 := Lib.hid oB1
    replace hX1 := Lib.hid hX1
    replace hX1b := Lib.hid hX1b
    replace f4 := Lib.hid f4
    have ya := f3.out.read 0
    have yb := f3.out.read 1
    have yc := f3.out.read 2
    have yd := f3.out.read 3
    have ye := f3.out.free 0
    have yf := f3.out.free 1
    have yg := f3.out.free 2
    have yh := f3.out.free 3
    have yin2 := f3.out.inside
    refine wpAnyH_ready (rs := [7]) (by kernel_rfl) (by simp) (AllReadyH.cons rfl (fun K hK => ?_) AllReadyH.nil); go_simp
    have g2 : Below w.heap.size w (st4 X1 (w.heap.size + 1) k xB G.length cB zB (nwL S U).length dB n) := st4_below g1 (Nat.le_succ _)
    refine hK.out _ _ g2 (fun _ => ?_)
    clear hK K ya yb yc yd ye yf yg yh
    (try simp only [Act.put, List.getElem_toArray, List.getElem_cons_succ, List.getElem_cons_zero, List.setIfInBounds_toArray, List.set_cons_zero, List.set_cons_succ])
    refine wpAnyH_done (by kernel_rfl) ?_ _
    go_wp2_with fail
    go_meet
    exact ⟨xA, cA, zA, dA, xB, cB, zB, dB, tq_of_wbN (st4_far f4.out (by omega)), tq_of_wbN (st4_wb f3.out), (st4_own oA1.out shA).rd, (st4_own oB1.out shB).rd, g2⟩
    go_simp
    refine hK.out _ _ hH.out (fun _ => ?_)
    clear hK K
    (try simp only [Act.put, List.getElem_toArray, List.getElem_cons_succ, List.getElem_cons_zero, List.setIfInBounds_toArray, List.set_cons_zero, List.set_cons_succ])
    refine wpAnyH_ready (rs := [2]) (by kernel_rfl) (by simp) (AllReadyH.cons rfl (fun K hK => ?_) AllReadyH.nil); go_simp
    refine (normalTable_any y x z _ _ _ S l F W m _ hsh.out hlh.out (hSh.out.below hH.out) hmF hF1.out.1 hF1.out.2 hW1.out.1 hW1.out.2 (hFh.out.below hH.out) (hWh.out.below hH.out)).mono ?_
    rintro e wA ⟨xA, cA, zA, dA, rfl, hoA, hbA⟩
    have hoA := Lib.hid hoA
    have hqA := Lib.hid (Below.via' hH.out hbA)
    have tA2 := Lib.hid (t2.out.below hbA)
    obtain ⟨s0, s1, s2, s3, sl⟩ := tA2.out
    refine hK.out _ _ hqA.out (fun _ => ?_)
    clear hK K
    (try simp only [Act.put, List.getElem_toArray, List.getElem_cons_succ, List.getElem_cons_zero, List.setIfInBounds_toArray, List.set_cons_zero, List.set_cons_succ])
    refine wpAnyH_ready (rs := [5]) (by kernel_rfl) (by simp) (AllReadyH.cons rfl (fun K hK => ?_) AllReadyH.nil); go_simp
    refine (normalTable_any y a b _ _ _ S k G U n _ hsh.out hl2h.out (hSh.out.below hqA.out) hmG hG1.out.1 hG1.out.2 hU1.out.1 hU1.out.2 (hGh.out.below hqA.out) (hUh.out.below hqA.out)).mono ?_
    rintro e wB ⟨xB, cB, zB, dB, rfl, hoB, hbB⟩
    have hoB := Lib.hid hoB
    have hqB := Lib.hid (Below.via' hqA.out hbB)
    refine hK.out _ _ hqB.out (fun _ => ?_)
    clear hK K p0 p1 p2 p3 r0 r1 r2 r3 s0 s1 s2 s3
    (try simp only [Act.put, List.getElem_toArray, List.getElem_cons_succ, List.getElem_cons_zero, List.setIfInBounds_toArray, List.set_cons_zero, List.set_cons_succ])
    have e1 := hbA.size
    have e2 := hbB.size
    have e0 : W2.drew.heap.size = W2.heap.size := rfl
    have f1 := Lib.hid ((q1h.out.kept hbA).kept hbB)
    have f2 := Lib.hid ((q2h.out.kept hbA).kept hbB)
    have oA := Lib.hid (hoA.out.below hbB)
    have oB := hoB
    have ya := f1.out.read 0
    have yb := f1.out.read 1
    have yc := f1.out.read 2
    have yd := f1.out.read 3
    have ye := f1.out.free 0
    have yf := f1.out.free 1
    have yg := f1.out.free 2
    have yh := f1.out.free 3
    have yin := f1.out.inside
    refine wpAnyH_ready (rs := [6]) (by kernel_rfl) (by simp) (AllReadyH.cons rfl (fun K hK => ?_) AllReadyH.nil); go_simp
    have g1 : Below w.heap.size w (st4 wB w.heap.size l xA F.length cA zA (nwL S W).length dA m) := st4_below hqB.out (Nat.le_refl _)
    refine hK.out _ _ g1 (fun _ => ?_)
    clear hK K ya yb yc yd ye yf yg yh
    (try simp only [Act.put, List.getElem_toArray, List.getElem_cons_succ, List.getElem_cons_zero, List.setIfInBounds_toArray, List.set_cons_zero, List.set_cons_succ])
    have f3 := Lib.hid (show Wb (st4 wB w.heap.size l xA F.length cA zA (nwL S W).length dA m) (w.heap.size + 1) _ _ from st4_far f2.out (by omega))
    obtain ⟨X1, hX1⟩ : ∃ X1, X1 = (st4 wB w.heap.size l xA F.length cA zA (nwL S W).length dA m) := ⟨_, rfl⟩
    have hX1b := hX1
    unfold st4 at hX1b
    rw [← hX1b]
    rw [← hX1] at g1 f3
    have f4 : Wb X1 w.heap.size 37 #[.int .i64 l, .slice xA F.length cA, .slice zA (nwL S W).length dA, .int .i64 m] := by rw [hX1]; exact st4_wb f1.out
    have eA1 : ∃ lo hi, (w.heap.size < lo ∨ hi ≤ w.heap.size) ∧ (w.heap.size + 1 < lo ∨ hi ≤ w.heap.size + 1) ∧ OwY wB lo hi (.slice xA F.length cA) (.slice zA (nwL S W).length dA) F (nwL S W) := ⟨_, _, Or.inl (by show w.heap.size < W2.heap.size; omega), Or.inl (by show w.heap.size + 1 < W2.heap.size; omega), oA.out⟩
    obtain ⟨loA, hiA, sgA, shA, pA⟩ := eA1
    have oA1 := st4_own (g := w.heap.size) (l := l) (x := xA) (n := F.length) (c := cA) (z := zA) (k := (nwL S W).length) (d := dA) (m := m) pA sgA
    rw [← hX1] at oA1
    clear pA
    replace oA1 := Lib.hid oA1
    have eB1 : ∃ lo hi, (w.heap.size < lo ∨ hi ≤ w.heap.size) ∧ (w.heap.size + 1 < lo ∨ hi ≤ w.heap.size + 1) ∧ OwY wB lo hi (.slice xB G.length cB) (.slice zB (nwL S U).length dB) G (nwL S U) := ⟨_, _, Or.inl (by omega), Or.inl (by omega), oB.out⟩
    obtain ⟨loB, hiB, sgB, shB, pB⟩ := eB1
    have oB1 := st4_own (g := w.heap.size) (l := l) (x := xA) (n := F.length) (c := cA) (z := zA) (k := (nwL S W).length) (d := dA) (m := m) pB sgB
    rw [← hX1] at oB1
    clear pB
    replace oB1 := Lib.hid oB1
    replace hX1 := Lib.hid hX1
    replace hX1b := Lib.hid hX1b
    replace f4 := Lib.hid f4
    have ya := f3.out.read 0
    have yb := f3.out.read 1
    have yc := f3.out.read 2
    have yd := f3.out.read 3
    have ye := f3.out.free 0
    have yf := f3.out.free 1
    have yg := f3.out.free 2
    have yh := f3.out.free 3
    have yin2 := f3.out.inside
    refine wpAnyH_ready (rs := [7]) (by kernel_rfl) (by simp) (AllReadyH.cons rfl (fun K hK => ?_) AllReadyH.nil); go_simp
    have g2 : Below w.heap.size w (st4 X1 (w.heap.size + 1) k xB G.length cB zB (nwL S U).length dB n) := st4_below g1 (Nat.le_succ _)
    refine hK.out _ _ g2 (fun _ => ?_)
    clear hK K ya yb yc yd ye yf yg yh
    (try simp only [Act.put, List.getElem_toArray, List.getElem_cons_succ, List.getElem_cons_zero, List.setIfInBounds_toArray, List.set_cons_zero, List.set_cons_succ])
    refine wpAnyH_done (by kernel_rfl) ?_ _
    go_wp2_with fail
    go_meet
    exact ⟨xA, cA, zA, dA, xB, cB, zB, dB, tq_of_wbN (st4_far f4.out (by omega)), tq_of_wbN (st4_wb f3.out), (st4_own oA1.out shA).rd, (st4_own oB1.out shB).rd, g2⟩
    go_simp
    refine hK.out _ _ hH.out (fun _ => ?_)
    clear hK K
    (try simp only [Act.put, List.getElem_toArray, List.getElem_cons_succ, List.getElem_cons_zero, List.setIfInBounds_toArray, List.set_cons_zero, List.set_cons_succ])
    refine wpAnyH_ready (rs := [1]) (by kernel_rfl) (by simp) (AllReadyH.cons rfl (fun K hK => ?_) AllReadyH.nil); go_simp
    refine hK.out _ _ hH.out (fun _ => ?_)
    clear hK K
    (try simp only [Act.put, List.getElem_toArray, List.getElem_cons_succ, List.getElem_cons_zero, List.setIfInBounds_toArray, List.set_cons_zero, List.set_cons_succ])
    refine wpAnyH_ready (rs := [2]) (by kernel_rfl) (by simp) (AllReadyH.cons rfl (fun K hK => ?_) AllReadyH.nil); go_simp
    refine (normalTable_any y x z _ _ _ S l F W m _ hsh.out hlh.out (hSh.out.below hH.out) hmF hF1.out.1 hF1.out.2 hW1.out.1 hW1.out.2 (hFh.out.below hH.out) (hWh.out.below hH.out)).mono ?_
    rintro e wA ⟨xA, cA, zA, dA, rfl, hoA, hbA⟩
    have hoA := Lib.hid hoA
    have hqA := Lib.hid (Below.via' hH.out hbA)
    have tA2 := Lib.hid (t2.out.below hbA)
    obtain ⟨s0, s1, s2, s3, sl⟩ := tA2.out
    refine hK.out _ _ hqA.out (fun _ => ?_)
    clear hK K
    (try simp only [Act.put, List.getElem_toArray, List.getElem_cons_succ, List.getElem_cons_zero, List.setIfInBounds_toArray, List.set_cons_zero, List.set_cons_succ])
    refine wpAnyH_ready (rs := [5]) (by kernel_rfl) (by simp) (AllReadyH.cons rfl (fun K hK => ?_) AllReadyH.nil); go_simp
    refine (normalTable_any y a b _ _ _ S k G U n _ hsh.out hl2h.out (hSh.out.below hqA.out) hmG hG1.out.1 hG1.out.2 hU1.out.1 hU1.out.2 (hGh.out.below hqA.out) (hUh.out.below hqA.out)).mono ?_
    rintro e wB ⟨xB, cB, zB, dB, rfl, hoB, hbB⟩
    have hoB := Lib.hid hoB
    have hqB := Lib.hid (Below.via' hqA.out hbB)
    refine hK.out _ _ hqB.out (fun _ => ?_)
    clear hK K p0 p1 p2 p3 r0 r1 r2 r3 s0 s1 s2 s3
    (try simp only [Act.put, List.getElem_toArray, List.getElem_cons_succ, List.getElem_cons_zero, List.setIfInBounds_toArray, List.set_cons_zero, List.set_cons_succ])
    have e1 := hbA.size
    have e2 := hbB.size
    have e0 : W2.drew.heap.size = W2.heap.size := rfl
    have f1 := Lib.hid ((q1h.out.kept hbA).kept hbB)
    have f2 := Lib.hid ((q2h.out.kept hbA).kept hbB)
    have oA := Lib.hid (hoA.out.below hbB)
    have oB := hoB
    have ya := f1.out.read 0
    have yb := f1.out.read 1
    have yc := f1.out.read 2
    have yd := f1.out.read 3
    have ye := f1.out.free 0
    have yf := f1.out.free 1
    have yg := f1.out.free 2
    have yh := f1.out.free 3
    have yin := f1.out.inside
    refine wpAnyH_ready (rs := [6]) (by kernel_rfl) (by simp) (AllReadyH.cons rfl (fun K hK => ?_) AllReadyH.nil); go_simp
    have g1 : Below w.heap.size w (st4 wB w.heap.size l xA F.length cA zA (nwL S W).length dA m) := st4_below hqB.out (Nat.le_refl _)
    refine hK.out _ _ g1 (fun _ => ?_)
    clear hK K ya yb yc yd ye yf yg yh
    (try simp only [Act.put, List.getElem_toArray, List.getElem_cons_succ, List.getElem_cons_zero, List.setIfInBounds_toArray, List.set_cons_zero, List.set_cons_succ])
    have f3 := Lib.hid (show Wb (st4 wB w.heap.size l xA F.length cA zA (nwL S W).length dA m) (w.heap.size + 1) _ _ from st4_far f2.out (by omega))
    obtain ⟨X1, hX1⟩ : ∃ X1, X1 = (st4 wB w.heap.size l xA F.length cA zA (nwL S W).length dA m) := ⟨_, rfl⟩
    have hX1b := hX1
    unfold st4 at hX1b
    rw [← hX1b]
    rw [← hX1] at g1 f3
    have f4 : Wb X1 w.heap.size 37 #[.int .i64 l, .slice xA F.length cA, .slice zA (nwL S W).length dA, .int .i64 m] := by rw [hX1]; exact st4_wb f1.out
    have eA1 : ∃ lo hi, (w.heap.size < lo ∨ hi ≤ w.heap.size) ∧ (w.heap.size + 1 < lo ∨ hi ≤ w.heap.size + 1) ∧ OwY wB lo hi (.slice xA F.length cA) (.slice zA (nwL S W).length dA) F (nwL S W) := ⟨_, _, Or.inl (by show w.heap.size < W2.heap.size; omega), Or.inl (by show w.heap.size + 1 < W2.heap.size; omega), oA.out⟩
    obtain ⟨loA, hiA, sgA, shA, pA⟩ := eA1
    have oA1 := st4_own (g := w.heap.size) (l := l) (x := xA) (n := F.length) (c := cA) (z := zA) (k := (nwL S W).length) (d := dA) (m := m) pA sgA
    rw [← hX1] at oA1
    clear pA
    replace oA1 := Lib.hid oA1
    have eB1 : ∃ lo hi, (w.heap.size < lo ∨ hi ≤ w.heap.size) ∧ (w.heap.size + 1 < lo ∨ hi ≤ w.heap.size + 1) ∧ OwY wB lo hi (.slice xB G.length cB) (.slice zB (nwL S U).length dB) G (nwL S U) := ⟨_, _, Or.inl (by omega), Or.inl (by omega), oB.out⟩
    obtain ⟨loB, hiB, sgB, shB, pB⟩ := eB1
    have oB1 := st4_own (g := w.heap.size) (l := l) (x := xA) (n := F.length) (c := cA) (z := zA) (k := (nwL S W).length) (d := dA) (m := m) pB sgB
    rw [← hX1] at oB1
    clear pB
    replace oB1 := Lib.hid oB1
    replace hX1 := Lib.hid hX1
    replace hX1b := Lib.hid hX1b
    replace f4 := Lib.hid f4
    have ya := f3.out.read 0
    have yb := f3.out.read 1
    have yc := f3.out.read 2
    have yd := f3.out.read 3
    have ye := f3.out.free 0
    have yf := f3.out.free 1
    have yg := f3.out.free 2
    have yh := f3.out.free 3
    have yin2 := f3.out.inside
    refine wpAnyH_ready (rs := [7]) (by kernel_rfl) (by simp) (AllReadyH.cons rfl (fun K hK => ?_) AllReadyH.nil); go_simp
    have g2 : Below w.heap.size w (st4 X1 (w.heap.size + 1) k xB G.length cB zB (nwL S U).length dB n) := st4_below g1 (Nat.le_succ _)
    refine hK.out _ _ g2 (fun _ => ?_)
    clear hK K ya yb yc yd ye yf yg yh
    (try simp only [Act.put, List.getElem_toArray, List.getElem_cons_succ, List.getElem_cons_zero, List.setIfInBounds_toArray, List.set_cons_zero, List.set_cons_succ])
    refine wpAnyH_done (by kernel_rfl) ?_ _
    go_wp2_with fail
    go_meet
    exact ⟨xA, cA, zA, dA, xB, cB, zB, dB, tq_of_wbN (st4_far f4.out (by omega)), tq_of_wbN (st4_wb f3.out), (st4_own oA1.out shA).rd, (st4_own oB1.out shB).rd, g2⟩
  obtain ⟨xA, cA, zA, dA, xB, cB, zB, dB, hTA, hTB, hRA, hRB, hBX⟩ := hcut
  obtain ⟨X, rfl⟩ : ∃ u : World, u = wc := ⟨_, rfl⟩
  replace hTA := Lib.hid hTA
  replace hTB := Lib.hid hTB
  replace hRA := Lib.hid hRA
  replace hRB := Lib.hid hRB
  obtain ⟨ta, tb, tc, td, te⟩ := hTA.out
  obtain ⟨ua, ub, uc, ud, ue⟩ := hTB.out
  by_cases h1 : l ≠ k
  · have hv := Lib.hid (smT_l (S := S) (F := F) (W := W) (m := m) (G := G) (U := U) (n := n) h1)
    have e1 : (l == k) = false := by rw [beq_eq_false_iff_ne]; exact h1
    replace h1 := Lib.hid h1
    go_wp2
    go_ret
    exact ⟨ret_sq hv.out.symm, hBX⟩
  replace h1 := Decidable.of_not_not h1
  have e1 : (l == k) = true := by rw [beq_iff_eq]; exact h1
  have h1h := Lib.hid h1
  clear h1
  by_cases h2 : m ≠ n
  · have hv := Lib.hid (smT_m (S := S) (l := l) (k := k) (F := F) (W := W) (G := G) (U := U) h2)
    have e2 : (m == n) = false := by rw [beq_eq_false_iff_ne]; exact h2
    replace h2 := Lib.hid h2
    go_wp2
    go_ret
    exact ⟨ret_sq hv.out.symm, hBX⟩
  replace h2 := Decidable.of_not_not h2
  have e2 : (m == n) = true := by rw [beq_iff_eq]; exact h2
  have h2h := Lib.hid h2
  clear h2
  go_wp2_with fail
  refine (equalI_any _ _ _ _ F G _ hmF hRA.out.1 hRB.out.1).mono ?_
  rintro e wE ⟨rfl, hbE⟩
  have hBE := Below.via' hBX hbE
  obtain ⟨va, vb, vc, vd, ve⟩ := hTA.out.below hbE
  obtain ⟨xa, xb, xc, xd, xe⟩ := hTB.out.below hbE
  clear ta tb tc td ua ub uc ud
  cases h3 : sqB F G
  · have hv := Lib.hid (smT_F (S := S) (l := l) (k := k) (m := m) (n := n) (W := W) (U := U) h3)
    replace h3 := Lib.hid h3
    go_wp2
    go_ret
    exact ⟨ret_sq hv.out.symm, hBE⟩
  have h3h := Lib.hid h3
  clear h3
  have hmW : (nwL S W).length ≤ 1048576 := by rw [nwL_len hlh.out]; omega
  go_wp2_with fail
  refine (equalI_any _ _ _ _ (nwL S W) (nwL S U) _ hmW (hRA.out.2.below hbE) (hRB.out.2.below hbE)).mono ?_
  rintro e wG ⟨rfl, hbG⟩
  have hBG := Below.via' hBE hbG
  obtain ⟨sa, sb, sc, sd, se⟩ := (hTA.out.below hbE).below hbG
  obtain ⟨ra, rb, rc, rd, re⟩ := (hTB.out.below hbE).below hbG
  clear va vb vc vd xa xb xc xd
  cases h4 : sqB (nwL S W) (nwL S U)
  · have hv := Lib.hid (smT_W (l := l) (k := k) (m := m) (n := n) (F := F) (G := G) h4)
    replace h4 := Lib.hid h4
    go_wp2
    go_ret
    exact ⟨ret_sq hv.out.symm, hBG⟩
  have h4h := Lib.hid h4
  clear h4
  have hv := Lib.hid (smT_yes h1h.out h2h.out h3h.out h4h.out)
  go_wp2
  go_ret
  exact ⟨ret_sq hv.out.symm, hBG⟩
end Go.Proofs.Ytgkaalonmkcclaa
