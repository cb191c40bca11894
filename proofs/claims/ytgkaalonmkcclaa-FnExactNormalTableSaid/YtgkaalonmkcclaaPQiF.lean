import Derived.Test.YtgkaalonmkcclaaPQiE
import Derived.Test.YtgkaalonmkcclaaPQiB
import Derived.Test.YtgkaalonmkcclaaEdI
import Derived.Test.YtgkaalonmkcclaaRecM
namespace Go.Proofs.Ytgkaalonmkcclaa
open Go.RowKit
set_option maxRecDepth 100000

theorem ret_boo {a b : Bool} (h : a = b) : Ending.returned (.bool a) = .returned (.bool b) := by rw [h]
set_option maxHeartbeats 4000000 in
theorem isTb_any (p y x z : Option Addr) (c c1 c2 c3 : Nat) (P : List Int) (S : List (ByteArray × Int)) (l : Int) (F W : List Int) (m : Int) (w : World) (hP : IIn w p P) (hS : SIn w y c1 S) (hT : TIn w x z F W) :
    Calls Try.prog 65 #[.agg #[.slice p P.length c], .slice y S.length c1, .agg #[.int .i64 l, .slice x F.length c2, .slice z W.length c3, .int .i64 m]] w fun e w' => e = .returned (.bool (tgB P S l F W m)) ∧ Below w.heap.size w w' := by
  have hPh := Lib.hid hP
  have hSh := Lib.hid hS
  have hFh := Lib.hid hT.1
  have hWh := Lib.hid hT.2
  clear hP hS hT
  have p1 := Lib.hid (QB.new w p P.length c 33)
  have p2 := Lib.hid (TQ.new (w.alloc (.cells #[.slice p P.length c] 33)) l x F.length c2 z W.length c3 m 37)
  obtain ⟨w0, hw0⟩ : ∃ w0, w0 = (w.alloc (.cells #[.slice p P.length c] 33)).alloc (.cells #[.int .i64 l, .slice x F.length c2, .slice z W.length c3, .int .i64 m] 37) := ⟨_, rfl⟩
  have B0 : Below w.heap.size w w0 := by rw [hw0]; exact (by repeat (first | exact Below.refl _ _ | assumption | refine Below.drew ?_ | refine below_drewN ?_ _ | refine Below.alloc' ?_ _ | (refine Below.setCell ?_ (by first | omega | (simp; done) | (simp; omega) | exact Below.size (by assumption) | exact Nat.le_trans (Below.size (by assumption)) (by simp)) _) | (refine Below.via' ?_ (by assumption)) | (refine Below.alloc ?_ (by first | omega | (simp; done) | (simp; omega) | exact Below.size (by assumption) | exact Nat.le_trans (Below.size (by assumption)) (by simp)) _) | (refine Below.via ?_ (by assumption) (by first | omega | (simp; done) | (simp; omega) | exact Below.size (by assumption) | exact Nat.le_trans (Below.size (by assumption)) (by simp)))))
  have g0 : Hid (QB w0 w.heap.size p P.length c) := by
    rw [hw0]
    exact p1.out.below (show Below (w.alloc (.cells #[.slice p P.length c] 33)).heap.size (w.alloc (.cells #[.slice p P.length c] 33)) _ from (by repeat (first | exact Below.refl _ _ | assumption | refine Below.drew ?_ | refine below_drewN ?_ _ | refine Below.alloc' ?_ _ | (refine Below.setCell ?_ (by first | omega | (simp; done) | (simp; omega) | exact Below.size (by assumption) | exact Nat.le_trans (Below.size (by assumption)) (by simp)) _) | (refine Below.via' ?_ (by assumption)) | (refine Below.alloc ?_ (by first | omega | (simp; done) | (simp; omega) | exact Below.size (by assumption) | exact Nat.le_trans (Below.size (by assumption)) (by simp)) _) | (refine Below.via ?_ (by assumption) (by first | omega | (simp; done) | (simp; omega) | exact Below.size (by assumption) | exact Nat.le_trans (Below.size (by assumption)) (by simp))))))
  have t0 : Hid (TQ w0 (w.heap.size + 1) l x F.length c2 z W.length c3 m) := by
    have h0 := p2.out
    rw [World.size_alloc, ← hw0] at h0
    exact h0
  have z0 : w0.heap.size = w.heap.size + 1 + 1 := by rw [hw0]; simp
  clear p1 p2
  go_enter Try.func65, Try.ntmps65
  go_wp2_with fail
  rw [← hw0]
  replace hw0 := Lib.hid hw0
  replace z0 := Lib.hid z0
  refine (gridOf_any p y x z _ _ _ _ P S l m F W _ (hPh.out.below B0) (hSh.out.below B0) ⟨hFh.out.below B0, hWh.out.below B0⟩).mono ?_
  rintro e w1 ⟨hb1, h1⟩
  have B1 : Below w.heap.size w w1 := Below.via' B0 hb1
  have g1 := Lib.hid (g0.out.below hb1)
  have t1 := Lib.hid (t0.out.below hb1)
  obtain ⟨ka1, kb1, kc1⟩ := g1.out
  obtain ⟨ta1, tb1, tc1, td1, te1⟩ := t1.out
  try clear ka0 kb0 kc0 ta0 tb0 tc0 td0 te0
  clear hb1
  rcases h1 with ⟨hno, rfl⟩ | ⟨htg, ga, ca, va, rfl, hA, hV, hvl⟩
  · have hv := Lib.hid (tg_no hno)
    clear hno
    go_wp2
    go_ret
    exact ⟨ret_boo hv.out.symm, (by repeat (first | exact Below.refl _ _ | assumption | refine Below.drew ?_ | refine below_drewN ?_ _ | refine Below.alloc' ?_ _ | (refine Below.setCell ?_ (by first | omega | (simp; done) | (simp; omega) | exact Below.size (by assumption) | exact Nat.le_trans (Below.size (by assumption)) (by simp)) _) | (refine Below.via' ?_ (by assumption)) | (refine Below.alloc ?_ (by first | omega | (simp; done) | (simp; omega) | exact Below.size (by assumption) | exact Nat.le_trans (Below.size (by assumption)) (by simp)) _) | (refine Below.via ?_ (by assumption) (by first | omega | (simp; done) | (simp; omega) | exact Below.size (by assumption) | exact Nat.le_trans (Below.size (by assumption)) (by simp)))))⟩
  · have hv := Lib.hid (tg_iff.2 htg)
    clear htg
    replace hA := Lib.hid hA
    replace hV := Lib.hid hV
    go_wp2
    go_ret
    exact ⟨ret_boo hv.out.symm, (by repeat (first | exact Below.refl _ _ | assumption | refine Below.drew ?_ | refine below_drewN ?_ _ | refine Below.alloc' ?_ _ | (refine Below.setCell ?_ (by first | omega | (simp; done) | (simp; omega) | exact Below.size (by assumption) | exact Nat.le_trans (Below.size (by assumption)) (by simp)) _) | (refine Below.via' ?_ (by assumption)) | (refine Below.alloc ?_ (by first | omega | (simp; done) | (simp; omega) | exact Below.size (by assumption) | exact Nat.le_trans (Below.size (by assumption)) (by simp)) _) | (refine Below.via ?_ (by assumption) (by first | omega | (simp; done) | (simp; omega) | exact Below.size (by assumption) | exact Nat.le_trans (Below.size (by assumption)) (by simp)))))⟩
end Go.Proofs.Ytgkaalonmkcclaa

namespace Go.Proofs.Ytgkaalonmkcclaa
open Go.RowKit
set_option maxRecDepth 100000

theorem iC_setN (L : List Int) (k : Nat) (v : Int) : (iC L).set k (.int .i64 v) = iC (L.set k v) := by unfold iC; rw [List.map_set]
theorem wb_farN {w w' : World} {g t : Nat} {cs : Array Value} {r : Option Nat} (h : Wb w g t cs) (hg : w.grownBy w' r) (hne : r ≠ some g) : Wb w' g t cs := (hg.block g h.inside (fun e => hne e.symm)).trans h
theorem kd_ne {lv x : Int} (h : x ≠ flZ lv) : (kdZ lv x == 2) = false := by
  unfold kdZ
  by_cases k : x ≤ 0 ∨ flZ lv < x
  · rw [if_pos k]; rfl
  · rw [if_neg k, if_neg h]; rfl
theorem kd_eq {lv x : Int} (h : 2 ≤ lv ∧ lv ≤ 8) (k : x = flZ lv) : (kdZ lv x == 2) = true := by rw [kdZ_all h k]; rfl
theorem retT_of {l : Int} {F W V : List Int} {m : Int} {w w' : World} {xF : Option Addr} {cF g cW : Nat} (hl : V.length = W.length) (h : OwY w' w.heap.size w'.heap.size (.slice xF F.length cF) (.slice (some ⟨g, 0, none⟩) V.length cW) F V) (hb : Below w.heap.size w w') :
    RetT l F V m w (.returned (.agg #[.int .i64 l, .slice xF F.length cF, .slice (some ⟨g, 0, none⟩) W.length cW, .int .i64 m])) w' := by
  rw [← hl]
  exact ⟨_, _, _, _, rfl, h, hb⟩
set_option maxHeartbeats 4000000 in
theorem normalTable_any (y x z : Option Addr) (c1 c d : Nat) (S : List (ByteArray × Int)) (l : Int) (F W : List Int) (m : Int) (w : World) (hs : schB S = true) (hl : W.length = S.length) (hS : SIn w y c1 S) (hmF : F.length ≤ 1048576) (hcF : F.length ≤ c) (hnF : x = none → c = 0) (hcW : W.length ≤ d) (hnW : z = none → d = 0) (hF : Rd w x (iC F)) (hW : Rd w z (iC W)) :
    Calls Try.prog 96 #[.slice y S.length c1, .agg #[.int .i64 l, .slice x F.length c, .slice z W.length d, .int .i64 m]] w (RetT l F (nwL S W) m w) := by
  have hSh := Lib.hid hS
  have hFh := Lib.hid hF
  have hWh := Lib.hid hW
  have hsh := Lib.hid hs
  have h6 := schB_len hs
  have hlh := Lib.hid hl
  have hW6 : W.length ≤ 6 := by omega
  have hW1 : 0 < W.length := by omega
  clear hF hW hS hs hl
  have q0 := TQ.new w l x F.length c z W.length d m 37
  obtain ⟨W2, hW2⟩ : ∃ W2, W2 = (w.alloc (.cells #[.int .i64 l, .slice x F.length c, .slice z W.length d, .int .i64 m] 37)).alloc (.cells #[.int .i64 0, .slice none 0 0, .slice none 0 0, .int .i64 0] 37) := ⟨_, rfl⟩
  have B2 : Below w.heap.size w W2 := by rw [hW2]; exact (by repeat (first | exact Below.refl _ _ | assumption | refine Below.drew ?_ | refine below_drewN ?_ _ | refine Below.alloc' ?_ _ | (refine Below.setCell ?_ (by first | omega | (simp; done) | (simp; omega) | exact Below.size (by assumption) | exact Nat.le_trans (Below.size (by assumption)) (by simp)) _) | (refine Below.via' ?_ (by assumption)) | (refine Below.alloc ?_ (by first | omega | (simp; done) | (simp; omega) | exact Below.size (by assumption) | exact Nat.le_trans (Below.size (by assumption)) (by simp)) _) | (refine Below.via ?_ (by assumption) (by first | omega | (simp; done) | (simp; omega) | exact Below.size (by assumption) | exact Nat.le_trans (Below.size (by assumption)) (by simp)))))
  have zz := Wb.new (w.alloc (.cells #[.int .i64 l, .slice x F.length c, .slice z W.length d, .int .i64 m] 37)) 37 #[.int .i64 0, .slice none 0 0, .slice none 0 0, .int .i64 0]
  rw [← hW2, World.size_alloc] at zz
  have hs2 : W2.heap.size = w.heap.size + 1 + 1 := by rw [hW2]; simp
  replace zz := Lib.hid zz
  replace hW2 := Lib.hid hW2
  replace q0 := Lib.hid q0
  go_enter Try.func96, Try.ntmps96
  go_wp2_with fail
  rw [← hW2.out]
  refine (copyTable_any l x z _ _ F W m _ hmF (by omega) hcF hnF hcW hnW (hFh.out.below B2) (hWh.out.below B2)).mono ?_
  rintro e w3 ⟨xF, cF, xW, cW, rfl, ⟨a0, a1, a2, a3, o1, o2, o3, o4, o5, hOF, hOW⟩, hb3⟩
  obtain ⟨g, gc, hg⟩ := own_someV hOW.1 hW1
  injection hg with hg1 hg2 hg3
  subst hg1 hg3
  have B3 := Below.via' B2 hb3
  have zz3 := Lib.hid (zz.out.kept hb3)
  have hOFh := Lib.hid hOF
  have hOWh := Lib.hid hOW
  have hsz := hb3.size
  have hn := Wb.new w3 37 #[.int .i64 l, .slice xF F.length cF, .slice (some ⟨g, 0, none⟩) W.length cW, .int .i64 m]
  replace hn := Lib.hid hn
  clear hOF hOW zz q0
  have hbA : Below w3.heap.size w3 (w3.alloc (.cells #[.int .i64 l, .slice xF F.length cF, .slice (some ⟨g, 0, none⟩) W.length cW, .int .i64 m] 37)) := (by repeat (first | exact Below.refl _ _ | assumption | refine Below.drew ?_ | refine below_drewN ?_ _ | refine Below.alloc' ?_ _ | (refine Below.setCell ?_ (by first | omega | (simp; done) | (simp; omega) | exact Below.size (by assumption) | exact Nat.le_trans (Below.size (by assumption)) (by simp)) _) | (refine Below.via' ?_ (by assumption)) | (refine Below.alloc ?_ (by first | omega | (simp; done) | (simp; omega) | exact Below.size (by assumption) | exact Nat.le_trans (Below.size (by assumption)) (by simp)) _) | (refine Below.via ?_ (by assumption) (by first | omega | (simp; done) | (simp; omega) | exact Below.size (by assumption) | exact Nat.le_trans (Below.size (by assumption)) (by simp)))))
  go_wp2
  go_loopw [12] (fun c wr => ∃ i : Nat, i ≤ S.length ∧ c = .int .i64 i ∧ OwR wr a2 a3 3 1 (.slice (some ⟨g, 0, none⟩) W.length cW) W.length (iC (kK (nwL S W) W i)) ∧ OwR wr a0 a1 3 1 (.slice xF F.length cF) F.length (iC F) ∧ Wb wr w3.heap.size 37 #[.int .i64 l, .slice xF F.length cF, .slice (some ⟨g, 0, none⟩) W.length cW, .int .i64 m] ∧ Wb wr (w.heap.size + 1) 37 #[.int .i64 0, .slice none 0 0, .slice none 0 0, .int .i64 0] ∧ Below w.heap.size w wr) (fun c _ => S.length - (intOf c).toNat)
  case atStart => exact ⟨0, by omega, by go_num, by rw [kK_zero]; exact hOWh.out.below hbA, hOFh.out.below hbA, hn.out, zz3.out.kept hbA, Below.via' B3 hbA⟩
  case round =>
    obtain ⟨i, hi, rfl, hOW, hOF, hT, hZ, hb⟩ := hrel
    by_cases hlt : i < S.length
    · obtain ⟨bl, off, nm, lv, rfl, hbl, hSi, ks0, ks1⟩ := (hSh.out.rd.below hb).var hlt
      have hlv := schB_lv hsh.out hSi
      obtain ⟨x0, hx0⟩ : ∃ x0, W[i]? = some x0 := ⟨_, List.getElem?_eq_getElem (by have := hlh.out; omega)⟩
      have hkg := kK_get (A := nwL S W) (W := W) (by rw [nwL_len hlh.out]; exact hi) hx0
      obtain ⟨u0, hu0, k0r⟩ := own_cell hOW.1 (j := i) (by have := hlh.out; omega)
      obtain rfl : u0 = .int .i64 x0 := Option.some.inj (hu0.symm.trans (iC_at hkg))
      have lgr := (own_lt hOW.1).2
      have hb' := Below.via' (Below.refl _ _) hb
      obtain ⟨wv, hwv⟩ : ∃ wv, wv = wr.alloc (.cells #[.string nm, .int .i64 lv] 86) := ⟨_, rfl⟩
      have hv := Wb.new wr 86 #[.string nm, .int .i64 lv]
      have BV : Below wr.heap.size wr wv := by rw [hwv]; exact Below.alloc' (Below.refl _ _) _
      rw [← hwv] at hv
      have v0 := hv.read 0
      have v1 := hv.read 1
      have lv0 := hv.inside
      have hTv := hT.kept BV
      have t2 := hTv.read 2
      have lt0 := hTv.inside
      have k0 := (BV.cell (p := ⟨g, i, none⟩) lgr).trans k0r
      have lg0 : g < wv.heap.size := Nat.lt_of_lt_of_le lgr BV.size
      have hlt' : (i : Int) < (S.length : Int) := by omega
      have hi0 : (0 : Int) ≤ (i : Int) := by omega
      have hiW : (i : Int) < (W.length : Int) := by have := hlh.out; omega
      replace hwv := Lib.hid hwv
      replace hOW := Lib.hid hOW
      replace hOF := Lib.hid hOF
      replace hT := Lib.hid hT
      replace hZ := Lib.hid hZ
      replace hTv := Lib.hid hTv
      clear hv hu0
      replace hkg := Lib.hid hkg
      replace hx0 := Lib.hid hx0
      replace hSi := Lib.hid hSi
      go_upto_region 5 with fail
      rw [← hwv.out]
      refine wp_region_held_drew (S := fun X => Below wv.heap.size wv X) (by kernel_rfl) (Below.drew (Below.refl _ _)) (fun hH => ?_)
      refine wpAnyH_take (i := 0) (v := ?_) rfl (by kernel_rfl) (by kernel_rfl) (by kernel_rfl) (fun _ _ _ h => h) (Or.inl ⟨by rfl, ?_⟩) (by assumption) ?_; rotate_left; · (intro wz hz; (have f0 := (hz.cell (p := ⟨wr.heap.size, 0, none⟩) lv0).trans v0; have f1 := (hz.cell (p := ⟨wr.heap.size, 1, none⟩) lv0).trans v1; have f2 := (hz.cell (p := ⟨w3.heap.size, 2, none⟩) lt0).trans t2; have f3 := (hz.cell (p := ⟨g, i, none⟩) lg0).trans k0); clear hz; go_simp; try with_reducible rfl); (try simp only [Act.put, List.getElem_toArray, List.getElem_cons_succ, List.getElem_cons_zero, List.setIfInBounds_toArray, List.set_cons_zero, List.set_cons_succ])
      refine wpAnyH_take (i := 1) (v := ?_) rfl (by kernel_rfl) (by kernel_rfl) (by kernel_rfl) (fun _ _ _ h => h) (Or.inl ⟨by rfl, ?_⟩) (by assumption) ?_; rotate_left; · (intro wz hz; (have f0 := (hz.cell (p := ⟨wr.heap.size, 0, none⟩) lv0).trans v0; have f1 := (hz.cell (p := ⟨wr.heap.size, 1, none⟩) lv0).trans v1; have f2 := (hz.cell (p := ⟨w3.heap.size, 2, none⟩) lt0).trans t2; have f3 := (hz.cell (p := ⟨g, i, none⟩) lg0).trans k0); clear hz; go_simp; try with_reducible rfl); (try simp only [Act.put, List.getElem_toArray, List.getElem_cons_succ, List.getElem_cons_zero, List.setIfInBounds_toArray, List.set_cons_zero, List.set_cons_succ])
      refine wpAnyH_take (i := 2) (v := ?_) rfl (by kernel_rfl) (by kernel_rfl) (by kernel_rfl) (fun _ _ _ h => h) (Or.inl ⟨by rfl, ?_⟩) (by assumption) ?_; rotate_left; · (intro wz hz; (have f0 := (hz.cell (p := ⟨wr.heap.size, 0, none⟩) lv0).trans v0; have f1 := (hz.cell (p := ⟨wr.heap.size, 1, none⟩) lv0).trans v1; have f2 := (hz.cell (p := ⟨w3.heap.size, 2, none⟩) lt0).trans t2; have f3 := (hz.cell (p := ⟨g, i, none⟩) lg0).trans k0); clear hz; go_simp; try with_reducible rfl); (try simp only [Act.put, List.getElem_toArray, List.getElem_cons_succ, List.getElem_cons_zero, List.setIfInBounds_toArray, List.set_cons_zero, List.set_cons_succ])
      refine wpAnyH_take (i := 3) (v := ?_) rfl (by kernel_rfl) (by kernel_rfl) (by kernel_rfl) (fun _ _ _ h => h) (Or.inl ⟨by rfl, ?_⟩) (by assumption) ?_; rotate_left; · (intro wz hz; (have f0 := (hz.cell (p := ⟨wr.heap.size, 0, none⟩) lv0).trans v0; have f1 := (hz.cell (p := ⟨wr.heap.size, 1, none⟩) lv0).trans v1; have f2 := (hz.cell (p := ⟨w3.heap.size, 2, none⟩) lt0).trans t2; have f3 := (hz.cell (p := ⟨g, i, none⟩) lg0).trans k0); clear hz; go_simp; try with_reducible rfl); (try simp only [Act.put, List.getElem_toArray, List.getElem_cons_succ, List.getElem_cons_zero, List.setIfInBounds_toArray, List.set_cons_zero, List.set_cons_succ])
      refine wpAnyH_take (i := 4) (v := ?_) rfl (by kernel_rfl) (by kernel_rfl) (by kernel_rfl) (fun _ _ _ h => h) (Or.inl ⟨by rfl, ?_⟩) (by assumption) ?_; rotate_left; · (intro wz hz; (have f0 := (hz.cell (p := ⟨wr.heap.size, 0, none⟩) lv0).trans v0; have f1 := (hz.cell (p := ⟨wr.heap.size, 1, none⟩) lv0).trans v1; have f2 := (hz.cell (p := ⟨w3.heap.size, 2, none⟩) lt0).trans t2; have f3 := (hz.cell (p := ⟨g, i, none⟩) lg0).trans k0); clear hz; go_simp; try with_reducible rfl); (try simp only [Act.put, List.getElem_toArray, List.getElem_cons_succ, List.getElem_cons_zero, List.setIfInBounds_toArray, List.set_cons_zero, List.set_cons_succ])
      refine wpAnyH_take (i := 5) (v := ?_) rfl (by kernel_rfl) (by kernel_rfl) (by kernel_rfl) (fun _ _ _ h => h) (Or.inl ⟨by rfl, ?_⟩) (by assumption) ?_; rotate_left; · (intro wz hz; (have f0 := (hz.cell (p := ⟨wr.heap.size, 0, none⟩) lv0).trans v0; have f1 := (hz.cell (p := ⟨wr.heap.size, 1, none⟩) lv0).trans v1; have f2 := (hz.cell (p := ⟨w3.heap.size, 2, none⟩) lt0).trans t2; have f3 := (hz.cell (p := ⟨g, i, none⟩) lg0).trans k0); clear hz; go_simp; try with_reducible rfl); (try simp only [Act.put, List.getElem_toArray, List.getElem_cons_succ, List.getElem_cons_zero, List.setIfInBounds_toArray, List.set_cons_zero, List.set_cons_succ])
      refine wpAnyH_ready (rs := [6]) (by kernel_rfl) (by simp) (AllReadyH.cons rfl (fun K hK => ?_) AllReadyH.nil); go_simp
      refine (kindOfSet_any _ _ _ _ hlv).mono ?_
      rintro e w5 ⟨rfl, hb5⟩
      have h5 := Below.via' hH hb5
      refine hK.out _ _ h5 (fun _ => ?_)
      clear hK K
      (try simp only [Act.put, List.getElem_toArray, List.getElem_cons_succ, List.getElem_cons_zero, List.setIfInBounds_toArray, List.set_cons_zero, List.set_cons_succ])
      refine wpAnyH_take (i := 7) (v := ?_) rfl (by kernel_rfl) (by kernel_rfl) (by kernel_rfl) (fun _ _ _ h => h) (Or.inl ⟨by rfl, ?_⟩) (by assumption) ?_; rotate_left; · (intro wz hz; (skip); clear hz; go_simp; try with_reducible rfl); (try simp only [Act.put, List.getElem_toArray, List.getElem_cons_succ, List.getElem_cons_zero, List.setIfInBounds_toArray, List.set_cons_zero, List.set_cons_succ])
      refine wpAnyH_done (by kernel_rfl) ?_ _
      have B5 := Below.via' BV h5
      have hOW5 := hOW.out.below B5
      have hOF5 := hOF.out.below B5
      have hT5 := hTv.out.kept h5
      have hZ5 := hZ.out.kept B5
      have hbw := Below.via' hb B5
      by_cases hfl : x0 = flZ lv
      · have hkd := kd_eq hlv hfl
        have hst := kK_step (A := nwL S W) (W := W) (nwL_yes hSi.out hx0.out hfl) (by have := hlh.out; omega)
        obtain ⟨u1, hu1, k1⟩ := own_cell hOW5.1 (j := i) (by have := hlh.out; omega)
        have k2 := hOW5.1.frozenAt i
        have hsr := hOW5.1.stored i (.int .i64 0)
        have t5 := hT5.read 2
        have hg5 := hOW5.2 g rfl
        have hrel2 : OwR (w5.setCell ⟨g, i, none⟩ (.int .i64 0)) a2 a3 3 1 (.slice (some ⟨g, 0, none⟩) W.length cW) W.length (iC (kK (nwL S W) W (i + 1))) := by
          rw [← hst, ← iC_setN]
          exact hOW5.turn hsr.1
        have hF2 := hOF5.keep hsr.2 (fun k hk => by
          have e : g = k := by injection hk
          omega)
        have hT2 := wb_farN hT5 hsr.2 (fun hk => by
          have e : g = w3.heap.size := by injection hk
          omega)
        have hZ2 := wb_farN hZ5 hsr.2 (fun hk => by
          have e : g = w.heap.size + 1 := by injection hk
          omega)
        have hbw2 : Below w.heap.size w (w5.setCell ⟨g, i, none⟩ (.int .i64 0)) := Below.setCell hbw (by show w.heap.size ≤ g; omega) _
        replace hrel2 := Lib.hid hrel2
        replace hF2 := Lib.hid hF2
        replace hT2 := Lib.hid hT2
        replace hZ2 := Lib.hid hZ2
        replace hsr := Lib.hid hsr
        replace hst := Lib.hid hst
        replace hfl := Lib.hid hfl
        replace hbw2 := Lib.hid hbw2
        clear hOW5 hOF5 hT5 hZ5 hu1
        go_wp2
        go_roundw
        case rel => exact ⟨i + 1, by omega, by go_num, hrel2.out, hF2.out, hT2.out, hZ2.out, hbw2.out⟩
        case measure => simp [intOf]; omega
      · have hkd := kd_ne hfl
        have hst := kK_same (nwL_no hSi.out hx0.out hfl) hx0.out
        rw [← hst] at hOW5
        replace hOW5 := Lib.hid hOW5
        replace hOF5 := Lib.hid hOF5
        replace hT5 := Lib.hid hT5
        replace hZ5 := Lib.hid hZ5
        replace hst := Lib.hid hst
        replace hfl := Lib.hid hfl
        go_wp2
        go_roundw
        case rel => exact ⟨i + 1, by omega, by go_num, hOW5.out, hOF5.out, hT5.out, hZ5.out, hbw⟩
        case measure => simp [intOf]; omega
    · have hij : i = S.length := by omega
      subst hij
      rw [kK_all (nwL_len hlh.out) hlh.out] at hOW
      have ta := hT.read 0; have tb := hT.read 1; have tc := hT.read 2; have td := hT.read 3; have te := hT.free 0; have tf := hT.free 1; have tg := hT.free 2; have th := hT.free 3
      have ya := hZ.read 0; have yb := hZ.read 1; have yc := hZ.read 2; have yd := hZ.read 3; have ye := hZ.free 0; have yf := hZ.free 1; have yg := hZ.free 2; have yh := hZ.free 3
      have yin := hZ.inside
      have tin := hT.inside
      replace hOW := Lib.hid hOW
      replace hOF := Lib.hid hOF
      have hl2 := nwL_len2 (S := S) hlh.out
      replace hl2 := Lib.hid hl2
      have hbs := hb.size
      go_wp2
      refine bodyPost_ret (v := .agg #[.int .i64 l, .slice xF F.length cF, .slice (some ⟨g, 0, none⟩) W.length cW, .int .i64 m]) (by simp [results, Try.results96, go_sem, *]) rfl ?_
      refine retT_of (W := W) hl2.out ⟨a0, a1, a2, a3, ?_, ?_, ?_, ?_, o5, ?_, ?_⟩ (by repeat (first | exact Below.refl _ _ | assumption | refine Below.drew ?_ | refine below_drewN ?_ _ | refine Below.alloc' ?_ _ | (refine Below.setCell ?_ (by first | omega | (simp; done) | (simp; omega) | exact Below.size (by assumption) | exact Nat.le_trans (Below.size (by assumption)) (by simp)) _) | (refine Below.via' ?_ (by assumption)) | (refine Below.alloc ?_ (by first | omega | (simp; done) | (simp; omega) | exact Below.size (by assumption) | exact Nat.le_trans (Below.size (by assumption)) (by simp)) _) | (refine Below.via ?_ (by assumption) (by first | omega | (simp; done) | (simp; omega) | exact Below.size (by assumption) | exact Nat.le_trans (Below.size (by assumption)) (by simp)))))
      omega
      simp; omega
      omega
      simp; omega
      repeat (refine OwR.set ?_ _ _ (Or.inl (by show w.heap.size + 1 < a0; omega)))
      exact hOF.out
      repeat (refine OwR.set ?_ _ _ (Or.inl (by show w.heap.size + 1 < a2; omega)))
      rw [hl2.out]
      exact hOW.out
end Go.Proofs.Ytgkaalonmkcclaa

namespace Go.Proofs.Ytgkaalonmkcclaa
open Go.RowKit
set_option maxRecDepth 100000

set_option maxHeartbeats 4000000 in
theorem nNormal_any (y x z : Option Addr) (c1 c d : Nat) (S : List (ByteArray × Int)) (l : Int) (F W : List Int) (m : Int) (w : World) (hs : schB S = true) (hl : W.length = S.length) (hS : SIn w y c1 S) (hmF : F.length ≤ 1048576) (hcF : F.length ≤ c) (hnF : x = none → c = 0) (hcW : W.length ≤ d) (hnW : z = none → d = 0) (hF : Rd w x (iC F)) (hW : Rd w z (iC W)) :
    Calls Try.prog 95 #[.slice y S.length c1, .agg #[.int .i64 l, .slice x F.length c, .slice z W.length d, .int .i64 m]] w (RetT l F (nwL S W) m w) := by
  have hSh := Lib.hid hS
  have hFh := Lib.hid hF
  have hWh := Lib.hid hW
  have hsh := Lib.hid hs
  have h6 := schB_len hs
  have hlh := Lib.hid hl
  have hW6 : W.length ≤ 6 := by omega
  have hW1 : 0 < W.length := by omega
  clear hF hW hS hs hl
  have q0 := TQ.new w l x F.length c z W.length d m 37
  obtain ⟨W2, hW2⟩ : ∃ W2, W2 = (w.alloc (.cells #[.int .i64 l, .slice x F.length c, .slice z W.length d, .int .i64 m] 37)).alloc (.cells #[.int .i64 0, .slice none 0 0, .slice none 0 0, .int .i64 0] 37) := ⟨_, rfl⟩
  have B2 : Below w.heap.size w W2 := by rw [hW2]; exact (by repeat (first | exact Below.refl _ _ | assumption | refine Below.drew ?_ | refine below_drewN ?_ _ | refine Below.alloc' ?_ _ | (refine Below.setCell ?_ (by first | omega | (simp; done) | (simp; omega) | exact Below.size (by assumption) | exact Nat.le_trans (Below.size (by assumption)) (by simp)) _) | (refine Below.via' ?_ (by assumption)) | (refine Below.alloc ?_ (by first | omega | (simp; done) | (simp; omega) | exact Below.size (by assumption) | exact Nat.le_trans (Below.size (by assumption)) (by simp)) _) | (refine Below.via ?_ (by assumption) (by first | omega | (simp; done) | (simp; omega) | exact Below.size (by assumption) | exact Nat.le_trans (Below.size (by assumption)) (by simp)))))
  have zz := Wb.new (w.alloc (.cells #[.int .i64 l, .slice x F.length c, .slice z W.length d, .int .i64 m] 37)) 37 #[.int .i64 0, .slice none 0 0, .slice none 0 0, .int .i64 0]
  rw [← hW2, World.size_alloc] at zz
  have hs2 : W2.heap.size = w.heap.size + 1 + 1 := by rw [hW2]; simp
  replace zz := Lib.hid zz
  replace hW2 := Lib.hid hW2
  replace q0 := Lib.hid q0
  go_enter Try.func95, Try.ntmps95
  go_wp2_with fail
  rw [← hW2.out]
  refine (nOwn_any l x z _ _ F W m _ hmF (by omega) hcF hnF hcW hnW (hFh.out.below B2) (hWh.out.below B2)).mono ?_
  rintro e w3 ⟨xF, cF, xW, cW, rfl, ⟨a0, a1, a2, a3, o1, o2, o3, o4, o5, hOF, hOW⟩, hb3⟩
  obtain ⟨g, gc, hg⟩ := own_someV hOW.1 hW1
  injection hg with hg1 hg2 hg3
  subst hg1 hg3
  have B3 := Below.via' B2 hb3
  have zz3 := Lib.hid (zz.out.kept hb3)
  have hOFh := Lib.hid hOF
  have hOWh := Lib.hid hOW
  have hsz := hb3.size
  have hn := Wb.new w3 37 #[.int .i64 l, .slice xF F.length cF, .slice (some ⟨g, 0, none⟩) W.length cW, .int .i64 m]
  replace hn := Lib.hid hn
  clear hOF hOW zz q0
  have hbA : Below w3.heap.size w3 (w3.alloc (.cells #[.int .i64 l, .slice xF F.length cF, .slice (some ⟨g, 0, none⟩) W.length cW, .int .i64 m] 37)) := (by repeat (first | exact Below.refl _ _ | assumption | refine Below.drew ?_ | refine below_drewN ?_ _ | refine Below.alloc' ?_ _ | (refine Below.setCell ?_ (by first | omega | (simp; done) | (simp; omega) | exact Below.size (by assumption) | exact Nat.le_trans (Below.size (by assumption)) (by simp)) _) | (refine Below.via' ?_ (by assumption)) | (refine Below.alloc ?_ (by first | omega | (simp; done) | (simp; omega) | exact Below.size (by assumption) | exact Nat.le_trans (Below.size (by assumption)) (by simp)) _) | (refine Below.via ?_ (by assumption) (by first | omega | (simp; done) | (simp; omega) | exact Below.size (by assumption) | exact Nat.le_trans (Below.size (by assumption)) (by simp)))))
  go_wp2
  go_loopw [11] (fun c wr => ∃ i : Nat, i ≤ S.length ∧ c = .int .i64 i ∧ OwR wr a2 a3 3 1 (.slice (some ⟨g, 0, none⟩) W.length cW) W.length (iC (kK (nwL S W) W i)) ∧ OwR wr a0 a1 3 1 (.slice xF F.length cF) F.length (iC F) ∧ Wb wr w3.heap.size 37 #[.int .i64 l, .slice xF F.length cF, .slice (some ⟨g, 0, none⟩) W.length cW, .int .i64 m] ∧ Wb wr (w.heap.size + 1) 37 #[.int .i64 0, .slice none 0 0, .slice none 0 0, .int .i64 0] ∧ Below w.heap.size w wr) (fun c _ => S.length - (intOf c).toNat)
  case atStart => exact ⟨0, by omega, by go_num, by rw [kK_zero]; exact hOWh.out.below hbA, hOFh.out.below hbA, hn.out, zz3.out.kept hbA, Below.via' B3 hbA⟩
  case round =>
    obtain ⟨i, hi, rfl, hOW, hOF, hT, hZ, hb⟩ := hrel
    by_cases hlt : i < S.length
    · obtain ⟨bl, off, nm, lv, rfl, hbl, hSi, ks0, ks1⟩ := (hSh.out.rd.below hb).var hlt
      have hlv := schB_lv hsh.out hSi
      obtain ⟨x0, hx0⟩ : ∃ x0, W[i]? = some x0 := ⟨_, List.getElem?_eq_getElem (by have := hlh.out; omega)⟩
      have hkg := kK_get (A := nwL S W) (W := W) (by rw [nwL_len hlh.out]; exact hi) hx0
      obtain ⟨u0, hu0, k0r⟩ := own_cell hOW.1 (j := i) (by have := hlh.out; omega)
      obtain rfl : u0 = .int .i64 x0 := Option.some.inj (hu0.symm.trans (iC_at hkg))
      have lgr := (own_lt hOW.1).2
      have hTv := hT
      have t2 := hT.read 2
      have lt0 := hT.inside
      have k0 := k0r
      have lg0 := lgr
      have hlt' : (i : Int) < (S.length : Int) := by omega
      have hi0 : (0 : Int) ≤ (i : Int) := by omega
      have hiW : (i : Int) < (W.length : Int) := by have := hlh.out; omega
      replace hOW := Lib.hid hOW
      replace hOF := Lib.hid hOF
      replace hT := Lib.hid hT
      replace hZ := Lib.hid hZ
      replace hTv := Lib.hid hTv
      clear hu0
      replace hkg := Lib.hid hkg
      replace hx0 := Lib.hid hx0
      replace hSi := Lib.hid hSi
      go_upto_region 5 with fail
      refine wp_region_held_drew (S := fun X => Below wr.heap.size wr X) (by kernel_rfl) (Below.drew (Below.refl _ _)) (fun hH => ?_)
      refine wpAnyH_take (i := 0) (v := ?_) rfl (by kernel_rfl) (by kernel_rfl) (by kernel_rfl) (fun _ _ _ h => h) (Or.inl ⟨by rfl, ?_⟩) (by assumption) ?_; rotate_left; · (intro wz hz; (have f2 := (hz.cell (p := ⟨w3.heap.size, 2, none⟩) lt0).trans t2; have f3 := (hz.cell (p := ⟨g, i, none⟩) lg0).trans k0); clear hz; go_simp; try with_reducible rfl); (try simp only [Act.put, List.getElem_toArray, List.getElem_cons_succ, List.getElem_cons_zero, List.setIfInBounds_toArray, List.set_cons_zero, List.set_cons_succ])
      refine wpAnyH_take (i := 1) (v := ?_) rfl (by kernel_rfl) (by kernel_rfl) (by kernel_rfl) (fun _ _ _ h => h) (Or.inl ⟨by rfl, ?_⟩) (by assumption) ?_; rotate_left; · (intro wz hz; (have f2 := (hz.cell (p := ⟨w3.heap.size, 2, none⟩) lt0).trans t2; have f3 := (hz.cell (p := ⟨g, i, none⟩) lg0).trans k0); clear hz; go_simp; try with_reducible rfl); (try simp only [Act.put, List.getElem_toArray, List.getElem_cons_succ, List.getElem_cons_zero, List.setIfInBounds_toArray, List.set_cons_zero, List.set_cons_succ])
      refine wpAnyH_take (i := 2) (v := ?_) rfl (by kernel_rfl) (by kernel_rfl) (by kernel_rfl) (fun _ _ _ h => h) (Or.inl ⟨by rfl, ?_⟩) (by assumption) ?_; rotate_left; · (intro wz hz; (have f2 := (hz.cell (p := ⟨w3.heap.size, 2, none⟩) lt0).trans t2; have f3 := (hz.cell (p := ⟨g, i, none⟩) lg0).trans k0); clear hz; go_simp; try with_reducible rfl); (try simp only [Act.put, List.getElem_toArray, List.getElem_cons_succ, List.getElem_cons_zero, List.setIfInBounds_toArray, List.set_cons_zero, List.set_cons_succ])
      refine wpAnyH_take (i := 3) (v := ?_) rfl (by kernel_rfl) (by kernel_rfl) (by kernel_rfl) (fun _ _ _ h => h) (Or.inl ⟨by rfl, ?_⟩) (by assumption) ?_; rotate_left; · (intro wz hz; (have f2 := (hz.cell (p := ⟨w3.heap.size, 2, none⟩) lt0).trans t2; have f3 := (hz.cell (p := ⟨g, i, none⟩) lg0).trans k0); clear hz; go_simp; try with_reducible rfl); (try simp only [Act.put, List.getElem_toArray, List.getElem_cons_succ, List.getElem_cons_zero, List.setIfInBounds_toArray, List.set_cons_zero, List.set_cons_succ])
      refine wpAnyH_take (i := 4) (v := ?_) rfl (by kernel_rfl) (by kernel_rfl) (by kernel_rfl) (fun _ _ _ h => h) (Or.inl ⟨by rfl, ?_⟩) (by assumption) ?_; rotate_left; · (intro wz hz; (have f2 := (hz.cell (p := ⟨w3.heap.size, 2, none⟩) lt0).trans t2; have f3 := (hz.cell (p := ⟨g, i, none⟩) lg0).trans k0); clear hz; go_simp; try with_reducible rfl); (try simp only [Act.put, List.getElem_toArray, List.getElem_cons_succ, List.getElem_cons_zero, List.setIfInBounds_toArray, List.set_cons_zero, List.set_cons_succ])
      refine wpAnyH_take (i := 5) (v := ?_) rfl (by kernel_rfl) (by kernel_rfl) (by kernel_rfl) (fun _ _ _ h => h) (Or.inl ⟨by rfl, ?_⟩) (by assumption) ?_; rotate_left; · (intro wz hz; (have f2 := (hz.cell (p := ⟨w3.heap.size, 2, none⟩) lt0).trans t2; have f3 := (hz.cell (p := ⟨g, i, none⟩) lg0).trans k0); clear hz; go_simp; try with_reducible rfl); (try simp only [Act.put, List.getElem_toArray, List.getElem_cons_succ, List.getElem_cons_zero, List.setIfInBounds_toArray, List.set_cons_zero, List.set_cons_succ])
      refine wpAnyH_take (i := 6) (v := ?_) rfl (by kernel_rfl) (by kernel_rfl) (by kernel_rfl) (fun _ _ _ h => h) (Or.inl ⟨by rfl, ?_⟩) (by assumption) ?_; rotate_left; · (intro wz hz; (have f2 := (hz.cell (p := ⟨w3.heap.size, 2, none⟩) lt0).trans t2; have f3 := (hz.cell (p := ⟨g, i, none⟩) lg0).trans k0); clear hz; go_simp; try with_reducible rfl); (try simp only [Act.put, List.getElem_toArray, List.getElem_cons_succ, List.getElem_cons_zero, List.setIfInBounds_toArray, List.set_cons_zero, List.set_cons_succ])
      refine wpAnyH_ready (rs := [7]) (by kernel_rfl) (by simp) (AllReadyH.cons rfl (fun K hK => ?_) AllReadyH.nil); go_simp
      refine (eFull_any _ _ S i _ _ _ hlv hSi.out (hSh.out.rd.below (Below.via' hb hH))).mono ?_
      rintro e w5 ⟨rfl, rfl⟩
      have h5 := hH
      refine hK.out _ _ h5 (fun _ => ?_)
      clear hK K
      (try simp only [Act.put, List.getElem_toArray, List.getElem_cons_succ, List.getElem_cons_zero, List.setIfInBounds_toArray, List.set_cons_zero, List.set_cons_succ])
      refine wpAnyH_take (i := 8) (v := ?_) rfl (by kernel_rfl) (by kernel_rfl) (by kernel_rfl) (fun _ _ _ h => h) (Or.inl ⟨by rfl, ?_⟩) (by assumption) ?_; rotate_left; · (intro wz hz; (skip); clear hz; go_simp; try with_reducible rfl); (try simp only [Act.put, List.getElem_toArray, List.getElem_cons_succ, List.getElem_cons_zero, List.setIfInBounds_toArray, List.set_cons_zero, List.set_cons_succ])
      refine wpAnyH_done (by kernel_rfl) ?_ _
      have B5 := h5
      have hOW5 := hOW.out.below B5
      have hOF5 := hOF.out.below B5
      have hT5 := hTv.out.kept h5
      have hZ5 := hZ.out.kept B5
      have hbw := Below.via' hb B5
      by_cases hfl : x0 = flZ lv
      · have hkd : (x0 == flZ lv) = true := by rw [beq_iff_eq]; exact hfl
        have hst := kK_step (A := nwL S W) (W := W) (nwL_yes hSi.out hx0.out hfl) (by have := hlh.out; omega)
        obtain ⟨u1, hu1, k1⟩ := own_cell hOW5.1 (j := i) (by have := hlh.out; omega)
        have k2 := hOW5.1.frozenAt i
        have hsr := hOW5.1.stored i (.int .i64 0)
        have t5 := hT5.read 2
        have hg5 := hOW5.2 g rfl
        have hrel2 : OwR (wr.drew.setCell ⟨g, i, none⟩ (.int .i64 0)) a2 a3 3 1 (.slice (some ⟨g, 0, none⟩) W.length cW) W.length (iC (kK (nwL S W) W (i + 1))) := by
          rw [← hst, ← iC_setN]
          exact hOW5.turn hsr.1
        have hF2 := hOF5.keep hsr.2 (fun k hk => by
          have e : g = k := by injection hk
          omega)
        have hT2 := wb_farN hT5 hsr.2 (fun hk => by
          have e : g = w3.heap.size := by injection hk
          omega)
        have hZ2 := wb_farN hZ5 hsr.2 (fun hk => by
          have e : g = w.heap.size + 1 := by injection hk
          omega)
        have hbw2 : Below w.heap.size w (wr.drew.setCell ⟨g, i, none⟩ (.int .i64 0)) := Below.setCell hbw (by show w.heap.size ≤ g; omega) _
        replace hrel2 := Lib.hid hrel2
        replace hF2 := Lib.hid hF2
        replace hT2 := Lib.hid hT2
        replace hZ2 := Lib.hid hZ2
        replace hsr := Lib.hid hsr
        replace hst := Lib.hid hst
        replace hfl := Lib.hid hfl
        replace hbw2 := Lib.hid hbw2
        clear hOW5 hOF5 hT5 hZ5 hu1
        go_wp2
        go_roundw
        case rel => exact ⟨i + 1, by omega, by go_num, hrel2.out, hF2.out, hT2.out, hZ2.out, hbw2.out⟩
        case measure => simp [intOf]; omega
      · have hkd : (x0 == flZ lv) = false := by rw [beq_eq_false_iff_ne]; exact hfl
        have hst := kK_same (nwL_no hSi.out hx0.out hfl) hx0.out
        rw [← hst] at hOW5
        replace hOW5 := Lib.hid hOW5
        replace hOF5 := Lib.hid hOF5
        replace hT5 := Lib.hid hT5
        replace hZ5 := Lib.hid hZ5
        replace hst := Lib.hid hst
        replace hfl := Lib.hid hfl
        go_wp2
        go_roundw
        case rel => exact ⟨i + 1, by omega, by go_num, hOW5.out, hOF5.out, hT5.out, hZ5.out, hbw⟩
        case measure => simp [intOf]; omega
    · have hij : i = S.length := by omega
      subst hij
      rw [kK_all (nwL_len hlh.out) hlh.out] at hOW
      have ta := hT.read 0; have tb := hT.read 1; have tc := hT.read 2; have td := hT.read 3; have te := hT.free 0; have tf := hT.free 1; have tg := hT.free 2; have th := hT.free 3
      have ya := hZ.read 0; have yb := hZ.read 1; have yc := hZ.read 2; have yd := hZ.read 3; have ye := hZ.free 0; have yf := hZ.free 1; have yg := hZ.free 2; have yh := hZ.free 3
      have yin := hZ.inside
      have tin := hT.inside
      replace hOW := Lib.hid hOW
      replace hOF := Lib.hid hOF
      have hl2 := nwL_len2 (S := S) hlh.out
      replace hl2 := Lib.hid hl2
      have hbs := hb.size
      go_wp2
      refine bodyPost_ret (v := .agg #[.int .i64 l, .slice xF F.length cF, .slice (some ⟨g, 0, none⟩) W.length cW, .int .i64 m]) (by simp [results, Try.results95, go_sem, *]) rfl ?_
      refine retT_of (W := W) hl2.out ⟨a0, a1, a2, a3, ?_, ?_, ?_, ?_, o5, ?_, ?_⟩ (by repeat (first | exact Below.refl _ _ | assumption | refine Below.drew ?_ | refine below_drewN ?_ _ | refine Below.alloc' ?_ _ | (refine Below.setCell ?_ (by first | omega | (simp; done) | (simp; omega) | exact Below.size (by assumption) | exact Nat.le_trans (Below.size (by assumption)) (by simp)) _) | (refine Below.via' ?_ (by assumption)) | (refine Below.alloc ?_ (by first | omega | (simp; done) | (simp; omega) | exact Below.size (by assumption) | exact Nat.le_trans (Below.size (by assumption)) (by simp)) _) | (refine Below.via ?_ (by assumption) (by first | omega | (simp; done) | (simp; omega) | exact Below.size (by assumption) | exact Nat.le_trans (Below.size (by assumption)) (by simp)))))
      omega
      simp; omega
      omega
      simp; omega
      repeat (refine OwR.set ?_ _ _ (Or.inl (by show w.heap.size + 1 < a0; omega)))
      exact hOF.out
      repeat (refine OwR.set ?_ _ _ (Or.inl (by show w.heap.size + 1 < a2; omega)))
      rw [hl2.out]
      exact hOW.out
end Go.Proofs.Ytgkaalonmkcclaa

namespace Go.Proofs.Ytgkaalonmkcclaa
open Go.RowKit
set_option maxRecDepth 100000

theorem OwY.set {w : World} {lo hi : Nat} {u v : Value} {F W : List Int} (h : OwY w lo hi u v F W) (p : Addr) (q : Value) (hp : p.block < lo) : OwY (w.setCell p q) lo hi u v F W :=
  h.keep (grown_setN w p q) (fun k hk => by obtain rfl := Option.some.inj hk; exact Or.inl hp)
set_option maxHeartbeats 4000000 in
theorem iNT_x (p y x z : Option Addr) (c c1 c2 c3 : Nat) (P : List Int) (S : List (ByteArray × Int)) (l : Int) (F W : List Int) (m : Int) (w : World) (hP : IIn w p P) (hS : SIn w y c1 S) (hT : TIn w x z F W) (hcF : F.length ≤ c2) (hnF : x = none → c2 = 0) (hcW : W.length ≤ c3) (hnW : z = none → c3 = 0) :
    Calls Try.prog 53 #[.agg #[.slice p P.length c], .slice y S.length c1, .agg #[.int .i64 l, .slice x F.length c2, .slice z W.length c3, .int .i64 m]] w (RetTB (ntR P S l F W m) (tgB P S l F W m) w) := by
  have hPh := Lib.hid hP
  have hSh := Lib.hid hS
  have hFh := Lib.hid hT.1
  have hWh := Lib.hid hT.2
  clear hP hS hT
  have hmF := hFh.out.1
  have hcFh := Lib.hid hcF
  have hnFh := Lib.hid hnF
  have hcWh := Lib.hid hcW
  have hnWh := Lib.hid hnW
  clear hcF hnF hcW hnW
  have p1 := Lib.hid (QB.new w p P.length c 33)
  have p2 := Lib.hid (TQ.new (w.alloc (.cells #[.slice p P.length c] 33)) l x F.length c2 z W.length c3 m 37)
  have p3 := Wb.new ((w.alloc (.cells #[.slice p P.length c] 33)).alloc (.cells #[.int .i64 l, .slice x F.length c2, .slice z W.length c3, .int .i64 m] 37)) 37 #[.int .i64 0, .slice none 0 0, .slice none 0 0, .int .i64 0]
  obtain ⟨w0, hw0⟩ : ∃ w0, w0 = ((w.alloc (.cells #[.slice p P.length c] 33)).alloc (.cells #[.int .i64 l, .slice x F.length c2, .slice z W.length c3, .int .i64 m] 37)).alloc (.cells #[.int .i64 0, .slice none 0 0, .slice none 0 0, .int .i64 0] 37) := ⟨_, rfl⟩
  have B0 : Below w.heap.size w w0 := by rw [hw0]; exact (by repeat (first | exact Below.refl _ _ | assumption | refine Below.drew ?_ | refine below_drewN ?_ _ | refine Below.alloc' ?_ _ | (refine Below.setCell ?_ (by first | omega | (simp; done) | (simp; omega) | exact Below.size (by assumption) | exact Nat.le_trans (Below.size (by assumption)) (by simp)) _) | (refine Below.via' ?_ (by assumption)) | (refine Below.alloc ?_ (by first | omega | (simp; done) | (simp; omega) | exact Below.size (by assumption) | exact Nat.le_trans (Below.size (by assumption)) (by simp)) _) | (refine Below.via ?_ (by assumption) (by first | omega | (simp; done) | (simp; omega) | exact Below.size (by assumption) | exact Nat.le_trans (Below.size (by assumption)) (by simp)))))
  have g0 : Hid (QB w0 w.heap.size p P.length c) := by
    rw [hw0]
    exact p1.out.below (show Below (w.alloc (.cells #[.slice p P.length c] 33)).heap.size (w.alloc (.cells #[.slice p P.length c] 33)) _ from (by repeat (first | exact Below.refl _ _ | assumption | refine Below.drew ?_ | refine below_drewN ?_ _ | refine Below.alloc' ?_ _ | (refine Below.setCell ?_ (by first | omega | (simp; done) | (simp; omega) | exact Below.size (by assumption) | exact Nat.le_trans (Below.size (by assumption)) (by simp)) _) | (refine Below.via' ?_ (by assumption)) | (refine Below.alloc ?_ (by first | omega | (simp; done) | (simp; omega) | exact Below.size (by assumption) | exact Nat.le_trans (Below.size (by assumption)) (by simp)) _) | (refine Below.via ?_ (by assumption) (by first | omega | (simp; done) | (simp; omega) | exact Below.size (by assumption) | exact Nat.le_trans (Below.size (by assumption)) (by simp))))))
  have t0 : Hid (TQ w0 (w.heap.size + 1) l x F.length c2 z W.length c3 m) := by
    have h0 := p2.out.below (show Below ((w.alloc (.cells #[.slice p P.length c] 33)).alloc (.cells #[.int .i64 l, .slice x F.length c2, .slice z W.length c3, .int .i64 m] 37)).heap.size ((w.alloc (.cells #[.slice p P.length c] 33)).alloc (.cells #[.int .i64 l, .slice x F.length c2, .slice z W.length c3, .int .i64 m] 37)) w0 from by rw [hw0]; exact (by repeat (first | exact Below.refl _ _ | assumption | refine Below.drew ?_ | refine below_drewN ?_ _ | refine Below.alloc' ?_ _ | (refine Below.setCell ?_ (by first | omega | (simp; done) | (simp; omega) | exact Below.size (by assumption) | exact Nat.le_trans (Below.size (by assumption)) (by simp)) _) | (refine Below.via' ?_ (by assumption)) | (refine Below.alloc ?_ (by first | omega | (simp; done) | (simp; omega) | exact Below.size (by assumption) | exact Nat.le_trans (Below.size (by assumption)) (by simp)) _) | (refine Below.via ?_ (by assumption) (by first | omega | (simp; done) | (simp; omega) | exact Below.size (by assumption) | exact Nat.le_trans (Below.size (by assumption)) (by simp))))))
    rw [World.size_alloc] at h0
    exact h0
  have r0 : Hid (Wb w0 (w.heap.size + 1 + 1) 37 #[.int .i64 0, .slice none 0 0, .slice none 0 0, .int .i64 0]) := by
    rw [← hw0] at p3
    simpa [Hid] using p3
  have z0 : w0.heap.size = w.heap.size + 1 + 1 + 1 := by rw [hw0]; simp
  clear p1 p2 p3
  go_enter Try.func53, Try.ntmps53
  go_wp2_with fail
  rw [← hw0]
  replace hw0 := Lib.hid hw0
  replace z0 := Lib.hid z0
  refine (isTb_any p y x z _ _ _ _ P S l F W m _ (hPh.out.below B0) (hSh.out.below B0) ⟨hFh.out.below B0, hWh.out.below B0⟩).mono ?_
  rintro e w1 ⟨rfl, hb1⟩
  have r1 := Lib.hid (r0.out.kept hb1)
  have B1 : Below w.heap.size w w1 := Below.via' B0 hb1
  have g1 := Lib.hid (g0.out.below hb1)
  have t1 := Lib.hid (t0.out.below hb1)
  obtain ⟨ka1, kb1, kc1⟩ := g1.out
  obtain ⟨ta1, tb1, tc1, td1, te1⟩ := t1.out
  try clear ka0 kb0 kc0 ta0 tb0 tc0 td0 te0
  clear hb1
  have hs1 := B1.size
  have hr1 := r1.out.inside
  cases htb : tgB P S l F W m
  · have ya := r1.out.read 0; have yb := r1.out.read 1; have yc := r1.out.read 2; have yd := r1.out.read 3; have ye := r1.out.free 0; have yf := r1.out.free 1; have yg := r1.out.free 2; have yh := r1.out.free 3
    go_wp2
    refine bodyPost_ret (v := .tuple #[.agg #[.int .i64 0, .slice none 0 0, .slice none 0 0, .int .i64 0], .bool false]) (by simp [results, Try.results53, go_sem, *]) rfl ?_
    rw [ntR_no htb]
    exact retTB_no htb (by repeat (first | exact Below.refl _ _ | assumption | refine Below.drew ?_ | refine below_drewN ?_ _ | refine Below.alloc' ?_ _ | (refine Below.setCell ?_ (by first | omega | (simp; done) | (simp; omega) | exact Below.size (by assumption) | exact Nat.le_trans (Below.size (by assumption)) (by simp)) _) | (refine Below.via' ?_ (by assumption)) | (refine Below.alloc ?_ (by first | omega | (simp; done) | (simp; omega) | exact Below.size (by assumption) | exact Nat.le_trans (Below.size (by assumption)) (by simp)) _) | (refine Below.via ?_ (by assumption) (by first | omega | (simp; done) | (simp; omega) | exact Below.size (by assumption) | exact Nat.le_trans (Below.size (by assumption)) (by simp)))))
  have htg := tg_iff.1 htb
  have htbh := Lib.hid htb
  have hsh := Lib.hid htg.s
  have hwl := Lib.hid (tw_len htg.w)
  clear htg htb
  go_wp2_with fail
  refine (normalTable_any y x z _ _ _ S l F W m _ hsh.out hwl.out (hSh.out.below B1) hmF hcFh.out hnFh.out hcWh.out hnWh.out (hFh.out.below B1).2.2 (hWh.out.below B1).2.2).mono ?_
  rintro e w2 ⟨x2, d2, z2, e2, rfl, ho2, hb2⟩
  have r2 := Lib.hid (r1.out.kept hb2)
  have B2 := Below.via' B1 hb2
  have hs2 := hb2.size
  replace ho2 := Lib.hid ho2
  have ya := r2.out.read 0; have yb := r2.out.read 1; have yc := r2.out.read 2; have yd := r2.out.read 3; have ye := r2.out.free 0; have yf := r2.out.free 1; have yg := r2.out.free 2; have yh := r2.out.free 3
  have yin := r2.out.inside
  clear hb2 ka1 kb1 kc1 ta1 tb1 tc1 td1 te1
  go_wp2
  refine bodyPost_ret (v := .tuple #[.agg #[.int .i64 l, .slice x2 F.length d2, .slice z2 (nwL S W).length e2, .int .i64 m], .bool true]) (by simp [results, Try.results53, go_sem, *]) rfl ?_
  rw [ntR_yes htbh.out]
  refine ⟨_, _, _, _, ret_t (by rw [htbh.out]), OwY.more (lo := w1.heap.size) (hi := w2.heap.size) ?_ (by omega) (by simp), (by repeat (first | exact Below.refl _ _ | assumption | refine Below.drew ?_ | refine below_drewN ?_ _ | refine Below.alloc' ?_ _ | (refine Below.setCell ?_ (by first | omega | (simp; done) | (simp; omega) | exact Below.size (by assumption) | exact Nat.le_trans (Below.size (by assumption)) (by simp)) _) | (refine Below.via' ?_ (by assumption)) | (refine Below.alloc ?_ (by first | omega | (simp; done) | (simp; omega) | exact Below.size (by assumption) | exact Nat.le_trans (Below.size (by assumption)) (by simp)) _) | (refine Below.via ?_ (by assumption) (by first | omega | (simp; done) | (simp; omega) | exact Below.size (by assumption) | exact Nat.le_trans (Below.size (by assumption)) (by simp)))))⟩
  repeat (refine OwY.set ?_ _ _ (by show w.heap.size + 1 + 1 < w1.heap.size; omega))
  exact ho2.out
set_option maxHeartbeats 4000000 in
theorem sNT_x (p y x z : Option Addr) (c c1 c2 c3 : Nat) (P : List Int) (S : List (ByteArray × Int)) (l : Int) (F W : List Int) (m : Int) (w : World) (hP : IIn w p P) (hS : SIn w y c1 S) (hT : TIn w x z F W) (hcF : F.length ≤ c2) (hnF : x = none → c2 = 0) (hcW : W.length ≤ c3) (hnW : z = none → c3 = 0) :
    Calls Try.prog 52 #[.agg #[.slice p P.length c], .slice y S.length c1, .agg #[.int .i64 l, .slice x F.length c2, .slice z W.length c3, .int .i64 m]] w (RetTB (ntR P S l F W m) (tgB P S l F W m) w) := by
  have hPh := Lib.hid hP
  have hSh := Lib.hid hS
  have hFh := Lib.hid hT.1
  have hWh := Lib.hid hT.2
  clear hP hS hT
  have hmF := hFh.out.1
  have hcFh := Lib.hid hcF
  have hnFh := Lib.hid hnF
  have hcWh := Lib.hid hcW
  have hnWh := Lib.hid hnW
  clear hcF hnF hcW hnW
  have p1 := Lib.hid (QB.new w p P.length c 33)
  have p2 := Lib.hid (TQ.new (w.alloc (.cells #[.slice p P.length c] 33)) l x F.length c2 z W.length c3 m 37)
  have p3 := Wb.new ((w.alloc (.cells #[.slice p P.length c] 33)).alloc (.cells #[.int .i64 l, .slice x F.length c2, .slice z W.length c3, .int .i64 m] 37)) 37 #[.int .i64 0, .slice none 0 0, .slice none 0 0, .int .i64 0]
  obtain ⟨w0, hw0⟩ : ∃ w0, w0 = ((w.alloc (.cells #[.slice p P.length c] 33)).alloc (.cells #[.int .i64 l, .slice x F.length c2, .slice z W.length c3, .int .i64 m] 37)).alloc (.cells #[.int .i64 0, .slice none 0 0, .slice none 0 0, .int .i64 0] 37) := ⟨_, rfl⟩
  have B0 : Below w.heap.size w w0 := by rw [hw0]; exact (by repeat (first | exact Below.refl _ _ | assumption | refine Below.drew ?_ | refine below_drewN ?_ _ | refine Below.alloc' ?_ _ | (refine Below.setCell ?_ (by first | omega | (simp; done) | (simp; omega) | exact Below.size (by assumption) | exact Nat.le_trans (Below.size (by assumption)) (by simp)) _) | (refine Below.via' ?_ (by assumption)) | (refine Below.alloc ?_ (by first | omega | (simp; done) | (simp; omega) | exact Below.size (by assumption) | exact Nat.le_trans (Below.size (by assumption)) (by simp)) _) | (refine Below.via ?_ (by assumption) (by first | omega | (simp; done) | (simp; omega) | exact Below.size (by assumption) | exact Nat.le_trans (Below.size (by assumption)) (by simp)))))
  have g0 : Hid (QB w0 w.heap.size p P.length c) := by
    rw [hw0]
    exact p1.out.below (show Below (w.alloc (.cells #[.slice p P.length c] 33)).heap.size (w.alloc (.cells #[.slice p P.length c] 33)) _ from (by repeat (first | exact Below.refl _ _ | assumption | refine Below.drew ?_ | refine below_drewN ?_ _ | refine Below.alloc' ?_ _ | (refine Below.setCell ?_ (by first | omega | (simp; done) | (simp; omega) | exact Below.size (by assumption) | exact Nat.le_trans (Below.size (by assumption)) (by simp)) _) | (refine Below.via' ?_ (by assumption)) | (refine Below.alloc ?_ (by first | omega | (simp; done) | (simp; omega) | exact Below.size (by assumption) | exact Nat.le_trans (Below.size (by assumption)) (by simp)) _) | (refine Below.via ?_ (by assumption) (by first | omega | (simp; done) | (simp; omega) | exact Below.size (by assumption) | exact Nat.le_trans (Below.size (by assumption)) (by simp))))))
  have t0 : Hid (TQ w0 (w.heap.size + 1) l x F.length c2 z W.length c3 m) := by
    have h0 := p2.out.below (show Below ((w.alloc (.cells #[.slice p P.length c] 33)).alloc (.cells #[.int .i64 l, .slice x F.length c2, .slice z W.length c3, .int .i64 m] 37)).heap.size ((w.alloc (.cells #[.slice p P.length c] 33)).alloc (.cells #[.int .i64 l, .slice x F.length c2, .slice z W.length c3, .int .i64 m] 37)) w0 from by rw [hw0]; exact (by repeat (first | exact Below.refl _ _ | assumption | refine Below.drew ?_ | refine below_drewN ?_ _ | refine Below.alloc' ?_ _ | (refine Below.setCell ?_ (by first | omega | (simp; done) | (simp; omega) | exact Below.size (by assumption) | exact Nat.le_trans (Below.size (by assumption)) (by simp)) _) | (refine Below.via' ?_ (by assumption)) | (refine Below.alloc ?_ (by first | omega | (simp; done) | (simp; omega) | exact Below.size (by assumption) | exact Nat.le_trans (Below.size (by assumption)) (by simp)) _) | (refine Below.via ?_ (by assumption) (by first | omega | (simp; done) | (simp; omega) | exact Below.size (by assumption) | exact Nat.le_trans (Below.size (by assumption)) (by simp))))))
    rw [World.size_alloc] at h0
    exact h0
  have r0 : Hid (Wb w0 (w.heap.size + 1 + 1) 37 #[.int .i64 0, .slice none 0 0, .slice none 0 0, .int .i64 0]) := by
    rw [← hw0] at p3
    simpa [Hid] using p3
  have z0 : w0.heap.size = w.heap.size + 1 + 1 + 1 := by rw [hw0]; simp
  clear p1 p2 p3
  go_enter Try.func52, Try.ntmps52
  go_wp2_with fail
  rw [← hw0]
  replace hw0 := Lib.hid hw0
  replace z0 := Lib.hid z0
  refine (uGood_any p y x z _ _ _ _ P S l m F W _ (hPh.out.below B0) (hSh.out.below B0) ⟨hFh.out.below B0, hWh.out.below B0⟩).mono ?_
  rintro e w1 ⟨rfl, hb1⟩
  have r1 := Lib.hid (r0.out.kept hb1)
  have B1 : Below w.heap.size w w1 := Below.via' B0 hb1
  have g1 := Lib.hid (g0.out.below hb1)
  have t1 := Lib.hid (t0.out.below hb1)
  obtain ⟨ka1, kb1, kc1⟩ := g1.out
  obtain ⟨ta1, tb1, tc1, td1, te1⟩ := t1.out
  try clear ka0 kb0 kc0 ta0 tb0 tc0 td0 te0
  clear hb1
  have hs1 := B1.size
  have hr1 := r1.out.inside
  cases htb : tgB P S l F W m
  · have ya := r1.out.read 0; have yb := r1.out.read 1; have yc := r1.out.read 2; have yd := r1.out.read 3; have ye := r1.out.free 0; have yf := r1.out.free 1; have yg := r1.out.free 2; have yh := r1.out.free 3
    go_wp2
    refine bodyPost_ret (v := .tuple #[.agg #[.int .i64 0, .slice none 0 0, .slice none 0 0, .int .i64 0], .bool false]) (by simp [results, Try.results52, go_sem, *]) rfl ?_
    rw [ntR_no htb]
    exact retTB_no htb (by repeat (first | exact Below.refl _ _ | assumption | refine Below.drew ?_ | refine below_drewN ?_ _ | refine Below.alloc' ?_ _ | (refine Below.setCell ?_ (by first | omega | (simp; done) | (simp; omega) | exact Below.size (by assumption) | exact Nat.le_trans (Below.size (by assumption)) (by simp)) _) | (refine Below.via' ?_ (by assumption)) | (refine Below.alloc ?_ (by first | omega | (simp; done) | (simp; omega) | exact Below.size (by assumption) | exact Nat.le_trans (Below.size (by assumption)) (by simp)) _) | (refine Below.via ?_ (by assumption) (by first | omega | (simp; done) | (simp; omega) | exact Below.size (by assumption) | exact Nat.le_trans (Below.size (by assumption)) (by simp)))))
  have htg := tg_iff.1 htb
  have htbh := Lib.hid htb
  have hsh := Lib.hid htg.s
  have hwl := Lib.hid (tw_len htg.w)
  clear htg htb
  go_wp2_with fail
  refine (nNormal_any y x z _ _ _ S l F W m _ hsh.out hwl.out (hSh.out.below B1) hmF hcFh.out hnFh.out hcWh.out hnWh.out (hFh.out.below B1).2.2 (hWh.out.below B1).2.2).mono ?_
  rintro e w2 ⟨x2, d2, z2, e2, rfl, ho2, hb2⟩
  have r2 := Lib.hid (r1.out.kept hb2)
  have B2 := Below.via' B1 hb2
  have hs2 := hb2.size
  replace ho2 := Lib.hid ho2
  have ya := r2.out.read 0; have yb := r2.out.read 1; have yc := r2.out.read 2; have yd := r2.out.read 3; have ye := r2.out.free 0; have yf := r2.out.free 1; have yg := r2.out.free 2; have yh := r2.out.free 3
  have yin := r2.out.inside
  clear hb2 ka1 kb1 kc1 ta1 tb1 tc1 td1 te1
  go_wp2
  refine bodyPost_ret (v := .tuple #[.agg #[.int .i64 l, .slice x2 F.length d2, .slice z2 (nwL S W).length e2, .int .i64 m], .bool true]) (by simp [results, Try.results52, go_sem, *]) rfl ?_
  rw [ntR_yes htbh.out]
  refine ⟨_, _, _, _, ret_t (by rw [htbh.out]), OwY.more (lo := w1.heap.size) (hi := w2.heap.size) ?_ (by omega) (by simp), (by repeat (first | exact Below.refl _ _ | assumption | refine Below.drew ?_ | refine below_drewN ?_ _ | refine Below.alloc' ?_ _ | (refine Below.setCell ?_ (by first | omega | (simp; done) | (simp; omega) | exact Below.size (by assumption) | exact Nat.le_trans (Below.size (by assumption)) (by simp)) _) | (refine Below.via' ?_ (by assumption)) | (refine Below.alloc ?_ (by first | omega | (simp; done) | (simp; omega) | exact Below.size (by assumption) | exact Nat.le_trans (Below.size (by assumption)) (by simp)) _) | (refine Below.via ?_ (by assumption) (by first | omega | (simp; done) | (simp; omega) | exact Below.size (by assumption) | exact Nat.le_trans (Below.size (by assumption)) (by simp)))))⟩
  repeat (refine OwY.set ?_ _ _ (by show w.heap.size + 1 + 1 < w1.heap.size; omega))
  exact ho2.out
end Go.Proofs.Ytgkaalonmkcclaa

namespace Go.Proofs.Ytgkaalonmkcclaa
open Go.RowKit
set_option maxRecDepth 100000

theorem drew_sizeT (w : World) : w.drew.heap.size = w.heap.size := rfl
section
variable {P : List Int} {S : List (ByteArray × Int)} {l : Int} {F W : List Int} {m : Int}
theorem ntR_lF (h : F.length ≤ 1048576) : (ntR P S l F W m).2.1.length ≤ 1048576 := by
  unfold ntR; split
  · exact h
  · simp
theorem ntR_lW (h : W.length ≤ 1048576) : (ntR P S l F W m).2.2.1.length ≤ 1048576 := by
  unfold ntR; split
  · show (nwL S W).length ≤ 1048576
    unfold nwL; rw [List.length_zipWith]; omega
  · simp
theorem ntR_iF (h : ∀ n ∈ F, IsI64 n) : Hid (∀ n ∈ (ntR P S l F W m).2.1, IsI64 n) := by
  unfold ntR Hid; split
  · exact h
  · intro n hn; cases hn
theorem ntR_iW (h : ∀ n ∈ W, IsI64 n) : Hid (∀ n ∈ (ntR P S l F W m).2.2.1, IsI64 n) := by
  unfold ntR Hid; split
  · exact nwL_i64 h
  · intro n hn; cases hn
end
theorem OwY.aside {w : World} {lo hi : Nat} {u v : Value} {F W : List Int} (h : OwY w lo hi u v F W) (p : Addr) (q : Value) (hp : p.block < lo ∨ hi ≤ p.block) : OwY (w.setCell p q) lo hi u v F W :=
  h.keep (grown_setN w p q) (fun k hk => by obtain rfl := Option.some.inj hk; exact hp)
theorem tq_of_wb {w : World} {g t : Nat} {l : Int} {x : Option Addr} {n c : Nat} {z : Option Addr} {k d : Nat} {m : Int} (h : Wb w g t #[.int .i64 l, .slice x n c, .slice z k d, .int .i64 m]) : TQ w g l x n c z k d m :=
  ⟨(h.read 0).trans rfl, (h.read 1).trans rfl, (h.read 2).trans rfl, (h.read 3).trans rfl, h.inside⟩
/-- A table's box, with its two lists. -/
def TbAt (s : Value) (R : Int × List Int × List Int × Int) (lo : Nat) (wx : World) : Prop :=
  ∃ g x c z d a b, s = .pointer (some ⟨g, 0, none⟩) ∧ TQ wx g R.1 x R.2.1.length c z R.2.2.1.length d R.2.2.2 ∧ lo ≤ g ∧ lo ≤ a ∧ b ≤ wx.heap.size ∧ (g < a ∨ b ≤ g) ∧ OwY wx a b (.slice x R.2.1.length c) (.slice z R.2.2.1.length d) R.2.1 R.2.2.1
theorem tbAt_of {w : World} {g t lo a b c d : Nat} {x z : Option Addr} {R : Int × List Int × List Int × Int} (bx : Wb w g t #[.int .i64 0, .slice none 0 0, .slice none 0 0, .int .i64 0]) (ho : OwY w a b (.slice x R.2.1.length c) (.slice z R.2.2.1.length d) R.2.1 R.2.2.1) (h1 : lo ≤ g) (h2 : lo ≤ a) (h3 : b ≤ w.heap.size) (h4 : g < a ∨ b ≤ g) :
    TbAt (.pointer (some ⟨g, 0, none⟩)) R lo ((((w.setCell ⟨g, 0, none⟩ (.int .i64 R.1)).setCell ⟨g, 1, none⟩ (.slice x R.2.1.length c)).setCell ⟨g, 2, none⟩ (.slice z R.2.2.1.length d)).setCell ⟨g, 3, none⟩ (.int .i64 R.2.2.2)) :=
  ⟨g, x, c, z, d, a, b, rfl, tq_of_wb ((((bx.put 0 _).put 1 _).put 2 _).put 3 _), h1, h2, by simpa using h3, h4, (((ho.aside _ _ h4).aside _ _ h4).aside _ _ h4).aside _ _ h4⟩
theorem tbAt_new {w : World} {lo a b c d : Nat} {x z : Option Addr} {R : Int × List Int × List Int × Int} (ho : OwY w a b (.slice x R.2.1.length c) (.slice z R.2.2.1.length d) R.2.1 R.2.2.1) (h1 : lo ≤ w.heap.size) (h2 : lo ≤ a) (h3 : b ≤ w.heap.size) :
    TbAt (.pointer (some ⟨w.heap.size, 0, none⟩)) R lo (w.alloc (.cells #[.int .i64 R.1, .slice x R.2.1.length c, .slice z R.2.2.1.length d, .int .i64 R.2.2.2] 37)) :=
  ⟨w.heap.size, x, c, z, d, a, b, rfl, tq_of_wb (Wb.new _ _ _), h1, h2, by simp; omega, Or.inr h3, ho.below (Below.alloc' (Below.refl _ _) _)⟩
theorem below_set4 {n : Nat} {w X : World} {g : Nat} {a b c d : Value} (h : Below n w X) (hg : n ≤ g) : Below n w ((((X.setCell ⟨g, 0, none⟩ a).setCell ⟨g, 1, none⟩ b).setCell ⟨g, 2, none⟩ c).setCell ⟨g, 3, none⟩ d) :=
  (((h.setCell hg _).setCell hg _).setCell hg _).setCell hg _
theorem markTableY_any (l : Int) (x z : Option Addr) (c d : Nat) (m k : Int) (F W : List Int) (lo hi : Nat) (w : World) (hk : 0 ≤ k) (hk2 : k ≤ 100000000000) (hmF : F.length ≤ 1048576) (hmW : W.length ≤ 1048576) (hown : OwY w lo hi (.slice x F.length c) (.slice z W.length d) F W) :
    Calls Try.prog 34 #[.agg #[.int .i64 l, .slice x F.length c, .slice z W.length d, .int .i64 m], .int .i64 k] w fun e w' => e = .returned (.int .i64 (k + F.length + W.length)) ∧ Rd w' x (iC (mkL k F.length)) ∧ Rd w' z (iC (mkL (k + F.length) W.length)) ∧ Off lo hi w w' := by
  obtain ⟨a, b, c0, d0, h1, h2, h3, h4, h5, hF, hW⟩ := hown
  have q1 := Lib.hid (TQ.new w l x F.length c z W.length d m 37)
  have hbA : Below w.heap.size w (w.alloc (.cells #[.int .i64 l, .slice x F.length c, .slice z W.length d, .int .i64 m] 37)) := (by repeat (first | exact Below.refl _ _ | assumption | refine Below.drew ?_ | refine below_drewN ?_ _ | refine Below.alloc' ?_ _ | (refine Below.setCell ?_ (by first | omega | (simp; done) | (simp; omega) | exact Below.size (by assumption) | exact Nat.le_trans (Below.size (by assumption)) (by simp)) _) | (refine Below.via' ?_ (by assumption)) | (refine Below.alloc ?_ (by first | omega | (simp; done) | (simp; omega) | exact Below.size (by assumption) | exact Nat.le_trans (Below.size (by assumption)) (by simp)) _) | (refine Below.via ?_ (by assumption) (by first | omega | (simp; done) | (simp; omega) | exact Below.size (by assumption) | exact Nat.le_trans (Below.size (by assumption)) (by simp)))))
  have hltF := Lib.hid hF.1.lt
  have hFh := Lib.hid (hF.below hbA)
  have hWh := Lib.hid (hW.below hbA)
  have hltW := Lib.hid hW.1.lt
  clear hF hW
  go_enter Try.func34, Try.ntmps34
  go_wp2_with fail
  refine (markIntS_any _ _ _ _ _ _ _ hk (by omega) hmF hFh.out.1).mono ?_
  rintro e w1 ⟨rfl, hmk1, hg1⟩
  have hw1 := Lib.hid (hWh.out.keep hg1 (fun k hk => by have := hFh.out.2 k hk; omega))
  have hf1 := Lib.hid (hFh.out.turn hmk1)
  obtain ⟨pa, pb, pc, pd, pe⟩ := q1.out.grown hg1 (fun e => by have := hltF.out _ e.symm; omega)
  have o1 := Lib.hid ((Off.of_below hbA).trans (Off.of_grown hg1 (fun k hk => (by have := hFh.out.2 k hk; omega : lo ≤ k ∧ k < hi))))
  clear hg1 hmk1
  go_wp2_with fail
  refine (markIntS_any _ _ _ _ _ _ _ (by omega) (by omega) hmW hw1.out.1).mono ?_
  rintro e w2 ⟨rfl, hmk2, hg2⟩
  have hf2 := Lib.hid (hf1.out.keep hg2 (fun k hk => by have := hw1.out.2 k hk; omega))
  have hw2 := Lib.hid (hw1.out.turn hmk2)
  have o2 := Lib.hid (o1.out.trans (Off.of_grown hg2 (fun k hk => (by have := hw1.out.2 k hk; omega : lo ≤ k ∧ k < hi))))
  clear hg2 hmk2
  go_wp2
  go_ret
  exact ⟨rfl, hf2.out.rd, hw2.out.rd, o2.out⟩
theorem heldTable_any (l : Int) (x z : Option Addr) (n c n2 d : Nat) (m k : Int) (w : World) (hk : 0 ≤ k) (hk2 : k ≤ 100000000000) (hn : n ≤ 1048576) (hn2 : n2 ≤ 1048576) (hx : Rd w x (iC (mkL k n))) (hz : Rd w z (iC (mkL (k + n) n2))) :
    Calls Try.prog 54 #[.agg #[.int .i64 l, .slice x n c, .slice z n2 d, .int .i64 m], .int .i64 k] w fun e w' => e = .returned (.int .i64 (k + n + n2)) ∧ Below w.heap.size w w' := by
  have q1 := Lib.hid (TQ.new w l x n c z n2 d m 37)
  have hbA : Below w.heap.size w (w.alloc (.cells #[.int .i64 l, .slice x n c, .slice z n2 d, .int .i64 m] 37)) := (by repeat (first | exact Below.refl _ _ | assumption | refine Below.drew ?_ | refine below_drewN ?_ _ | refine Below.alloc' ?_ _ | (refine Below.setCell ?_ (by first | omega | (simp; done) | (simp; omega) | exact Below.size (by assumption) | exact Nat.le_trans (Below.size (by assumption)) (by simp)) _) | (refine Below.via' ?_ (by assumption)) | (refine Below.alloc ?_ (by first | omega | (simp; done) | (simp; omega) | exact Below.size (by assumption) | exact Nat.le_trans (Below.size (by assumption)) (by simp)) _) | (refine Below.via ?_ (by assumption) (by first | omega | (simp; done) | (simp; omega) | exact Below.size (by assumption) | exact Nat.le_trans (Below.size (by assumption)) (by simp)))))
  have hxh := Lib.hid (hx.below hbA)
  have hzh := Lib.hid (hz.below hbA)
  have g1 : ¬ (k + n < 0) := by omega
  have g2 : ¬ (k + n + n2 < 0) := by omega
  clear hx hz
  obtain ⟨pa, pb, pc, pd, pe⟩ := q1.out
  go_enter Try.func54, Try.ntmps54
  go_wp2_with fail
  refine (heldIntS_any _ _ _ _ _ hk (by omega) hn hxh.out).mono ?_
  rintro e w1 ⟨rfl, rfl⟩
  go_wp2_with fail
  refine (heldIntS_any _ _ _ _ _ (by omega) (by omega) hn2 hzh.out).mono ?_
  rintro e w2 ⟨rfl, rfl⟩
  go_wp2
  go_ret
  exact ⟨rfl, (by repeat (first | exact Below.refl _ _ | assumption | refine Below.drew ?_ | refine below_drewN ?_ _ | refine Below.alloc' ?_ _ | (refine Below.setCell ?_ (by first | omega | (simp; done) | (simp; omega) | exact Below.size (by assumption) | exact Nat.le_trans (Below.size (by assumption)) (by simp)) _) | (refine Below.via' ?_ (by assumption)) | (refine Below.alloc ?_ (by first | omega | (simp; done) | (simp; omega) | exact Below.size (by assumption) | exact Nat.le_trans (Below.size (by assumption)) (by simp)) _) | (refine Below.via ?_ (by assumption) (by first | omega | (simp; done) | (simp; omega) | exact Below.size (by assumption) | exact Nat.le_trans (Below.size (by assumption)) (by simp)))))⟩
end Go.Proofs.Ytgkaalonmkcclaa
