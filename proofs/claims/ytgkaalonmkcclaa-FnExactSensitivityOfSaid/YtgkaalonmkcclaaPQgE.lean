import Derived.Test.YtgkaalonmkcclaaPQgD
import Derived.Deep.DeepCutAuto
import Derived.Test.YtgkaalonmkcclaaShelf
namespace Go.Proofs.Ytgkaalonmkcclaa
open Go.RowKit
set_option maxRecDepth 100000

/-- What gridOf gives. -/
def GdPost (p x z : Option Addr) (c c2 c3 : Nat) (P : List Int) (S : List (ByteArray × Int)) (l : Int) (F W : List Int) (m : Int) (w : World) (e : Ending) (w' : World) : Prop :=
  Below w.heap.size w w' ∧ ((¬ TgP P S l F W m ∧ e = .returned (.tuple #[.agg #[.slice none 0 0, .int .i64 0, .slice none 0 0, .slice none 0 0, .int .i64 0, .slice none 0 0, .slice none 0 0], .bool false])) ∨
    (TgP P S l F W m ∧ ∃ ga ca va, e = .returned (.tuple #[.agg #[.slice p P.length c, .int .i64 l, .slice x F.length c2, .slice z W.length c3, .int .i64 m, .slice ga (lvL P l).length ca, .slice (some ⟨va, 0, none⟩) (tbS S F).length (tbS S F).length], .bool true]) ∧
      IIn w' ga (lvL P l) ∧ Rd w' (some ⟨va, 0, none⟩) (vC (tbS S F)) ∧ va < w'.heap.size))
set_option maxHeartbeats 16000000 in
theorem gridOf_any (p y x z : Option Addr) (c c1 c2 c3 : Nat) (P : List Int) (S : List (ByteArray × Int)) (l m : Int) (F W : List Int) (w : World) (hP : IIn w p P) (hS : SIn w y c1 S) (hT : TIn w x z F W) :
    Calls Try.prog 68 #[.agg #[.slice p P.length c], .slice y S.length c1, .agg #[.int .i64 l, .slice x F.length c2, .slice z W.length c3, .int .i64 m]] w (GdPost p x z c c2 c3 P S l F W m w) := by
  have hm := hS.1
  have hPh := Lib.hid hP
  have hSh := Lib.hid hS
  have hFh := Lib.hid hT.1
  have hWh := Lib.hid hT.2
  clear hP hS hT
  have p1 := Lib.hid (QB.new w p P.length c 33)
  have p2 := Lib.hid (TQ.new (w.alloc (.cells #[.slice p P.length c] 33)) l x F.length c2 z W.length c3 m 37)
  have p3 := Lib.hid (Wb.new ((w.alloc (.cells #[.slice p P.length c] 33)).alloc (.cells #[.int .i64 l, .slice x F.length c2, .slice z W.length c3, .int .i64 m] 37)) 91 #[.slice none 0 0, .int .i64 0, .slice none 0 0, .slice none 0 0, .int .i64 0, .slice none 0 0, .slice none 0 0])
  obtain ⟨w0, hw0⟩ : ∃ w0, w0 = ((w.alloc (.cells #[.slice p P.length c] 33)).alloc (.cells #[.int .i64 l, .slice x F.length c2, .slice z W.length c3, .int .i64 m] 37)).alloc (.cells #[.slice none 0 0, .int .i64 0, .slice none 0 0, .slice none 0 0, .int .i64 0, .slice none 0 0, .slice none 0 0] 91) := ⟨_, rfl⟩
  have B0 : Below w.heap.size w w0 := by rw [hw0]; exact (by repeat (first | exact Below.refl _ _ | assumption | refine Below.drew ?_ | refine below_drewN ?_ _ | refine Below.alloc' ?_ _ | (refine Below.setCell ?_ (by first | omega | (simp; done) | (simp; omega) | exact Below.size (by assumption) | exact Nat.le_trans (Below.size (by assumption)) (by simp)) _) | (refine Below.via' ?_ (by assumption)) | (refine Below.alloc ?_ (by first | omega | (simp; done) | (simp; omega) | exact Below.size (by assumption) | exact Nat.le_trans (Below.size (by assumption)) (by simp)) _) | (refine Below.via ?_ (by assumption) (by first | omega | (simp; done) | (simp; omega) | exact Below.size (by assumption) | exact Nat.le_trans (Below.size (by assumption)) (by simp)))))
  have g0 : Hid (QB w0 w.heap.size p P.length c) := by
    rw [hw0]
    exact p1.out.below (show Below (w.alloc (.cells #[.slice p P.length c] 33)).heap.size (w.alloc (.cells #[.slice p P.length c] 33)) _ from (by repeat (first | exact Below.refl _ _ | assumption | refine Below.drew ?_ | refine below_drewN ?_ _ | refine Below.alloc' ?_ _ | (refine Below.setCell ?_ (by first | omega | (simp; done) | (simp; omega) | exact Below.size (by assumption) | exact Nat.le_trans (Below.size (by assumption)) (by simp)) _) | (refine Below.via' ?_ (by assumption)) | (refine Below.alloc ?_ (by first | omega | (simp; done) | (simp; omega) | exact Below.size (by assumption) | exact Nat.le_trans (Below.size (by assumption)) (by simp)) _) | (refine Below.via ?_ (by assumption) (by first | omega | (simp; done) | (simp; omega) | exact Below.size (by assumption) | exact Nat.le_trans (Below.size (by assumption)) (by simp))))))
  have t0 : Hid (TQ w0 (w.heap.size + 1) l x F.length c2 z W.length c3 m) := by
    rw [hw0]
    have h0 := p2.out.below (show Below ((w.alloc (.cells #[.slice p P.length c] 33)).alloc (.cells #[.int .i64 l, .slice x F.length c2, .slice z W.length c3, .int .i64 m] 37)).heap.size ((w.alloc (.cells #[.slice p P.length c] 33)).alloc (.cells #[.int .i64 l, .slice x F.length c2, .slice z W.length c3, .int .i64 m] 37)) (((w.alloc (.cells #[.slice p P.length c] 33)).alloc (.cells #[.int .i64 l, .slice x F.length c2, .slice z W.length c3, .int .i64 m] 37)).alloc (.cells #[.slice none 0 0, .int .i64 0, .slice none 0 0, .slice none 0 0, .int .i64 0, .slice none 0 0, .slice none 0 0] 91)) from (by repeat (first | exact Below.refl _ _ | assumption | refine Below.drew ?_ | refine below_drewN ?_ _ | refine Below.alloc' ?_ _ | (refine Below.setCell ?_ (by first | omega | (simp; done) | (simp; omega) | exact Below.size (by assumption) | exact Nat.le_trans (Below.size (by assumption)) (by simp)) _) | (refine Below.via' ?_ (by assumption)) | (refine Below.alloc ?_ (by first | omega | (simp; done) | (simp; omega) | exact Below.size (by assumption) | exact Nat.le_trans (Below.size (by assumption)) (by simp)) _) | (refine Below.via ?_ (by assumption) (by first | omega | (simp; done) | (simp; omega) | exact Below.size (by assumption) | exact Nat.le_trans (Below.size (by assumption)) (by simp))))))
    rw [World.size_alloc] at h0
    exact h0
  have r0 : Hid (Wb w0 (w.heap.size + 1 + 1) 91 #[.slice none 0 0, .int .i64 0, .slice none 0 0, .slice none 0 0, .int .i64 0, .slice none 0 0, .slice none 0 0]) := by
    have h0 := p3.out
    rw [World.size_alloc, World.size_alloc, ← hw0] at h0
    exact h0
  have z0 : w0.heap.size = w.heap.size + 1 + 1 + 1 := by rw [hw0]; simp
  clear p1 p2 p3
  go_enter Try.func68, Try.ntmps68
  go_wp2_with fail
  rw [← hw0]
  replace hw0 := Lib.hid hw0
  have z0h := Lib.hid z0
  refine (iGeo_any _ _ P _ (hPh.out.below B0)).mono ?_
  rintro e w1 ⟨rfl, hb1⟩
  have s1 : w.heap.size + 1 + 1 < w1.heap.size := by have := hb1.size; omega
  clear z0
  have B1 : Below w.heap.size w w1 := Below.via' B0 hb1
  have g1 := Lib.hid (g0.out.below hb1)
  have t1 := Lib.hid (t0.out.below hb1)
  have r1 := Lib.hid (r0.out.kept hb1)
  obtain ⟨ka1, kb1, kc1⟩ := g1.out
  obtain ⟨ta1, tb1, tc1, td1, te1⟩ := t1.out
  have y1_0 := (r1.out.read 0).trans rfl
  have y1_1 := (r1.out.read 1).trans rfl
  have y1_2 := (r1.out.read 2).trans rfl
  have y1_3 := (r1.out.read 3).trans rfl
  have y1_4 := (r1.out.read 4).trans rfl
  have y1_5 := (r1.out.read 5).trans rfl
  have y1_6 := (r1.out.read 6).trans rfl
  have v1_0 := r1.out.free 0
  have v1_1 := r1.out.free 1
  have v1_2 := r1.out.free 2
  have v1_3 := r1.out.free 3
  have v1_4 := r1.out.free 4
  have v1_5 := r1.out.free 5
  have v1_6 := r1.out.free 6
  try clear ka0 kb0 kc0 ta0 tb0 tc0 td0 te0 y0_0 y0_1 y0_2 y0_3 y0_4 y0_5 y0_6 v0_0 v0_1 v0_2 v0_3 v0_4 v0_5 v0_6
  clear hb1
  cases hg : geB P
  · skip
    go_wp2
    refine bodyPost_ret (v := .tuple #[.agg #[.slice none 0 0, .int .i64 0, .slice none 0 0, .slice none 0 0, .int .i64 0, .slice none 0 0, .slice none 0 0], .bool false]) (by simp [results, Try.results68, go_sem, *]) rfl ⟨?_, Or.inl ⟨fun h => ?_, rfl⟩⟩
    · repeat (refine Below.setCell ?_ (by simp; try omega) _)
      exact B1
    · rw [h.g] at hg; cases hg
  have hgh := Lib.hid hg
  clear hg
  go_wp2_with fail
  refine (isSch_x _ _ _ _ (hSh.out.below B1)).mono ?_
  rintro e w2 ⟨rfl, hb2⟩
  have s2 : w.heap.size + 1 + 1 < w2.heap.size := Nat.lt_of_lt_of_le s1 hb2.size
  clear s1
  have B2 : Below w.heap.size w w2 := Below.via' B1 hb2
  have g2 := Lib.hid (g1.out.below hb2)
  have t2 := Lib.hid (t1.out.below hb2)
  have r2 := Lib.hid (r1.out.kept hb2)
  obtain ⟨ka2, kb2, kc2⟩ := g2.out
  obtain ⟨ta2, tb2, tc2, td2, te2⟩ := t2.out
  have y2_0 := (r2.out.read 0).trans rfl
  have y2_1 := (r2.out.read 1).trans rfl
  have y2_2 := (r2.out.read 2).trans rfl
  have y2_3 := (r2.out.read 3).trans rfl
  have y2_4 := (r2.out.read 4).trans rfl
  have y2_5 := (r2.out.read 5).trans rfl
  have y2_6 := (r2.out.read 6).trans rfl
  have v2_0 := r2.out.free 0
  have v2_1 := r2.out.free 1
  have v2_2 := r2.out.free 2
  have v2_3 := r2.out.free 3
  have v2_4 := r2.out.free 4
  have v2_5 := r2.out.free 5
  have v2_6 := r2.out.free 6
  try clear ka1 kb1 kc1 ta1 tb1 tc1 td1 te1 y1_0 y1_1 y1_2 y1_3 y1_4 y1_5 y1_6 v1_0 v1_1 v1_2 v1_3 v1_4 v1_5 v1_6
  clear hb2
  cases hs : schB S
  · skip
    go_wp2
    refine bodyPost_ret (v := .tuple #[.agg #[.slice none 0 0, .int .i64 0, .slice none 0 0, .slice none 0 0, .int .i64 0, .slice none 0 0, .slice none 0 0], .bool false]) (by simp [results, Try.results68, go_sem, *]) rfl ⟨?_, Or.inl ⟨fun h => ?_, rfl⟩⟩
    · repeat (refine Below.setCell ?_ (by simp; try omega) _)
      exact B2
    · rw [h.s] at hs; cases hs
  have hsh := Lib.hid hs
  have h6 := (schB_len hs).2
  clear hs
  go_wp2_with fail
  refine (areVariablesOf_any _ _ _ _ S F _ hm (hFh.out.below B2)).mono ?_
  rintro e w3 ⟨rfl, rfl⟩
  cases hr : rsB S F
  · skip
    go_wp2
    refine bodyPost_ret (v := .tuple #[.agg #[.slice none 0 0, .int .i64 0, .slice none 0 0, .slice none 0 0, .int .i64 0, .slice none 0 0, .slice none 0 0], .bool false]) (by simp [results, Try.results68, go_sem, *]) rfl ⟨?_, Or.inl ⟨fun h => ?_, rfl⟩⟩
    · repeat (refine Below.setCell ?_ (by simp; try omega) _)
      exact B2
    · rw [h.r] at hr; cases hr
  have hrh := Lib.hid hr
  clear hr
  go_wp2_with fail
  refine (areCond_any _ _ _ _ S W _ hsh.out hm (hSh.out.rd.below B2) (hWh.out.below B2)).mono ?_
  rintro e w4 ⟨rfl, hb4⟩
  have s4 : w.heap.size + 1 + 1 < w4.heap.size := Nat.lt_of_lt_of_le s2 hb4.size
  clear s2
  have B4 : Below w.heap.size w w4 := Below.via' B2 hb4
  have g4 := Lib.hid (g2.out.below hb4)
  have t4 := Lib.hid (t2.out.below hb4)
  have r4 := Lib.hid (r2.out.kept hb4)
  obtain ⟨ka4, kb4, kc4⟩ := g4.out
  obtain ⟨ta4, tb4, tc4, td4, te4⟩ := t4.out
  have y4_0 := (r4.out.read 0).trans rfl
  have y4_1 := (r4.out.read 1).trans rfl
  have y4_2 := (r4.out.read 2).trans rfl
  have y4_3 := (r4.out.read 3).trans rfl
  have y4_4 := (r4.out.read 4).trans rfl
  have y4_5 := (r4.out.read 5).trans rfl
  have y4_6 := (r4.out.read 6).trans rfl
  have v4_0 := r4.out.free 0
  have v4_1 := r4.out.free 1
  have v4_2 := r4.out.free 2
  have v4_3 := r4.out.free 3
  have v4_4 := r4.out.free 4
  have v4_5 := r4.out.free 5
  have v4_6 := r4.out.free 6
  try clear ka2 kb2 kc2 ta2 tb2 tc2 td2 te2 y2_0 y2_1 y2_2 y2_3 y2_4 y2_5 y2_6 v2_0 v2_1 v2_2 v2_3 v2_4 v2_5 v2_6
  clear hb4
  cases hw : twB S W
  · skip
    go_wp2
    refine bodyPost_ret (v := .tuple #[.agg #[.slice none 0 0, .int .i64 0, .slice none 0 0, .slice none 0 0, .int .i64 0, .slice none 0 0, .slice none 0 0], .bool false]) (by simp [results, Try.results68, go_sem, *]) rfl ⟨?_, Or.inl ⟨fun h => ?_, rfl⟩⟩
    · repeat (refine Below.setCell ?_ (by simp; try omega) _)
      exact B4
    · rw [h.w] at hw; cases hw
  have hwh := Lib.hid hw
  clear hw
  by_cases hm0 : m < -1
  · skip
    go_wp2
    refine bodyPost_ret (v := .tuple #[.agg #[.slice none 0 0, .int .i64 0, .slice none 0 0, .slice none 0 0, .int .i64 0, .slice none 0 0, .slice none 0 0], .bool false]) (by simp [results, Try.results68, go_sem, *]) rfl ⟨?_, Or.inl ⟨fun h => ?_, rfl⟩⟩
    · repeat (refine Below.setCell ?_ (by simp; try omega) _)
      exact B4
    · have := h.m0; omega
  by_cases hm1 : (S.length : Int) ≤ m
  · skip
    go_wp2
    refine bodyPost_ret (v := .tuple #[.agg #[.slice none 0 0, .int .i64 0, .slice none 0 0, .slice none 0 0, .int .i64 0, .slice none 0 0, .slice none 0 0], .bool false]) (by simp [results, Try.results68, go_sem, *]) rfl ⟨?_, Or.inl ⟨fun h => ?_, rfl⟩⟩
    · repeat (refine Below.setCell ?_ (by simp; try omega) _)
      exact B4
    · have := h.m1; omega
  have hip := Lib.hid (inP_of hsh.out hrh.out rfl)
  have hpt := Lib.hid (tbS_ok hsh.out hrh.out)
  have hl30 := (ge_len hgh.out).2
  have hlv := Lib.hid (lv_aw P l)
  have s4a : w.heap.size < w4.heap.size := by omega
  have s4b : w.heap.size + 1 < w4.heap.size := by omega
  go_upto_region 5 with fail
  go_cut [8] (fun s8 wx => ∃ g ga ca va, s8 = .pointer (some ⟨g, 0, none⟩) ∧ G7 wx g (.slice p P.length c) (.int .i64 l) (.slice x F.length c2) (.slice z W.length c3) (.int .i64 m) (.slice ga (lvL P l).length ca) (.slice (some ⟨va, 0, none⟩) (tbS S F).length (tbS S F).length) ∧ Rd wx ga (iC (lvL P l)) ∧ Rd wx (some ⟨va, 0, none⟩) (vC (tbS S F)) ∧ va < wx.heap.size ∧ (∀ k off, ga = some ⟨k, off, none⟩ → w4.heap.size ≤ k) ∧ w4.heap.size ≤ va ∧ Below w4.heap.size w4 wx)
  case first =>
      clear y4_0 y4_1 y4_2 y4_3 y4_4 y4_5 y4_6 v4_0 v4_1 v4_2 v4_3 v4_4 v4_5 v4_6 hm0 hm1 kb4 kc4 h6
      refine wp_region_held_drew (S := fun X => Below w4.heap.size w4 X) (by kernel_rfl) (Below.drew (Below.refl _ _)) (fun hH => ?_)
      refine wpAnyH_take (i := 0) (v := ?_) rfl (by kernel_rfl) (by kernel_rfl) (by kernel_rfl) (fun _ _ _ h => h) (Or.inl ⟨by rfl, ?_⟩) (by assumption) ?_; rotate_left; · (intro wz hz; (have f0 := (hz.cell (p := ⟨w.heap.size, 0, none⟩) s4a).trans ka4; have f1 := (hz.cell (p := ⟨w.heap.size + 1, 0, none⟩) s4b).trans ta4; have f2 := (hz.cell (p := ⟨w.heap.size + 1, 1, none⟩) s4b).trans tb4; have f3 := (hz.cell (p := ⟨w.heap.size + 1, 2, none⟩) s4b).trans tc4; have f4 := (hz.cell (p := ⟨w.heap.size + 1, 3, none⟩) s4b).trans td4); clear hz; go_simp; try with_reducible rfl); (try simp only [Act.put, List.getElem_toArray, List.getElem_cons_succ, List.getElem_cons_zero, List.setIfInBounds_toArray, List.set_cons_zero, List.set_cons_succ])
      refine wpAnyH_take (i := 1) (v := ?_) rfl (by kernel_rfl) (by kernel_rfl) (by kernel_rfl) (fun _ _ _ h => h) (Or.inl ⟨by rfl, ?_⟩) (by assumption) ?_; rotate_left; · (intro wz hz; (have f0 := (hz.cell (p := ⟨w.heap.size, 0, none⟩) s4a).trans ka4; have f1 := (hz.cell (p := ⟨w.heap.size + 1, 0, none⟩) s4b).trans ta4; have f2 := (hz.cell (p := ⟨w.heap.size + 1, 1, none⟩) s4b).trans tb4; have f3 := (hz.cell (p := ⟨w.heap.size + 1, 2, none⟩) s4b).trans tc4; have f4 := (hz.cell (p := ⟨w.heap.size + 1, 3, none⟩) s4b).trans td4); clear hz; go_simp; try with_reducible rfl); (try simp only [Act.put, List.getElem_toArray, List.getElem_cons_succ, List.getElem_cons_zero, List.setIfInBounds_toArray, List.set_cons_zero, List.set_cons_succ])
      refine wpAnyH_take (i := 2) (v := ?_) rfl (by kernel_rfl) (by kernel_rfl) (by kernel_rfl) (fun _ _ _ h => h) (Or.inl ⟨by rfl, ?_⟩) (by assumption) ?_; rotate_left; · (intro wz hz; (have f0 := (hz.cell (p := ⟨w.heap.size, 0, none⟩) s4a).trans ka4; have f1 := (hz.cell (p := ⟨w.heap.size + 1, 0, none⟩) s4b).trans ta4; have f2 := (hz.cell (p := ⟨w.heap.size + 1, 1, none⟩) s4b).trans tb4; have f3 := (hz.cell (p := ⟨w.heap.size + 1, 2, none⟩) s4b).trans tc4; have f4 := (hz.cell (p := ⟨w.heap.size + 1, 3, none⟩) s4b).trans td4); clear hz; go_simp; try with_reducible rfl); (try simp only [Act.put, List.getElem_toArray, List.getElem_cons_succ, List.getElem_cons_zero, List.setIfInBounds_toArray, List.set_cons_zero, List.set_cons_succ])
      refine wpAnyH_take (i := 4) (v := ?_) rfl (by kernel_rfl) (by kernel_rfl) (by kernel_rfl) (fun _ _ _ h => h) (Or.inl ⟨by rfl, ?_⟩) (by assumption) ?_; rotate_left; · (intro wz hz; (have f0 := (hz.cell (p := ⟨w.heap.size, 0, none⟩) s4a).trans ka4; have f1 := (hz.cell (p := ⟨w.heap.size + 1, 0, none⟩) s4b).trans ta4; have f2 := (hz.cell (p := ⟨w.heap.size + 1, 1, none⟩) s4b).trans tb4; have f3 := (hz.cell (p := ⟨w.heap.size + 1, 2, none⟩) s4b).trans tc4; have f4 := (hz.cell (p := ⟨w.heap.size + 1, 3, none⟩) s4b).trans td4); clear hz; go_simp; try with_reducible rfl); (try simp only [Act.put, List.getElem_toArray, List.getElem_cons_succ, List.getElem_cons_zero, List.setIfInBounds_toArray, List.set_cons_zero, List.set_cons_succ])
      refine wpAnyH_take (i := 5) (v := ?_) rfl (by kernel_rfl) (by kernel_rfl) (by kernel_rfl) (fun _ _ _ h => h) (Or.inl ⟨by rfl, ?_⟩) (by assumption) ?_; rotate_left; · (intro wz hz; (have f0 := (hz.cell (p := ⟨w.heap.size, 0, none⟩) s4a).trans ka4; have f1 := (hz.cell (p := ⟨w.heap.size + 1, 0, none⟩) s4b).trans ta4; have f2 := (hz.cell (p := ⟨w.heap.size + 1, 1, none⟩) s4b).trans tb4; have f3 := (hz.cell (p := ⟨w.heap.size + 1, 2, none⟩) s4b).trans tc4; have f4 := (hz.cell (p := ⟨w.heap.size + 1, 3, none⟩) s4b).trans td4); clear hz; go_simp; try with_reducible rfl); (try simp only [Act.put, List.getElem_toArray, List.getElem_cons_succ, List.getElem_cons_zero, List.setIfInBounds_toArray, List.set_cons_zero, List.set_cons_succ])
      refine wpAnyH_take (i := 7) (v := ?_) rfl (by kernel_rfl) (by kernel_rfl) (by kernel_rfl) (fun _ _ _ h => h) (Or.inl ⟨by rfl, ?_⟩) (by assumption) ?_; rotate_left; · (intro wz hz; (have f0 := (hz.cell (p := ⟨w.heap.size, 0, none⟩) s4a).trans ka4; have f1 := (hz.cell (p := ⟨w.heap.size + 1, 0, none⟩) s4b).trans ta4; have f2 := (hz.cell (p := ⟨w.heap.size + 1, 1, none⟩) s4b).trans tb4; have f3 := (hz.cell (p := ⟨w.heap.size + 1, 2, none⟩) s4b).trans tc4; have f4 := (hz.cell (p := ⟨w.heap.size + 1, 3, none⟩) s4b).trans td4); clear hz; go_simp; try with_reducible rfl); (try simp only [Act.put, List.getElem_toArray, List.getElem_cons_succ, List.getElem_cons_zero, List.setIfInBounds_toArray, List.set_cons_zero, List.set_cons_succ])
      refine wpAnyH_take (i := 8) (v := ?_) rfl (by kernel_rfl) (by kernel_rfl) (by kernel_rfl) (fun _ _ _ h => h) (Or.inl ⟨by rfl, ?_⟩) (by assumption) ?_; rotate_left; · (intro wz hz; (have f0 := (hz.cell (p := ⟨w.heap.size, 0, none⟩) s4a).trans ka4; have f1 := (hz.cell (p := ⟨w.heap.size + 1, 0, none⟩) s4b).trans ta4; have f2 := (hz.cell (p := ⟨w.heap.size + 1, 1, none⟩) s4b).trans tb4; have f3 := (hz.cell (p := ⟨w.heap.size + 1, 2, none⟩) s4b).trans tc4; have f4 := (hz.cell (p := ⟨w.heap.size + 1, 3, none⟩) s4b).trans td4); clear hz; go_simp; try with_reducible rfl); (try simp only [Act.put, List.getElem_toArray, List.getElem_cons_succ, List.getElem_cons_zero, List.setIfInBounds_toArray, List.set_cons_zero, List.set_cons_succ])
      refine wpAnyH_take (i := 9) (v := ?_) rfl (by kernel_rfl) (by kernel_rfl) (by kernel_rfl) (fun _ _ _ h => h) (Or.inl ⟨by rfl, ?_⟩) (by assumption) ?_; rotate_left; · (intro wz hz; (have f0 := (hz.cell (p := ⟨w.heap.size, 0, none⟩) s4a).trans ka4; have f1 := (hz.cell (p := ⟨w.heap.size + 1, 0, none⟩) s4b).trans ta4; have f2 := (hz.cell (p := ⟨w.heap.size + 1, 1, none⟩) s4b).trans tb4; have f3 := (hz.cell (p := ⟨w.heap.size + 1, 2, none⟩) s4b).trans tc4; have f4 := (hz.cell (p := ⟨w.heap.size + 1, 3, none⟩) s4b).trans td4); clear hz; go_simp; try with_reducible rfl); (try simp only [Act.put, List.getElem_toArray, List.getElem_cons_succ, List.getElem_cons_zero, List.setIfInBounds_toArray, List.set_cons_zero, List.set_cons_succ])
      refine wpAnyH_ready (rs := [3, 12]) (by kernel_rfl) (by simp) (AllReadyH.cons rfl (fun K hK => ?_) (AllReadyH.cons rfl (fun K hK => ?_) AllReadyH.nil))
      go_simp
      refine (depthsOf_any _ _ P _ hgh.out (hPh.out.below (Below.via' B4 hH))).mono ?_
      rintro e w5 ⟨v5, rfl, ho5, hb5⟩
      obtain ⟨x5, n5, rfl, -, -⟩ := (OwR.of ho5).form
      have hr5 := Lib.hid (Rd.of_own ho5)
      refine hK.out _ _ (Below.via' hH hb5) (fun h5 => ?_)
      clear hK K ho5
      (try simp only [Act.put, List.getElem_toArray, List.getElem_cons_succ, List.getElem_cons_zero, List.setIfInBounds_toArray, List.set_cons_zero, List.set_cons_succ])
      refine wpAnyH_ready (rs := [6, 12]) (by kernel_rfl) (by simp) (AllReadyH.cons rfl (fun K hK => ?_) (AllReadyH.cons rfl (fun K hK => ?_) AllReadyH.nil))
      go_simp
      refine (areasWith_any x5 n5 (dpL P) l _ (by rw [dpL_len]; omega) (hr5.out.below (by exact (by repeat (first | exact Below.refl _ _ | assumption | refine Below.drew ?_ | refine below_drewN ?_ _ | refine Below.alloc' ?_ _ | (refine Below.setCell ?_ (by first | omega | (simp; done) | (simp; omega) | exact Below.size (by assumption) | exact Nat.le_trans (Below.size (by assumption)) (by simp)) _) | (refine Below.via' ?_ (by assumption)) | (refine Below.alloc ?_ (by first | omega | (simp; done) | (simp; omega) | exact Below.size (by assumption) | exact Nat.le_trans (Below.size (by assumption)) (by simp)) _) | (refine Below.via ?_ (by assumption) (by first | omega | (simp; done) | (simp; omega) | exact Below.size (by assumption) | exact Nat.le_trans (Below.size (by assumption)) (by simp)))))))).mono ?_
      rintro e w6 ⟨v6, rfl, ho6, hb6⟩
      rw [hlv.out] at ho6
      (try simp only [World.size_alloc] at ho6)
      obtain ⟨x6, n6, rfl, -, -⟩ := (OwR.of ho6).form
      have hA6 := Lib.hid (OwR.of ho6)
      refine hK.out _ _ (Below.via' h5 hb6) (fun h6 => ?_)
      clear hK K ho6
      (try simp only [Act.put, List.getElem_toArray, List.getElem_cons_succ, List.getElem_cons_zero, List.setIfInBounds_toArray, List.set_cons_zero, List.set_cons_succ])
      refine wpAnyH_ready (rs := [10, 12]) (by kernel_rfl) (by simp) (AllReadyH.cons rfl (fun K hK => ?_) (AllReadyH.cons rfl (fun K hK => ?_) AllReadyH.nil))
      go_simp
      refine (elemsV_any _ _ _ _ S F _ hip.out (hSh.out.rd.below (Below.via' B4 h6)) (hFh.out.2.2.below (Below.via' B4 h6))).mono ?_
      rintro e w7 ⟨rfl, ho7, hb7⟩
      (try simp only [World.size_alloc] at ho7)
      have hV7 := Lib.hid (OwR.of ho7)
      have hl7 := (hV7.out.2 _ rfl).2
      refine hK.out _ _ (Below.via' h6 hb7) (fun h7 => ?_)
      clear hK K ho7
      (try simp only [Act.put, List.getElem_toArray, List.getElem_cons_succ, List.getElem_cons_zero, List.setIfInBounds_toArray, List.set_cons_zero, List.set_cons_succ])
      refine wpAnyH_take (i := 11) (v := ?_) rfl (by kernel_rfl) (by kernel_rfl) (by kernel_rfl) (fun _ _ _ h => h) (Or.inl ⟨by rfl, ?_⟩) (by assumption) ?_; rotate_left; · (intro wz hz; (skip); clear hz; go_simp; try with_reducible rfl); (try simp only [Act.put, List.getElem_toArray, List.getElem_cons_succ, List.getElem_cons_zero, List.setIfInBounds_toArray, List.set_cons_zero, List.set_cons_succ])
      refine wpAnyH_ready (rs := [12]) (by kernel_rfl) (by simp) (AllReadyH.cons rfl (fun K hK => ?_) AllReadyH.nil)
      go_simp
      refine hK.out _ _ (Below.alloc' h7 _) (fun h8 => ?_)
      clear hK K
      (try simp only [Act.put, List.getElem_toArray, List.getElem_cons_succ, List.getElem_cons_zero, List.setIfInBounds_toArray, List.set_cons_zero, List.set_cons_succ])
      have e7 := h7.size
      have e76 := hb7.size
      have e65 := hb6.size
      refine wpAnyH_ready (rs := [13]) (by kernel_rfl) (by simp) (AllReadyH.cons rfl (fun K hK => ?_) AllReadyH.nil)
      refine ite_go (by rfl) ?_
      refine wp_store_mid 91 (.tmp 8) (.tmp 54) rfl (w7.heap.size) 0 _ rfl rfl (there7 (Wb.new w7 91 #[.slice none 0 0, .int .i64 0, .slice none 0 0, .slice none 0 0, .int .i64 0, .slice none 0 0, .slice none 0 0]) rfl) (by kernel_rfl) (by rw [Array.all_eq_true_iff_forall_mem]; intro v hv; simp at hv; rcases hv with rfl | rfl | rfl | rfl | rfl | rfl | rfl <;> rfl) ?_
      refine hK.out _ _ (gd_end _ h8 (by omega) ((hA6.out.below hb7).below (Below.alloc' (Below.refl _ _) _)) (by (right; omega)) (hV7.out.below (Below.alloc' (Below.refl _ _) _)) (by (right; omega))).1 (fun hH9 => ?_)
      clear hK K
      refine wpAnyH_done (by kernel_rfl) ?_ _
      go_wp2_with fail
      go_meet
      refine ⟨_, x6, n6, _, rfl, (by rw [tbS_len]; exact g7_set (Wb.new w7 91 #[.slice none 0 0, .int .i64 0, .slice none 0 0, .slice none 0 0, .int .i64 0, .slice none 0 0, .slice none 0 0]) rfl _ _ _ _ _ _ _), (gd_end _ h8 (by omega) ((hA6.out.below hb7).below (Below.alloc' (Below.refl _ _) _)) (by (right; omega)) (hV7.out.below (Below.alloc' (Below.refl _ _) _)) (by (right; omega))).2.1, (gd_end _ h8 (by omega) ((hA6.out.below hb7).below (Below.alloc' (Below.refl _ _) _)) (by (right; omega)) (hV7.out.below (Below.alloc' (Below.refl _ _) _)) (by (right; omega))).2.2, Nat.lt_of_lt_of_le ?_ (setCells_size _ _ _ _), (fun k off e => by have h0 := (OwR.inr hA6.out k off e).1; have h1 := h5.size; first | omega | (simp at h0; omega)), (by have h0 := (OwR.inr hV7.out _ _ rfl).1; have h1 := h6.size; first | omega | (simp at h0; omega)), hH9⟩
      (simp; omega)
      go_simp
      refine hK.out _ _ (Below.alloc' h6 _) (fun h6b => ?_)
      clear hK K
      (try simp only [Act.put, List.getElem_toArray, List.getElem_cons_succ, List.getElem_cons_zero, List.setIfInBounds_toArray, List.set_cons_zero, List.set_cons_succ])
      refine wpAnyH_ready (rs := [10]) (by kernel_rfl) (by simp) (AllReadyH.cons rfl (fun K hK => ?_) AllReadyH.nil)
      go_simp
      refine (elemsV_any _ _ _ _ S F _ hip.out (hSh.out.rd.below (Below.via' B4 h6b)) (hFh.out.2.2.below (Below.via' B4 h6b))).mono ?_
      rintro e w7 ⟨rfl, ho7, hb7⟩
      (try simp only [World.size_alloc] at ho7)
      have hV7 := Lib.hid (OwR.of ho7)
      have hl7 := (hV7.out.2 _ rfl).2
      refine hK.out _ _ (Below.via' h6b hb7) (fun h7 => ?_)
      clear hK K ho7
      (try simp only [Act.put, List.getElem_toArray, List.getElem_cons_succ, List.getElem_cons_zero, List.setIfInBounds_toArray, List.set_cons_zero, List.set_cons_succ])
      refine wpAnyH_take (i := 11) (v := ?_) rfl (by kernel_rfl) (by kernel_rfl) (by kernel_rfl) (fun _ _ _ h => h) (Or.inl ⟨by rfl, ?_⟩) (by assumption) ?_; rotate_left; · (intro wz hz; (skip); clear hz; go_simp; try with_reducible rfl); (try simp only [Act.put, List.getElem_toArray, List.getElem_cons_succ, List.getElem_cons_zero, List.setIfInBounds_toArray, List.set_cons_zero, List.set_cons_succ])
      have e6 := h6.size
      refine wpAnyH_ready (rs := [13]) (by kernel_rfl) (by simp) (AllReadyH.cons rfl (fun K hK => ?_) AllReadyH.nil)
      refine ite_go (by rfl) ?_
      refine wp_store_mid 91 (.tmp 8) (.tmp 54) rfl (w6.heap.size) 0 _ rfl rfl (there7 ((Wb.new w6 91 #[.slice none 0 0, .int .i64 0, .slice none 0 0, .slice none 0 0, .int .i64 0, .slice none 0 0, .slice none 0 0]).kept hb7) rfl) (by kernel_rfl) (by rw [Array.all_eq_true_iff_forall_mem]; intro v hv; simp at hv; rcases hv with rfl | rfl | rfl | rfl | rfl | rfl | rfl <;> rfl) ?_
      refine hK.out _ _ (gd_end _ h7 (by omega) ((hA6.out.below (Below.alloc' (Below.refl _ _) _)).below hb7) (by (right; omega)) hV7.out (by (left; simp))).1 (fun hH9 => ?_)
      clear hK K
      refine wpAnyH_done (by kernel_rfl) ?_ _
      go_wp2_with fail
      go_meet
      refine ⟨_, x6, n6, _, rfl, (by rw [tbS_len]; exact g7_set ((Wb.new w6 91 #[.slice none 0 0, .int .i64 0, .slice none 0 0, .slice none 0 0, .int .i64 0, .slice none 0 0, .slice none 0 0]).kept hb7) rfl _ _ _ _ _ _ _), (gd_end _ h7 (by omega) ((hA6.out.below (Below.alloc' (Below.refl _ _) _)).below hb7) (by (right; omega)) hV7.out (by (left; simp))).2.1, (gd_end _ h7 (by omega) ((hA6.out.below (Below.alloc' (Below.refl _ _) _)).below hb7) (by (right; omega)) hV7.out (by (left; simp))).2.2, Nat.lt_of_lt_of_le ?_ (setCells_size _ _ _ _), (fun k off e => by have h0 := (OwR.inr hA6.out k off e).1; have h1 := h5.size; first | omega | (simp at h0; omega)), (by have h0 := (OwR.inr hV7.out _ _ rfl).1; have h1 := h6.size; first | omega | (simp at h0; omega)), hH9⟩
      exact hl7
      go_simp
      refine hK.out _ _ (Below.alloc' h5 _) (fun h5b => ?_)
      clear hK K
      (try simp only [Act.put, List.getElem_toArray, List.getElem_cons_succ, List.getElem_cons_zero, List.setIfInBounds_toArray, List.set_cons_zero, List.set_cons_succ])
      refine wpAnyH_ready (rs := [6]) (by kernel_rfl) (by simp) (AllReadyH.cons rfl (fun K hK => ?_) AllReadyH.nil)
      go_simp
      refine (areasWith_any x5 n5 (dpL P) l _ (by rw [dpL_len]; omega) (hr5.out.below (by exact (by repeat (first | exact Below.refl _ _ | assumption | refine Below.drew ?_ | refine below_drewN ?_ _ | refine Below.alloc' ?_ _ | (refine Below.setCell ?_ (by first | omega | (simp; done) | (simp; omega) | exact Below.size (by assumption) | exact Nat.le_trans (Below.size (by assumption)) (by simp)) _) | (refine Below.via' ?_ (by assumption)) | (refine Below.alloc ?_ (by first | omega | (simp; done) | (simp; omega) | exact Below.size (by assumption) | exact Nat.le_trans (Below.size (by assumption)) (by simp)) _) | (refine Below.via ?_ (by assumption) (by first | omega | (simp; done) | (simp; omega) | exact Below.size (by assumption) | exact Nat.le_trans (Below.size (by assumption)) (by simp)))))))).mono ?_
      rintro e w6 ⟨v6, rfl, ho6, hb6⟩
      rw [hlv.out] at ho6
      (try simp only [World.size_alloc] at ho6)
      obtain ⟨x6, n6, rfl, -, -⟩ := (OwR.of ho6).form
      have hA6 := Lib.hid (OwR.of ho6)
      refine hK.out _ _ (Below.via' h5b hb6) (fun h6 => ?_)
      clear hK K ho6
      (try simp only [Act.put, List.getElem_toArray, List.getElem_cons_succ, List.getElem_cons_zero, List.setIfInBounds_toArray, List.set_cons_zero, List.set_cons_succ])
      refine wpAnyH_ready (rs := [10]) (by kernel_rfl) (by simp) (AllReadyH.cons rfl (fun K hK => ?_) AllReadyH.nil)
      go_simp
      refine (elemsV_any _ _ _ _ S F _ hip.out (hSh.out.rd.below (Below.via' B4 h6)) (hFh.out.2.2.below (Below.via' B4 h6))).mono ?_
      rintro e w7 ⟨rfl, ho7, hb7⟩
      (try simp only [World.size_alloc] at ho7)
      have hV7 := Lib.hid (OwR.of ho7)
      have hl7 := (hV7.out.2 _ rfl).2
      refine hK.out _ _ (Below.via' h6 hb7) (fun h7 => ?_)
      clear hK K ho7
      (try simp only [Act.put, List.getElem_toArray, List.getElem_cons_succ, List.getElem_cons_zero, List.setIfInBounds_toArray, List.set_cons_zero, List.set_cons_succ])
      refine wpAnyH_take (i := 11) (v := ?_) rfl (by kernel_rfl) (by kernel_rfl) (by kernel_rfl) (fun _ _ _ h => h) (Or.inl ⟨by rfl, ?_⟩) (by assumption) ?_; rotate_left; · (intro wz hz; (skip); clear hz; go_simp; try with_reducible rfl); (try simp only [Act.put, List.getElem_toArray, List.getElem_cons_succ, List.getElem_cons_zero, List.setIfInBounds_toArray, List.set_cons_zero, List.set_cons_succ])
      have e5 := h5.size
      have e6 := hb6.size
      rw [World.size_alloc] at e6
      refine wpAnyH_ready (rs := [13]) (by kernel_rfl) (by simp) (AllReadyH.cons rfl (fun K hK => ?_) AllReadyH.nil)
      refine ite_go (by rfl) ?_
      refine wp_store_mid 91 (.tmp 8) (.tmp 54) rfl (w5.heap.size) 0 _ rfl rfl (there7 (((Wb.new w5 91 #[.slice none 0 0, .int .i64 0, .slice none 0 0, .slice none 0 0, .int .i64 0, .slice none 0 0, .slice none 0 0]).kept hb6).kept hb7) rfl) (by kernel_rfl) (by rw [Array.all_eq_true_iff_forall_mem]; intro v hv; simp at hv; rcases hv with rfl | rfl | rfl | rfl | rfl | rfl | rfl <;> rfl) ?_
      refine hK.out _ _ (gd_end _ h7 (by omega) (hA6.out.below hb7) (by (left; simp)) hV7.out (by (left; omega))).1 (fun hH9 => ?_)
      clear hK K
      refine wpAnyH_done (by kernel_rfl) ?_ _
      go_wp2_with fail
      go_meet
      refine ⟨_, x6, n6, _, rfl, (by rw [tbS_len]; exact g7_set (((Wb.new w5 91 #[.slice none 0 0, .int .i64 0, .slice none 0 0, .slice none 0 0, .int .i64 0, .slice none 0 0, .slice none 0 0]).kept hb6).kept hb7) rfl _ _ _ _ _ _ _), (gd_end _ h7 (by omega) (hA6.out.below hb7) (by (left; simp)) hV7.out (by (left; omega))).2.1, (gd_end _ h7 (by omega) (hA6.out.below hb7) (by (left; simp)) hV7.out (by (left; omega))).2.2, Nat.lt_of_lt_of_le ?_ (setCells_size _ _ _ _), (fun k off e => by have h0 := (OwR.inr hA6.out k off e).1; have h1 := h5.size; first | omega | (simp at h0; omega)), (by have h0 := (OwR.inr hV7.out _ _ rfl).1; have h1 := h6.size; first | omega | (simp at h0; omega)), hH9⟩
      exact hl7
      go_simp
      refine hK.out _ _ (Below.alloc' hH _) (fun h4b => ?_)
      clear hK K
      (try simp only [Act.put, List.getElem_toArray, List.getElem_cons_succ, List.getElem_cons_zero, List.setIfInBounds_toArray, List.set_cons_zero, List.set_cons_succ])
      refine wpAnyH_ready (rs := [3]) (by kernel_rfl) (by simp) (AllReadyH.cons rfl (fun K hK => ?_) AllReadyH.nil)
      go_simp
      refine (depthsOf_any _ _ P _ hgh.out (hPh.out.below (Below.via' B4 h4b))).mono ?_
      rintro e w5 ⟨v5, rfl, ho5, hb5⟩
      obtain ⟨x5, n5, rfl, -, -⟩ := (OwR.of ho5).form
      have hr5 := Lib.hid (Rd.of_own ho5)
      refine hK.out _ _ (Below.via' h4b hb5) (fun h5 => ?_)
      clear hK K ho5
      (try simp only [Act.put, List.getElem_toArray, List.getElem_cons_succ, List.getElem_cons_zero, List.setIfInBounds_toArray, List.set_cons_zero, List.set_cons_succ])
      refine wpAnyH_ready (rs := [6]) (by kernel_rfl) (by simp) (AllReadyH.cons rfl (fun K hK => ?_) AllReadyH.nil)
      go_simp
      refine (areasWith_any x5 n5 (dpL P) l _ (by rw [dpL_len]; omega) (hr5.out.below (by exact (by repeat (first | exact Below.refl _ _ | assumption | refine Below.drew ?_ | refine below_drewN ?_ _ | refine Below.alloc' ?_ _ | (refine Below.setCell ?_ (by first | omega | (simp; done) | (simp; omega) | exact Below.size (by assumption) | exact Nat.le_trans (Below.size (by assumption)) (by simp)) _) | (refine Below.via' ?_ (by assumption)) | (refine Below.alloc ?_ (by first | omega | (simp; done) | (simp; omega) | exact Below.size (by assumption) | exact Nat.le_trans (Below.size (by assumption)) (by simp)) _) | (refine Below.via ?_ (by assumption) (by first | omega | (simp; done) | (simp; omega) | exact Below.size (by assumption) | exact Nat.le_trans (Below.size (by assumption)) (by simp)))))))).mono ?_
      rintro e w6 ⟨v6, rfl, ho6, hb6⟩
      rw [hlv.out] at ho6
      (try simp only [World.size_alloc] at ho6)
      obtain ⟨x6, n6, rfl, -, -⟩ := (OwR.of ho6).form
      have hA6 := Lib.hid (OwR.of ho6)
      refine hK.out _ _ (Below.via' h5 hb6) (fun h6 => ?_)
      clear hK K ho6
      (try simp only [Act.put, List.getElem_toArray, List.getElem_cons_succ, List.getElem_cons_zero, List.setIfInBounds_toArray, List.set_cons_zero, List.set_cons_succ])
      refine wpAnyH_ready (rs := [10]) (by kernel_rfl) (by simp) (AllReadyH.cons rfl (fun K hK => ?_) AllReadyH.nil)
      go_simp
      refine (elemsV_any _ _ _ _ S F _ hip.out (hSh.out.rd.below (Below.via' B4 h6)) (hFh.out.2.2.below (Below.via' B4 h6))).mono ?_
      rintro e w7 ⟨rfl, ho7, hb7⟩
      (try simp only [World.size_alloc] at ho7)
      have hV7 := Lib.hid (OwR.of ho7)
      have hl7 := (hV7.out.2 _ rfl).2
      refine hK.out _ _ (Below.via' h6 hb7) (fun h7 => ?_)
      clear hK K ho7
      (try simp only [Act.put, List.getElem_toArray, List.getElem_cons_succ, List.getElem_cons_zero, List.setIfInBounds_toArray, List.set_cons_zero, List.set_cons_succ])
      refine wpAnyH_take (i := 11) (v := ?_) rfl (by kernel_rfl) (by kernel_rfl) (by kernel_rfl) (fun _ _ _ h => h) (Or.inl ⟨by rfl, ?_⟩) (by assumption) ?_; rotate_left; · (intro wz hz; (skip); clear hz; go_simp; try with_reducible rfl); (try simp only [Act.put, List.getElem_toArray, List.getElem_cons_succ, List.getElem_cons_zero, List.setIfInBounds_toArray, List.set_cons_zero, List.set_cons_succ])
      have gw4 : Wb (World.drew (w4.alloc (.cells #[.slice none 0 0, .int .i64 0, .slice none 0 0, .slice none 0 0, .int .i64 0, .slice none 0 0, .slice none 0 0] 91))) w4.heap.size 91 #[.slice none 0 0, .int .i64 0, .slice none 0 0, .slice none 0 0, .int .i64 0, .slice none 0 0, .slice none 0 0] := Wb.new w4 91 #[.slice none 0 0, .int .i64 0, .slice none 0 0, .slice none 0 0, .int .i64 0, .slice none 0 0, .slice none 0 0]
      have e5 : (w4.alloc (.cells #[.slice none 0 0, .int .i64 0, .slice none 0 0, .slice none 0 0, .int .i64 0, .slice none 0 0, .slice none 0 0] 91)).heap.size ≤ w5.heap.size := hb5.size
      rw [World.size_alloc] at e5
      have e6 := hb6.size
      refine wpAnyH_ready (rs := [13]) (by kernel_rfl) (by simp) (AllReadyH.cons rfl (fun K hK => ?_) AllReadyH.nil)
      refine ite_go (by rfl) ?_
      refine wp_store_mid 91 (.tmp 8) (.tmp 54) rfl (w4.heap.size) 0 _ rfl rfl (there7 (((gw4.kept hb5).kept hb6).kept hb7) rfl) (by kernel_rfl) (by rw [Array.all_eq_true_iff_forall_mem]; intro v hv; simp at hv; rcases hv with rfl | rfl | rfl | rfl | rfl | rfl | rfl <;> rfl) ?_
      refine hK.out _ _ (gd_end _ h7 (by omega) (hA6.out.below hb7) (by (left; omega)) hV7.out (by (left; omega))).1 (fun hH9 => ?_)
      clear hK K
      refine wpAnyH_done (by kernel_rfl) ?_ _
      go_wp2_with fail
      go_meet
      refine ⟨_, x6, n6, _, rfl, (by rw [tbS_len]; exact g7_set (((gw4.kept hb5).kept hb6).kept hb7) rfl _ _ _ _ _ _ _), (gd_end _ h7 (by omega) (hA6.out.below hb7) (by (left; omega)) hV7.out (by (left; omega))).2.1, (gd_end _ h7 (by omega) (hA6.out.below hb7) (by (left; omega)) hV7.out (by (left; omega))).2.2, Nat.lt_of_lt_of_le ?_ (setCells_size _ _ _ _), (fun k off e => by have h0 := (OwR.inr hA6.out k off e).1; have h1 := h5.size; first | omega | (simp at h0; omega)), (by have h0 := (OwR.inr hV7.out _ _ rfl).1; have h1 := h6.size; first | omega | (simp at h0; omega)), hH9⟩
      exact hl7
  obtain ⟨g, ga, ca, va, rfl, hG, hAr, hVr, hvl, hga, hva, hb5⟩ := hcut
  obtain ⟨w5, rfl⟩ : ∃ u : World, u = wc := ⟨_, rfl⟩
  have s5 : w.heap.size + 1 + 1 < w5.heap.size := Nat.lt_of_lt_of_le s4 hb5.size
  have hGh := Lib.hid hG
  have hAh := Lib.hid hAr
  have hVh := Lib.hid hVr
  have hgah := Lib.hid hga
  clear s4a s4b hG hAr hVr hga
  have B5 : Below w.heap.size w w5 := Below.via' B4 hb5
  have g5 := Lib.hid (g4.out.below hb5)
  have t5 := Lib.hid (t4.out.below hb5)
  have r5 := Lib.hid (r4.out.kept hb5)
  obtain ⟨ka5, kb5, kc5⟩ := g5.out
  obtain ⟨ta5, tb5, tc5, td5, te5⟩ := t5.out
  have y5_0 := (r5.out.read 0).trans rfl
  have y5_1 := (r5.out.read 1).trans rfl
  have y5_2 := (r5.out.read 2).trans rfl
  have y5_3 := (r5.out.read 3).trans rfl
  have y5_4 := (r5.out.read 4).trans rfl
  have y5_5 := (r5.out.read 5).trans rfl
  have y5_6 := (r5.out.read 6).trans rfl
  have v5_0 := r5.out.free 0
  have v5_1 := r5.out.free 1
  have v5_2 := r5.out.free 2
  have v5_3 := r5.out.free 3
  have v5_4 := r5.out.free 4
  have v5_5 := r5.out.free 5
  have v5_6 := r5.out.free 6
  try clear ka4 kb4 kc4 ta4 tb4 tc4 td4 te4 y4_0 y4_1 y4_2 y4_3 y4_4 y4_5 y4_6 v4_0 v4_1 v4_2 v4_3 v4_4 v4_5 v4_6
  clear hb5
  obtain ⟨i0, i1, i2, i3, i4, i5, i6, il⟩ := hGh.out
  by_cases hv0 : (lvL P l).length = 0
  · have hv1 : (((lvL P l).length : Int) == 0) = true := by rw [beq_iff_eq]; omega
    replace hv0 := Lib.hid hv0
    go_wp2
    refine bodyPost_ret (v := .tuple #[.agg #[.slice none 0 0, .int .i64 0, .slice none 0 0, .slice none 0 0, .int .i64 0, .slice none 0 0, .slice none 0 0], .bool false]) (by simp [results, Try.results68, go_sem, *]) rfl ⟨?_, Or.inl ⟨fun h => ?_, rfl⟩⟩
    · repeat (refine Below.setCell ?_ (by simp; try omega) _)
      exact B5
    · have := h.v; have := hv0.out; omega
  have hv1 : (((lvL P l).length : Int) == 0) = false := by rw [beq_eq_false_iff_ne]; omega
  have hl29 := lvL_len P l
  replace hv0 := Lib.hid hv0
  go_wp2_with fail
  refine (gcount_any _ _ _ _ _ _ _ _ _ _ _ _ _ _ _ (lvL P l) (tbS S F) _ hpt.out (by omega) hVh.out).mono ?_
  rintro e w6 ⟨rfl, hb6⟩
  have s6 : w.heap.size + 1 + 1 < w6.heap.size := Nat.lt_of_lt_of_le s5 hb6.size
  have e65 := hb6.size
  obtain ⟨j0, j1, j2, j3, j4, j5, j6, jl⟩ := hGh.out.below hb6
  have hA6 := Lib.hid (hAh.out.below hb6)
  have hV6 := Lib.hid (hVh.out.below hb6)
  clear i0 i1 i2 i3 i4 i5 i6 il
  have B6 : Below w.heap.size w w6 := Below.via' B5 hb6
  have g6 := Lib.hid (g5.out.below hb6)
  have t6 := Lib.hid (t5.out.below hb6)
  have r6 := Lib.hid (r5.out.kept hb6)
  obtain ⟨ka6, kb6, kc6⟩ := g6.out
  obtain ⟨ta6, tb6, tc6, td6, te6⟩ := t6.out
  have y6_0 := (r6.out.read 0).trans rfl
  have y6_1 := (r6.out.read 1).trans rfl
  have y6_2 := (r6.out.read 2).trans rfl
  have y6_3 := (r6.out.read 3).trans rfl
  have y6_4 := (r6.out.read 4).trans rfl
  have y6_5 := (r6.out.read 5).trans rfl
  have y6_6 := (r6.out.read 6).trans rfl
  have v6_0 := r6.out.free 0
  have v6_1 := r6.out.free 1
  have v6_2 := r6.out.free 2
  have v6_3 := r6.out.free 3
  have v6_4 := r6.out.free 4
  have v6_5 := r6.out.free 5
  have v6_6 := r6.out.free 6
  try clear ka5 kb5 kc5 ta5 tb5 tc5 td5 te5 y5_0 y5_1 y5_2 y5_3 y5_4 y5_5 y5_6 v5_0 v5_1 v5_2 v5_3 v5_4 v5_5 v5_6
  clear hb6
  clear hv1
  by_cases hc : 600 < ((lvL P l).length : Int) * cnZ (tbS S F)
  · skip
    go_wp2
    refine bodyPost_ret (v := .tuple #[.agg #[.slice none 0 0, .int .i64 0, .slice none 0 0, .slice none 0 0, .int .i64 0, .slice none 0 0, .slice none 0 0], .bool false]) (by simp [results, Try.results68, go_sem, *]) rfl ⟨?_, Or.inl ⟨fun h => ?_, rfl⟩⟩
    · repeat (refine Below.setCell ?_ (by simp; try omega) _)
      exact B6
    · have := h.c; unfold tcZ at this; omega
  have htg : Hid (TgP P S l F W m) := ⟨hgh.out, hsh.out, hrh.out, hwh.out, by omega, by omega, by have := hv0.out; omega, by unfold tcZ; omega⟩
  go_wp2
  refine bodyPost_ret (v := .tuple #[.agg #[.slice p P.length c, .int .i64 l, .slice x F.length c2, .slice z W.length c3, .int .i64 m, .slice ga (lvL P l).length ca, .slice (some ⟨va, 0, none⟩) (tbS S F).length (tbS S F).length], .bool true]) (by simp [results, Try.results68, go_sem, *]) rfl ⟨?_, Or.inr ⟨htg.out, ga, ca, va, rfl, iin_sel (by omega) ?_, ?_, ?_⟩⟩
  · repeat (refine Below.setCell ?_ (by simp; try omega) _)
    exact B6
  · repeat (refine rd_setCellT ?_ _ _ _ (fun k off e => by have := hgah.out k off e; omega))
    exact hA6.out
  · repeat (refine rd_setCellT ?_ _ _ _ (fun k off e => by injection e with e; injection e with e; omega))
    exact hV6.out
  · simp only [World.size_setCell]
    omega
end Go.Proofs.Ytgkaalonmkcclaa

namespace Go.Proofs.Ytgkaalonmkcclaa
open Go.RowKit
set_option maxRecDepth 100000

/-- What IsSurvey and MeetsWhere answer. -/
def isvB (P : List Int) (S : List (ByteArray × Int)) (M : List RV) : Bool := geB P && (schB S && (dokB S M && tyB P M))
def isvK (P : List Int) (S : List (ByteArray × Int)) : Bool := geB P && schB S
def mwhK (S : List (ByteArray × Int)) (W : List Int) (r : RV) : Bool := schB S && (twB S W && rokB S r)
def mwhB (S : List (ByteArray × Int)) (W : List Int) (r : RV) : Bool := mwhK S W r && tmB W r.2.2
end Go.Proofs.Ytgkaalonmkcclaa

namespace Go.Proofs.Ytgkaalonmkcclaa
open Go.RowKit
set_option maxRecDepth 100000

theorem ret_boo {a b : Bool} (h : a = b) : Ending.returned (.bool a) = .returned (.bool b) := by rw [h]
set_option maxHeartbeats 4000000 in
theorem isTb_any (p y x z : Option Addr) (c c1 c2 c3 : Nat) (P : List Int) (S : List (ByteArray × Int)) (l : Int) (F W : List Int) (m : Int) (w : World) (hP : IIn w p P) (hS : SIn w y c1 S) (hT : TIn w x z F W) :
    Calls Try.prog 65 #[.agg #[.slice p P.length c], .slice y S.length c1, .agg #[.int .i64 l, .slice x F.length c2, .slice z W.length c3, .int .i64 m]] w fun e w' => e = .returned (.bool (tgB P S l F W m)) ∧ Below w.heap.size w w' := by
  have hPh := Lib.hid hP
  have hSh := Lib.hid hS
  have hFh := Lib.hid hT.1
  have hWh := Lib.hid hT.2
  clear hP hS hT
  have p1 := Lib.hid (QB.new w p P.length c 33)
  have p2 := Lib.hid (TQ.new (w.alloc (.cells #[.slice p P.length c] 33)) l x F.length c2 z W.length c3 m 37)
  obtain ⟨w0, hw0⟩ : ∃ w0, w0 = (w.alloc (.cells #[.slice p P.length c] 33)).alloc (.cells #[.int .i64 l, .slice x F.length c2, .slice z W.length c3, .int .i64 m] 37) := ⟨_, rfl⟩
  have B0 : Below w.heap.size w w0 := by rw [hw0]; exact (by repeat (first | exact Below.refl _ _ | assumption | refine Below.drew ?_ | refine below_drewN ?_ _ | refine Below.alloc' ?_ _ | (refine Below.setCell ?_ (by first | omega | (simp; done) | (simp; omega) | exact Below.size (by assumption) | exact Nat.le_trans (Below.size (by assumption)) (by simp)) _) | (refine Below.via' ?_ (by assumption)) | (refine Below.alloc ?_ (by first | omega | (simp; done) | (simp; omega) | exact Below.size (by assumption) | exact Nat.le_trans (Below.size (by assumption)) (by simp)) _) | (refine Below.via ?_ (by assumption) (by first | omega | (simp; done) | (simp; omega) | exact Below.size (by assumption) | exact Nat.le_trans (Below.size (by assumption)) (by simp)))))
  have g0 : Hid (QB w0 w.heap.size p P.length c) := by
    rw [hw0]
    exact p1.out.below (show Below (w.alloc (.cells #[.slice p P.length c] 33)).heap.size (w.alloc (.cells #[.slice p P.length c] 33)) _ from (by repeat (first | exact Below.refl _ _ | assumption | refine Below.drew ?_ | refine below_drewN ?_ _ | refine Below.alloc' ?_ _ | (refine Below.setCell ?_ (by first | omega | (simp; done) | (simp; omega) | exact Below.size (by assumption) | exact Nat.le_trans (Below.size (by assumption)) (by simp)) _) | (refine Below.via' ?_ (by assumption)) | (refine Below.alloc ?_ (by first | omega | (simp; done) | (simp; omega) | exact Below.size (by assumption) | exact Nat.le_trans (Below.size (by assumption)) (by simp)) _) | (refine Below.via ?_ (by assumption) (by first | omega | (simp; done) | (simp; omega) | exact Below.size (by assumption) | exact Nat.le_trans (Below.size (by assumption)) (by simp))))))
  have t0 : Hid (TQ w0 (w.heap.size + 1) l x F.length c2 z W.length c3 m) := by
    have h0 := p2.out
    rw [World.size_alloc, ← hw0] at h0
    exact h0
  have z0 : w0.heap.size = w.heap.size + 1 + 1 := by rw [hw0]; simp
  clear p1 p2
  go_enter Try.func65, Try.ntmps65
  go_wp2_with fail
  rw [← hw0]
  replace hw0 := Lib.hid hw0
  replace z0 := Lib.hid z0
  refine (gridOf_any p y x z _ _ _ _ P S l m F W _ (hPh.out.below B0) (hSh.out.below B0) ⟨hFh.out.below B0, hWh.out.below B0⟩).mono ?_
  rintro e w1 ⟨hb1, h1⟩
  have B1 : Below w.heap.size w w1 := Below.via' B0 hb1
  have g1 := Lib.hid (g0.out.below hb1)
  have t1 := Lib.hid (t0.out.below hb1)
  obtain ⟨ka1, kb1, kc1⟩ := g1.out
  obtain ⟨ta1, tb1, tc1, td1, te1⟩ := t1.out
  try clear ka0 kb0 kc0 ta0 tb0 tc0 td0 te0
  clear hb1
  rcases h1 with ⟨hno, rfl⟩ | ⟨htg, ga, ca, va, rfl, hA, hV, hvl⟩
  · have hv := Lib.hid (tg_no hno)
    clear hno
    go_wp2
    go_ret
    exact ⟨ret_boo hv.out.symm, (by repeat (first | exact Below.refl _ _ | assumption | refine Below.drew ?_ | refine below_drewN ?_ _ | refine Below.alloc' ?_ _ | (refine Below.setCell ?_ (by first | omega | (simp; done) | (simp; omega) | exact Below.size (by assumption) | exact Nat.le_trans (Below.size (by assumption)) (by simp)) _) | (refine Below.via' ?_ (by assumption)) | (refine Below.alloc ?_ (by first | omega | (simp; done) | (simp; omega) | exact Below.size (by assumption) | exact Nat.le_trans (Below.size (by assumption)) (by simp)) _) | (refine Below.via ?_ (by assumption) (by first | omega | (simp; done) | (simp; omega) | exact Below.size (by assumption) | exact Nat.le_trans (Below.size (by assumption)) (by simp)))))⟩
  · have hv := Lib.hid (tg_iff.2 htg)
    clear htg
    replace hA := Lib.hid hA
    replace hV := Lib.hid hV
    go_wp2
    go_ret
    exact ⟨ret_boo hv.out.symm, (by repeat (first | exact Below.refl _ _ | assumption | refine Below.drew ?_ | refine below_drewN ?_ _ | refine Below.alloc' ?_ _ | (refine Below.setCell ?_ (by first | omega | (simp; done) | (simp; omega) | exact Below.size (by assumption) | exact Nat.le_trans (Below.size (by assumption)) (by simp)) _) | (refine Below.via' ?_ (by assumption)) | (refine Below.alloc ?_ (by first | omega | (simp; done) | (simp; omega) | exact Below.size (by assumption) | exact Nat.le_trans (Below.size (by assumption)) (by simp)) _) | (refine Below.via ?_ (by assumption) (by first | omega | (simp; done) | (simp; omega) | exact Below.size (by assumption) | exact Nat.le_trans (Below.size (by assumption)) (by simp)))))⟩
end Go.Proofs.Ytgkaalonmkcclaa

namespace Go.Proofs.Ytgkaalonmkcclaa
open Go.RowKit
set_option maxRecDepth 100000

/-- What CellCount answers. -/
def tcN (P : List Int) (S : List (ByteArray × Int)) (l : Int) (F W : List Int) (m : Int) : Int := if tgB P S l F W m then tcZ P S l F else 0
theorem tcN_no {P : List Int} {S : List (ByteArray × Int)} {l : Int} {F W : List Int} {m : Int} (h : ¬ TgP P S l F W m) : tcN P S l F W m = 0 ∧ tgB P S l F W m = false := by
  have e := tg_no h
  exact ⟨if_f e, e⟩
theorem tcN_yes {P : List Int} {S : List (ByteArray × Int)} {l : Int} {F W : List Int} {m : Int} (h : TgP P S l F W m) : tcN P S l F W m = tcZ P S l F ∧ tgB P S l F W m = true := by
  have e := tg_iff.2 h
  exact ⟨if_t e, e⟩
theorem isv_no {P : List Int} {S : List (ByteArray × Int)} {l : Int} {F W : List Int} {m : Int} (h : geB P = false ∨ schB S = false) : tgB P S l F W m = false ∧ isvK P S = false := by
  refine ⟨tg_no (fun k => ?_), ?_⟩
  · rcases h with h | h
    · rw [k.g] at h; cases h
    · rw [k.s] at h; cases h
  · unfold isvK
    rcases h with h | h
    · rw [h]; rfl
    · rw [h, Bool.and_false]
set_option maxHeartbeats 4000000 in
theorem sITa_x (p y x z : Option Addr) (c c1 c2 c3 : Nat) (P : List Int) (S : List (ByteArray × Int)) (l : Int) (F W : List Int) (m : Int) (w : World) (hP : IIn w p P) (hS : SIn w y c1 S) (hT : TIn w x z F W) :
    Calls Try.prog 16 #[.agg #[.slice p P.length c], .slice y S.length c1, .agg #[.int .i64 l, .slice x F.length c2, .slice z W.length c3, .int .i64 m]] w fun e w' => e = .returned (.tuple #[.bool (tgB P S l F W m), .bool (isvK P S)]) ∧ Below w.heap.size w w' := by
  have hPh := Lib.hid hP
  have hSh := Lib.hid hS
  have hFh := Lib.hid hT.1
  have hWh := Lib.hid hT.2
  clear hP hS hT
  have p1 := Lib.hid (QB.new w p P.length c 33)
  have p2 := Lib.hid (TQ.new (w.alloc (.cells #[.slice p P.length c] 33)) l x F.length c2 z W.length c3 m 37)
  obtain ⟨w0, hw0⟩ : ∃ w0, w0 = (w.alloc (.cells #[.slice p P.length c] 33)).alloc (.cells #[.int .i64 l, .slice x F.length c2, .slice z W.length c3, .int .i64 m] 37) := ⟨_, rfl⟩
  have B0 : Below w.heap.size w w0 := by rw [hw0]; exact (by repeat (first | exact Below.refl _ _ | assumption | refine Below.drew ?_ | refine below_drewN ?_ _ | refine Below.alloc' ?_ _ | (refine Below.setCell ?_ (by first | omega | (simp; done) | (simp; omega) | exact Below.size (by assumption) | exact Nat.le_trans (Below.size (by assumption)) (by simp)) _) | (refine Below.via' ?_ (by assumption)) | (refine Below.alloc ?_ (by first | omega | (simp; done) | (simp; omega) | exact Below.size (by assumption) | exact Nat.le_trans (Below.size (by assumption)) (by simp)) _) | (refine Below.via ?_ (by assumption) (by first | omega | (simp; done) | (simp; omega) | exact Below.size (by assumption) | exact Nat.le_trans (Below.size (by assumption)) (by simp)))))
  have g0 : Hid (QB w0 w.heap.size p P.length c) := by
    rw [hw0]
    exact p1.out.below (show Below (w.alloc (.cells #[.slice p P.length c] 33)).heap.size (w.alloc (.cells #[.slice p P.length c] 33)) _ from (by repeat (first | exact Below.refl _ _ | assumption | refine Below.drew ?_ | refine below_drewN ?_ _ | refine Below.alloc' ?_ _ | (refine Below.setCell ?_ (by first | omega | (simp; done) | (simp; omega) | exact Below.size (by assumption) | exact Nat.le_trans (Below.size (by assumption)) (by simp)) _) | (refine Below.via' ?_ (by assumption)) | (refine Below.alloc ?_ (by first | omega | (simp; done) | (simp; omega) | exact Below.size (by assumption) | exact Nat.le_trans (Below.size (by assumption)) (by simp)) _) | (refine Below.via ?_ (by assumption) (by first | omega | (simp; done) | (simp; omega) | exact Below.size (by assumption) | exact Nat.le_trans (Below.size (by assumption)) (by simp))))))
  have t0 : Hid (TQ w0 (w.heap.size + 1) l x F.length c2 z W.length c3 m) := by
    have h0 := p2.out
    rw [World.size_alloc, ← hw0] at h0
    exact h0
  have z0 : w0.heap.size = w.heap.size + 1 + 1 := by rw [hw0]; simp
  clear p1 p2
  cases hg : geB P
  · have hv := Lib.hid (isv_no (S := S) (l := l) (F := F) (W := W) (m := m) (Or.inl hg))
    go_enter Try.func16, Try.ntmps16
    go_wp2_with fail
    rw [← hw0]
    refine (gGood_any _ _ P _ (hPh.out.below B0)).mono ?_
    rintro e w1 ⟨rfl, hb1⟩
    rw [hg]
    go_wp2
    go_ret2
    exact ⟨ret_bb hv.out.1.symm hv.out.2.symm, Below.via' B0 hb1⟩
  have hgh := Lib.hid hg
  clear hg
  go_enter Try.func16, Try.ntmps16
  go_wp2_with fail
  rw [← hw0]
  replace hw0 := Lib.hid hw0
  replace z0 := Lib.hid z0
  refine (gGood_any _ _ P _ (hPh.out.below B0)).mono ?_
  rintro e w1 ⟨rfl, hb1⟩
  rw [hgh.out]
  have B1 : Below w.heap.size w w1 := Below.via' B0 hb1
  have g1 := Lib.hid (g0.out.below hb1)
  have t1 := Lib.hid (t0.out.below hb1)
  obtain ⟨ka1, kb1, kc1⟩ := g1.out
  obtain ⟨ta1, tb1, tc1, td1, te1⟩ := t1.out
  try clear ka0 kb0 kc0 ta0 tb0 tc0 td0 te0
  clear hb1
  go_wp2_with fail
  refine (sGood_x _ _ _ _ (hSh.out.below B1)).mono ?_
  rintro e w2 ⟨rfl, hb2⟩
  have B2 : Below w.heap.size w w2 := Below.via' B1 hb2
  have g2 := Lib.hid (g1.out.below hb2)
  have t2 := Lib.hid (t1.out.below hb2)
  obtain ⟨ka2, kb2, kc2⟩ := g2.out
  obtain ⟨ta2, tb2, tc2, td2, te2⟩ := t2.out
  try clear ka1 kb1 kc1 ta1 tb1 tc1 td1 te1
  clear hb2
  cases hs : schB S
  · have hv := Lib.hid (isv_no (P := P) (l := l) (F := F) (W := W) (m := m) (Or.inr hs))
    go_wp2
    go_ret2
    exact ⟨ret_bb hv.out.1.symm hv.out.2.symm, B2⟩
  have hk := Lib.hid (show isvK P S = true by unfold isvK; rw [hgh.out, hs]; rfl)
  replace hs := Lib.hid hs
  go_wp2_with fail
  refine (uGood_any p y x z _ _ _ _ P S l m F W _ (hPh.out.below B2) (hSh.out.below B2) ⟨hFh.out.below B2, hWh.out.below B2⟩).mono ?_
  rintro e w3 ⟨rfl, hb3⟩
  go_wp2
  go_ret2
  exact ⟨ret_bb rfl hk.out.symm, Below.via' B2 hb3⟩
set_option maxHeartbeats 4000000 in
theorem iITa_x (p y x z : Option Addr) (c c1 c2 c3 : Nat) (P : List Int) (S : List (ByteArray × Int)) (l : Int) (F W : List Int) (m : Int) (w : World) (hP : IIn w p P) (hS : SIn w y c1 S) (hT : TIn w x z F W) :
    Calls Try.prog 20 #[.agg #[.slice p P.length c], .slice y S.length c1, .agg #[.int .i64 l, .slice x F.length c2, .slice z W.length c3, .int .i64 m]] w fun e w' => e = .returned (.tuple #[.bool (tgB P S l F W m), .bool (isvK P S)]) ∧ Below w.heap.size w w' := by
  have hPh := Lib.hid hP
  have hSh := Lib.hid hS
  have hFh := Lib.hid hT.1
  have hWh := Lib.hid hT.2
  clear hP hS hT
  have p1 := Lib.hid (QB.new w p P.length c 33)
  have p2 := Lib.hid (TQ.new (w.alloc (.cells #[.slice p P.length c] 33)) l x F.length c2 z W.length c3 m 37)
  obtain ⟨w0, hw0⟩ : ∃ w0, w0 = (w.alloc (.cells #[.slice p P.length c] 33)).alloc (.cells #[.int .i64 l, .slice x F.length c2, .slice z W.length c3, .int .i64 m] 37) := ⟨_, rfl⟩
  have B0 : Below w.heap.size w w0 := by rw [hw0]; exact (by repeat (first | exact Below.refl _ _ | assumption | refine Below.drew ?_ | refine below_drewN ?_ _ | refine Below.alloc' ?_ _ | (refine Below.setCell ?_ (by first | omega | (simp; done) | (simp; omega) | exact Below.size (by assumption) | exact Nat.le_trans (Below.size (by assumption)) (by simp)) _) | (refine Below.via' ?_ (by assumption)) | (refine Below.alloc ?_ (by first | omega | (simp; done) | (simp; omega) | exact Below.size (by assumption) | exact Nat.le_trans (Below.size (by assumption)) (by simp)) _) | (refine Below.via ?_ (by assumption) (by first | omega | (simp; done) | (simp; omega) | exact Below.size (by assumption) | exact Nat.le_trans (Below.size (by assumption)) (by simp)))))
  have g0 : Hid (QB w0 w.heap.size p P.length c) := by
    rw [hw0]
    exact p1.out.below (show Below (w.alloc (.cells #[.slice p P.length c] 33)).heap.size (w.alloc (.cells #[.slice p P.length c] 33)) _ from (by repeat (first | exact Below.refl _ _ | assumption | refine Below.drew ?_ | refine below_drewN ?_ _ | refine Below.alloc' ?_ _ | (refine Below.setCell ?_ (by first | omega | (simp; done) | (simp; omega) | exact Below.size (by assumption) | exact Nat.le_trans (Below.size (by assumption)) (by simp)) _) | (refine Below.via' ?_ (by assumption)) | (refine Below.alloc ?_ (by first | omega | (simp; done) | (simp; omega) | exact Below.size (by assumption) | exact Nat.le_trans (Below.size (by assumption)) (by simp)) _) | (refine Below.via ?_ (by assumption) (by first | omega | (simp; done) | (simp; omega) | exact Below.size (by assumption) | exact Nat.le_trans (Below.size (by assumption)) (by simp))))))
  have t0 : Hid (TQ w0 (w.heap.size + 1) l x F.length c2 z W.length c3 m) := by
    have h0 := p2.out
    rw [World.size_alloc, ← hw0] at h0
    exact h0
  have z0 : w0.heap.size = w.heap.size + 1 + 1 := by rw [hw0]; simp
  clear p1 p2
  cases hg : geB P
  · have hv := Lib.hid (isv_no (S := S) (l := l) (F := F) (W := W) (m := m) (Or.inl hg))
    go_enter Try.func20, Try.ntmps20
    go_wp2_with fail
    rw [← hw0]
    refine (iGeo_any _ _ P _ (hPh.out.below B0)).mono ?_
    rintro e w1 ⟨rfl, hb1⟩
    rw [hg]
    go_wp2
    go_ret2
    exact ⟨ret_bb hv.out.1.symm hv.out.2.symm, Below.via' B0 hb1⟩
  have hgh := Lib.hid hg
  clear hg
  go_enter Try.func20, Try.ntmps20
  go_wp2_with fail
  rw [← hw0]
  replace hw0 := Lib.hid hw0
  replace z0 := Lib.hid z0
  refine (iGeo_any _ _ P _ (hPh.out.below B0)).mono ?_
  rintro e w1 ⟨rfl, hb1⟩
  rw [hgh.out]
  have B1 : Below w.heap.size w w1 := Below.via' B0 hb1
  have g1 := Lib.hid (g0.out.below hb1)
  have t1 := Lib.hid (t0.out.below hb1)
  obtain ⟨ka1, kb1, kc1⟩ := g1.out
  obtain ⟨ta1, tb1, tc1, td1, te1⟩ := t1.out
  try clear ka0 kb0 kc0 ta0 tb0 tc0 td0 te0
  clear hb1
  go_wp2_with fail
  refine (isSch_x _ _ _ _ (hSh.out.below B1)).mono ?_
  rintro e w2 ⟨rfl, hb2⟩
  have B2 : Below w.heap.size w w2 := Below.via' B1 hb2
  have g2 := Lib.hid (g1.out.below hb2)
  have t2 := Lib.hid (t1.out.below hb2)
  obtain ⟨ka2, kb2, kc2⟩ := g2.out
  obtain ⟨ta2, tb2, tc2, td2, te2⟩ := t2.out
  try clear ka1 kb1 kc1 ta1 tb1 tc1 td1 te1
  clear hb2
  cases hs : schB S
  · have hv := Lib.hid (isv_no (P := P) (l := l) (F := F) (W := W) (m := m) (Or.inr hs))
    go_wp2
    go_ret2
    exact ⟨ret_bb hv.out.1.symm hv.out.2.symm, B2⟩
  have hk := Lib.hid (show isvK P S = true by unfold isvK; rw [hgh.out, hs]; rfl)
  replace hs := Lib.hid hs
  go_wp2_with fail
  refine (isTb_any p y x z _ _ _ _ P S l F W m _ (hPh.out.below B2) (hSh.out.below B2) ⟨hFh.out.below B2, hWh.out.below B2⟩).mono ?_
  rintro e w3 ⟨rfl, hb3⟩
  go_wp2
  go_ret2
  exact ⟨ret_bb rfl hk.out.symm, Below.via' B2 hb3⟩
set_option maxHeartbeats 4000000 in
theorem sCN_x (p y x z : Option Addr) (c c1 c2 c3 : Nat) (P : List Int) (S : List (ByteArray × Int)) (l : Int) (F W : List Int) (m : Int) (w : World) (hP : IIn w p P) (hS : SIn w y c1 S) (hT : TIn w x z F W) :
    Calls Try.prog 24 #[.agg #[.slice p P.length c], .slice y S.length c1, .agg #[.int .i64 l, .slice x F.length c2, .slice z W.length c3, .int .i64 m]] w fun e w' => e = .returned (.tuple #[.int .i64 (tcN P S l F W m), .bool (tgB P S l F W m)]) ∧ Below w.heap.size w w' := by
  have hPh := Lib.hid hP
  have hSh := Lib.hid hS
  have hFh := Lib.hid hT.1
  have hWh := Lib.hid hT.2
  clear hP hS hT
  have p1 := Lib.hid (QB.new w p P.length c 33)
  have p2 := Lib.hid (TQ.new (w.alloc (.cells #[.slice p P.length c] 33)) l x F.length c2 z W.length c3 m 37)
  obtain ⟨w0, hw0⟩ : ∃ w0, w0 = (w.alloc (.cells #[.slice p P.length c] 33)).alloc (.cells #[.int .i64 l, .slice x F.length c2, .slice z W.length c3, .int .i64 m] 37) := ⟨_, rfl⟩
  have B0 : Below w.heap.size w w0 := by rw [hw0]; exact (by repeat (first | exact Below.refl _ _ | assumption | refine Below.drew ?_ | refine below_drewN ?_ _ | refine Below.alloc' ?_ _ | (refine Below.setCell ?_ (by first | omega | (simp; done) | (simp; omega) | exact Below.size (by assumption) | exact Nat.le_trans (Below.size (by assumption)) (by simp)) _) | (refine Below.via' ?_ (by assumption)) | (refine Below.alloc ?_ (by first | omega | (simp; done) | (simp; omega) | exact Below.size (by assumption) | exact Nat.le_trans (Below.size (by assumption)) (by simp)) _) | (refine Below.via ?_ (by assumption) (by first | omega | (simp; done) | (simp; omega) | exact Below.size (by assumption) | exact Nat.le_trans (Below.size (by assumption)) (by simp)))))
  have g0 : Hid (QB w0 w.heap.size p P.length c) := by
    rw [hw0]
    exact p1.out.below (show Below (w.alloc (.cells #[.slice p P.length c] 33)).heap.size (w.alloc (.cells #[.slice p P.length c] 33)) _ from (by repeat (first | exact Below.refl _ _ | assumption | refine Below.drew ?_ | refine below_drewN ?_ _ | refine Below.alloc' ?_ _ | (refine Below.setCell ?_ (by first | omega | (simp; done) | (simp; omega) | exact Below.size (by assumption) | exact Nat.le_trans (Below.size (by assumption)) (by simp)) _) | (refine Below.via' ?_ (by assumption)) | (refine Below.alloc ?_ (by first | omega | (simp; done) | (simp; omega) | exact Below.size (by assumption) | exact Nat.le_trans (Below.size (by assumption)) (by simp)) _) | (refine Below.via ?_ (by assumption) (by first | omega | (simp; done) | (simp; omega) | exact Below.size (by assumption) | exact Nat.le_trans (Below.size (by assumption)) (by simp))))))
  have t0 : Hid (TQ w0 (w.heap.size + 1) l x F.length c2 z W.length c3 m) := by
    have h0 := p2.out
    rw [World.size_alloc, ← hw0] at h0
    exact h0
  have z0 : w0.heap.size = w.heap.size + 1 + 1 := by rw [hw0]; simp
  clear p1 p2
  go_enter Try.func24, Try.ntmps24
  go_wp2_with fail
  rw [← hw0]
  replace hw0 := Lib.hid hw0
  replace z0 := Lib.hid z0
  refine (uGood_any p y x z _ _ _ _ P S l m F W _ (hPh.out.below B0) (hSh.out.below B0) ⟨hFh.out.below B0, hWh.out.below B0⟩).mono ?_
  rintro e w1 ⟨rfl, hb1⟩
  have B1 : Below w.heap.size w w1 := Below.via' B0 hb1
  have g1 := Lib.hid (g0.out.below hb1)
  have t1 := Lib.hid (t0.out.below hb1)
  obtain ⟨ka1, kb1, kc1⟩ := g1.out
  obtain ⟨ta1, tb1, tc1, td1, te1⟩ := t1.out
  try clear ka0 kb0 kc0 ta0 tb0 tc0 td0 te0
  clear hb1
  cases htg : tgB P S l F W m
  · have hv := Lib.hid (show tcN P S l F W m = 0 from if_f htg)
    replace htg := Lib.hid htg
    go_wp2
    go_ret2
    exact ⟨ret_in hv.out.symm htg.out.symm, B1⟩
  have hv := Lib.hid (show tcN P S l F W m = tcZ P S l F from if_t htg)
  have htp := tg_iff.1 htg
  replace htg := Lib.hid htg
  go_wp2_with fail
  refine (uCount_any p y x z _ _ _ _ P S l m F W _ htp.g htp.s htp.r (hPh.out.below B1) (hSh.out.below B1) (hFh.out.below B1)).mono ?_
  rintro e w2 ⟨rfl, hb2⟩
  clear htp
  go_wp2
  go_ret2
  exact ⟨ret_in hv.out.symm htg.out.symm, Below.via' B1 hb2⟩
set_option maxHeartbeats 4000000 in
theorem iCN_x (p y x z : Option Addr) (c c1 c2 c3 : Nat) (P : List Int) (S : List (ByteArray × Int)) (l : Int) (F W : List Int) (m : Int) (w : World) (hP : IIn w p P) (hS : SIn w y c1 S) (hT : TIn w x z F W) :
    Calls Try.prog 25 #[.agg #[.slice p P.length c], .slice y S.length c1, .agg #[.int .i64 l, .slice x F.length c2, .slice z W.length c3, .int .i64 m]] w fun e w' => e = .returned (.tuple #[.int .i64 (tcN P S l F W m), .bool (tgB P S l F W m)]) ∧ Below w.heap.size w w' := by
  have hPh := Lib.hid hP
  have hSh := Lib.hid hS
  have hFh := Lib.hid hT.1
  have hWh := Lib.hid hT.2
  clear hP hS hT
  have p1 := Lib.hid (QB.new w p P.length c 33)
  have p2 := Lib.hid (TQ.new (w.alloc (.cells #[.slice p P.length c] 33)) l x F.length c2 z W.length c3 m 37)
  obtain ⟨w0, hw0⟩ : ∃ w0, w0 = (w.alloc (.cells #[.slice p P.length c] 33)).alloc (.cells #[.int .i64 l, .slice x F.length c2, .slice z W.length c3, .int .i64 m] 37) := ⟨_, rfl⟩
  have B0 : Below w.heap.size w w0 := by rw [hw0]; exact (by repeat (first | exact Below.refl _ _ | assumption | refine Below.drew ?_ | refine below_drewN ?_ _ | refine Below.alloc' ?_ _ | (refine Below.setCell ?_ (by first | omega | (simp; done) | (simp; omega) | exact Below.size (by assumption) | exact Nat.le_trans (Below.size (by assumption)) (by simp)) _) | (refine Below.via' ?_ (by assumption)) | (refine Below.alloc ?_ (by first | omega | (simp; done) | (simp; omega) | exact Below.size (by assumption) | exact Nat.le_trans (Below.size (by assumption)) (by simp)) _) | (refine Below.via ?_ (by assumption) (by first | omega | (simp; done) | (simp; omega) | exact Below.size (by assumption) | exact Nat.le_trans (Below.size (by assumption)) (by simp)))))
  have g0 : Hid (QB w0 w.heap.size p P.length c) := by
    rw [hw0]
    exact p1.out.below (show Below (w.alloc (.cells #[.slice p P.length c] 33)).heap.size (w.alloc (.cells #[.slice p P.length c] 33)) _ from (by repeat (first | exact Below.refl _ _ | assumption | refine Below.drew ?_ | refine below_drewN ?_ _ | refine Below.alloc' ?_ _ | (refine Below.setCell ?_ (by first | omega | (simp; done) | (simp; omega) | exact Below.size (by assumption) | exact Nat.le_trans (Below.size (by assumption)) (by simp)) _) | (refine Below.via' ?_ (by assumption)) | (refine Below.alloc ?_ (by first | omega | (simp; done) | (simp; omega) | exact Below.size (by assumption) | exact Nat.le_trans (Below.size (by assumption)) (by simp)) _) | (refine Below.via ?_ (by assumption) (by first | omega | (simp; done) | (simp; omega) | exact Below.size (by assumption) | exact Nat.le_trans (Below.size (by assumption)) (by simp))))))
  have t0 : Hid (TQ w0 (w.heap.size + 1) l x F.length c2 z W.length c3 m) := by
    have h0 := p2.out
    rw [World.size_alloc, ← hw0] at h0
    exact h0
  have z0 : w0.heap.size = w.heap.size + 1 + 1 := by rw [hw0]; simp
  clear p1 p2
  go_enter Try.func25, Try.ntmps25
  go_wp2_with fail
  rw [← hw0]
  replace hw0 := Lib.hid hw0
  replace z0 := Lib.hid z0
  refine (gridOf_any p y x z _ _ _ _ P S l m F W _ (hPh.out.below B0) (hSh.out.below B0) ⟨hFh.out.below B0, hWh.out.below B0⟩).mono ?_
  rintro e w1 ⟨hb1, h1⟩
  have B1 : Below w.heap.size w w1 := Below.via' B0 hb1
  have g1 := Lib.hid (g0.out.below hb1)
  have t1 := Lib.hid (t0.out.below hb1)
  obtain ⟨ka1, kb1, kc1⟩ := g1.out
  obtain ⟨ta1, tb1, tc1, td1, te1⟩ := t1.out
  try clear ka0 kb0 kc0 ta0 tb0 tc0 td0 te0
  clear hb1
  rcases h1 with ⟨hno, rfl⟩ | ⟨htg, ga, ca, va, rfl, hA, hV, hvl⟩
  · have hv := Lib.hid (tcN_no hno)
    clear hno
    go_wp2
    go_ret2
    exact ⟨ret_in hv.out.1.symm hv.out.2.symm, (by repeat (first | exact Below.refl _ _ | assumption | refine Below.drew ?_ | refine below_drewN ?_ _ | refine Below.alloc' ?_ _ | (refine Below.setCell ?_ (by first | omega | (simp; done) | (simp; omega) | exact Below.size (by assumption) | exact Nat.le_trans (Below.size (by assumption)) (by simp)) _) | (refine Below.via' ?_ (by assumption)) | (refine Below.alloc ?_ (by first | omega | (simp; done) | (simp; omega) | exact Below.size (by assumption) | exact Nat.le_trans (Below.size (by assumption)) (by simp)) _) | (refine Below.via ?_ (by assumption) (by first | omega | (simp; done) | (simp; omega) | exact Below.size (by assumption) | exact Nat.le_trans (Below.size (by assumption)) (by simp)))))⟩
  have hv := Lib.hid (tcN_yes htg)
  have hpt := Lib.hid (tbS_ok htg.s htg.r)
  have hl30 := (ge_len htg.g).2
  have hl := lvL_len P l
  replace hA := Lib.hid hA
  replace hV := Lib.hid hV
  clear htg
  go_wp2_with fail
  refine (gcount_any _ _ _ _ _ _ _ _ _ _ _ _ _ _ _ (lvL P l) (tbS S F) _ hpt.out (by omega) (hV.out.below (by exact (by repeat (first | exact Below.refl _ _ | assumption | refine Below.drew ?_ | refine below_drewN ?_ _ | refine Below.alloc' ?_ _ | (refine Below.setCell ?_ (by first | omega | (simp; done) | (simp; omega) | exact Below.size (by assumption) | exact Nat.le_trans (Below.size (by assumption)) (by simp)) _) | (refine Below.via' ?_ (by assumption)) | (refine Below.alloc ?_ (by first | omega | (simp; done) | (simp; omega) | exact Below.size (by assumption) | exact Nat.le_trans (Below.size (by assumption)) (by simp)) _) | (refine Below.via ?_ (by assumption) (by first | omega | (simp; done) | (simp; omega) | exact Below.size (by assumption) | exact Nat.le_trans (Below.size (by assumption)) (by simp)))))))).mono ?_
  rintro e w2 ⟨rfl, hb2⟩
  have B2 : Below w.heap.size w w2 := (by repeat (first | exact Below.refl _ _ | assumption | refine Below.drew ?_ | refine below_drewN ?_ _ | refine Below.alloc' ?_ _ | (refine Below.setCell ?_ (by first | omega | (simp; done) | (simp; omega) | exact Below.size (by assumption) | exact Nat.le_trans (Below.size (by assumption)) (by simp)) _) | (refine Below.via' ?_ (by assumption)) | (refine Below.alloc ?_ (by first | omega | (simp; done) | (simp; omega) | exact Below.size (by assumption) | exact Nat.le_trans (Below.size (by assumption)) (by simp)) _) | (refine Below.via ?_ (by assumption) (by first | omega | (simp; done) | (simp; omega) | exact Below.size (by assumption) | exact Nat.le_trans (Below.size (by assumption)) (by simp)))))
  go_wp2
  go_ret2
  exact ⟨ret_in (by rw [hv.out.1]; rfl) hv.out.2.symm, B2⟩
end Go.Proofs.Ytgkaalonmkcclaa

namespace Go.Proofs.Ytgkaalonmkcclaa
open Go.RowKit
set_option maxRecDepth 100000

/-- The last level below n that a set has; any, where there is no set. -/
def bsF (x : Int) : Nat → Int
  | 0 => 0
  | n + 1 => if x = 0 ∨ hsB x n = true then (n : Int) else bsF x n
/-- The greatest level of a set, or of a variable. -/
def tpZ (lv x : Int) : Int := if x = 0 then lv - 1 else (Lib.bitLen x.toNat : Int) - 1
theorem bsF_all : ∀ lv : Fin 9, ∀ x : Fin 256, 1 ≤ x.val → x.val < 2 ^ lv.val → bsF (x.val : Int) lv.val = (Lib.bitLen x.val : Int) - 1 := by decide +kernel
theorem bsF_top {lv x : Int} (h : 2 ≤ lv ∧ lv ≤ 8) (h0 : 0 ≤ x) (h1 : x ≤ flZ lv) : bsF x lv.toNat = tpZ lv x := by
  obtain ⟨n, rfl⟩ := Int.eq_ofNat_of_zero_le (show 0 ≤ lv by omega)
  rw [Int.toNat_natCast]
  by_cases hx : x = 0
  · subst hx
    obtain ⟨k, rfl⟩ : ∃ k, n = k + 1 := ⟨n - 1, by omega⟩
    unfold bsF tpZ
    rw [if_pos (Or.inl rfl), if_pos rfl]
    omega
  · have hlt := flZ_lt h0 h1
    rw [Int.toNat_natCast] at hlt
    have h255 := (flZ_bd h).2
    obtain ⟨a, rfl⟩ := Int.eq_ofNat_of_zero_le h0
    rw [Int.toNat_natCast] at hlt
    have := bsF_all ⟨n, by omega⟩ ⟨a, by omega⟩ (by show 1 ≤ a; omega) hlt
    unfold tpZ
    rw [if_neg hx, Int.toNat_natCast]
    exact this
theorem bsF_bd (x : Int) : ∀ n : Nat, 0 ≤ bsF x n ∧ bsF x n ≤ n
  | 0 => ⟨by unfold bsF; omega, by unfold bsF; omega⟩
  | n + 1 => by
    unfold bsF
    have := bsF_bd x n
    split <;> omega
def seZ (S : List (ByteArray × Int)) (W : List Int) (m : Int) : Int := if m < 0 then 1 else tpZ (lvA S m.toNat) (W.getD m.toNat 0)
def senN (P : List Int) (S : List (ByteArray × Int)) (l : Int) (F W : List Int) (m : Int) : Int := if tgB P S l F W m then seZ S W m else 0
theorem se_one {S : List (ByteArray × Int)} {W : List Int} {m : Int} (h : m < 0) : seZ S W m = 1 := if_pos h
theorem se_at {S : List (ByteArray × Int)} {W : List Int} {q : Nat} {nm : ByteArray} {lv x : Int} (h : S[q]? = some (nm, lv)) (k : W[q]? = some x) : seZ S W (q : Int) = tpZ lv x := by
  unfold seZ
  rw [if_neg (by omega), Int.toNat_natCast, lvA_at h, List.getD_eq_getElem?_getD, k]
  rfl

/-- Below an area of a level there is a leaf. -/
theorem leaf_below {P : List Int} (hg : geB P = true) {a : Nat} : ∀ n k, P.length - k ≤ n → k < P.length → ptL P a <+: ptL P k → ∃ j, j < P.length ∧ lfP P j = true ∧ ptL P a <+: ptL P j
  | 0, k, h, hk, _ => by omega
  | n + 1, k, h, hk, hp => by
    by_cases hl : (awL P k).length = 0
    · exact ⟨k, hk, decide_eq_true hl, hp⟩
    · obtain ⟨x, hx⟩ := List.exists_mem_of_length_pos (show 0 < (awL P k).length by omega)
      obtain ⟨c, rfl, hc, he⟩ := sel_mem.1 hx
      have hpc : P[c]? = some (k : Int) := of_decide_eq_true he
      have hkc : k < c := by
        rcases Nat.eq_zero_or_pos c with e | e
        · subst e
          rw [ge_zero hg] at hpc
          injection hpc with hpc
          omega
        · obtain ⟨p, hp1, hp2⟩ := ge_par hg e hc
          rw [hp1] at hpc
          injection hpc with hpc
          omega
      refine leaf_below hg n c (by omega) hc (hp.trans ?_)
      rw [pt_step hpc hkc]
      exact List.prefix_append _ _
theorem leaf_deep {P : List Int} (hg : geB P = true) {l : Int} (h : 0 < (lvL P l).length) : ∃ j : Nat, (j : Int) ∈ lfL P ∧ 0 ≤ anZ P j l := by
  obtain ⟨x, hx⟩ := List.exists_mem_of_length_pos h
  obtain ⟨a, rfl, ha, he⟩ := sel_mem.1 hx
  have hd : (dpN P a : Int) = l := of_decide_eq_true he
  obtain ⟨j, hj, hl, hp⟩ := leaf_below hg P.length a (by omega) ha (List.prefix_rfl)
  refine ⟨j, sel_mem.2 ⟨j, rfl, hj, hl⟩, ?_⟩
  rw [← hd, an_pre hp rfl]
  omega
/-- Is one of the first leaves that deep? -/
def dqF (P : List Int) (l : Int) (j : Nat) : Bool := ((lfL P).take j).any fun a => decide (0 ≤ anZ P a.toNat l)
theorem dqF_snoc {P : List Int} {l : Int} {j k : Nat} (h : (lfL P)[j]? = some (k : Int)) : dqF P l (j + 1) = (dqF P l j || decide (0 ≤ anZ P k l)) := by
  unfold dqF
  rw [take_snoc h, List.any_append]
  simp
theorem dqF_end {P : List Int} (hg : geB P = true) {l : Int} (h : 0 < (lvL P l).length) : dqF P l (lfL P).length = true := by
  obtain ⟨j, hj, ha⟩ := leaf_deep hg h
  unfold dqF
  rw [List.take_length, List.any_eq_true]
  exact ⟨_, hj, by rw [Int.toNat_natCast]; exact decide_eq_true ha⟩
set_option maxHeartbeats 8000000 in
theorem iSen_x (p y x z : Option Addr) (c c1 c2 c3 : Nat) (P : List Int) (S : List (ByteArray × Int)) (l : Int) (F W : List Int) (m : Int) (w : World) (hP : IIn w p P) (hS : SIn w y c1 S) (hT : TIn w x z F W) :
    Calls Try.prog 51 #[.agg #[.slice p P.length c], .slice y S.length c1, .agg #[.int .i64 l, .slice x F.length c2, .slice z W.length c3, .int .i64 m]] w fun e w' => e = .returned (.tuple #[.int .i64 (senN P S l F W m), .bool (tgB P S l F W m)]) ∧ Below w.heap.size w w' := by
  have hPh := Lib.hid hP
  have hSh := Lib.hid hS
  have hFh := Lib.hid hT.1
  have hWh := Lib.hid hT.2
  clear hP hS hT
  have p1 := Lib.hid (QB.new w p P.length c 33)
  have p2 := Lib.hid (TQ.new (w.alloc (.cells #[.slice p P.length c] 33)) l x F.length c2 z W.length c3 m 37)
  obtain ⟨w0, hw0⟩ : ∃ w0, w0 = (w.alloc (.cells #[.slice p P.length c] 33)).alloc (.cells #[.int .i64 l, .slice x F.length c2, .slice z W.length c3, .int .i64 m] 37) := ⟨_, rfl⟩
  have B0 : Below w.heap.size w w0 := by rw [hw0]; exact (by repeat (first | exact Below.refl _ _ | assumption | refine Below.drew ?_ | refine below_drewN ?_ _ | refine Below.alloc' ?_ _ | (refine Below.setCell ?_ (by first | omega | (simp; done) | (simp; omega) | exact Below.size (by assumption) | exact Nat.le_trans (Below.size (by assumption)) (by simp)) _) | (refine Below.via' ?_ (by assumption)) | (refine Below.alloc ?_ (by first | omega | (simp; done) | (simp; omega) | exact Below.size (by assumption) | exact Nat.le_trans (Below.size (by assumption)) (by simp)) _) | (refine Below.via ?_ (by assumption) (by first | omega | (simp; done) | (simp; omega) | exact Below.size (by assumption) | exact Nat.le_trans (Below.size (by assumption)) (by simp)))))
  have g0 : Hid (QB w0 w.heap.size p P.length c) := by
    rw [hw0]
    exact p1.out.below (show Below (w.alloc (.cells #[.slice p P.length c] 33)).heap.size (w.alloc (.cells #[.slice p P.length c] 33)) _ from (by repeat (first | exact Below.refl _ _ | assumption | refine Below.drew ?_ | refine below_drewN ?_ _ | refine Below.alloc' ?_ _ | (refine Below.setCell ?_ (by first | omega | (simp; done) | (simp; omega) | exact Below.size (by assumption) | exact Nat.le_trans (Below.size (by assumption)) (by simp)) _) | (refine Below.via' ?_ (by assumption)) | (refine Below.alloc ?_ (by first | omega | (simp; done) | (simp; omega) | exact Below.size (by assumption) | exact Nat.le_trans (Below.size (by assumption)) (by simp)) _) | (refine Below.via ?_ (by assumption) (by first | omega | (simp; done) | (simp; omega) | exact Below.size (by assumption) | exact Nat.le_trans (Below.size (by assumption)) (by simp))))))
  have t0 : Hid (TQ w0 (w.heap.size + 1) l x F.length c2 z W.length c3 m) := by
    have h0 := p2.out
    rw [World.size_alloc, ← hw0] at h0
    exact h0
  have z0 : w0.heap.size = w.heap.size + 1 + 1 := by rw [hw0]; simp
  clear p1 p2
  go_enter Try.func51, Try.ntmps51
  go_wp2_with fail
  rw [← hw0]
  replace hw0 := Lib.hid hw0
  replace z0 := Lib.hid z0
  refine (isTb_any p y x z _ _ _ _ P S l F W m _ (hPh.out.below B0) (hSh.out.below B0) ⟨hFh.out.below B0, hWh.out.below B0⟩).mono ?_
  rintro e w1 ⟨rfl, hb1⟩
  have B1 : Below w.heap.size w w1 := Below.via' B0 hb1
  have g1 := Lib.hid (g0.out.below hb1)
  have t1 := Lib.hid (t0.out.below hb1)
  obtain ⟨ka1, kb1, kc1⟩ := g1.out
  obtain ⟨ta1, tb1, tc1, td1, te1⟩ := t1.out
  try clear ka0 kb0 kc0 ta0 tb0 tc0 td0 te0
  clear hb1
  cases htb : tgB P S l F W m
  · have hv := Lib.hid (show senN P S l F W m = 0 ∧ tgB P S l F W m = false from ⟨if_f htb, htb⟩)
    clear htb
    go_wp2
    go_ret2
    exact ⟨ret_in hv.out.1.symm hv.out.2.symm, (by repeat (first | exact Below.refl _ _ | assumption | refine Below.drew ?_ | refine below_drewN ?_ _ | refine Below.alloc' ?_ _ | (refine Below.setCell ?_ (by first | omega | (simp; done) | (simp; omega) | exact Below.size (by assumption) | exact Nat.le_trans (Below.size (by assumption)) (by simp)) _) | (refine Below.via' ?_ (by assumption)) | (refine Below.alloc ?_ (by first | omega | (simp; done) | (simp; omega) | exact Below.size (by assumption) | exact Nat.le_trans (Below.size (by assumption)) (by simp)) _) | (refine Below.via ?_ (by assumption) (by first | omega | (simp; done) | (simp; omega) | exact Below.size (by assumption) | exact Nat.le_trans (Below.size (by assumption)) (by simp)))))⟩
  have htg := tg_iff.1 htb
  have hv := Lib.hid (show senN P S l F W m = seZ S W m ∧ tgB P S l F W m = true from ⟨if_t htb, htb⟩)
  clear htb
  have hm0 := htg.m0
  by_cases hmm : m = -1
  · have hm1 : (m == -1) = true := by rw [beq_iff_eq]; exact hmm
    have hv2 := Lib.hid (se_one (S := S) (W := W) (show m < 0 by omega))
    replace hmm := Lib.hid hmm
    clear htg
    go_wp2
    go_ret2
    exact ⟨ret_in (by rw [hv.out.1, hv2.out]) hv.out.2.symm, (by repeat (first | exact Below.refl _ _ | assumption | refine Below.drew ?_ | refine below_drewN ?_ _ | refine Below.alloc' ?_ _ | (refine Below.setCell ?_ (by first | omega | (simp; done) | (simp; omega) | exact Below.size (by assumption) | exact Nat.le_trans (Below.size (by assumption)) (by simp)) _) | (refine Below.via' ?_ (by assumption)) | (refine Below.alloc ?_ (by first | omega | (simp; done) | (simp; omega) | exact Below.size (by assumption) | exact Nat.le_trans (Below.size (by assumption)) (by simp)) _) | (refine Below.via ?_ (by assumption) (by first | omega | (simp; done) | (simp; omega) | exact Below.size (by assumption) | exact Nat.le_trans (Below.size (by assumption)) (by simp)))))⟩
  have hm1 : (m == -1) = false := by rw [beq_eq_false_iff_ne]; exact hmm
  obtain ⟨q, rfl⟩ := Int.eq_ofNat_of_zero_le (show 0 ≤ m by omega)
  have hqS : q < S.length := by have := htg.m1; omega
  have hwl := tw_len htg.w
  have hqW : q < W.length := by omega
  obtain ⟨b6, o6, nm, lv, hy6, hb6, hSq, ks0, ks1⟩ := (hSh.out.rd.below B1).var (i := q) hqS
  obtain ⟨b7, o7, xx, hz7, hb7, hWq, k7⟩ := (hWh.out.2.2.below B1).int (i := q) hqW
  subst hy6 hz7
  obtain ⟨nm', lv', hS', l1, l2, x0, x1, x255⟩ := tw_get htg.s htg.w hWq
  obtain ⟨rfl, rfl⟩ : nm' = nm ∧ lv' = lv := by
    have := Option.some.inj (hS'.symm.trans hSq)
    injection this with a b
    exact ⟨a, b⟩
  have hv2 := Lib.hid (se_at hSq hWq)
  have hq1 : (q : Int) < (W.length : Int) := by omega
  have hq2 : (q : Int) < (S.length : Int) := by omega
  have hq0 : (0 : Int) ≤ (q : Int) := by omega
  replace hSq := Lib.hid hSq
  replace hWq := Lib.hid hWq
  replace hS' := Lib.hid hS'
  replace hmm := Lib.hid hmm
  replace hwl := Lib.hid hwl
  clear htg
  by_cases hx0 : xx = 0
  · have hxb : (xx != 0) = false := by rw [hx0]; rfl
    have hv3 := Lib.hid (show tpZ lv' xx = lv' - 1 from if_pos hx0)
    have q1 : IntKind.i64.wrap (lv' - 1) = lv' - 1 := IntWalk.i64_in _ (by omega)
    replace hx0 := Lib.hid hx0
    go_wp2
    go_ret2
    exact ⟨ret_in (by rw [hv.out.1, hv2.out, hv3.out]) hv.out.2.symm, (by repeat (first | exact Below.refl _ _ | assumption | refine Below.drew ?_ | refine below_drewN ?_ _ | refine Below.alloc' ?_ _ | (refine Below.setCell ?_ (by first | omega | (simp; done) | (simp; omega) | exact Below.size (by assumption) | exact Nat.le_trans (Below.size (by assumption)) (by simp)) _) | (refine Below.via' ?_ (by assumption)) | (refine Below.alloc ?_ (by first | omega | (simp; done) | (simp; omega) | exact Below.size (by assumption) | exact Nat.le_trans (Below.size (by assumption)) (by simp)) _) | (refine Below.via ?_ (by assumption) (by first | omega | (simp; done) | (simp; omega) | exact Below.size (by assumption) | exact Nat.le_trans (Below.size (by assumption)) (by simp)))))⟩
  · have hxb : (xx != 0) = true := by simpa using hx0
    have hv3 := Lib.hid (show tpZ lv' xx = (Lib.bitLen xx.toNat : Int) - 1 from if_neg hx0)
    have hwu : IntKind.u64.wrap xx = xx := by rw [show IntKind.u64.wrap xx = xx % 18446744073709551616 by simp [IntKind.wrap, IntKind.bits, IntKind.signed]]; omega
    have hbl : (Lib.bitLen xx.toNat : Int) ≤ 64 := by
      have hlt := flZ_lt x0 x1
      have h2 := bsF_top ⟨l1, l2⟩ x0 x1
      have h3 := (bsF_bd xx lv'.toNat).2
      rw [h2, hv3.out] at h3
      omega
    have q1 : IntKind.i64.wrap ((Lib.bitLen xx.toNat : Int) - 1) = (Lib.bitLen xx.toNat : Int) - 1 := IntWalk.i64_in _ (by omega)
    replace hx0 := Lib.hid hx0
    go_wp2_with fail
    refine (Try.bits_Len xx _ x0 (by omega)).mono ?_
    rintro e w2 ⟨rfl, rfl⟩
    go_wp2
    go_ret2
    exact ⟨ret_in (by rw [hv.out.1, hv2.out, hv3.out]) hv.out.2.symm, (by repeat (first | exact Below.refl _ _ | assumption | refine Below.drew ?_ | refine below_drewN ?_ _ | refine Below.alloc' ?_ _ | (refine Below.setCell ?_ (by first | omega | (simp; done) | (simp; omega) | exact Below.size (by assumption) | exact Nat.le_trans (Below.size (by assumption)) (by simp)) _) | (refine Below.via' ?_ (by assumption)) | (refine Below.alloc ?_ (by first | omega | (simp; done) | (simp; omega) | exact Below.size (by assumption) | exact Nat.le_trans (Below.size (by assumption)) (by simp)) _) | (refine Below.via ?_ (by assumption) (by first | omega | (simp; done) | (simp; omega) | exact Below.size (by assumption) | exact Nat.le_trans (Below.size (by assumption)) (by simp)))))⟩

set_option maxHeartbeats 16000000 in
theorem uTop_any (p y x z : Option Addr) (c c1 c2 c3 : Nat) (P : List Int) (S : List (ByteArray × Int)) (l : Int) (F W : List Int) (m : Int) (w : World) (htg : TgP P S l F W m) (hP : IIn w p P) (hS : SIn w y c1 S) (hT : TIn w x z F W) :
    Calls Try.prog 93 #[.agg #[.slice p P.length c], .slice y S.length c1, .agg #[.int .i64 l, .slice x F.length c2, .slice z W.length c3, .int .i64 m]] w fun e w' => e = .returned (.int .i64 (seZ S W m)) ∧ Below w.heap.size w w' := by
  have hgh := Lib.hid htg.g
  have hth := Lib.hid htg
  have hl30 := (ge_len htg.g).2
  have hv0 := htg.v
  have hm0 := htg.m0
  clear htg
  have hPh := Lib.hid hP
  have hSh := Lib.hid hS
  have hFh := Lib.hid hT.1
  have hWh := Lib.hid hT.2
  clear hP hS hT
  have p1 := Lib.hid (QB.new w p P.length c 33)
  have p2 := Lib.hid (TQ.new (w.alloc (.cells #[.slice p P.length c] 33)) l x F.length c2 z W.length c3 m 37)
  obtain ⟨w0, hw0⟩ : ∃ w0, w0 = (w.alloc (.cells #[.slice p P.length c] 33)).alloc (.cells #[.int .i64 l, .slice x F.length c2, .slice z W.length c3, .int .i64 m] 37) := ⟨_, rfl⟩
  have B0 : Below w.heap.size w w0 := by rw [hw0]; exact (by repeat (first | exact Below.refl _ _ | assumption | refine Below.drew ?_ | refine below_drewN ?_ _ | refine Below.alloc' ?_ _ | (refine Below.setCell ?_ (by first | omega | (simp; done) | (simp; omega) | exact Below.size (by assumption) | exact Nat.le_trans (Below.size (by assumption)) (by simp)) _) | (refine Below.via' ?_ (by assumption)) | (refine Below.alloc ?_ (by first | omega | (simp; done) | (simp; omega) | exact Below.size (by assumption) | exact Nat.le_trans (Below.size (by assumption)) (by simp)) _) | (refine Below.via ?_ (by assumption) (by first | omega | (simp; done) | (simp; omega) | exact Below.size (by assumption) | exact Nat.le_trans (Below.size (by assumption)) (by simp)))))
  have g0 : Hid (QB w0 w.heap.size p P.length c) := by
    rw [hw0]
    exact p1.out.below (show Below (w.alloc (.cells #[.slice p P.length c] 33)).heap.size (w.alloc (.cells #[.slice p P.length c] 33)) _ from (by repeat (first | exact Below.refl _ _ | assumption | refine Below.drew ?_ | refine below_drewN ?_ _ | refine Below.alloc' ?_ _ | (refine Below.setCell ?_ (by first | omega | (simp; done) | (simp; omega) | exact Below.size (by assumption) | exact Nat.le_trans (Below.size (by assumption)) (by simp)) _) | (refine Below.via' ?_ (by assumption)) | (refine Below.alloc ?_ (by first | omega | (simp; done) | (simp; omega) | exact Below.size (by assumption) | exact Nat.le_trans (Below.size (by assumption)) (by simp)) _) | (refine Below.via ?_ (by assumption) (by first | omega | (simp; done) | (simp; omega) | exact Below.size (by assumption) | exact Nat.le_trans (Below.size (by assumption)) (by simp))))))
  have t0 : Hid (TQ w0 (w.heap.size + 1) l x F.length c2 z W.length c3 m) := by
    have h0 := p2.out
    rw [World.size_alloc, ← hw0] at h0
    exact h0
  have z0 : w0.heap.size = w.heap.size + 1 + 1 := by rw [hw0]; simp
  clear p1 p2
  go_enter Try.func93, Try.ntmps93
  go_wp2_with fail
  rw [← hw0]
  replace hw0 := Lib.hid hw0
  replace z0 := Lib.hid z0
  refine (gLeaves_any _ _ P _ hgh.out (hPh.out.below B0)).mono ?_
  rintro e w1 ⟨v1, rfl, ho1, hb1⟩
  obtain ⟨xL, nL, rfl, -, -⟩ := (OwR.of ho1).form
  have hL1 : Hid (IIn w1 xL (lfL P)) := iin_sel (by omega) (Rd.of_own ho1)
  have hln := sel_len (lfP P) P.length
  have hll : (lfL P).length ≤ 30 := by unfold lfL; omega
  clear ho1
  have B1 : Below w.heap.size w w1 := Below.via' B0 hb1
  have g1 := Lib.hid (g0.out.below hb1)
  have t1 := Lib.hid (t0.out.below hb1)
  clear hb1
  go_wp2
  go_loopw [7, 15] (fun d q wr => ∃ j : Nat, j ≤ (lfL P).length ∧ q = .int .i64 j ∧ d = .bool (dqF P l j) ∧ Below w1.heap.size w1 wr) (fun _ q _ => (lfL P).length - (intOf q).toNat)
  case atStart => exact ⟨0, by omega, by go_num, rfl, Below.refl _ _⟩
  case round =>
    obtain ⟨j, hj, rfl, rfl, hb⟩ := hrel
    have Bw : Below w.heap.size w wr := Below.via' B1 hb
    obtain ⟨ka, kb, kc⟩ := g1.out.below hb
    obtain ⟨ta, tb, tc, td, te⟩ := t1.out.below hb
    by_cases hlt : j < (lfL P).length
    · obtain ⟨bl, off, v, hx, hbl, hLj, hc0⟩ := (hL1.out.below hb).2.2.int hlt
      subst hx
      obtain ⟨k, rfl, hk, -⟩ := sel_mem.1 (List.mem_of_getElem? hLj)
      have hsn := Lib.hid (dqF_snoc (l := l) hLj)
      have hlt' : (j : Int) < ((lfL P).length : Int) := by omega
      replace hLj := Lib.hid hLj
      cases hd : dqF P l j
      · rw [hd] at hsn
        go_wp2_with fail
        refine (gUp_any _ _ P k l _ hgh.out hk (hPh.out.below Bw)).mono ?_
        rintro e w2 ⟨rfl, hb2⟩
        by_cases ha : 0 ≤ anZ P k l
        · have hs2 := Lib.hid (show dqF P l (j + 1) = true by rw [hsn.out, decide_eq_true ha]; rfl)
          have had := Lib.hid (decide_eq_true ha)
          go_wp2
          go_roundw
          case rel => exact ⟨j + 1, by omega, by go_num, by rw [hs2.out]; first | done | rfl | (rw [had.out]), Below.via' hb hb2⟩
          case measure => simp [intOf]; omega
        · have hs2 := Lib.hid (show dqF P l (j + 1) = false by rw [hsn.out, decide_eq_false ha]; rfl)
          have had := Lib.hid (decide_eq_false ha)
          go_wp2
          go_roundw
          case rel => exact ⟨j + 1, by omega, by go_num, by rw [hs2.out]; first | done | rfl | (rw [had.out]), Below.via' hb hb2⟩
          case measure => simp [intOf]; omega
      · have hs2 := Lib.hid (show dqF P l (j + 1) = true by rw [hsn.out, hd]; rfl)
        go_wp2
        go_roundw
        case rel => exact ⟨j + 1, by omega, by go_num, by rw [hs2.out], hb⟩
        case measure => simp [intOf]; omega
    · have hij : j = (lfL P).length := by omega
      subst hij
      have hd : dqF P l (lfL P).length = true := dqF_end hgh.out hv0
      rw [hd]
      replace hd := Lib.hid hd
      by_cases hmm : m < 0
      · have hv2 := Lib.hid (se_one (S := S) (W := W) hmm)
        go_wp2
        go_ret
        exact ⟨ret_int hv2.out.symm, Bw⟩
      obtain ⟨q, rfl⟩ := Int.eq_ofNat_of_zero_le (show 0 ≤ m by omega)
      have hqS : q < S.length := by have := hth.out.m1; omega
      have hwl := tw_len hth.out.w
      have hqW : q < W.length := by omega
      obtain ⟨b6, o6, nm, lv, hy6, hb6, hSq, ks0, ks1⟩ := (hSh.out.rd.below Bw).var (i := q) hqS
      obtain ⟨b7, o7, xx, hz7, hb7, hWq, k7⟩ := (hWh.out.2.2.below Bw).int (i := q) hqW
      subst hy6 hz7
      obtain ⟨nm', lv', hS', l1, l2, x0, x1, x255⟩ := tw_get hth.out.s hth.out.w hWq
      obtain ⟨rfl, rfl⟩ : nm' = nm ∧ lv' = lv := by
        have := Option.some.inj (hS'.symm.trans hSq)
        injection this with a b
        exact ⟨a, b⟩
      have hv2 := Lib.hid (se_at hSq hWq)
      have htop := Lib.hid (bsF_top ⟨l1, l2⟩ x0 x1)
      have hq1 : (q : Int) < (W.length : Int) := by omega
      have hq2 : (q : Int) < (S.length : Int) := by omega
      have hq0 : (0 : Int) ≤ (q : Int) := by omega
      have hqn : ¬ (q : Int) < 0 := by omega
      replace hSq := Lib.hid hSq
      replace hWq := Lib.hid hWq
      replace hS' := Lib.hid hS'
      replace hwl := Lib.hid hwl
      replace hmm := Lib.hid hmm
      obtain ⟨n, rfl⟩ := Int.eq_ofNat_of_zero_le (show 0 ≤ lv' by omega)
      go_wp2
      obtain ⟨wo, hwo⟩ : ∃ wo : World, wo = wr := ⟨_, rfl⟩
      rw [← hwo]
      rw [← hwo] at ka kb kc ta tb tc td te ks0 ks1 k7 Bw
      replace hwo := Lib.hid hwo
      go_loopw [10, 11] (fun b u wr2 => ∃ j2 : Nat, j2 ≤ n ∧ u = .int .i64 j2 ∧ b = .int .i64 (bsF xx j2) ∧ wr2 = wo) (fun _ u _ => n - (intOf u).toNat)
      case atStart => exact ⟨0, by omega, by go_num, rfl, rfl⟩
      case round =>
        obtain ⟨j2, hj2, rfl, rfl, rfl⟩ := hrel
        by_cases hl2 : j2 < n
        · have hl2' : (j2 : Int) < (n : Int) := by omega
          have hsv := shr_one x0 (by omega) j2
          have hwu : IntKind.u64.wrap (j2 : Int) = j2 := by rw [show IntKind.u64.wrap (j2 : Int) = (j2 : Int) % 18446744073709551616 by simp [IntKind.wrap, IntKind.bits, IntKind.signed]]; omega
          have hj8 : j2 ≤ 8 := by omega
          by_cases hx0 : xx = 0
          · have hxb : (xx == 0) = true := by rw [hx0]; rfl
            have hs2 := Lib.hid (show bsF xx (j2 + 1) = j2 from if_pos (Or.inl hx0))
            replace hx0 := Lib.hid hx0
            replace hsv := Lib.hid hsv
            go_wp2
            go_roundw
            case rel => exact ⟨j2 + 1, by omega, by go_num, by rw [hs2.out], by first | rfl | trivial⟩
            case measure => simp [intOf]; omega
          · have hxb : (xx == 0) = false := by rw [beq_eq_false_iff_ne]; exact hx0
            cases hh : hsB xx (j2 : Int)
            · have hs2 := Lib.hid (show bsF xx (j2 + 1) = bsF xx j2 from if_neg (fun e => by rcases e with e | e; exact hx0 e; rw [hh] at e; cases e))
              rw [hh] at hsv
              have hz : (bits .and .i64 (xx / 2 ^ j2) 1 == 1) = false := by rw [hsv]; rfl
              replace hsv := Lib.hid hsv
              replace hx0 := Lib.hid hx0
              go_wp2
              go_roundw
              case rel => exact ⟨j2 + 1, by omega, by go_num, by rw [hs2.out], by first | rfl | trivial⟩
              case measure => simp [intOf]; omega
            · have hs2 := Lib.hid (show bsF xx (j2 + 1) = j2 from if_pos (Or.inr hh))
              rw [hh] at hsv
              have hz : (bits .and .i64 (xx / 2 ^ j2) 1 == 1) = true := by rw [hsv]; rfl
              replace hsv := Lib.hid hsv
              replace hx0 := Lib.hid hx0
              replace hh := Lib.hid hh
              go_wp2
              go_roundw
              case rel => exact ⟨j2 + 1, by omega, by go_num, by rw [hs2.out], by first | rfl | trivial⟩
              case measure => simp [intOf]; omega
        · have hij : j2 = n := by omega
          subst hij
          go_wp2
          go_ret
          exact ⟨ret_int (by rw [hv2.out]; have := htop.out; rwa [Int.toNat_natCast] at this), Bw⟩
set_option maxHeartbeats 4000000 in
theorem sSen_x (p y x z : Option Addr) (c c1 c2 c3 : Nat) (P : List Int) (S : List (ByteArray × Int)) (l : Int) (F W : List Int) (m : Int) (w : World) (hP : IIn w p P) (hS : SIn w y c1 S) (hT : TIn w x z F W) :
    Calls Try.prog 50 #[.agg #[.slice p P.length c], .slice y S.length c1, .agg #[.int .i64 l, .slice x F.length c2, .slice z W.length c3, .int .i64 m]] w fun e w' => e = .returned (.tuple #[.int .i64 (senN P S l F W m), .bool (tgB P S l F W m)]) ∧ Below w.heap.size w w' := by
  have hPh := Lib.hid hP
  have hSh := Lib.hid hS
  have hFh := Lib.hid hT.1
  have hWh := Lib.hid hT.2
  clear hP hS hT
  have p1 := Lib.hid (QB.new w p P.length c 33)
  have p2 := Lib.hid (TQ.new (w.alloc (.cells #[.slice p P.length c] 33)) l x F.length c2 z W.length c3 m 37)
  obtain ⟨w0, hw0⟩ : ∃ w0, w0 = (w.alloc (.cells #[.slice p P.length c] 33)).alloc (.cells #[.int .i64 l, .slice x F.length c2, .slice z W.length c3, .int .i64 m] 37) := ⟨_, rfl⟩
  have B0 : Below w.heap.size w w0 := by rw [hw0]; exact (by repeat (first | exact Below.refl _ _ | assumption | refine Below.drew ?_ | refine below_drewN ?_ _ | refine Below.alloc' ?_ _ | (refine Below.setCell ?_ (by first | omega | (simp; done) | (simp; omega) | exact Below.size (by assumption) | exact Nat.le_trans (Below.size (by assumption)) (by simp)) _) | (refine Below.via' ?_ (by assumption)) | (refine Below.alloc ?_ (by first | omega | (simp; done) | (simp; omega) | exact Below.size (by assumption) | exact Nat.le_trans (Below.size (by assumption)) (by simp)) _) | (refine Below.via ?_ (by assumption) (by first | omega | (simp; done) | (simp; omega) | exact Below.size (by assumption) | exact Nat.le_trans (Below.size (by assumption)) (by simp)))))
  have g0 : Hid (QB w0 w.heap.size p P.length c) := by
    rw [hw0]
    exact p1.out.below (show Below (w.alloc (.cells #[.slice p P.length c] 33)).heap.size (w.alloc (.cells #[.slice p P.length c] 33)) _ from (by repeat (first | exact Below.refl _ _ | assumption | refine Below.drew ?_ | refine below_drewN ?_ _ | refine Below.alloc' ?_ _ | (refine Below.setCell ?_ (by first | omega | (simp; done) | (simp; omega) | exact Below.size (by assumption) | exact Nat.le_trans (Below.size (by assumption)) (by simp)) _) | (refine Below.via' ?_ (by assumption)) | (refine Below.alloc ?_ (by first | omega | (simp; done) | (simp; omega) | exact Below.size (by assumption) | exact Nat.le_trans (Below.size (by assumption)) (by simp)) _) | (refine Below.via ?_ (by assumption) (by first | omega | (simp; done) | (simp; omega) | exact Below.size (by assumption) | exact Nat.le_trans (Below.size (by assumption)) (by simp))))))
  have t0 : Hid (TQ w0 (w.heap.size + 1) l x F.length c2 z W.length c3 m) := by
    have h0 := p2.out
    rw [World.size_alloc, ← hw0] at h0
    exact h0
  have z0 : w0.heap.size = w.heap.size + 1 + 1 := by rw [hw0]; simp
  clear p1 p2
  go_enter Try.func50, Try.ntmps50
  go_wp2_with fail
  rw [← hw0]
  replace hw0 := Lib.hid hw0
  replace z0 := Lib.hid z0
  refine (uGood_any p y x z _ _ _ _ P S l m F W _ (hPh.out.below B0) (hSh.out.below B0) ⟨hFh.out.below B0, hWh.out.below B0⟩).mono ?_
  rintro e w1 ⟨rfl, hb1⟩
  have B1 : Below w.heap.size w w1 := Below.via' B0 hb1
  have g1 := Lib.hid (g0.out.below hb1)
  have t1 := Lib.hid (t0.out.below hb1)
  obtain ⟨ka1, kb1, kc1⟩ := g1.out
  obtain ⟨ta1, tb1, tc1, td1, te1⟩ := t1.out
  try clear ka0 kb0 kc0 ta0 tb0 tc0 td0 te0
  clear hb1
  cases htg : tgB P S l F W m
  · have hv := Lib.hid (show senN P S l F W m = 0 from if_f htg)
    replace htg := Lib.hid htg
    go_wp2
    go_ret2
    exact ⟨ret_in hv.out.symm htg.out.symm, B1⟩
  have hv := Lib.hid (show senN P S l F W m = seZ S W m from if_t htg)
  have htp := tg_iff.1 htg
  replace htg := Lib.hid htg
  go_wp2_with fail
  refine (uTop_any p y x z _ _ _ _ P S l F W m _ htp (hPh.out.below B1) (hSh.out.below B1) ⟨hFh.out.below B1, hWh.out.below B1⟩).mono ?_
  rintro e w2 ⟨rfl, hb2⟩
  clear htp
  go_wp2
  go_ret2
  exact ⟨ret_in hv.out.symm htg.out.symm, Below.via' B1 hb2⟩
end Go.Proofs.Ytgkaalonmkcclaa
