import Derived.Test.YtgkaalonmkcclaaDoorPRbF
import Derived.Deep.MidRow
import Derived.Deep.RegionHeld
import Derived.Deep.DeepCutAuto
import Derived.Test.YtgkaalonmkcclaaDoorPRbC
namespace Go.Proofs.YtgkaalonmkcclaaDoor
open Go.RowKit
set_option maxRecDepth 100000

theorem ite_go {c : Bool} {A B : Prop} (h : c = true) (a : A) : if c = true then A else B := by rw [if_pos h]; exact a
theorem setCell_grownT (W : World) (b o : Nat) (v : Value) : W.grownBy (W.setCell ⟨b, o, none⟩ v) (some b) :=
  ⟨rfl, rfl, rfl, by simp [World.setCell], fun k _ hne => Below.heap_setCell _ _ _ _ (fun e => hne (by rw [e]))⟩
theorem setCells_grown (g : Nat) : ∀ (vs : List Value) (o : Nat) (w : World), w.grownBy (w.setCells g o vs) (some g)
  | [], _, _ => ⟨rfl, rfl, rfl, Nat.le_refl _, fun _ _ _ => rfl⟩
  | v :: r, o, w => (setCell_grownT w g o v).trans (setCells_grown g r (o + 1) (w.setCell ⟨g, o, none⟩ v))
theorem setCells_size (g o : Nat) (vs : List Value) (w : World) : w.heap.size ≤ (w.setCells g o vs).heap.size := (setCells_grown g vs o w).size
theorem there_wb {w : World} {g : Nat} {t : TypeId} {cs : Array Value} (h : Wb w g t cs) : w.there g 0 cs.size := fun j hj => by
  rw [Nat.zero_add]
  refine ⟨?_, h.free j⟩
  rw [h.read j, Array.getElem?_eq_getElem hj]
  rfl
theorem there7 {w : World} {g : Nat} {t : TypeId} {cs : Array Value} (h : Wb w g t cs) (hc : cs.size = 7) : w.there g 0 7 := hc ▸ there_wb h
theorem rd_setCellT {w : World} {x : Option Addr} {xs : List Value} (h : Rd w x xs) (b o : Nat) (v : Value) (hne : ∀ k off, x = some ⟨k, off, none⟩ → k ≠ b) : Rd (w.setCell ⟨b, o, none⟩ v) x xs :=
  h.off (Off.of_grown (lo := b) (hi := b + 1) (setCell_grownT w b o v) (fun k hk => by injection hk with hk; omega)) (fun k off e => by have := hne k off e; omega)
/-- Seven cells of a block. -/
def G7 (w : World) (g : Nat) (a0 a1 a2 a3 a4 a5 a6 : Value) : Prop :=
  w.cell? ⟨g, 0, none⟩ = some a0 ∧ w.cell? ⟨g, 1, none⟩ = some a1 ∧ w.cell? ⟨g, 2, none⟩ = some a2 ∧ w.cell? ⟨g, 3, none⟩ = some a3 ∧ w.cell? ⟨g, 4, none⟩ = some a4 ∧ w.cell? ⟨g, 5, none⟩ = some a5 ∧ w.cell? ⟨g, 6, none⟩ = some a6 ∧ g < w.heap.size
theorem G7.below {w w' : World} {g : Nat} {a0 a1 a2 a3 a4 a5 a6 : Value} (h : G7 w g a0 a1 a2 a3 a4 a5 a6) (hb : Below w.heap.size w w') : G7 w' g a0 a1 a2 a3 a4 a5 a6 := by
  obtain ⟨h0, h1, h2, h3, h4, h5, h6, hl⟩ := h
  exact ⟨(hb.cell (p := ⟨g, 0, none⟩) hl).trans h0, (hb.cell (p := ⟨g, 1, none⟩) hl).trans h1, (hb.cell (p := ⟨g, 2, none⟩) hl).trans h2, (hb.cell (p := ⟨g, 3, none⟩) hl).trans h3, (hb.cell (p := ⟨g, 4, none⟩) hl).trans h4, (hb.cell (p := ⟨g, 5, none⟩) hl).trans h5, (hb.cell (p := ⟨g, 6, none⟩) hl).trans h6, Nat.lt_of_lt_of_le hl hb.size⟩
theorem g7_of_wb {w : World} {g : Nat} {t : TypeId} {a0 a1 a2 a3 a4 a5 a6 : Value} (h : Wb w g t #[a0, a1, a2, a3, a4, a5, a6]) : G7 w g a0 a1 a2 a3 a4 a5 a6 :=
  ⟨(h.read 0).trans rfl, (h.read 1).trans rfl, (h.read 2).trans rfl, (h.read 3).trans rfl, (h.read 4).trans rfl, (h.read 5).trans rfl, (h.read 6).trans rfl, h.inside⟩
theorem g7_set {w : World} {g : Nat} {t : TypeId} {cs : Array Value} (h : Wb w g t cs) (hc : cs.size = 7) (a0 a1 a2 a3 a4 a5 a6 : Value) : G7 (w.setCells g 0 [a0, a1, a2, a3, a4, a5, a6]) g a0 a1 a2 a3 a4 a5 a6 := by
  have ht := there_wb h
  rw [hc] at ht
  have hr := World.rangeAt_setCells_same w g 0 [a0, a1, a2, a3, a4, a5, a6] ht
  have key : ∀ j v, [a0, a1, a2, a3, a4, a5, a6][j]? = some v → (w.setCells g 0 [a0, a1, a2, a3, a4, a5, a6]).cell? ⟨g, j, none⟩ = some v := fun j v hv => by
    have := hr j v hv
    rwa [Nat.zero_add] at this
  exact ⟨key 0 _ rfl, key 1 _ rfl, key 2 _ rfl, key 3 _ rfl, key 4 _ rfl, key 5 _ rfl, key 6 _ rfl, Nat.lt_of_lt_of_le h.inside (setCells_size _ _ _ _)⟩
/-- What stands behind the store. -/
theorem gd_end {W X : World} {g lo1 hi1 lo2 hi2 n1 c1 n2 c2 : Nat} {x1 x2 : Option Addr} {L : List Value} {M : List Value} {t1 t2 : TypeId} {s1 s2 : Nat} (vs : List Value) (hB : Below W.heap.size W X) (hg : W.heap.size ≤ g)
    (hA : OwR X lo1 hi1 t1 s1 (.slice x1 n1 c1) n1 L) (h1 : g < lo1 ∨ hi1 ≤ g) (hV : OwR X lo2 hi2 t2 s2 (.slice x2 n2 c2) n2 M) (h2 : g < lo2 ∨ hi2 ≤ g) :
    Below W.heap.size W (X.setCells g 0 vs) ∧ Rd (X.setCells g 0 vs) x1 L ∧ Rd (X.setCells g 0 vs) x2 M := by
  have hk := setCells_grown g vs 0 X
  refine ⟨hB.grown hk hB.size (fun k hk => by injection hk with hk; omega), (hA.keep hk (fun k hk => by injection hk with hk; omega)).rd, (hV.keep hk (fun k hk => by injection hk with hk; omega)).rd⟩
end Go.Proofs.YtgkaalonmkcclaaDoor

namespace Go.Proofs.YtgkaalonmkcclaaDoor
open Go.RowKit
set_option maxRecDepth 100000

/-- What gridOf gives. -/
def GdPost (p x z : Option Addr) (c c2 c3 : Nat) (P : List Int) (S : List (ByteArray × Int)) (l : Int) (F W : List Int) (m : Int) (w : World) (e : Ending) (w' : World) : Prop :=
  Below w.heap.size w w' ∧ ((¬ TgP P S l F W m ∧ e = .returned (.tuple #[.agg #[.slice none 0 0, .int .i64 0, .slice none 0 0, .slice none 0 0, .int .i64 0, .slice none 0 0, .slice none 0 0], .bool false])) ∨
    (TgP P S l F W m ∧ ∃ ga ca va, e = .returned (.tuple #[.agg #[.slice p P.length c, .int .i64 l, .slice x F.length c2, .slice z W.length c3, .int .i64 m, .slice ga (lvL P l).length ca, .slice (some ⟨va, 0, none⟩) (tbS S F).length (tbS S F).length], .bool true]) ∧
      IIn w' ga (lvL P l) ∧ Rd w' (some ⟨va, 0, none⟩) (vC (tbS S F)) ∧ va < w'.heap.size))
set_option maxHeartbeats 16000000 in
theorem gridOf_any (p y x z : Option Addr) (c c1 c2 c3 : Nat) (P : List Int) (S : List (ByteArray × Int)) (l m : Int) (F W : List Int) (w : World) (hP : IIn w p P) (hS : SIn w y c1 S) (hT : TIn w x z F W) :
    Calls Tryd.prog 31 #[.agg #[.slice p P.length c], .slice y S.length c1, .agg #[.int .i64 l, .slice x F.length c2, .slice z W.length c3, .int .i64 m]] w (GdPost p x z c c2 c3 P S l F W m w) := by
  have hm := hS.1
  have hPh := Lib.hid hP
  have hSh := Lib.hid hS
  have hFh := Lib.hid hT.1
  have hWh := Lib.hid hT.2
  clear hP hS hT
  have p1 := Lib.hid (QB.new w p P.length c 33)
  have p2 := Lib.hid (TQ.new (w.alloc (.cells #[.slice p P.length c] 33)) l x F.length c2 z W.length c3 m 37)
  have p3 := Lib.hid (Wb.new ((w.alloc (.cells #[.slice p P.length c] 33)).alloc (.cells #[.int .i64 l, .slice x F.length c2, .slice z W.length c3, .int .i64 m] 37)) 60 #[.slice none 0 0, .int .i64 0, .slice none 0 0, .slice none 0 0, .int .i64 0, .slice none 0 0, .slice none 0 0])
  obtain ⟨w0, hw0⟩ : ∃ w0, w0 = ((w.alloc (.cells #[.slice p P.length c] 33)).alloc (.cells #[.int .i64 l, .slice x F.length c2, .slice z W.length c3, .int .i64 m] 37)).alloc (.cells #[.slice none 0 0, .int .i64 0, .slice none 0 0, .slice none 0 0, .int .i64 0, .slice none 0 0, .slice none 0 0] 60) := ⟨_, rfl⟩
  have B0 : Below w.heap.size w w0 := by rw [hw0]; exact (by repeat (first | exact Below.refl _ _ | assumption | refine Below.drew ?_ | refine below_drewN ?_ _ | refine Below.alloc' ?_ _ | (refine Below.setCell ?_ (by first | omega | (simp; done) | (simp; omega) | exact Below.size (by assumption) | exact Nat.le_trans (Below.size (by assumption)) (by simp)) _) | (refine Below.via' ?_ (by assumption)) | (refine Below.alloc ?_ (by first | omega | (simp; done) | (simp; omega) | exact Below.size (by assumption) | exact Nat.le_trans (Below.size (by assumption)) (by simp)) _) | (refine Below.via ?_ (by assumption) (by first | omega | (simp; done) | (simp; omega) | exact Below.size (by assumption) | exact Nat.le_trans (Below.size (by assumption)) (by simp)))))
  have g0 : Hid (QB w0 w.heap.size p P.length c) := by
    rw [hw0]
    exact p1.out.below (show Below (w.alloc (.cells #[.slice p P.length c] 33)).heap.size (w.alloc (.cells #[.slice p P.length c] 33)) _ from (by repeat (first | exact Below.refl _ _ | assumption | refine Below.drew ?_ | refine below_drewN ?_ _ | refine Below.alloc' ?_ _ | (refine Below.setCell ?_ (by first | omega | (simp; done) | (simp; omega) | exact Below.size (by assumption) | exact Nat.le_trans (Below.size (by assumption)) (by simp)) _) | (refine Below.via' ?_ (by assumption)) | (refine Below.alloc ?_ (by first | omega | (simp; done) | (simp; omega) | exact Below.size (by assumption) | exact Nat.le_trans (Below.size (by assumption)) (by simp)) _) | (refine Below.via ?_ (by assumption) (by first | omega | (simp; done) | (simp; omega) | exact Below.size (by assumption) | exact Nat.le_trans (Below.size (by assumption)) (by simp))))))
  have t0 : Hid (TQ w0 (w.heap.size + 1) l x F.length c2 z W.length c3 m) := by
    rw [hw0]
    have h0 := p2.out.below (show Below ((w.alloc (.cells #[.slice p P.length c] 33)).alloc (.cells #[.int .i64 l, .slice x F.length c2, .slice z W.length c3, .int .i64 m] 37)).heap.size ((w.alloc (.cells #[.slice p P.length c] 33)).alloc (.cells #[.int .i64 l, .slice x F.length c2, .slice z W.length c3, .int .i64 m] 37)) (((w.alloc (.cells #[.slice p P.length c] 33)).alloc (.cells #[.int .i64 l, .slice x F.length c2, .slice z W.length c3, .int .i64 m] 37)).alloc (.cells #[.slice none 0 0, .int .i64 0, .slice none 0 0, .slice none 0 0, .int .i64 0, .slice none 0 0, .slice none 0 0] 60)) from (by repeat (first | exact Below.refl _ _ | assumption | refine Below.drew ?_ | refine below_drewN ?_ _ | refine Below.alloc' ?_ _ | (refine Below.setCell ?_ (by first | omega | (simp; done) | (simp; omega) | exact Below.size (by assumption) | exact Nat.le_trans (Below.size (by assumption)) (by simp)) _) | (refine Below.via' ?_ (by assumption)) | (refine Below.alloc ?_ (by first | omega | (simp; done) | (simp; omega) | exact Below.size (by assumption) | exact Nat.le_trans (Below.size (by assumption)) (by simp)) _) | (refine Below.via ?_ (by assumption) (by first | omega | (simp; done) | (simp; omega) | exact Below.size (by assumption) | exact Nat.le_trans (Below.size (by assumption)) (by simp))))))
    rw [World.size_alloc] at h0
    exact h0
  have r0 : Hid (Wb w0 (w.heap.size + 1 + 1) 60 #[.slice none 0 0, .int .i64 0, .slice none 0 0, .slice none 0 0, .int .i64 0, .slice none 0 0, .slice none 0 0]) := by
    have h0 := p3.out
    rw [World.size_alloc, World.size_alloc, ← hw0] at h0
    exact h0
  have z0 : w0.heap.size = w.heap.size + 1 + 1 + 1 := by rw [hw0]; simp
  clear p1 p2 p3
  go_enter Tryd.func31, Tryd.ntmps31
  go_wp2_with fail
  rw [← hw0]
  replace hw0 := Lib.hid hw0
  have z0h := Lib.hid z0
  refine (iGeo_any _ _ P _ (hPh.out.below B0)).mono ?_
  rintro e w1 ⟨rfl, hb1⟩
  have s1 : w.heap.size + 1 + 1 < w1.heap.size := by have := hb1.size; omega
  clear z0
  have B1 : Below w.heap.size w w1 := Below.via' B0 hb1
  have g1 := Lib.hid (g0.out.below hb1)
  have t1 := Lib.hid (t0.out.below hb1)
  have r1 := Lib.hid (r0.out.kept hb1)
  obtain ⟨ka1, kb1, kc1⟩ := g1.out
  obtain ⟨ta1, tb1, tc1, td1, te1⟩ := t1.out
  have y1_0 := (r1.out.read 0).trans rfl
  have y1_1 := (r1.out.read 1).trans rfl
  have y1_2 := (r1.out.read 2).trans rfl
  have y1_3 := (r1.out.read 3).trans rfl
  have y1_4 := (r1.out.read 4).trans rfl
  have y1_5 := (r1.out.read 5).trans rfl
  have y1_6 := (r1.out.read 6).trans rfl
  have v1_0 := r1.out.free 0
  have v1_1 := r1.out.free 1
  have v1_2 := r1.out.free 2
  have v1_3 := r1.out.free 3
  have v1_4 := r1.out.free 4
  have v1_5 := r1.out.free 5
  have v1_6 := r1.out.free 6
  try clear ka0 kb0 kc0 ta0 tb0 tc0 td0 te0 y0_0 y0_1 y0_2 y0_3 y0_4 y0_5 y0_6 v0_0 v0_1 v0_2 v0_3 v0_4 v0_5 v0_6
  clear hb1
  cases hg : geB P
  · skip
    go_wp2
    refine bodyPost_ret (v := .tuple #[.agg #[.slice none 0 0, .int .i64 0, .slice none 0 0, .slice none 0 0, .int .i64 0, .slice none 0 0, .slice none 0 0], .bool false]) (by simp [results, Tryd.results31, go_sem, *]) rfl ⟨?_, Or.inl ⟨fun h => ?_, rfl⟩⟩
    · repeat (refine Below.setCell ?_ (by simp; try omega) _)
      exact B1
    · rw [h.g] at hg; cases hg
  have hgh := Lib.hid hg
  clear hg
  go_wp2_with fail
  refine (isSch_x _ _ _ _ (hSh.out.below B1)).mono ?_
  rintro e w2 ⟨rfl, hb2⟩
  have s2 : w.heap.size + 1 + 1 < w2.heap.size := Nat.lt_of_lt_of_le s1 hb2.size
  clear s1
  have B2 : Below w.heap.size w w2 := Below.via' B1 hb2
  have g2 := Lib.hid (g1.out.below hb2)
  have t2 := Lib.hid (t1.out.below hb2)
  have r2 := Lib.hid (r1.out.kept hb2)
  obtain ⟨ka2, kb2, kc2⟩ := g2.out
  obtain ⟨ta2, tb2, tc2, td2, te2⟩ := t2.out
  have y2_0 := (r2.out.read 0).trans rfl
  have y2_1 := (r2.out.read 1).trans rfl
  have y2_2 := (r2.out.read 2).trans rfl
  have y2_3 := (r2.out.read 3).trans rfl
  have y2_4 := (r2.out.read 4).trans rfl
  have y2_5 := (r2.out.read 5).trans rfl
  have y2_6 := (r2.out.read 6).trans rfl
  have v2_0 := r2.out.free 0
  have v2_1 := r2.out.free 1
  have v2_2 := r2.out.free 2
  have v2_3 := r2.out.free 3
  have v2_4 := r2.out.free 4
  have v2_5 := r2.out.free 5
  have v2_6 := r2.out.free 6
  try clear ka1 kb1 kc1 ta1 tb1 tc1 td1 te1 y1_0 y1_1 y1_2 y1_3 y1_4 y1_5 y1_6 v1_0 v1_1 v1_2 v1_3 v1_4 v1_5 v1_6
  clear hb2
  cases hs : schB S
  · skip
    go_wp2
    refine bodyPost_ret (v := .tuple #[.agg #[.slice none 0 0, .int .i64 0, .slice none 0 0, .slice none 0 0, .int .i64 0, .slice none 0 0, .slice none 0 0], .bool false]) (by simp [results, Tryd.results31, go_sem, *]) rfl ⟨?_, Or.inl ⟨fun h => ?_, rfl⟩⟩
    · repeat (refine Below.setCell ?_ (by simp; try omega) _)
      exact B2
    · rw [h.s] at hs; cases hs
  have hsh := Lib.hid hs
  have h6 := (schB_len hs).2
  clear hs
  go_wp2_with fail
  refine (areVariablesOf_any _ _ _ _ S F _ hm (hFh.out.below B2)).mono ?_
  rintro e w3 ⟨rfl, rfl⟩
  cases hr : rsB S F
  · skip
    go_wp2
    refine bodyPost_ret (v := .tuple #[.agg #[.slice none 0 0, .int .i64 0, .slice none 0 0, .slice none 0 0, .int .i64 0, .slice none 0 0, .slice none 0 0], .bool false]) (by simp [results, Tryd.results31, go_sem, *]) rfl ⟨?_, Or.inl ⟨fun h => ?_, rfl⟩⟩
    · repeat (refine Below.setCell ?_ (by simp; try omega) _)
      exact B2
    · rw [h.r] at hr; cases hr
  have hrh := Lib.hid hr
  clear hr
  go_wp2_with fail
  refine (areCond_any _ _ _ _ S W _ hsh.out hm (hSh.out.rd.below B2) (hWh.out.below B2)).mono ?_
  rintro e w4 ⟨rfl, hb4⟩
  have s4 : w.heap.size + 1 + 1 < w4.heap.size := Nat.lt_of_lt_of_le s2 hb4.size
  clear s2
  have B4 : Below w.heap.size w w4 := Below.via' B2 hb4
  have g4 := Lib.hid (g2.out.below hb4)
  have t4 := Lib.hid (t2.out.below hb4)
  have r4 := Lib.hid (r2.out.kept hb4)
  obtain ⟨ka4, kb4, kc4⟩ := g4.out
  obtain ⟨ta4, tb4, tc4, td4, te4⟩ := t4.out
  have y4_0 := (r4.out.read 0).trans rfl
  have y4_1 := (r4.out.read 1).trans rfl
  have y4_2 := (r4.out.read 2).trans rfl
  have y4_3 := (r4.out.read 3).trans rfl
  have y4_4 := (r4.out.read 4).trans rfl
  have y4_5 := (r4.out.read 5).trans rfl
  have y4_6 := (r4.out.read 6).trans rfl
  have v4_0 := r4.out.free 0
  have v4_1 := r4.out.free 1
  have v4_2 := r4.out.free 2
  have v4_3 := r4.out.free 3
  have v4_4 := r4.out.free 4
  have v4_5 := r4.out.free 5
  have v4_6 := r4.out.free 6
  try clear ka2 kb2 kc2 ta2 tb2 tc2 td2 te2 y2_0 y2_1 y2_2 y2_3 y2_4 y2_5 y2_6 v2_0 v2_1 v2_2 v2_3 v2_4 v2_5 v2_6
  clear hb4
  cases hw : twB S W
  · skip
    go_wp2
    refine bodyPost_ret (v := .tuple #[.agg #[.slice none 0 0, .int .i64 0, .slice none 0 0, .slice none 0 0, .int .i64 0, .slice none 0 0, .slice none 0 0], .bool false]) (by simp [results, Tryd.results31, go_sem, *]) rfl ⟨?_, Or.inl ⟨fun h => ?_, rfl⟩⟩
    · repeat (refine Below.setCell ?_ (by simp; try omega) _)
      exact B4
    · rw [h.w] at hw; cases hw
  have hwh := Lib.hid hw
  clear hw
  by_cases hm0 : m < -1
  · skip
    go_wp2
    refine bodyPost_ret (v := .tuple #[.agg #[.slice none 0 0, .int .i64 0, .slice none 0 0, .slice none 0 0, .int .i64 0, .slice none 0 0, .slice none 0 0], .bool false]) (by simp [results, Tryd.results31, go_sem, *]) rfl ⟨?_, Or.inl ⟨fun h => ?_, rfl⟩⟩
    · repeat (refine Below.setCell ?_ (by simp; try omega) _)
      exact B4
    · have := h.m0; omega
  by_cases hm1 : (S.length : Int) ≤ m
  · skip
    go_wp2
    refine bodyPost_ret (v := .tuple #[.agg #[.slice none 0 0, .int .i64 0, .slice none 0 0, .slice none 0 0, .int .i64 0, .slice none 0 0, .slice none 0 0], .bool false]) (by simp [results, Tryd.results31, go_sem, *]) rfl ⟨?_, Or.inl ⟨fun h => ?_, rfl⟩⟩
    · repeat (refine Below.setCell ?_ (by simp; try omega) _)
      exact B4
    · have := h.m1; omega
  have hip := Lib.hid (inP_of hsh.out hrh.out rfl)
  have hpt := Lib.hid (tbS_ok hsh.out hrh.out)
  have hl30 := (ge_len hgh.out).2
  have hlv := Lib.hid (lv_aw P l)
  have s4a : w.heap.size < w4.heap.size := by omega
  have s4b : w.heap.size + 1 < w4.heap.size := by omega
  go_upto_region 5 with fail
  go_cut [8] (fun s8 wx => ∃ g ga ca va, s8 = .pointer (some ⟨g, 0, none⟩) ∧ G7 wx g (.slice p P.length c) (.int .i64 l) (.slice x F.length c2) (.slice z W.length c3) (.int .i64 m) (.slice ga (lvL P l).length ca) (.slice (some ⟨va, 0, none⟩) (tbS S F).length (tbS S F).length) ∧ Rd wx ga (iC (lvL P l)) ∧ Rd wx (some ⟨va, 0, none⟩) (vC (tbS S F)) ∧ va < wx.heap.size ∧ (∀ k off, ga = some ⟨k, off, none⟩ → w4.heap.size ≤ k) ∧ w4.heap.size ≤ va ∧ Below w4.heap.size w4 wx)
  case first =>
      clear y4_0 y4_1 y4_2 y4_3 y4_4 y4_5 y4_6 v4_0 v4_1 v4_2 v4_3 v4_4 v4_5 v4_6 hm0 hm1 kb4 kc4 h6
      refine wp_region_held_drew (S := fun X => Below w4.heap.size w4 X) (by kernel_rfl) (Below.drew (Below.refl _ _)) (fun hH => ?_)
      refine wpAnyH_take (i := 0) (v := ?_) rfl (by kernel_rfl) (by kernel_rfl) (by kernel_rfl) (fun _ _ _ h => h) (Or.inl ⟨by rfl, ?_⟩) (by assumption) ?_; rotate_left; · (intro wz hz; (have f0 := (hz.cell (p := ⟨w.heap.size, 0, none⟩) s4a).trans ka4; have f1 := (hz.cell (p := ⟨w.heap.size + 1, 0, none⟩) s4b).trans ta4; have f2 := (hz.cell (p := ⟨w.heap.size + 1, 1, none⟩) s4b).trans tb4; have f3 := (hz.cell (p := ⟨w.heap.size + 1, 2, none⟩) s4b).trans tc4; have f4 := (hz.cell (p := ⟨w.heap.size + 1, 3, none⟩) s4b).trans td4); clear hz; go_simp; try with_reducible rfl); (try simp only [Act.put, List.getElem_toArray, List.getElem_cons_succ, List.getElem_cons_zero, List.setIfInBounds_toArray, List.set_cons_zero, List.set_cons_succ])
      refine wpAnyH_take (i := 1) (v := ?_) rfl (by kernel_rfl) (by kernel_rfl) (by kernel_rfl) (fun _ _ _ h => h) (Or.inl ⟨by rfl, ?_⟩) (by assumption) ?_; rotate_left; · (intro wz hz; (have f0 := (hz.cell (p := ⟨w.heap.size, 0, none⟩) s4a).trans ka4; have f1 := (hz.cell (p := ⟨w.heap.size + 1, 0, none⟩) s4b).trans ta4; have f2 := (hz.cell (p := ⟨w.heap.size + 1, 1, none⟩) s4b).trans tb4; have f3 := (hz.cell (p := ⟨w.heap.size + 1, 2, none⟩) s4b).trans tc4; have f4 := (hz.cell (p := ⟨w.heap.size + 1, 3, none⟩) s4b).trans td4); clear hz; go_simp; try with_reducible rfl); (try simp only [Act.put, List.getElem_toArray, List.getElem_cons_succ, List.getElem_cons_zero, List.setIfInBounds_toArray, List.set_cons_zero, List.set_cons_succ])
      refine wpAnyH_take (i := 2) (v := ?_) rfl (by kernel_rfl) (by kernel_rfl) (by kernel_rfl) (fun _ _ _ h => h) (Or.inl ⟨by rfl, ?_⟩) (by assumption) ?_; rotate_left; · (intro wz hz; (have f0 := (hz.cell (p := ⟨w.heap.size, 0, none⟩) s4a).trans ka4; have f1 := (hz.cell (p := ⟨w.heap.size + 1, 0, none⟩) s4b).trans ta4; have f2 := (hz.cell (p := ⟨w.heap.size + 1, 1, none⟩) s4b).trans tb4; have f3 := (hz.cell (p := ⟨w.heap.size + 1, 2, none⟩) s4b).trans tc4; have f4 := (hz.cell (p := ⟨w.heap.size + 1, 3, none⟩) s4b).trans td4); clear hz; go_simp; try with_reducible rfl); (try simp only [Act.put, List.getElem_toArray, List.getElem_cons_succ, List.getElem_cons_zero, List.setIfInBounds_toArray, List.set_cons_zero, List.set_cons_succ])
      refine wpAnyH_take (i := 4) (v := ?_) rfl (by kernel_rfl) (by kernel_rfl) (by kernel_rfl) (fun _ _ _ h => h) (Or.inl ⟨by rfl, ?_⟩) (by assumption) ?_; rotate_left; · (intro wz hz; (have f0 := (hz.cell (p := ⟨w.heap.size, 0, none⟩) s4a).trans ka4; have f1 := (hz.cell (p := ⟨w.heap.size + 1, 0, none⟩) s4b).trans ta4; have f2 := (hz.cell (p := ⟨w.heap.size + 1, 1, none⟩) s4b).trans tb4; have f3 := (hz.cell (p := ⟨w.heap.size + 1, 2, none⟩) s4b).trans tc4; have f4 := (hz.cell (p := ⟨w.heap.size + 1, 3, none⟩) s4b).trans td4); clear hz; go_simp; try with_reducible rfl); (try simp only [Act.put, List.getElem_toArray, List.getElem_cons_succ, List.getElem_cons_zero, List.setIfInBounds_toArray, List.set_cons_zero, List.set_cons_succ])
      refine wpAnyH_take (i := 5) (v := ?_) rfl (by kernel_rfl) (by kernel_rfl) (by kernel_rfl) (fun _ _ _ h => h) (Or.inl ⟨by rfl, ?_⟩) (by assumption) ?_; rotate_left; · (intro wz hz; (have f0 := (hz.cell (p := ⟨w.heap.size, 0, none⟩) s4a).trans ka4; have f1 := (hz.cell (p := ⟨w.heap.size + 1, 0, none⟩) s4b).trans ta4; have f2 := (hz.cell (p := ⟨w.heap.size + 1, 1, none⟩) s4b).trans tb4; have f3 := (hz.cell (p := ⟨w.heap.size + 1, 2, none⟩) s4b).trans tc4; have f4 := (hz.cell (p := ⟨w.heap.size + 1, 3, none⟩) s4b).trans td4); clear hz; go_simp; try with_reducible rfl); (try simp only [Act.put, List.getElem_toArray, List.getElem_cons_succ, List.getElem_cons_zero, List.setIfInBounds_toArray, List.set_cons_zero, List.set_cons_succ])
      refine wpAnyH_take (i := 7) (v := ?_) rfl (by kernel_rfl) (by kernel_rfl) (by kernel_rfl) (fun _ _ _ h => h) (Or.inl ⟨by rfl, ?_⟩) (by assumption) ?_; rotate_left; · (intro wz hz; (have f0 := (hz.cell (p := ⟨w.heap.size, 0, none⟩) s4a).trans ka4; have f1 := (hz.cell (p := ⟨w.heap.size + 1, 0, none⟩) s4b).trans ta4; have f2 := (hz.cell (p := ⟨w.heap.size + 1, 1, none⟩) s4b).trans tb4; have f3 := (hz.cell (p := ⟨w.heap.size + 1, 2, none⟩) s4b).trans tc4; have f4 := (hz.cell (p := ⟨w.heap.size + 1, 3, none⟩) s4b).trans td4); clear hz; go_simp; try with_reducible rfl); (try simp only [Act.put, List.getElem_toArray, List.getElem_cons_succ, List.getElem_cons_zero, List.setIfInBounds_toArray, List.set_cons_zero, List.set_cons_succ])
      refine wpAnyH_take (i := 8) (v := ?_) rfl (by kernel_rfl) (by kernel_rfl) (by kernel_rfl) (fun _ _ _ h => h) (Or.inl ⟨by rfl, ?_⟩) (by assumption) ?_; rotate_left; · (intro wz hz; (have f0 := (hz.cell (p := ⟨w.heap.size, 0, none⟩) s4a).trans ka4; have f1 := (hz.cell (p := ⟨w.heap.size + 1, 0, none⟩) s4b).trans ta4; have f2 := (hz.cell (p := ⟨w.heap.size + 1, 1, none⟩) s4b).trans tb4; have f3 := (hz.cell (p := ⟨w.heap.size + 1, 2, none⟩) s4b).trans tc4; have f4 := (hz.cell (p := ⟨w.heap.size + 1, 3, none⟩) s4b).trans td4); clear hz; go_simp; try with_reducible rfl); (try simp only [Act.put, List.getElem_toArray, List.getElem_cons_succ, List.getElem_cons_zero, List.setIfInBounds_toArray, List.set_cons_zero, List.set_cons_succ])
      refine wpAnyH_take (i := 9) (v := ?_) rfl (by kernel_rfl) (by kernel_rfl) (by kernel_rfl) (fun _ _ _ h => h) (Or.inl ⟨by rfl, ?_⟩) (by assumption) ?_; rotate_left; · (intro wz hz; (have f0 := (hz.cell (p := ⟨w.heap.size, 0, none⟩) s4a).trans ka4; have f1 := (hz.cell (p := ⟨w.heap.size + 1, 0, none⟩) s4b).trans ta4; have f2 := (hz.cell (p := ⟨w.heap.size + 1, 1, none⟩) s4b).trans tb4; have f3 := (hz.cell (p := ⟨w.heap.size + 1, 2, none⟩) s4b).trans tc4; have f4 := (hz.cell (p := ⟨w.heap.size + 1, 3, none⟩) s4b).trans td4); clear hz; go_simp; try with_reducible rfl); (try simp only [Act.put, List.getElem_toArray, List.getElem_cons_succ, List.getElem_cons_zero, List.setIfInBounds_toArray, List.set_cons_zero, List.set_cons_succ])
      refine wpAnyH_ready (rs := [3, 12]) (by kernel_rfl) (by simp) (AllReadyH.cons rfl (fun K hK => ?_) (AllReadyH.cons rfl (fun K hK => ?_) AllReadyH.nil))
      go_simp
      refine (depthsOf_any _ _ P _ hgh.out (hPh.out.below (Below.via' B4 hH))).mono ?_
      rintro e w5 ⟨v5, rfl, ho5, hb5⟩
      obtain ⟨x5, n5, rfl, -, -⟩ := (OwR.of ho5).form
      have hr5 := Lib.hid (Rd.of_own ho5)
      refine hK.out _ _ (Below.via' hH hb5) (fun h5 => ?_)
      clear hK K ho5
      (try simp only [Act.put, List.getElem_toArray, List.getElem_cons_succ, List.getElem_cons_zero, List.setIfInBounds_toArray, List.set_cons_zero, List.set_cons_succ])
      refine wpAnyH_ready (rs := [6, 12]) (by kernel_rfl) (by simp) (AllReadyH.cons rfl (fun K hK => ?_) (AllReadyH.cons rfl (fun K hK => ?_) AllReadyH.nil))
      go_simp
      refine (areasWith_any x5 n5 (dpL P) l _ (by rw [dpL_len]; omega) (hr5.out.below (by exact (by repeat (first | exact Below.refl _ _ | assumption | refine Below.drew ?_ | refine below_drewN ?_ _ | refine Below.alloc' ?_ _ | (refine Below.setCell ?_ (by first | omega | (simp; done) | (simp; omega) | exact Below.size (by assumption) | exact Nat.le_trans (Below.size (by assumption)) (by simp)) _) | (refine Below.via' ?_ (by assumption)) | (refine Below.alloc ?_ (by first | omega | (simp; done) | (simp; omega) | exact Below.size (by assumption) | exact Nat.le_trans (Below.size (by assumption)) (by simp)) _) | (refine Below.via ?_ (by assumption) (by first | omega | (simp; done) | (simp; omega) | exact Below.size (by assumption) | exact Nat.le_trans (Below.size (by assumption)) (by simp)))))))).mono ?_
      rintro e w6 ⟨v6, rfl, ho6, hb6⟩
      rw [hlv.out] at ho6
      (try simp only [World.size_alloc] at ho6)
      obtain ⟨x6, n6, rfl, -, -⟩ := (OwR.of ho6).form
      have hA6 := Lib.hid (OwR.of ho6)
      refine hK.out _ _ (Below.via' h5 hb6) (fun h6 => ?_)
      clear hK K ho6
      (try simp only [Act.put, List.getElem_toArray, List.getElem_cons_succ, List.getElem_cons_zero, List.setIfInBounds_toArray, List.set_cons_zero, List.set_cons_succ])
      refine wpAnyH_ready (rs := [10, 12]) (by kernel_rfl) (by simp) (AllReadyH.cons rfl (fun K hK => ?_) (AllReadyH.cons rfl (fun K hK => ?_) AllReadyH.nil))
      go_simp
      refine (elemsV_any _ _ _ _ S F _ hip.out (hSh.out.rd.below (Below.via' B4 h6)) (hFh.out.2.2.below (Below.via' B4 h6))).mono ?_
      rintro e w7 ⟨rfl, ho7, hb7⟩
      (try simp only [World.size_alloc] at ho7)
      have hV7 := Lib.hid (OwR.of ho7)
      have hl7 := (hV7.out.2 _ rfl).2
      refine hK.out _ _ (Below.via' h6 hb7) (fun h7 => ?_)
      clear hK K ho7
      (try simp only [Act.put, List.getElem_toArray, List.getElem_cons_succ, List.getElem_cons_zero, List.setIfInBounds_toArray, List.set_cons_zero, List.set_cons_succ])
      refine wpAnyH_take (i := 11) (v := ?_) rfl (by kernel_rfl) (by kernel_rfl) (by kernel_rfl) (fun _ _ _ h => h) (Or.inl ⟨by rfl, ?_⟩) (by assumption) ?_; rotate_left; · (intro wz hz; (skip); clear hz; go_simp; try with_reducible rfl); (try simp only [Act.put, List.getElem_toArray, List.getElem_cons_succ, List.getElem_cons_zero, List.setIfInBounds_toArray, List.set_cons_zero, List.set_cons_succ])
      refine wpAnyH_ready (rs := [12]) (by kernel_rfl) (by simp) (AllReadyH.cons rfl (fun K hK => ?_) AllReadyH.nil)
      go_simp
      refine hK.out _ _ (Below.alloc' h7 _) (fun h8 => ?_)
      clear hK K
      (try simp only [Act.put, List.getElem_toArray, List.getElem_cons_succ, List.getElem_cons_zero, List.setIfInBounds_toArray, List.set_cons_zero, List.set_cons_succ])
      have e7 := h7.size
      have e76 := hb7.size
      have e65 := hb6.size
      refine wpAnyH_ready (rs := [13]) (by kernel_rfl) (by simp) (AllReadyH.cons rfl (fun K hK => ?_) AllReadyH.nil)
      refine ite_go (by rfl) ?_
      refine wp_store_mid 60 (.tmp 8) (.tmp 54) rfl (w7.heap.size) 0 _ rfl rfl (there7 (Wb.new w7 60 #[.slice none 0 0, .int .i64 0, .slice none 0 0, .slice none 0 0, .int .i64 0, .slice none 0 0, .slice none 0 0]) rfl) (by kernel_rfl) (by rw [Array.all_eq_true_iff_forall_mem]; intro v hv; simp at hv; rcases hv with rfl | rfl | rfl | rfl | rfl | rfl | rfl <;> rfl) ?_
      refine hK.out _ _ (gd_end _ h8 (by omega) ((hA6.out.below hb7).below (Below.alloc' (Below.refl _ _) _)) (by (right; omega)) (hV7.out.below (Below.alloc' (Below.refl _ _) _)) (by (right; omega))).1 (fun hH9 => ?_)
      clear hK K
      refine wpAnyH_done (by kernel_rfl) ?_ _
      go_wp2_with fail
      go_meet
      refine ⟨_, x6, n6, _, rfl, (by rw [tbS_len]; exact g7_set (Wb.new w7 60 #[.slice none 0 0, .int .i64 0, .slice none 0 0, .slice none 0 0, .int .i64 0, .slice none 0 0, .slice none 0 0]) rfl _ _ _ _ _ _ _), (gd_end _ h8 (by omega) ((hA6.out.below hb7).below (Below.alloc' (Below.refl _ _) _)) (by (right; omega)) (hV7.out.below (Below.alloc' (Below.refl _ _) _)) (by (right; omega))).2.1, (gd_end _ h8 (by omega) ((hA6.out.below hb7).below (Below.alloc' (Below.refl _ _) _)) (by (right; omega)) (hV7.out.below (Below.alloc' (Below.refl _ _) _)) (by (right; omega))).2.2, Nat.lt_of_lt_of_le ?_ (setCells_size _ _ _ _), (fun k off e => by have h0 := (OwR.inr hA6.out k off e).1; have h1 := h5.size; first | omega | (simp at h0; omega)), (by have h0 := (OwR.inr hV7.out _ _ rfl).1; have h1 := h6.size; first | omega | (simp at h0; omega)), hH9⟩
      (simp; omega)
      go_simp
      refine hK.out _ _ (Below.alloc' h6 _) (fun h6b => ?_)
      clear hK K
      (try simp only [Act.put, List.getElem_toArray, List.getElem_cons_succ, List.getElem_cons_zero, List.setIfInBounds_toArray, List.set_cons_zero, List.set_cons_succ])
      refine wpAnyH_ready (rs := [10]) (by kernel_rfl) (by simp) (AllReadyH.cons rfl (fun K hK => ?_) AllReadyH.nil)
      go_simp
      refine (elemsV_any _ _ _ _ S F _ hip.out (hSh.out.rd.below (Below.via' B4 h6b)) (hFh.out.2.2.below (Below.via' B4 h6b))).mono ?_
      rintro e w7 ⟨rfl, ho7, hb7⟩
      (try simp only [World.size_alloc] at ho7)
      have hV7 := Lib.hid (OwR.of ho7)
      have hl7 := (hV7.out.2 _ rfl).2
      refine hK.out _ _ (Below.via' h6b hb7) (fun h7 => ?_)
      clear hK K ho7
      (try simp only [Act.put, List.getElem_toArray, List.getElem_cons_succ, List.getElem_cons_zero, List.setIfInBounds_toArray, List.set_cons_zero, List.set_cons_succ])
      refine wpAnyH_take (i := 11) (v := ?_) rfl (by kernel_rfl) (by kernel_rfl) (by kernel_rfl) (fun _ _ _ h => h) (Or.inl ⟨by rfl, ?_⟩) (by assumption) ?_; rotate_left; · (intro wz hz; (skip); clear hz; go_simp; try with_reducible rfl); (try simp only [Act.put, List.getElem_toArray, List.getElem_cons_succ, List.getElem_cons_zero, List.setIfInBounds_toArray, List.set_cons_zero, List.set_cons_succ])
      have e6 := h6.size
      refine wpAnyH_ready (rs := [13]) (by kernel_rfl) (by simp) (AllReadyH.cons rfl (fun K hK => ?_) AllReadyH.nil)
      refine ite_go (by rfl) ?_
      refine wp_store_mid 60 (.tmp 8) (.tmp 54) rfl (w6.heap.size) 0 _ rfl rfl (there7 ((Wb.new w6 60 #[.slice none 0 0, .int .i64 0, .slice none 0 0, .slice none 0 0, .int .i64 0, .slice none 0 0, .slice none 0 0]).kept hb7) rfl) (by kernel_rfl) (by rw [Array.all_eq_true_iff_forall_mem]; intro v hv; simp at hv; rcases hv with rfl | rfl | rfl | rfl | rfl | rfl | rfl <;> rfl) ?_
      refine hK.out _ _ (gd_end _ h7 (by omega) ((hA6.out.below (Below.alloc' (Below.refl _ _) _)).below hb7) (by (right; omega)) hV7.out (by (left; simp))).1 (fun hH9 => ?_)
      clear hK K
      refine wpAnyH_done (by kernel_rfl) ?_ _
      go_wp2_with fail
      go_meet
      refine ⟨_, x6, n6, _, rfl, (by rw [tbS_len]; exact g7_set ((Wb.new w6 60 #[.slice none 0 0, .int .i64 0, .slice none 0 0, .slice none 0 0, .int .i64 0, .slice none 0 0, .slice none 0 0]).kept hb7) rfl _ _ _ _ _ _ _), (gd_end _ h7 (by omega) ((hA6.out.below (Below.alloc' (Below.refl _ _) _)).below hb7) (by (right; omega)) hV7.out (by (left; simp))).2.1, (gd_end _ h7 (by omega) ((hA6.out.below (Below.alloc' (Below.refl _ _) _)).below hb7) (by (right; omega)) hV7.out (by (left; simp))).2.2, Nat.lt_of_lt_of_le ?_ (setCells_size _ _ _ _), (fun k off e => by have h0 := (OwR.inr hA6.out k off e).1; have h1 := h5.size; first | omega | (simp at h0; omega)), (by have h0 := (OwR.inr hV7.out _ _ rfl).1; have h1 := h6.size; first | omega | (simp at h0; omega)), hH9⟩
      exact hl7
      go_simp
      refine hK.out _ _ (Below.alloc' h5 _) (fun h5b => ?_)
      clear hK K
      (try simp only [Act.put, List.getElem_toArray, List.getElem_cons_succ, List.getElem_cons_zero, List.setIfInBounds_toArray, List.set_cons_zero, List.set_cons_succ])
      refine wpAnyH_ready (rs := [6]) (by kernel_rfl) (by simp) (AllReadyH.cons rfl (fun K hK => ?_) AllReadyH.nil)
      go_simp
      refine (areasWith_any x5 n5 (dpL P) l _ (by rw [dpL_len]; omega) (hr5.out.below (by exact (by repeat (first | exact Below.refl _ _ | assumption | refine Below.drew ?_ | refine below_drewN ?_ _ | refine Below.alloc' ?_ _ | (refine Below.setCell ?_ (by first | omega | (simp; done) | (simp; omega) | exact Below.size (by assumption) | exact Nat.le_trans (Below.size (by assumption)) (by simp)) _) | (refine Below.via' ?_ (by assumption)) | (refine Below.alloc ?_ (by first | omega | (simp; done) | (simp; omega) | exact Below.size (by assumption) | exact Nat.le_trans (Below.size (by assumption)) (by simp)) _) | (refine Below.via ?_ (by assumption) (by first | omega | (simp; done) | (simp; omega) | exact Below.size (by assumption) | exact Nat.le_trans (Below.size (by assumption)) (by simp)))))))).mono ?_
      rintro e w6 ⟨v6, rfl, ho6, hb6⟩
      rw [hlv.out] at ho6
      (try simp only [World.size_alloc] at ho6)
      obtain ⟨x6, n6, rfl, -, -⟩ := (OwR.of ho6).form
      have hA6 := Lib.hid (OwR.of ho6)
      refine hK.out _ _ (Below.via' h5b hb6) (fun h6 => ?_)
      clear hK K ho6
      (try simp only [Act.put, List.getElem_toArray, List.getElem_cons_succ, List.getElem_cons_zero, List.setIfInBounds_toArray, List.set_cons_zero, List.set_cons_succ])
      refine wpAnyH_ready (rs := [10]) (by kernel_rfl) (by simp) (AllReadyH.cons rfl (fun K hK => ?_) AllReadyH.nil)
      go_simp
      refine (elemsV_any _ _ _ _ S F _ hip.out (hSh.out.rd.below (Below.via' B4 h6)) (hFh.out.2.2.below (Below.via' B4 h6))).mono ?_
      rintro e w7 ⟨rfl, ho7, hb7⟩
      (try simp only [World.size_alloc] at ho7)
      have hV7 := Lib.hid (OwR.of ho7)
      have hl7 := (hV7.out.2 _ rfl).2
      refine hK.out _ _ (Below.via' h6 hb7) (fun h7 => ?_)
      clear hK K ho7
      (try simp only [Act.put, List.getElem_toArray, List.getElem_cons_succ, List.getElem_cons_zero, List.setIfInBounds_toArray, List.set_cons_zero, List.set_cons_succ])
      refine wpAnyH_take (i := 11) (v := ?_) rfl (by kernel_rfl) (by kernel_rfl) (by kernel_rfl) (fun _ _ _ h => h) (Or.inl ⟨by rfl, ?_⟩) (by assumption) ?_; rotate_left; · (intro wz hz; (skip); clear hz; go_simp; try with_reducible rfl); (try simp only [Act.put, List.getElem_toArray, List.getElem_cons_succ, List.getElem_cons_zero, List.setIfInBounds_toArray, List.set_cons_zero, List.set_cons_succ])
      have e5 := h5.size
      have e6 := hb6.size
      rw [World.size_alloc] at e6
      refine wpAnyH_ready (rs := [13]) (by kernel_rfl) (by simp) (AllReadyH.cons rfl (fun K hK => ?_) AllReadyH.nil)
      refine ite_go (by rfl) ?_
      refine wp_store_mid 60 (.tmp 8) (.tmp 54) rfl (w5.heap.size) 0 _ rfl rfl (there7 (((Wb.new w5 60 #[.slice none 0 0, .int .i64 0, .slice none 0 0, .slice none 0 0, .int .i64 0, .slice none 0 0, .slice none 0 0]).kept hb6).kept hb7) rfl) (by kernel_rfl) (by rw [Array.all_eq_true_iff_forall_mem]; intro v hv; simp at hv; rcases hv with rfl | rfl | rfl | rfl | rfl | rfl | rfl <;> rfl) ?_
      refine hK.out _ _ (gd_end _ h7 (by omega) (hA6.out.below hb7) (by (left; simp)) hV7.out (by (left; omega))).1 (fun hH9 => ?_)
      clear hK K
      refine wpAnyH_done (by kernel_rfl) ?_ _
      go_wp2_with fail
      go_meet
      refine ⟨_, x6, n6, _, rfl, (by rw [tbS_len]; exact g7_set (((Wb.new w5 60 #[.slice none 0 0, .int .i64 0, .slice none 0 0, .slice none 0 0, .int .i64 0, .slice none 0 0, .slice none 0 0]).kept hb6).kept hb7) rfl _ _ _ _ _ _ _), (gd_end _ h7 (by omega) (hA6.out.below hb7) (by (left; simp)) hV7.out (by (left; omega))).2.1, (gd_end _ h7 (by omega) (hA6.out.below hb7) (by (left; simp)) hV7.out (by (left; omega))).2.2, Nat.lt_of_lt_of_le ?_ (setCells_size _ _ _ _), (fun k off e => by have h0 := (OwR.inr hA6.out k off e).1; have h1 := h5.size; first | omega | (simp at h0; omega)), (by have h0 := (OwR.inr hV7.out _ _ rfl).1; have h1 := h6.size; first | omega | (simp at h0; omega)), hH9⟩
      exact hl7
      go_simp
      refine hK.out _ _ (Below.alloc' hH _) (fun h4b => ?_)
      clear hK K
      (try simp only [Act.put, List.getElem_toArray, List.getElem_cons_succ, List.getElem_cons_zero, List.setIfInBounds_toArray, List.set_cons_zero, List.set_cons_succ])
      refine wpAnyH_ready (rs := [3]) (by kernel_rfl) (by simp) (AllReadyH.cons rfl (fun K hK => ?_) AllReadyH.nil)
      go_simp
      refine (depthsOf_any _ _ P _ hgh.out (hPh.out.below (Below.via' B4 h4b))).mono ?_
      rintro e w5 ⟨v5, rfl, ho5, hb5⟩
      obtain ⟨x5, n5, rfl, -, -⟩ := (OwR.of ho5).form
      have hr5 := Lib.hid (Rd.of_own ho5)
      refine hK.out _ _ (Below.via' h4b hb5) (fun h5 => ?_)
      clear hK K ho5
      (try simp only [Act.put, List.getElem_toArray, List.getElem_cons_succ, List.getElem_cons_zero, List.setIfInBounds_toArray, List.set_cons_zero, List.set_cons_succ])
      refine wpAnyH_ready (rs := [6]) (by kernel_rfl) (by simp) (AllReadyH.cons rfl (fun K hK => ?_) AllReadyH.nil)
      go_simp
      refine (areasWith_any x5 n5 (dpL P) l _ (by rw [dpL_len]; omega) (hr5.out.below (by exact (by repeat (first | exact Below.refl _ _ | assumption | refine Below.drew ?_ | refine below_drewN ?_ _ | refine Below.alloc' ?_ _ | (refine Below.setCell ?_ (by first | omega | (simp; done) | (simp; omega) | exact Below.size (by assumption) | exact Nat.le_trans (Below.size (by assumption)) (by simp)) _) | (refine Below.via' ?_ (by assumption)) | (refine Below.alloc ?_ (by first | omega | (simp; done) | (simp; omega) | exact Below.size (by assumption) | exact Nat.le_trans (Below.size (by assumption)) (by simp)) _) | (refine Below.via ?_ (by assumption) (by first | omega | (simp; done) | (simp; omega) | exact Below.size (by assumption) | exact Nat.le_trans (Below.size (by assumption)) (by simp)))))))).mono ?_
      rintro e w6 ⟨v6, rfl, ho6, hb6⟩
      rw [hlv.out] at ho6
      (try simp only [World.size_alloc] at ho6)
      obtain ⟨x6, n6, rfl, -, -⟩ := (OwR.of ho6).form
      have hA6 := Lib.hid (OwR.of ho6)
      refine hK.out _ _ (Below.via' h5 hb6) (fun h6 => ?_)
      clear hK K ho6
      (try simp only [Act.put, List.getElem_toArray, List.getElem_cons_succ, List.getElem_cons_zero, List.setIfInBounds_toArray, List.set_cons_zero, List.set_cons_succ])
      refine wpAnyH_ready (rs := [10]) (by kernel_rfl) (by simp) (AllReadyH.cons rfl (fun K hK => ?_) AllReadyH.nil)
      go_simp
      refine (elemsV_any _ _ _ _ S F _ hip.out (hSh.out.rd.below (Below.via' B4 h6)) (hFh.out.2.2.below (Below.via' B4 h6))).mono ?_
      rintro e w7 ⟨rfl, ho7, hb7⟩
      (try simp only [World.size_alloc] at ho7)
      have hV7 := Lib.hid (OwR.of ho7)
      have hl7 := (hV7.out.2 _ rfl).2
      refine hK.out _ _ (Below.via' h6 hb7) (fun h7 => ?_)
      clear hK K ho7
      (try simp only [Act.put, List.getElem_toArray, List.getElem_cons_succ, List.getElem_cons_zero, List.setIfInBounds_toArray, List.set_cons_zero, List.set_cons_succ])
      refine wpAnyH_take (i := 11) (v := ?_) rfl (by kernel_rfl) (by kernel_rfl) (by kernel_rfl) (fun _ _ _ h => h) (Or.inl ⟨by rfl, ?_⟩) (by assumption) ?_; rotate_left; · (intro wz hz; (skip); clear hz; go_simp; try with_reducible rfl); (try simp only [Act.put, List.getElem_toArray, List.getElem_cons_succ, List.getElem_cons_zero, List.setIfInBounds_toArray, List.set_cons_zero, List.set_cons_succ])
      have gw4 : Wb (World.drew (w4.alloc (.cells #[.slice none 0 0, .int .i64 0, .slice none 0 0, .slice none 0 0, .int .i64 0, .slice none 0 0, .slice none 0 0] 60))) w4.heap.size 60 #[.slice none 0 0, .int .i64 0, .slice none 0 0, .slice none 0 0, .int .i64 0, .slice none 0 0, .slice none 0 0] := Wb.new w4 60 #[.slice none 0 0, .int .i64 0, .slice none 0 0, .slice none 0 0, .int .i64 0, .slice none 0 0, .slice none 0 0]
      have e5 : (w4.alloc (.cells #[.slice none 0 0, .int .i64 0, .slice none 0 0, .slice none 0 0, .int .i64 0, .slice none 0 0, .slice none 0 0] 60)).heap.size ≤ w5.heap.size := hb5.size
      rw [World.size_alloc] at e5
      have e6 := hb6.size
      refine wpAnyH_ready (rs := [13]) (by kernel_rfl) (by simp) (AllReadyH.cons rfl (fun K hK => ?_) AllReadyH.nil)
      refine ite_go (by rfl) ?_
      refine wp_store_mid 60 (.tmp 8) (.tmp 54) rfl (w4.heap.size) 0 _ rfl rfl (there7 (((gw4.kept hb5).kept hb6).kept hb7) rfl) (by kernel_rfl) (by rw [Array.all_eq_true_iff_forall_mem]; intro v hv; simp at hv; rcases hv with rfl | rfl | rfl | rfl | rfl | rfl | rfl <;> rfl) ?_
      refine hK.out _ _ (gd_end _ h7 (by omega) (hA6.out.below hb7) (by (left; omega)) hV7.out (by (left; omega))).1 (fun hH9 => ?_)
      clear hK K
      refine wpAnyH_done (by kernel_rfl) ?_ _
      go_wp2_with fail
      go_meet
      refine ⟨_, x6, n6, _, rfl, (by rw [tbS_len]; exact g7_set (((gw4.kept hb5).kept hb6).kept hb7) rfl _ _ _ _ _ _ _), (gd_end _ h7 (by omega) (hA6.out.below hb7) (by (left; omega)) hV7.out (by (left; omega))).2.1, (gd_end _ h7 (by omega) (hA6.out.below hb7) (by (left; omega)) hV7.out (by (left; omega))).2.2, Nat.lt_of_lt_of_le ?_ (setCells_size _ _ _ _), (fun k off e => by have h0 := (OwR.inr hA6.out k off e).1; have h1 := h5.size; first | omega | (simp at h0; omega)), (by have h0 := (OwR.inr hV7.out _ _ rfl).1; have h1 := h6.size; first | omega | (simp at h0; omega)), hH9⟩
      exact hl7
  obtain ⟨g, ga, ca, va, rfl, hG, hAr, hVr, hvl, hga, hva, hb5⟩ := hcut
  obtain ⟨w5, rfl⟩ : ∃ u : World, u = wc := ⟨_, rfl⟩
  have s5 : w.heap.size + 1 + 1 < w5.heap.size := Nat.lt_of_lt_of_le s4 hb5.size
  have hGh := Lib.hid hG
  have hAh := Lib.hid hAr
  have hVh := Lib.hid hVr
  have hgah := Lib.hid hga
  clear s4a s4b hG hAr hVr hga
  have B5 : Below w.heap.size w w5 := Below.via' B4 hb5
  have g5 := Lib.hid (g4.out.below hb5)
  have t5 := Lib.hid (t4.out.below hb5)
  have r5 := Lib.hid (r4.out.kept hb5)
  obtain ⟨ka5, kb5, kc5⟩ := g5.out
  obtain ⟨ta5, tb5, tc5, td5, te5⟩ := t5.out
  have y5_0 := (r5.out.read 0).trans rfl
  have y5_1 := (r5.out.read 1).trans rfl
  have y5_2 := (r5.out.read 2).trans rfl
  have y5_3 := (r5.out.read 3).trans rfl
  have y5_4 := (r5.out.read 4).trans rfl
  have y5_5 := (r5.out.read 5).trans rfl
  have y5_6 := (r5.out.read 6).trans rfl
  have v5_0 := r5.out.free 0
  have v5_1 := r5.out.free 1
  have v5_2 := r5.out.free 2
  have v5_3 := r5.out.free 3
  have v5_4 := r5.out.free 4
  have v5_5 := r5.out.free 5
  have v5_6 := r5.out.free 6
  try clear ka4 kb4 kc4 ta4 tb4 tc4 td4 te4 y4_0 y4_1 y4_2 y4_3 y4_4 y4_5 y4_6 v4_0 v4_1 v4_2 v4_3 v4_4 v4_5 v4_6
  clear hb5
  obtain ⟨i0, i1, i2, i3, i4, i5, i6, il⟩ := hGh.out
  by_cases hv0 : (lvL P l).length = 0
  · have hv1 : (((lvL P l).length : Int) == 0) = true := by rw [beq_iff_eq]; omega
    replace hv0 := Lib.hid hv0
    go_wp2
    refine bodyPost_ret (v := .tuple #[.agg #[.slice none 0 0, .int .i64 0, .slice none 0 0, .slice none 0 0, .int .i64 0, .slice none 0 0, .slice none 0 0], .bool false]) (by simp [results, Tryd.results31, go_sem, *]) rfl ⟨?_, Or.inl ⟨fun h => ?_, rfl⟩⟩
    · repeat (refine Below.setCell ?_ (by simp; try omega) _)
      exact B5
    · have := h.v; have := hv0.out; omega
  have hv1 : (((lvL P l).length : Int) == 0) = false := by rw [beq_eq_false_iff_ne]; omega
  have hl29 := lvL_len P l
  replace hv0 := Lib.hid hv0
  go_wp2_with fail
  refine (gcount_any _ _ _ _ _ _ _ _ _ _ _ _ _ _ _ (lvL P l) (tbS S F) _ hpt.out (by omega) hVh.out).mono ?_
  rintro e w6 ⟨rfl, hb6⟩
  have s6 : w.heap.size + 1 + 1 < w6.heap.size := Nat.lt_of_lt_of_le s5 hb6.size
  have e65 := hb6.size
  obtain ⟨j0, j1, j2, j3, j4, j5, j6, jl⟩ := hGh.out.below hb6
  have hA6 := Lib.hid (hAh.out.below hb6)
  have hV6 := Lib.hid (hVh.out.below hb6)
  clear i0 i1 i2 i3 i4 i5 i6 il
  have B6 : Below w.heap.size w w6 := Below.via' B5 hb6
  have g6 := Lib.hid (g5.out.below hb6)
  have t6 := Lib.hid (t5.out.below hb6)
  have r6 := Lib.hid (r5.out.kept hb6)
  obtain ⟨ka6, kb6, kc6⟩ := g6.out
  obtain ⟨ta6, tb6, tc6, td6, te6⟩ := t6.out
  have y6_0 := (r6.out.read 0).trans rfl
  have y6_1 := (r6.out.read 1).trans rfl
  have y6_2 := (r6.out.read 2).trans rfl
  have y6_3 := (r6.out.read 3).trans rfl
  have y6_4 := (r6.out.read 4).trans rfl
  have y6_5 := (r6.out.read 5).trans rfl
  have y6_6 := (r6.out.read 6).trans rfl
  have v6_0 := r6.out.free 0
  have v6_1 := r6.out.free 1
  have v6_2 := r6.out.free 2
  have v6_3 := r6.out.free 3
  have v6_4 := r6.out.free 4
  have v6_5 := r6.out.free 5
  have v6_6 := r6.out.free 6
  try clear ka5 kb5 kc5 ta5 tb5 tc5 td5 te5 y5_0 y5_1 y5_2 y5_3 y5_4 y5_5 y5_6 v5_0 v5_1 v5_2 v5_3 v5_4 v5_5 v5_6
  clear hb6
  clear hv1
  by_cases hc : 600 < ((lvL P l).length : Int) * cnZ (tbS S F)
  · skip
    go_wp2
    refine bodyPost_ret (v := .tuple #[.agg #[.slice none 0 0, .int .i64 0, .slice none 0 0, .slice none 0 0, .int .i64 0, .slice none 0 0, .slice none 0 0], .bool false]) (by simp [results, Tryd.results31, go_sem, *]) rfl ⟨?_, Or.inl ⟨fun h => ?_, rfl⟩⟩
    · repeat (refine Below.setCell ?_ (by simp; try omega) _)
      exact B6
    · have := h.c; unfold tcZ at this; omega
  have htg : Hid (TgP P S l F W m) := ⟨hgh.out, hsh.out, hrh.out, hwh.out, by omega, by omega, by have := hv0.out; omega, by unfold tcZ; omega⟩
  go_wp2
  refine bodyPost_ret (v := .tuple #[.agg #[.slice p P.length c, .int .i64 l, .slice x F.length c2, .slice z W.length c3, .int .i64 m, .slice ga (lvL P l).length ca, .slice (some ⟨va, 0, none⟩) (tbS S F).length (tbS S F).length], .bool true]) (by simp [results, Tryd.results31, go_sem, *]) rfl ⟨?_, Or.inr ⟨htg.out, ga, ca, va, rfl, iin_sel (by omega) ?_, ?_, ?_⟩⟩
  · repeat (refine Below.setCell ?_ (by simp; try omega) _)
    exact B6
  · repeat (refine rd_setCellT ?_ _ _ _ (fun k off e => by have := hgah.out k off e; omega))
    exact hA6.out
  · repeat (refine rd_setCellT ?_ _ _ _ (fun k off e => by injection e with e; injection e with e; omega))
    exact hV6.out
  · simp only [World.size_setCell]
    omega
end Go.Proofs.YtgkaalonmkcclaaDoor

namespace Go.Proofs.YtgkaalonmkcclaaDoor
open Go.RowKit
set_option maxRecDepth 100000

/-- What IsSurvey and MeetsWhere answer. -/
def isvB (P : List Int) (S : List (ByteArray × Int)) (M : List RV) : Bool := geB P && (schB S && (dokB S M && tyB P M))
def isvK (P : List Int) (S : List (ByteArray × Int)) : Bool := geB P && schB S
def mwhK (S : List (ByteArray × Int)) (W : List Int) (r : RV) : Bool := schB S && (twB S W && rokB S r)
def mwhB (S : List (ByteArray × Int)) (W : List Int) (r : RV) : Bool := mwhK S W r && tmB W r.2.2
end Go.Proofs.YtgkaalonmkcclaaDoor

namespace Go.Proofs.YtgkaalonmkcclaaDoor
open Go.RowKit
set_option maxRecDepth 100000

theorem ret_boo {a b : Bool} (h : a = b) : Ending.returned (.bool a) = .returned (.bool b) := by rw [h]
set_option maxHeartbeats 4000000 in
theorem isTb_any (p y x z : Option Addr) (c c1 c2 c3 : Nat) (P : List Int) (S : List (ByteArray × Int)) (l : Int) (F W : List Int) (m : Int) (w : World) (hP : IIn w p P) (hS : SIn w y c1 S) (hT : TIn w x z F W) :
    Calls Tryd.prog 24 #[.agg #[.slice p P.length c], .slice y S.length c1, .agg #[.int .i64 l, .slice x F.length c2, .slice z W.length c3, .int .i64 m]] w fun e w' => e = .returned (.bool (tgB P S l F W m)) ∧ Below w.heap.size w w' := by
  have hPh := Lib.hid hP
  have hSh := Lib.hid hS
  have hFh := Lib.hid hT.1
  have hWh := Lib.hid hT.2
  clear hP hS hT
  have p1 := Lib.hid (QB.new w p P.length c 33)
  have p2 := Lib.hid (TQ.new (w.alloc (.cells #[.slice p P.length c] 33)) l x F.length c2 z W.length c3 m 37)
  obtain ⟨w0, hw0⟩ : ∃ w0, w0 = (w.alloc (.cells #[.slice p P.length c] 33)).alloc (.cells #[.int .i64 l, .slice x F.length c2, .slice z W.length c3, .int .i64 m] 37) := ⟨_, rfl⟩
  have B0 : Below w.heap.size w w0 := by rw [hw0]; exact (by repeat (first | exact Below.refl _ _ | assumption | refine Below.drew ?_ | refine below_drewN ?_ _ | refine Below.alloc' ?_ _ | (refine Below.setCell ?_ (by first | omega | (simp; done) | (simp; omega) | exact Below.size (by assumption) | exact Nat.le_trans (Below.size (by assumption)) (by simp)) _) | (refine Below.via' ?_ (by assumption)) | (refine Below.alloc ?_ (by first | omega | (simp; done) | (simp; omega) | exact Below.size (by assumption) | exact Nat.le_trans (Below.size (by assumption)) (by simp)) _) | (refine Below.via ?_ (by assumption) (by first | omega | (simp; done) | (simp; omega) | exact Below.size (by assumption) | exact Nat.le_trans (Below.size (by assumption)) (by simp)))))
  have g0 : Hid (QB w0 w.heap.size p P.length c) := by
    rw [hw0]
    exact p1.out.below (show Below (w.alloc (.cells #[.slice p P.length c] 33)).heap.size (w.alloc (.cells #[.slice p P.length c] 33)) _ from (by repeat (first | exact Below.refl _ _ | assumption | refine Below.drew ?_ | refine below_drewN ?_ _ | refine Below.alloc' ?_ _ | (refine Below.setCell ?_ (by first | omega | (simp; done) | (simp; omega) | exact Below.size (by assumption) | exact Nat.le_trans (Below.size (by assumption)) (by simp)) _) | (refine Below.via' ?_ (by assumption)) | (refine Below.alloc ?_ (by first | omega | (simp; done) | (simp; omega) | exact Below.size (by assumption) | exact Nat.le_trans (Below.size (by assumption)) (by simp)) _) | (refine Below.via ?_ (by assumption) (by first | omega | (simp; done) | (simp; omega) | exact Below.size (by assumption) | exact Nat.le_trans (Below.size (by assumption)) (by simp))))))
  have t0 : Hid (TQ w0 (w.heap.size + 1) l x F.length c2 z W.length c3 m) := by
    have h0 := p2.out
    rw [World.size_alloc, ← hw0] at h0
    exact h0
  have z0 : w0.heap.size = w.heap.size + 1 + 1 := by rw [hw0]; simp
  clear p1 p2
  go_enter Tryd.func24, Tryd.ntmps24
  go_wp2_with fail
  rw [← hw0]
  replace hw0 := Lib.hid hw0
  replace z0 := Lib.hid z0
  refine (gridOf_any p y x z _ _ _ _ P S l m F W _ (hPh.out.below B0) (hSh.out.below B0) ⟨hFh.out.below B0, hWh.out.below B0⟩).mono ?_
  rintro e w1 ⟨hb1, h1⟩
  have B1 : Below w.heap.size w w1 := Below.via' B0 hb1
  have g1 := Lib.hid (g0.out.below hb1)
  have t1 := Lib.hid (t0.out.below hb1)
  obtain ⟨ka1, kb1, kc1⟩ := g1.out
  obtain ⟨ta1, tb1, tc1, td1, te1⟩ := t1.out
  try clear ka0 kb0 kc0 ta0 tb0 tc0 td0 te0
  clear hb1
  rcases h1 with ⟨hno, rfl⟩ | ⟨htg, ga, ca, va, rfl, hA, hV, hvl⟩
  · have hv := Lib.hid (tg_no hno)
    clear hno
    go_wp2
    go_ret
    exact ⟨ret_boo hv.out.symm, (by repeat (first | exact Below.refl _ _ | assumption | refine Below.drew ?_ | refine below_drewN ?_ _ | refine Below.alloc' ?_ _ | (refine Below.setCell ?_ (by first | omega | (simp; done) | (simp; omega) | exact Below.size (by assumption) | exact Nat.le_trans (Below.size (by assumption)) (by simp)) _) | (refine Below.via' ?_ (by assumption)) | (refine Below.alloc ?_ (by first | omega | (simp; done) | (simp; omega) | exact Below.size (by assumption) | exact Nat.le_trans (Below.size (by assumption)) (by simp)) _) | (refine Below.via ?_ (by assumption) (by first | omega | (simp; done) | (simp; omega) | exact Below.size (by assumption) | exact Nat.le_trans (Below.size (by assumption)) (by simp)))))⟩
  · have hv := Lib.hid (tg_iff.2 htg)
    clear htg
    replace hA := Lib.hid hA
    replace hV := Lib.hid hV
    go_wp2
    go_ret
    exact ⟨ret_boo hv.out.symm, (by repeat (first | exact Below.refl _ _ | assumption | refine Below.drew ?_ | refine below_drewN ?_ _ | refine Below.alloc' ?_ _ | (refine Below.setCell ?_ (by first | omega | (simp; done) | (simp; omega) | exact Below.size (by assumption) | exact Nat.le_trans (Below.size (by assumption)) (by simp)) _) | (refine Below.via' ?_ (by assumption)) | (refine Below.alloc ?_ (by first | omega | (simp; done) | (simp; omega) | exact Below.size (by assumption) | exact Nat.le_trans (Below.size (by assumption)) (by simp)) _) | (refine Below.via ?_ (by assumption) (by first | omega | (simp; done) | (simp; omega) | exact Below.size (by assumption) | exact Nat.le_trans (Below.size (by assumption)) (by simp)))))⟩
end Go.Proofs.YtgkaalonmkcclaaDoor

namespace Go.Proofs.YtgkaalonmkcclaaDoor
open Go.RowKit
set_option maxRecDepth 100000

theorem tg_lv {P : List Int} {S : List (ByteArray × Int)} {l : Int} {F W : List Int} {m : Int} (h : TgP P S l F W m) : 0 ≤ l ∧ l < 30 := by
  obtain ⟨x, hx⟩ := List.exists_mem_of_length_pos h.v
  obtain ⟨a, rfl, ha, he⟩ := sel_mem.1 hx
  have hd : (dpN P a : Int) = l := of_decide_eq_true he
  have h1 := dp_le h.g ha
  have h2 := (ge_len h.g).2
  omega
theorem Rd.twoS (w : World) (t : TypeId) (a b : ByteArray) : Rd (w.alloc (.cells #[.string a, .string b] t)) (some ⟨w.heap.size, 0, none⟩) (tC [a, b]) := by
  refine Or.inr ⟨w.heap.size, 0, rfl, by simp, fun j u hj => ?_⟩
  rw [Nat.zero_add, World.cell?_alloc_at _ _ _ _ rfl, ← hj, ← Array.getElem?_toList]
  rfl
set_option maxHeartbeats 2000000 in
theorem namesText_any (x : Option Addr) (c1 : Nat) (T : List (ByteArray × Int)) (w : World) (h0 : 1 ≤ T.length) (h6 : T.length ≤ 6) (hz : ∀ p ∈ T, p.1.size ≤ 8) (hT : Rd w x (vC T)) :
    Calls Tryd.prog 43 #[.slice x T.length c1] w fun e w' => e = .returned (.string (jnS 44 (T.map (·.1)))) ∧ Below w.heap.size w w' := by
  obtain ⟨i0, hii, hz0, hz1, hz2⟩ := info_parts Tryd.infoStr
  have hTh := Lib.hid hT
  have hss : (jnS 44 (T.map (·.1))).size ≤ (T.map (·.1)).length * 9 := jnS_size (by
    intro t ht
    obtain ⟨p, hp, rfl⟩ := List.mem_map.1 ht
    have := hz p hp
    omega)
  rw [List.length_map] at hss
  have hbb : i0.bytes * T.length ≤ 281474976710656 := by rw [hz2]; omega
  have hmm : T.length ≤ maxLen := by unfold maxLen; omega
  clear hT
  go_enter Tryd.func43, Tryd.ntmps43
  go_wp2_with (at_make; go_loud (refine wpList_make_full _ rfl _ _ 72 rfl w.heap.size 9 i0 (.string ⟨#[]⟩) 1 Tryd.underlying72 hii hz0 hz1 .i64 .i64 _ _ T.length rfl rfl rfl rfl hbb hmm (Nat.le_refl _) (fun w3 hown hgrow => ?_)))
  have hb3 : Below w.heap.size w w3 := (Below.refl _ _).grown hgrow (Nat.le_refl _) (by intro k hk; cases hk)
  clear hgrow hii hz0 hz1 hz2 hbb hmm
  go_wp2
  go_loopw [11] (fun q wr => ∃ (n : Nat) (xs : List Value), n ≤ T.length ∧ q = .int .i64 n ∧ wr.ownsRow w.heap.size 9 1 (.slice (some ⟨w.heap.size, 0, none⟩) T.length T.length) T.length xs ∧ Hid (∀ j, j < n → xs[j]? = (tC (T.map (·.1)))[j]?) ∧ Below w.heap.size w wr) (fun q _ => T.length - (intOf q).toNat)
  case atStart => exact ⟨0, _, by omega, by go_num, hown, (fun j hj => absurd hj (by omega)), hb3⟩
  case round =>
    clear hown hb3
    obtain ⟨n, xs, hn, rfl, hown, hdone, hb⟩ := hrel
    by_cases hlt : n < T.length
    · obtain ⟨bl, off, nm, lv, hx2, hbl, hA, hc0, hc1⟩ := (hTh.out.below hb).var hlt
      have hlt' : (n : Int) < (T.length : Int) := by omega
      have hn0 : (0 : Int) ≤ (n : Int) := by omega
      obtain ⟨u, hu, k0⟩ := own_cell hown (j := n) (by omega)
      have k2 := hown.frozenAt n
      have k4 := (own_lt hown).2
      have hst := Lib.hid (hown.stored n (.string nm))
      have hlen : Hid (xs.length = T.length) := by have := hown.1; unfold Hid; omega
      have hx2h := Lib.hid hx2
      replace hA := Lib.hid hA
      replace hu := Lib.hid hu
      clear hown hx2
      rw [hx2h.out]
      go_wp2
      go_roundw
      case rel =>
        refine ⟨n + 1, _, by omega, by go_num, hst.out.1.alloc _, ?_, (by repeat (first | exact Below.refl _ _ | assumption | refine Below.drew ?_ | refine below_drewN ?_ _ | refine Below.alloc' ?_ _ | (refine Below.setCell ?_ (by first | omega | (simp; done) | (simp; omega) | exact Below.size (by assumption) | exact Nat.le_trans (Below.size (by assumption)) (by simp)) _) | (refine Below.via' ?_ (by assumption)) | (refine Below.alloc ?_ (by first | omega | (simp; done) | (simp; omega) | exact Below.size (by assumption) | exact Nat.le_trans (Below.size (by assumption)) (by simp)) _) | (refine Below.via ?_ (by assumption) (by first | omega | (simp; done) | (simp; omega) | exact Below.size (by assumption) | exact Nat.le_trans (Below.size (by assumption)) (by simp)))))⟩
        intro j hj
        rw [List.getElem?_set]
        split
        · subst_vars
          rw [if_pos (by rw [hlen.out]; omega)]
          unfold tC
          rw [List.getElem?_map, List.getElem?_map, hA.out]
          rfl
        · exact hdone.out j (by omega)
      case measure => simp [intOf]; omega
    · have hij : n = T.length := by omega
      subst hij
      have hxs : xs = tC (T.map (·.1)) := by
        have hlen : xs.length = T.length := by rw [hown.1]; omega
        apply List.ext_getElem?
        intro j
        rcases Nat.lt_or_ge j T.length with hj | hj
        · exact hdone.out j hj
        · rw [List.getElem?_eq_none (by omega), List.getElem?_eq_none (by rw [tC_len, List.length_map]; omega)]
      subst hxs
      have hrd := Lib.hid (Rd.of_own hown)
      have hj := join_S w.heap.size T.length 44 (T.map (·.1)) wr (by rw [List.length_map]; exact h0) (by rw [List.length_map]; omega) (by rw [List.length_map]; exact Nat.le_refl _) (by omega) hrd.out
      rw [List.length_map] at hj
      have hjh := Lib.hid hj
      clear hdone hown hj
      go_wp2_with fail
      refine hjh.out.mono ?_
      rintro e w6 ⟨rfl, hb6⟩
      go_wp2
      go_ret
      exact ⟨rfl, (by repeat (first | exact Below.refl _ _ | assumption | refine Below.drew ?_ | refine below_drewN ?_ _ | refine Below.alloc' ?_ _ | (refine Below.setCell ?_ (by first | omega | (simp; done) | (simp; omega) | exact Below.size (by assumption) | exact Nat.le_trans (Below.size (by assumption)) (by simp)) _) | (refine Below.via' ?_ (by assumption)) | (refine Below.alloc ?_ (by first | omega | (simp; done) | (simp; omega) | exact Below.size (by assumption) | exact Nat.le_trans (Below.size (by assumption)) (by simp)) _) | (refine Below.via ?_ (by assumption) (by first | omega | (simp; done) | (simp; omega) | exact Below.size (by assumption) | exact Nat.le_trans (Below.size (by assumption)) (by simp)))))⟩
set_option maxHeartbeats 4000000 in
theorem condWords_any (y z : Option Addr) (c1 c3 : Nat) (S : List (ByteArray × Int)) (W : List Int) (w : World) (hs : schB S = true) (hw : twB S W = true) (hS : SIn w y c1 S) (hW : IIn w z W) :
    Calls Tryd.prog 45 #[.slice y S.length c1, .slice z W.length c3] w fun e w' => ∃ u, e = .returned u ∧ w'.ownsRow w.heap.size 9 1 u (cwU S W S.length).length (tC (cwU S W S.length)) ∧ Below w.heap.size w w' := by
  obtain ⟨i0, hii, hz0, hz1, hz2⟩ := info_parts Tryd.infoStr
  have hSh := Lib.hid hS
  have hWh := Lib.hid hW
  have hsh := Lib.hid hs
  have hwh := Lib.hid hw
  have h6 := (schB_len hs).2
  have hlW := Lib.hid (tw_len hw)
  clear hS hW hs hw
  go_enter Tryd.func45, Tryd.ntmps45
  go_wp2
  go_loopw [5, 10] (fun u c wr => ∃ i : Nat, i ≤ S.length ∧ c = .int .i64 i ∧ wr.ownsRow w.heap.size 9 1 u (cwU S W i).length (tC (cwU S W i)) ∧ Below w.heap.size w wr) (fun _ c _ => S.length - (intOf c).toNat)
  case atStart => exact ⟨0, by omega, by go_num, World.ownsRow_nil _ _ _ _, Below.refl _ _⟩
  case round =>
    obtain ⟨i, hi, rfl, hown, hBr⟩ := hrel
    have hownh := Lib.hid hown
    have hsl := cwU_len S W i
    by_cases hlt : i < S.length
    · obtain ⟨bl, off, nm, lv, rfl, hbl, hSi, hc0, hc1⟩ := (hSh.out.rd.below hBr).var hlt
      obtain ⟨bl2, off2, v, rfl, hbl2, hWi, hc2⟩ := (hWh.out.below hBr).2.2.int (i := i) (by have := hlW.out; omega)
      obtain ⟨nm', lv', hS', l1, l2, x0, x1, x255⟩ := tw_get hsh.out hwh.out hWi
      obtain ⟨rfl, rfl⟩ : nm' = nm ∧ lv' = lv := by
        have := Option.some.inj (hS'.symm.trans hSi)
        injection this with a b
        exact ⟨a, b⟩
      have hcw := cwB_at hWi
      have hpa := Lib.hid (paS_at hSi hWi)
      have hns := name_size hsh.out hSi
      have hlt' : (i : Int) < (S.length : Int) := by omega
      have hlt2 : (i : Int) < (W.length : Int) := by have := hlW.out; omega
      have hi0 : (0 : Int) ≤ (i : Int) := by omega
      replace hSi := Lib.hid hSi
      replace hWi := Lib.hid hWi
      replace hS' := Lib.hid hS'
      clear hown
      by_cases hv0 : v = 0
      · have hvb : (v != 0) = false := by rw [hv0]; rfl
        have hsel := Lib.hid (cwU_no (S := S) (hcw.trans hvb))
        replace hv0 := Lib.hid hv0
        replace hcw := Lib.hid hcw
        go_wp2
        go_roundw
        case rel => exact ⟨i + 1, by omega, by go_num, by rw [hsel.out]; exact hownh.out.alloc _, (by repeat (first | exact Below.refl _ _ | assumption | refine Below.drew ?_ | refine below_drewN ?_ _ | refine Below.alloc' ?_ _ | (refine Below.setCell ?_ (by first | omega | (simp; done) | (simp; omega) | exact Below.size (by assumption) | exact Nat.le_trans (Below.size (by assumption)) (by simp)) _) | (refine Below.via' ?_ (by assumption)) | (refine Below.alloc ?_ (by first | omega | (simp; done) | (simp; omega) | exact Below.size (by assumption) | exact Nat.le_trans (Below.size (by assumption)) (by simp)) _) | (refine Below.via ?_ (by assumption) (by first | omega | (simp; done) | (simp; omega) | exact Below.size (by assumption) | exact Nat.le_trans (Below.size (by assumption)) (by simp)))))⟩
        case measure => simp [intOf]; omega
      · have hvb : (v != 0) = true := by simpa using hv0
        have hsel := Lib.hid (cwU_yes (S := S) (hcw.trans hvb))
        have x1' : 1 ≤ v := by omega
        replace hv0 := Lib.hid hv0
        replace hcw := Lib.hid hcw
        have hst := setT_size v
        have k1 : (⟨#[61]⟩ : ByteArray).size = 1 := rfl
        have hs1 : ¬ 9223372036854775807 < nm'.size + (⟨#[61]⟩ : ByteArray).size := by rw [k1]; omega
        have hs2 : ¬ 9223372036854775807 < (nm' ++ ⟨#[61]⟩).size + (setT v).size := by rw [ByteArray.size_append, k1]; omega
        have hs3 : ¬ 9223372036854775807 < nm'.size + 1 := by omega
        have hs4 : ¬ 9223372036854775807 < nm'.size + 1 + (setT v).size := by omega
        clear k1
        obtain ⟨wv, hwv⟩ : ∃ wv, wv = wr.alloc (.cells #[.string nm', .int .i64 lv'] 52) := ⟨_, rfl⟩
        have hV := Wb.new wr 52 #[.string nm', .int .i64 lv']
        have hbw : Below wr.heap.size wr wv := by rw [hwv]; exact Below.alloc' (Below.refl _ _) _
        rw [← hwv] at hV
        have V3 := Lib.hid hV
        have ho3 := Lib.hid (own_below hownh.out hbw)
        have hBr3 := Below.via' hBr hbw
        have hs30 := hbw.size
        have hc3 := (hbw.cell (p := ⟨bl2, off2 + i, none⟩) hbl2).trans hc2
        have r30 : wv.cell? ⟨wr.heap.size, 0, none⟩ = some (.string nm') := (V3.out.read 0).trans rfl
        have r31 : wv.cell? ⟨wr.heap.size, 1, none⟩ = some (.int .i64 lv') := (V3.out.read 1).trans rfl
        have hbl3 : bl2 < wv.heap.size := Nat.lt_of_lt_of_le hbl2 hs30
        replace hwv := Lib.hid hwv
        clear hV
        go_upto_region 6 with fail
        rw [← hwv.out]
        clear hc0 hc1 hc2 hownh
        go_region_law (first
          | (go_simp; go_at_call 62; refine (setText_any nm' lv' v _ ⟨l1, l2⟩ x1' x1).mono ?_; rintro e w4 ⟨rfl, hb4⟩; (have hb4' := below_undrewE hb4); (have O4 := Lib.hid (own_below ho3.out hb4')); (have V4 := Lib.hid (V3.out.kept hb4')); (have r40 : w4.cell? ⟨wr.heap.size, 0, none⟩ = some (.string nm') := (V4.out.read 0).trans rfl); (have r41 : w4.cell? ⟨wr.heap.size, 1, none⟩ = some (.int .i64 lv') := (V4.out.read 1).trans rfl); (have hc4 := (hb4'.cell (p := ⟨bl2, off2 + i, none⟩) hbl3).trans hc3); (have hs40 := hb4'.size); (have hB4 := hBr3.trans (hb4'.mono hBr3.size)))
          | (go_loud (refine step_append_rd _ rfl (.tmp 20) (.tmp 31) 72 rfl w.heap.size 9 i0 (.string ⟨#[]⟩) 1 16 Tryd.underlying72 hii hz0 hz1 hz2 rfl (by decide) _ (cwU S W i).length (tC (cwU S W i)) rfl (O4.out.alloc _) _ 1 1 rfl (Nat.le_refl _) (by intro h; cases h) (tC [nm' ++ ⟨#[61]⟩ ++ setT v]) rfl (Rd.oneS _ _ _) (tC_one _) (by unfold maxLen; omega) (by omega) (by simp; have := hB4.size; omega) ?_); intro v5 w5 hown5 hgrow5 hwhere5))
        all_goals
          obtain ⟨hb5, -⟩ := append_below hB4 (fun k hk => (O4.out.lt k hk).1) hgrow5 hwhere5
          have hown6 := Lib.hid (own_eq (n' := (cwU S W (i + 1)).length) (ys := tC (cwU S W (i + 1))) hown5 (by rw [hsel.out]; simp) (by rw [hsel.out, hpa.out, tC_app]; rfl))
          clear hgrow5 hwhere5 hown5 r30 r31 hc3 r40 r41 hc4 hb4 hb4'
          go_wp2
          go_roundw
          case rel => exact ⟨i + 1, by omega, by go_num, hown6.out, hb5⟩
          case measure => simp [intOf]; omega
    · have hij : i = S.length := by omega
      subst hij
      go_wp2
      go_ret
      exact ⟨_, rfl, hownh.out, hBr⟩
end Go.Proofs.YtgkaalonmkcclaaDoor
