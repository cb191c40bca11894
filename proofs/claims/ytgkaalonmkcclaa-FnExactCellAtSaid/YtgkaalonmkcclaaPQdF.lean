import Derived.Test.YtgkaalonmkcclaaPQdE
import Derived.Test.YtgkaalonmkcclaaAtJ
import Derived.Deep.RegionHeld
namespace Go.Proofs.Ytgkaalonmkcclaa
open Go.RowKit
set_option maxRecDepth 100000

theorem ret_boo {a b : Bool} (h : a = b) : Ending.returned (.bool a) = .returned (.bool b) := by rw [h]
set_option maxHeartbeats 4000000 in
theorem isTb_any (p y x z : Option Addr) (c c1 c2 c3 : Nat) (P : List Int) (S : List (ByteArray × Int)) (l : Int) (F W : List Int) (m : Int) (w : World) (hP : IIn w p P) (hS : SIn w y c1 S) (hT : TIn w x z F W) :
    Calls Try.prog 65 #[.agg #[.slice p P.length c], .slice y S.length c1, .agg #[.int .i64 l, .slice x F.length c2, .slice z W.length c3, .int .i64 m]] w fun e w' => e = .returned (.bool (tgB P S l F W m)) ∧ Below w.heap.size w w' := by
  have hPh := Lib.hid hP
  have hSh := Lib.hid hS
  have hFh := Lib.hid hT.1
  have hWh := Lib.hid hT.2
  clear hP hS hT
  have p1 := Lib.hid (QB.new w p P.length c 33)
  have p2 := Lib.hid (TQ.new (w.alloc (.cells #[.slice p P.length c] 33)) l x F.length c2 z W.length c3 m 37)
  obtain ⟨w0, hw0⟩ : ∃ w0, w0 = (w.alloc (.cells #[.slice p P.length c] 33)).alloc (.cells #[.int .i64 l, .slice x F.length c2, .slice z W.length c3, .int .i64 m] 37) := ⟨_, rfl⟩
  have B0 : Below w.heap.size w w0 := by rw [hw0]; exact (by repeat (first | exact Below.refl _ _ | assumption | refine Below.drew ?_ | refine below_drewN ?_ _ | refine Below.alloc' ?_ _ | (refine Below.setCell ?_ (by first | omega | (simp; done) | (simp; omega) | exact Below.size (by assumption) | exact Nat.le_trans (Below.size (by assumption)) (by simp)) _) | (refine Below.via' ?_ (by assumption)) | (refine Below.alloc ?_ (by first | omega | (simp; done) | (simp; omega) | exact Below.size (by assumption) | exact Nat.le_trans (Below.size (by assumption)) (by simp)) _) | (refine Below.via ?_ (by assumption) (by first | omega | (simp; done) | (simp; omega) | exact Below.size (by assumption) | exact Nat.le_trans (Below.size (by assumption)) (by simp)))))
  have g0 : Hid (QB w0 w.heap.size p P.length c) := by
    rw [hw0]
    exact p1.out.below (show Below (w.alloc (.cells #[.slice p P.length c] 33)).heap.size (w.alloc (.cells #[.slice p P.length c] 33)) _ from (by repeat (first | exact Below.refl _ _ | assumption | refine Below.drew ?_ | refine below_drewN ?_ _ | refine Below.alloc' ?_ _ | (refine Below.setCell ?_ (by first | omega | (simp; done) | (simp; omega) | exact Below.size (by assumption) | exact Nat.le_trans (Below.size (by assumption)) (by simp)) _) | (refine Below.via' ?_ (by assumption)) | (refine Below.alloc ?_ (by first | omega | (simp; done) | (simp; omega) | exact Below.size (by assumption) | exact Nat.le_trans (Below.size (by assumption)) (by simp)) _) | (refine Below.via ?_ (by assumption) (by first | omega | (simp; done) | (simp; omega) | exact Below.size (by assumption) | exact Nat.le_trans (Below.size (by assumption)) (by simp))))))
  have t0 : Hid (TQ w0 (w.heap.size + 1) l x F.length c2 z W.length c3 m) := by
    have h0 := p2.out
    rw [World.size_alloc, ← hw0] at h0
    exact h0
  have z0 : w0.heap.size = w.heap.size + 1 + 1 := by rw [hw0]; simp
  clear p1 p2
  go_enter Try.func65, Try.ntmps65
  go_wp2_with fail
  rw [← hw0]
  replace hw0 := Lib.hid hw0
  replace z0 := Lib.hid z0
  refine (gridOf_any p y x z _ _ _ _ P S l m F W _ (hPh.out.below B0) (hSh.out.below B0) ⟨hFh.out.below B0, hWh.out.below B0⟩).mono ?_
  rintro e w1 ⟨hb1, h1⟩
  have B1 : Below w.heap.size w w1 := Below.via' B0 hb1
  have g1 := Lib.hid (g0.out.below hb1)
  have t1 := Lib.hid (t0.out.below hb1)
  obtain ⟨ka1, kb1, kc1⟩ := g1.out
  obtain ⟨ta1, tb1, tc1, td1, te1⟩ := t1.out
  try clear ka0 kb0 kc0 ta0 tb0 tc0 td0 te0
  clear hb1
  rcases h1 with ⟨hno, rfl⟩ | ⟨htg, ga, ca, va, rfl, hA, hV, hvl⟩
  · have hv := Lib.hid (tg_no hno)
    clear hno
    go_wp2
    go_ret
    exact ⟨ret_boo hv.out.symm, (by repeat (first | exact Below.refl _ _ | assumption | refine Below.drew ?_ | refine below_drewN ?_ _ | refine Below.alloc' ?_ _ | (refine Below.setCell ?_ (by first | omega | (simp; done) | (simp; omega) | exact Below.size (by assumption) | exact Nat.le_trans (Below.size (by assumption)) (by simp)) _) | (refine Below.via' ?_ (by assumption)) | (refine Below.alloc ?_ (by first | omega | (simp; done) | (simp; omega) | exact Below.size (by assumption) | exact Nat.le_trans (Below.size (by assumption)) (by simp)) _) | (refine Below.via ?_ (by assumption) (by first | omega | (simp; done) | (simp; omega) | exact Below.size (by assumption) | exact Nat.le_trans (Below.size (by assumption)) (by simp)))))⟩
  · have hv := Lib.hid (tg_iff.2 htg)
    clear htg
    replace hA := Lib.hid hA
    replace hV := Lib.hid hV
    go_wp2
    go_ret
    exact ⟨ret_boo hv.out.symm, (by repeat (first | exact Below.refl _ _ | assumption | refine Below.drew ?_ | refine below_drewN ?_ _ | refine Below.alloc' ?_ _ | (refine Below.setCell ?_ (by first | omega | (simp; done) | (simp; omega) | exact Below.size (by assumption) | exact Nat.le_trans (Below.size (by assumption)) (by simp)) _) | (refine Below.via' ?_ (by assumption)) | (refine Below.alloc ?_ (by first | omega | (simp; done) | (simp; omega) | exact Below.size (by assumption) | exact Nat.le_trans (Below.size (by assumption)) (by simp)) _) | (refine Below.via ?_ (by assumption) (by first | omega | (simp; done) | (simp; omega) | exact Below.size (by assumption) | exact Nat.le_trans (Below.size (by assumption)) (by simp)))))⟩
end Go.Proofs.Ytgkaalonmkcclaa

namespace Go.Proofs.Ytgkaalonmkcclaa
open Go.RowKit
set_option maxRecDepth 100000

/-- What CellCount answers. -/
def tcN (P : List Int) (S : List (ByteArray × Int)) (l : Int) (F W : List Int) (m : Int) : Int := if tgB P S l F W m then tcZ P S l F else 0
theorem tcN_no {P : List Int} {S : List (ByteArray × Int)} {l : Int} {F W : List Int} {m : Int} (h : ¬ TgP P S l F W m) : tcN P S l F W m = 0 ∧ tgB P S l F W m = false := by
  have e := tg_no h
  exact ⟨if_f e, e⟩
theorem tcN_yes {P : List Int} {S : List (ByteArray × Int)} {l : Int} {F W : List Int} {m : Int} (h : TgP P S l F W m) : tcN P S l F W m = tcZ P S l F ∧ tgB P S l F W m = true := by
  have e := tg_iff.2 h
  exact ⟨if_t e, e⟩
theorem isv_no {P : List Int} {S : List (ByteArray × Int)} {l : Int} {F W : List Int} {m : Int} (h : geB P = false ∨ schB S = false) : tgB P S l F W m = false ∧ isvK P S = false := by
  refine ⟨tg_no (fun k => ?_), ?_⟩
  · rcases h with h | h
    · rw [k.g] at h; cases h
    · rw [k.s] at h; cases h
  · unfold isvK
    rcases h with h | h
    · rw [h]; rfl
    · rw [h, Bool.and_false]
set_option maxHeartbeats 4000000 in
theorem sITa_x (p y x z : Option Addr) (c c1 c2 c3 : Nat) (P : List Int) (S : List (ByteArray × Int)) (l : Int) (F W : List Int) (m : Int) (w : World) (hP : IIn w p P) (hS : SIn w y c1 S) (hT : TIn w x z F W) :
    Calls Try.prog 16 #[.agg #[.slice p P.length c], .slice y S.length c1, .agg #[.int .i64 l, .slice x F.length c2, .slice z W.length c3, .int .i64 m]] w fun e w' => e = .returned (.tuple #[.bool (tgB P S l F W m), .bool (isvK P S)]) ∧ Below w.heap.size w w' := by
  have hPh := Lib.hid hP
  have hSh := Lib.hid hS
  have hFh := Lib.hid hT.1
  have hWh := Lib.hid hT.2
  clear hP hS hT
  have p1 := Lib.hid (QB.new w p P.length c 33)
  have p2 := Lib.hid (TQ.new (w.alloc (.cells #[.slice p P.length c] 33)) l x F.length c2 z W.length c3 m 37)
  obtain ⟨w0, hw0⟩ : ∃ w0, w0 = (w.alloc (.cells #[.slice p P.length c] 33)).alloc (.cells #[.int .i64 l, .slice x F.length c2, .slice z W.length c3, .int .i64 m] 37) := ⟨_, rfl⟩
  have B0 : Below w.heap.size w w0 := by rw [hw0]; exact (by repeat (first | exact Below.refl _ _ | assumption | refine Below.drew ?_ | refine below_drewN ?_ _ | refine Below.alloc' ?_ _ | (refine Below.setCell ?_ (by first | omega | (simp; done) | (simp; omega) | exact Below.size (by assumption) | exact Nat.le_trans (Below.size (by assumption)) (by simp)) _) | (refine Below.via' ?_ (by assumption)) | (refine Below.alloc ?_ (by first | omega | (simp; done) | (simp; omega) | exact Below.size (by assumption) | exact Nat.le_trans (Below.size (by assumption)) (by simp)) _) | (refine Below.via ?_ (by assumption) (by first | omega | (simp; done) | (simp; omega) | exact Below.size (by assumption) | exact Nat.le_trans (Below.size (by assumption)) (by simp)))))
  have g0 : Hid (QB w0 w.heap.size p P.length c) := by
    rw [hw0]
    exact p1.out.below (show Below (w.alloc (.cells #[.slice p P.length c] 33)).heap.size (w.alloc (.cells #[.slice p P.length c] 33)) _ from (by repeat (first | exact Below.refl _ _ | assumption | refine Below.drew ?_ | refine below_drewN ?_ _ | refine Below.alloc' ?_ _ | (refine Below.setCell ?_ (by first | omega | (simp; done) | (simp; omega) | exact Below.size (by assumption) | exact Nat.le_trans (Below.size (by assumption)) (by simp)) _) | (refine Below.via' ?_ (by assumption)) | (refine Below.alloc ?_ (by first | omega | (simp; done) | (simp; omega) | exact Below.size (by assumption) | exact Nat.le_trans (Below.size (by assumption)) (by simp)) _) | (refine Below.via ?_ (by assumption) (by first | omega | (simp; done) | (simp; omega) | exact Below.size (by assumption) | exact Nat.le_trans (Below.size (by assumption)) (by simp))))))
  have t0 : Hid (TQ w0 (w.heap.size + 1) l x F.length c2 z W.length c3 m) := by
    have h0 := p2.out
    rw [World.size_alloc, ← hw0] at h0
    exact h0
  have z0 : w0.heap.size = w.heap.size + 1 + 1 := by rw [hw0]; simp
  clear p1 p2
  cases hg : geB P
  · have hv := Lib.hid (isv_no (S := S) (l := l) (F := F) (W := W) (m := m) (Or.inl hg))
    go_enter Try.func16, Try.ntmps16
    go_wp2_with fail
    rw [← hw0]
    refine (gGood_any _ _ P _ (hPh.out.below B0)).mono ?_
    rintro e w1 ⟨rfl, hb1⟩
    rw [hg]
    go_wp2
    go_ret2
    exact ⟨ret_bb hv.out.1.symm hv.out.2.symm, Below.via' B0 hb1⟩
  have hgh := Lib.hid hg
  clear hg
  go_enter Try.func16, Try.ntmps16
  go_wp2_with fail
  rw [← hw0]
  replace hw0 := Lib.hid hw0
  replace z0 := Lib.hid z0
  refine (gGood_any _ _ P _ (hPh.out.below B0)).mono ?_
  rintro e w1 ⟨rfl, hb1⟩
  rw [hgh.out]
  have B1 : Below w.heap.size w w1 := Below.via' B0 hb1
  have g1 := Lib.hid (g0.out.below hb1)
  have t1 := Lib.hid (t0.out.below hb1)
  obtain ⟨ka1, kb1, kc1⟩ := g1.out
  obtain ⟨ta1, tb1, tc1, td1, te1⟩ := t1.out
  try clear ka0 kb0 kc0 ta0 tb0 tc0 td0 te0
  clear hb1
  go_wp2_with fail
  refine (sGood_x _ _ _ _ (hSh.out.below B1)).mono ?_
  rintro e w2 ⟨rfl, hb2⟩
  have B2 : Below w.heap.size w w2 := Below.via' B1 hb2
  have g2 := Lib.hid (g1.out.below hb2)
  have t2 := Lib.hid (t1.out.below hb2)
  obtain ⟨ka2, kb2, kc2⟩ := g2.out
  obtain ⟨ta2, tb2, tc2, td2, te2⟩ := t2.out
  try clear ka1 kb1 kc1 ta1 tb1 tc1 td1 te1
  clear hb2
  cases hs : schB S
  · have hv := Lib.hid (isv_no (P := P) (l := l) (F := F) (W := W) (m := m) (Or.inr hs))
    go_wp2
    go_ret2
    exact ⟨ret_bb hv.out.1.symm hv.out.2.symm, B2⟩
  have hk := Lib.hid (show isvK P S = true by unfold isvK; rw [hgh.out, hs]; rfl)
  replace hs := Lib.hid hs
  go_wp2_with fail
  refine (uGood_any p y x z _ _ _ _ P S l m F W _ (hPh.out.below B2) (hSh.out.below B2) ⟨hFh.out.below B2, hWh.out.below B2⟩).mono ?_
  rintro e w3 ⟨rfl, hb3⟩
  go_wp2
  go_ret2
  exact ⟨ret_bb rfl hk.out.symm, Below.via' B2 hb3⟩
set_option maxHeartbeats 4000000 in
theorem iITa_x (p y x z : Option Addr) (c c1 c2 c3 : Nat) (P : List Int) (S : List (ByteArray × Int)) (l : Int) (F W : List Int) (m : Int) (w : World) (hP : IIn w p P) (hS : SIn w y c1 S) (hT : TIn w x z F W) :
    Calls Try.prog 20 #[.agg #[.slice p P.length c], .slice y S.length c1, .agg #[.int .i64 l, .slice x F.length c2, .slice z W.length c3, .int .i64 m]] w fun e w' => e = .returned (.tuple #[.bool (tgB P S l F W m), .bool (isvK P S)]) ∧ Below w.heap.size w w' := by
  have hPh := Lib.hid hP
  have hSh := Lib.hid hS
  have hFh := Lib.hid hT.1
  have hWh := Lib.hid hT.2
  clear hP hS hT
  have p1 := Lib.hid (QB.new w p P.length c 33)
  have p2 := Lib.hid (TQ.new (w.alloc (.cells #[.slice p P.length c] 33)) l x F.length c2 z W.length c3 m 37)
  obtain ⟨w0, hw0⟩ : ∃ w0, w0 = (w.alloc (.cells #[.slice p P.length c] 33)).alloc (.cells #[.int .i64 l, .slice x F.length c2, .slice z W.length c3, .int .i64 m] 37) := ⟨_, rfl⟩
  have B0 : Below w.heap.size w w0 := by rw [hw0]; exact (by repeat (first | exact Below.refl _ _ | assumption | refine Below.drew ?_ | refine below_drewN ?_ _ | refine Below.alloc' ?_ _ | (refine Below.setCell ?_ (by first | omega | (simp; done) | (simp; omega) | exact Below.size (by assumption) | exact Nat.le_trans (Below.size (by assumption)) (by simp)) _) | (refine Below.via' ?_ (by assumption)) | (refine Below.alloc ?_ (by first | omega | (simp; done) | (simp; omega) | exact Below.size (by assumption) | exact Nat.le_trans (Below.size (by assumption)) (by simp)) _) | (refine Below.via ?_ (by assumption) (by first | omega | (simp; done) | (simp; omega) | exact Below.size (by assumption) | exact Nat.le_trans (Below.size (by assumption)) (by simp)))))
  have g0 : Hid (QB w0 w.heap.size p P.length c) := by
    rw [hw0]
    exact p1.out.below (show Below (w.alloc (.cells #[.slice p P.length c] 33)).heap.size (w.alloc (.cells #[.slice p P.length c] 33)) _ from (by repeat (first | exact Below.refl _ _ | assumption | refine Below.drew ?_ | refine below_drewN ?_ _ | refine Below.alloc' ?_ _ | (refine Below.setCell ?_ (by first | omega | (simp; done) | (simp; omega) | exact Below.size (by assumption) | exact Nat.le_trans (Below.size (by assumption)) (by simp)) _) | (refine Below.via' ?_ (by assumption)) | (refine Below.alloc ?_ (by first | omega | (simp; done) | (simp; omega) | exact Below.size (by assumption) | exact Nat.le_trans (Below.size (by assumption)) (by simp)) _) | (refine Below.via ?_ (by assumption) (by first | omega | (simp; done) | (simp; omega) | exact Below.size (by assumption) | exact Nat.le_trans (Below.size (by assumption)) (by simp))))))
  have t0 : Hid (TQ w0 (w.heap.size + 1) l x F.length c2 z W.length c3 m) := by
    have h0 := p2.out
    rw [World.size_alloc, ← hw0] at h0
    exact h0
  have z0 : w0.heap.size = w.heap.size + 1 + 1 := by rw [hw0]; simp
  clear p1 p2
  cases hg : geB P
  · have hv := Lib.hid (isv_no (S := S) (l := l) (F := F) (W := W) (m := m) (Or.inl hg))
    go_enter Try.func20, Try.ntmps20
    go_wp2_with fail
    rw [← hw0]
    refine (iGeo_any _ _ P _ (hPh.out.below B0)).mono ?_
    rintro e w1 ⟨rfl, hb1⟩
    rw [hg]
    go_wp2
    go_ret2
    exact ⟨ret_bb hv.out.1.symm hv.out.2.symm, Below.via' B0 hb1⟩
  have hgh := Lib.hid hg
  clear hg
  go_enter Try.func20, Try.ntmps20
  go_wp2_with fail
  rw [← hw0]
  replace hw0 := Lib.hid hw0
  replace z0 := Lib.hid z0
  refine (iGeo_any _ _ P _ (hPh.out.below B0)).mono ?_
  rintro e w1 ⟨rfl, hb1⟩
  rw [hgh.out]
  have B1 : Below w.heap.size w w1 := Below.via' B0 hb1
  have g1 := Lib.hid (g0.out.below hb1)
  have t1 := Lib.hid (t0.out.below hb1)
  obtain ⟨ka1, kb1, kc1⟩ := g1.out
  obtain ⟨ta1, tb1, tc1, td1, te1⟩ := t1.out
  try clear ka0 kb0 kc0 ta0 tb0 tc0 td0 te0
  clear hb1
  go_wp2_with fail
  refine (isSch_x _ _ _ _ (hSh.out.below B1)).mono ?_
  rintro e w2 ⟨rfl, hb2⟩
  have B2 : Below w.heap.size w w2 := Below.via' B1 hb2
  have g2 := Lib.hid (g1.out.below hb2)
  have t2 := Lib.hid (t1.out.below hb2)
  obtain ⟨ka2, kb2, kc2⟩ := g2.out
  obtain ⟨ta2, tb2, tc2, td2, te2⟩ := t2.out
  try clear ka1 kb1 kc1 ta1 tb1 tc1 td1 te1
  clear hb2
  cases hs : schB S
  · have hv := Lib.hid (isv_no (P := P) (l := l) (F := F) (W := W) (m := m) (Or.inr hs))
    go_wp2
    go_ret2
    exact ⟨ret_bb hv.out.1.symm hv.out.2.symm, B2⟩
  have hk := Lib.hid (show isvK P S = true by unfold isvK; rw [hgh.out, hs]; rfl)
  replace hs := Lib.hid hs
  go_wp2_with fail
  refine (isTb_any p y x z _ _ _ _ P S l F W m _ (hPh.out.below B2) (hSh.out.below B2) ⟨hFh.out.below B2, hWh.out.below B2⟩).mono ?_
  rintro e w3 ⟨rfl, hb3⟩
  go_wp2
  go_ret2
  exact ⟨ret_bb rfl hk.out.symm, Below.via' B2 hb3⟩
set_option maxHeartbeats 4000000 in
theorem sCN_x (p y x z : Option Addr) (c c1 c2 c3 : Nat) (P : List Int) (S : List (ByteArray × Int)) (l : Int) (F W : List Int) (m : Int) (w : World) (hP : IIn w p P) (hS : SIn w y c1 S) (hT : TIn w x z F W) :
    Calls Try.prog 24 #[.agg #[.slice p P.length c], .slice y S.length c1, .agg #[.int .i64 l, .slice x F.length c2, .slice z W.length c3, .int .i64 m]] w fun e w' => e = .returned (.tuple #[.int .i64 (tcN P S l F W m), .bool (tgB P S l F W m)]) ∧ Below w.heap.size w w' := by
  have hPh := Lib.hid hP
  have hSh := Lib.hid hS
  have hFh := Lib.hid hT.1
  have hWh := Lib.hid hT.2
  clear hP hS hT
  have p1 := Lib.hid (QB.new w p P.length c 33)
  have p2 := Lib.hid (TQ.new (w.alloc (.cells #[.slice p P.length c] 33)) l x F.length c2 z W.length c3 m 37)
  obtain ⟨w0, hw0⟩ : ∃ w0, w0 = (w.alloc (.cells #[.slice p P.length c] 33)).alloc (.cells #[.int .i64 l, .slice x F.length c2, .slice z W.length c3, .int .i64 m] 37) := ⟨_, rfl⟩
  have B0 : Below w.heap.size w w0 := by rw [hw0]; exact (by repeat (first | exact Below.refl _ _ | assumption | refine Below.drew ?_ | refine below_drewN ?_ _ | refine Below.alloc' ?_ _ | (refine Below.setCell ?_ (by first | omega | (simp; done) | (simp; omega) | exact Below.size (by assumption) | exact Nat.le_trans (Below.size (by assumption)) (by simp)) _) | (refine Below.via' ?_ (by assumption)) | (refine Below.alloc ?_ (by first | omega | (simp; done) | (simp; omega) | exact Below.size (by assumption) | exact Nat.le_trans (Below.size (by assumption)) (by simp)) _) | (refine Below.via ?_ (by assumption) (by first | omega | (simp; done) | (simp; omega) | exact Below.size (by assumption) | exact Nat.le_trans (Below.size (by assumption)) (by simp)))))
  have g0 : Hid (QB w0 w.heap.size p P.length c) := by
    rw [hw0]
    exact p1.out.below (show Below (w.alloc (.cells #[.slice p P.length c] 33)).heap.size (w.alloc (.cells #[.slice p P.length c] 33)) _ from (by repeat (first | exact Below.refl _ _ | assumption | refine Below.drew ?_ | refine below_drewN ?_ _ | refine Below.alloc' ?_ _ | (refine Below.setCell ?_ (by first | omega | (simp; done) | (simp; omega) | exact Below.size (by assumption) | exact Nat.le_trans (Below.size (by assumption)) (by simp)) _) | (refine Below.via' ?_ (by assumption)) | (refine Below.alloc ?_ (by first | omega | (simp; done) | (simp; omega) | exact Below.size (by assumption) | exact Nat.le_trans (Below.size (by assumption)) (by simp)) _) | (refine Below.via ?_ (by assumption) (by first | omega | (simp; done) | (simp; omega) | exact Below.size (by assumption) | exact Nat.le_trans (Below.size (by assumption)) (by simp))))))
  have t0 : Hid (TQ w0 (w.heap.size + 1) l x F.length c2 z W.length c3 m) := by
    have h0 := p2.out
    rw [World.size_alloc, ← hw0] at h0
    exact h0
  have z0 : w0.heap.size = w.heap.size + 1 + 1 := by rw [hw0]; simp
  clear p1 p2
  go_enter Try.func24, Try.ntmps24
  go_wp2_with fail
  rw [← hw0]
  replace hw0 := Lib.hid hw0
  replace z0 := Lib.hid z0
  refine (uGood_any p y x z _ _ _ _ P S l m F W _ (hPh.out.below B0) (hSh.out.below B0) ⟨hFh.out.below B0, hWh.out.below B0⟩).mono ?_
  rintro e w1 ⟨rfl, hb1⟩
  have B1 : Below w.heap.size w w1 := Below.via' B0 hb1
  have g1 := Lib.hid (g0.out.below hb1)
  have t1 := Lib.hid (t0.out.below hb1)
  obtain ⟨ka1, kb1, kc1⟩ := g1.out
  obtain ⟨ta1, tb1, tc1, td1, te1⟩ := t1.out
  try clear ka0 kb0 kc0 ta0 tb0 tc0 td0 te0
  clear hb1
  cases htg : tgB P S l F W m
  · have hv := Lib.hid (show tcN P S l F W m = 0 from if_f htg)
    replace htg := Lib.hid htg
    go_wp2
    go_ret2
    exact ⟨ret_in hv.out.symm htg.out.symm, B1⟩
  have hv := Lib.hid (show tcN P S l F W m = tcZ P S l F from if_t htg)
  have htp := tg_iff.1 htg
  replace htg := Lib.hid htg
  go_wp2_with fail
  refine (uCount_any p y x z _ _ _ _ P S l m F W _ htp.g htp.s htp.r (hPh.out.below B1) (hSh.out.below B1) (hFh.out.below B1)).mono ?_
  rintro e w2 ⟨rfl, hb2⟩
  clear htp
  go_wp2
  go_ret2
  exact ⟨ret_in hv.out.symm htg.out.symm, Below.via' B1 hb2⟩
set_option maxHeartbeats 4000000 in
theorem iCN_x (p y x z : Option Addr) (c c1 c2 c3 : Nat) (P : List Int) (S : List (ByteArray × Int)) (l : Int) (F W : List Int) (m : Int) (w : World) (hP : IIn w p P) (hS : SIn w y c1 S) (hT : TIn w x z F W) :
    Calls Try.prog 25 #[.agg #[.slice p P.length c], .slice y S.length c1, .agg #[.int .i64 l, .slice x F.length c2, .slice z W.length c3, .int .i64 m]] w fun e w' => e = .returned (.tuple #[.int .i64 (tcN P S l F W m), .bool (tgB P S l F W m)]) ∧ Below w.heap.size w w' := by
  have hPh := Lib.hid hP
  have hSh := Lib.hid hS
  have hFh := Lib.hid hT.1
  have hWh := Lib.hid hT.2
  clear hP hS hT
  have p1 := Lib.hid (QB.new w p P.length c 33)
  have p2 := Lib.hid (TQ.new (w.alloc (.cells #[.slice p P.length c] 33)) l x F.length c2 z W.length c3 m 37)
  obtain ⟨w0, hw0⟩ : ∃ w0, w0 = (w.alloc (.cells #[.slice p P.length c] 33)).alloc (.cells #[.int .i64 l, .slice x F.length c2, .slice z W.length c3, .int .i64 m] 37) := ⟨_, rfl⟩
  have B0 : Below w.heap.size w w0 := by rw [hw0]; exact (by repeat (first | exact Below.refl _ _ | assumption | refine Below.drew ?_ | refine below_drewN ?_ _ | refine Below.alloc' ?_ _ | (refine Below.setCell ?_ (by first | omega | (simp; done) | (simp; omega) | exact Below.size (by assumption) | exact Nat.le_trans (Below.size (by assumption)) (by simp)) _) | (refine Below.via' ?_ (by assumption)) | (refine Below.alloc ?_ (by first | omega | (simp; done) | (simp; omega) | exact Below.size (by assumption) | exact Nat.le_trans (Below.size (by assumption)) (by simp)) _) | (refine Below.via ?_ (by assumption) (by first | omega | (simp; done) | (simp; omega) | exact Below.size (by assumption) | exact Nat.le_trans (Below.size (by assumption)) (by simp)))))
  have g0 : Hid (QB w0 w.heap.size p P.length c) := by
    rw [hw0]
    exact p1.out.below (show Below (w.alloc (.cells #[.slice p P.length c] 33)).heap.size (w.alloc (.cells #[.slice p P.length c] 33)) _ from (by repeat (first | exact Below.refl _ _ | assumption | refine Below.drew ?_ | refine below_drewN ?_ _ | refine Below.alloc' ?_ _ | (refine Below.setCell ?_ (by first | omega | (simp; done) | (simp; omega) | exact Below.size (by assumption) | exact Nat.le_trans (Below.size (by assumption)) (by simp)) _) | (refine Below.via' ?_ (by assumption)) | (refine Below.alloc ?_ (by first | omega | (simp; done) | (simp; omega) | exact Below.size (by assumption) | exact Nat.le_trans (Below.size (by assumption)) (by simp)) _) | (refine Below.via ?_ (by assumption) (by first | omega | (simp; done) | (simp; omega) | exact Below.size (by assumption) | exact Nat.le_trans (Below.size (by assumption)) (by simp))))))
  have t0 : Hid (TQ w0 (w.heap.size + 1) l x F.length c2 z W.length c3 m) := by
    have h0 := p2.out
    rw [World.size_alloc, ← hw0] at h0
    exact h0
  have z0 : w0.heap.size = w.heap.size + 1 + 1 := by rw [hw0]; simp
  clear p1 p2
  go_enter Try.func25, Try.ntmps25
  go_wp2_with fail
  rw [← hw0]
  replace hw0 := Lib.hid hw0
  replace z0 := Lib.hid z0
  refine (gridOf_any p y x z _ _ _ _ P S l m F W _ (hPh.out.below B0) (hSh.out.below B0) ⟨hFh.out.below B0, hWh.out.below B0⟩).mono ?_
  rintro e w1 ⟨hb1, h1⟩
  have B1 : Below w.heap.size w w1 := Below.via' B0 hb1
  have g1 := Lib.hid (g0.out.below hb1)
  have t1 := Lib.hid (t0.out.below hb1)
  obtain ⟨ka1, kb1, kc1⟩ := g1.out
  obtain ⟨ta1, tb1, tc1, td1, te1⟩ := t1.out
  try clear ka0 kb0 kc0 ta0 tb0 tc0 td0 te0
  clear hb1
  rcases h1 with ⟨hno, rfl⟩ | ⟨htg, ga, ca, va, rfl, hA, hV, hvl⟩
  · have hv := Lib.hid (tcN_no hno)
    clear hno
    go_wp2
    go_ret2
    exact ⟨ret_in hv.out.1.symm hv.out.2.symm, (by repeat (first | exact Below.refl _ _ | assumption | refine Below.drew ?_ | refine below_drewN ?_ _ | refine Below.alloc' ?_ _ | (refine Below.setCell ?_ (by first | omega | (simp; done) | (simp; omega) | exact Below.size (by assumption) | exact Nat.le_trans (Below.size (by assumption)) (by simp)) _) | (refine Below.via' ?_ (by assumption)) | (refine Below.alloc ?_ (by first | omega | (simp; done) | (simp; omega) | exact Below.size (by assumption) | exact Nat.le_trans (Below.size (by assumption)) (by simp)) _) | (refine Below.via ?_ (by assumption) (by first | omega | (simp; done) | (simp; omega) | exact Below.size (by assumption) | exact Nat.le_trans (Below.size (by assumption)) (by simp)))))⟩
  have hv := Lib.hid (tcN_yes htg)
  have hpt := Lib.hid (tbS_ok htg.s htg.r)
  have hl30 := (ge_len htg.g).2
  have hl := lvL_len P l
  replace hA := Lib.hid hA
  replace hV := Lib.hid hV
  clear htg
  go_wp2_with fail
  refine (gcount_any _ _ _ _ _ _ _ _ _ _ _ _ _ _ _ (lvL P l) (tbS S F) _ hpt.out (by omega) (hV.out.below (by exact (by repeat (first | exact Below.refl _ _ | assumption | refine Below.drew ?_ | refine below_drewN ?_ _ | refine Below.alloc' ?_ _ | (refine Below.setCell ?_ (by first | omega | (simp; done) | (simp; omega) | exact Below.size (by assumption) | exact Nat.le_trans (Below.size (by assumption)) (by simp)) _) | (refine Below.via' ?_ (by assumption)) | (refine Below.alloc ?_ (by first | omega | (simp; done) | (simp; omega) | exact Below.size (by assumption) | exact Nat.le_trans (Below.size (by assumption)) (by simp)) _) | (refine Below.via ?_ (by assumption) (by first | omega | (simp; done) | (simp; omega) | exact Below.size (by assumption) | exact Nat.le_trans (Below.size (by assumption)) (by simp)))))))).mono ?_
  rintro e w2 ⟨rfl, hb2⟩
  have B2 : Below w.heap.size w w2 := (by repeat (first | exact Below.refl _ _ | assumption | refine Below.drew ?_ | refine below_drewN ?_ _ | refine Below.alloc' ?_ _ | (refine Below.setCell ?_ (by first | omega | (simp; done) | (simp; omega) | exact Below.size (by assumption) | exact Nat.le_trans (Below.size (by assumption)) (by simp)) _) | (refine Below.via' ?_ (by assumption)) | (refine Below.alloc ?_ (by first | omega | (simp; done) | (simp; omega) | exact Below.size (by assumption) | exact Nat.le_trans (Below.size (by assumption)) (by simp)) _) | (refine Below.via ?_ (by assumption) (by first | omega | (simp; done) | (simp; omega) | exact Below.size (by assumption) | exact Nat.le_trans (Below.size (by assumption)) (by simp)))))
  go_wp2
  go_ret2
  exact ⟨ret_in (by rw [hv.out.1]; rfl) hv.out.2.symm, B2⟩
end Go.Proofs.Ytgkaalonmkcclaa

namespace Go.Proofs.Ytgkaalonmkcclaa
open Go.RowKit
set_option maxRecDepth 100000

/-- What CellAt answers. -/
def tcaB (P : List Int) (S : List (ByteArray × Int)) (l : Int) (F W : List Int) (m i : Int) : Bool := tgB P S l F W m && inB i 0 (tcZ P S l F - 1)
def tcaA (P : List Int) (S : List (ByteArray × Int)) (l : Int) (F W : List Int) (m i : Int) : Int := if tcaB P S l F W m i then (lvL P l).getD (i / cnZ (tbS S F)).toNat 0 else 0
def tcaL (P : List Int) (S : List (ByteArray × Int)) (l : Int) (F W : List Int) (m i : Int) : List Int := if tcaB P S l F W m i then atL (tbS S F) (i % cnZ (tbS S F)) else []
section
variable {P : List Int} {S : List (ByteArray × Int)} {l : Int} {F W : List Int} {m i : Int}
theorem tca_no0 (h : tcaB P S l F W m i = false) : tcaA P S l F W m i = 0 ∧ tcaL P S l F W m i = [] := by
  unfold tcaA tcaL; rw [h]; exact ⟨rfl, rfl⟩
theorem tca_no1 (h : tgB P S l F W m = false) : tcaB P S l F W m i = false := by unfold tcaB; rw [h]; rfl
theorem tca_no2 (h : inB i 0 (tcZ P S l F - 1) = false) : tcaB P S l F W m i = false := by unfold tcaB; rw [h, Bool.and_false]
theorem tca_len : (tcaL P S l F W m i).length ≤ 1048576 := by
  unfold tcaL
  split
  · rename_i h
    unfold tcaB at h
    rw [Bool.and_eq_true] at h
    have h1 := tg_iff.1 h.1
    have := ptS_len (tbS_ok h1.s h1.r)
    rw [atL_len]
    omega
  · simp
/-- What an index within the cells gives. -/
theorem tca_at (h : TgP P S l F W m) (h0 : 0 ≤ i) (h1 : i < tcZ P S l F) : ∃ (k : Nat) (a : Int), i / cnZ (tbS S F) = k ∧ k < (lvL P l).length ∧ (lvL P l)[k]? = some a ∧ 0 ≤ i % cnZ (tbS S F) ∧ i % cnZ (tbS S F) < cnZ (tbS S F) ∧
    tcaB P S l F W m i = true ∧ tcaA P S l F W m i = a ∧ tcaL P S l F W m i = atL (tbS S F) (i % cnZ (tbS S F)) := by
  have hb : tcaB P S l F W m i = true := by unfold tcaB; rw [tg_iff.2 h, (inB_iff _ _ _).2 ⟨h0, by omega⟩]; rfl
  have hc := pt_cn (tbS_ok h.s h.r)
  have e1 : tcaA P S l F W m i = (lvL P l).getD (i / cnZ (tbS S F)).toNat 0 := if_t hb
  have e2 : tcaL P S l F W m i = atL (tbS S F) (i % cnZ (tbS S F)) := by unfold tcaL; rw [hb]; rfl
  have hm0 := Int.emod_nonneg i (show cnZ (tbS S F) ≠ 0 by omega)
  have hm1 := Int.emod_lt_of_pos i (show 0 < cnZ (tbS S F) by omega)
  have hd0 : 0 ≤ i / cnZ (tbS S F) := Int.ediv_nonneg h0 (by omega)
  have hd1 : i / cnZ (tbS S F) < (lvL P l).length := by
    apply Int.ediv_lt_of_lt_mul (by omega)
    unfold tcZ at h1
    exact h1
  obtain ⟨k, hk⟩ := Int.eq_ofNat_of_zero_le hd0
  rw [hk] at hd1 e1
  have hkl : k < (lvL P l).length := by omega
  rw [Int.toNat_natCast, List.getD_eq_getElem?_getD, List.getElem?_eq_getElem hkl] at e1
  exact ⟨k, _, hk, hkl, List.getElem?_eq_getElem hkl, hm0, hm1, hb, e1, e2⟩
end
theorem ret_ivb {a b : Int} {u : Value} {p q : Bool} (h : a = b) (k : p = q) : Ending.returned (.tuple #[.int .i64 a, u, .bool p]) = .returned (.tuple #[.int .i64 b, u, .bool q]) := by rw [h, k]
/-- An integer, a list and a Bool. -/
def RetIL (a : Int) (L : List Int) (b : Bool) (w : World) (e : Ending) (w' : World) : Prop :=
  ∃ u, e = .returned (.tuple #[.int .i64 a, u, .bool b]) ∧ w'.ownsRow w.heap.size 3 1 u L.length (iC L) ∧ Below w.heap.size w w'
theorem retIL_no {a : Int} {L : List Int} {b : Bool} {w w' : World} (h : a = 0 ∧ L = []) (k : b = false) (hB : Below w.heap.size w w') : RetIL a L b w (.returned (.tuple #[.int .i64 0, .slice none 0 0, .bool false])) w' := by
  rw [h.1, h.2, k]
  exact ⟨_, rfl, World.ownsRow_nil _ _ _ _, hB⟩
end Go.Proofs.Ytgkaalonmkcclaa

namespace Go.Proofs.Ytgkaalonmkcclaa
open Go.RowKit
set_option maxRecDepth 100000

set_option maxHeartbeats 8000000 in
theorem sCAt_x (p y x z : Option Addr) (c c1 c2 c3 : Nat) (P : List Int) (S : List (ByteArray × Int)) (l : Int) (F W : List Int) (m i : Int) (w : World) (hP : IIn w p P) (hS : SIn w y c1 S) (hT : TIn w x z F W) :
    Calls Try.prog 30 #[.agg #[.slice p P.length c], .slice y S.length c1, .agg #[.int .i64 l, .slice x F.length c2, .slice z W.length c3, .int .i64 m], .int .i64 i] w (RetIL (tcaA P S l F W m i) (tcaL P S l F W m i) (tcaB P S l F W m i) w) := by
  have hPh := Lib.hid hP
  have hSh := Lib.hid hS
  have hFh := Lib.hid hT.1
  have hWh := Lib.hid hT.2
  clear hP hS hT
  have p1 := Lib.hid (QB.new w p P.length c 33)
  have p2 := Lib.hid (TQ.new (w.alloc (.cells #[.slice p P.length c] 33)) l x F.length c2 z W.length c3 m 37)
  obtain ⟨w0, hw0⟩ : ∃ w0, w0 = (w.alloc (.cells #[.slice p P.length c] 33)).alloc (.cells #[.int .i64 l, .slice x F.length c2, .slice z W.length c3, .int .i64 m] 37) := ⟨_, rfl⟩
  have B0 : Below w.heap.size w w0 := by rw [hw0]; exact (by repeat (first | exact Below.refl _ _ | assumption | refine Below.drew ?_ | refine below_drewN ?_ _ | refine Below.alloc' ?_ _ | (refine Below.setCell ?_ (by first | omega | (simp; done) | (simp; omega) | exact Below.size (by assumption) | exact Nat.le_trans (Below.size (by assumption)) (by simp)) _) | (refine Below.via' ?_ (by assumption)) | (refine Below.alloc ?_ (by first | omega | (simp; done) | (simp; omega) | exact Below.size (by assumption) | exact Nat.le_trans (Below.size (by assumption)) (by simp)) _) | (refine Below.via ?_ (by assumption) (by first | omega | (simp; done) | (simp; omega) | exact Below.size (by assumption) | exact Nat.le_trans (Below.size (by assumption)) (by simp)))))
  have g0 : Hid (QB w0 w.heap.size p P.length c) := by
    rw [hw0]
    exact p1.out.below (show Below (w.alloc (.cells #[.slice p P.length c] 33)).heap.size (w.alloc (.cells #[.slice p P.length c] 33)) _ from (by repeat (first | exact Below.refl _ _ | assumption | refine Below.drew ?_ | refine below_drewN ?_ _ | refine Below.alloc' ?_ _ | (refine Below.setCell ?_ (by first | omega | (simp; done) | (simp; omega) | exact Below.size (by assumption) | exact Nat.le_trans (Below.size (by assumption)) (by simp)) _) | (refine Below.via' ?_ (by assumption)) | (refine Below.alloc ?_ (by first | omega | (simp; done) | (simp; omega) | exact Below.size (by assumption) | exact Nat.le_trans (Below.size (by assumption)) (by simp)) _) | (refine Below.via ?_ (by assumption) (by first | omega | (simp; done) | (simp; omega) | exact Below.size (by assumption) | exact Nat.le_trans (Below.size (by assumption)) (by simp))))))
  have t0 : Hid (TQ w0 (w.heap.size + 1) l x F.length c2 z W.length c3 m) := by
    have h0 := p2.out
    rw [World.size_alloc, ← hw0] at h0
    exact h0
  have z0 : w0.heap.size = w.heap.size + 1 + 1 := by rw [hw0]; simp
  clear p1 p2
  go_enter Try.func30, Try.ntmps30
  go_wp2_with fail
  rw [← hw0]
  replace hw0 := Lib.hid hw0
  replace z0 := Lib.hid z0
  refine (uGood_any p y x z _ _ _ _ P S l m F W _ (hPh.out.below B0) (hSh.out.below B0) ⟨hFh.out.below B0, hWh.out.below B0⟩).mono ?_
  rintro e w1 ⟨rfl, hb1⟩
  have B1 : Below w.heap.size w w1 := Below.via' B0 hb1
  have g1 := Lib.hid (g0.out.below hb1)
  have t1 := Lib.hid (t0.out.below hb1)
  obtain ⟨ka1, kb1, kc1⟩ := g1.out
  obtain ⟨ta1, tb1, tc1, td1, te1⟩ := t1.out
  try clear ka0 kb0 kc0 ta0 tb0 tc0 td0 te0
  clear hb1
  cases htg : tgB P S l F W m
  · have hv := Lib.hid (tca_no1 (i := i) htg)
    go_wp2
    go_ret3
    exact retIL_no (tca_no0 hv.out) hv.out B1
  have htp := tg_iff.1 htg
  have hgh := Lib.hid htp.g
  have hsh := Lib.hid htp.s
  have hrh := Lib.hid htp.r
  have hip := Lib.hid (inP_of htp.s htp.r rfl)
  have hpt := Lib.hid (tbS_ok htp.s htp.r)
  have hl30 := (ge_len htp.g).2
  have hc6 := htp.c
  have hc1 := tc_pos htp
  have htph := Lib.hid htp
  replace htg := Lib.hid htg
  clear htp
  have q1 : IntKind.i64.wrap (tcZ P S l F - 1) = tcZ P S l F - 1 := IntWalk.i64_in _ (by omega)
  go_wp2_with fail
  refine (uCount_any p y x z _ _ _ _ P S l m F W _ hgh.out hsh.out hrh.out (hPh.out.below B1) (hSh.out.below B1) (hFh.out.below B1)).mono ?_
  rintro e w2 ⟨rfl, hb2⟩
  have B2 : Below w.heap.size w w2 := Below.via' B1 hb2
  have g2 := Lib.hid (g1.out.below hb2)
  have t2 := Lib.hid (t1.out.below hb2)
  obtain ⟨ka2, kb2, kc2⟩ := g2.out
  obtain ⟨ta2, tb2, tc2, td2, te2⟩ := t2.out
  try clear ka1 kb1 kc1 ta1 tb1 tc1 td1 te1
  clear hb2
  cases hin : inB i 0 (tcZ P S l F - 1)
  · have hv := Lib.hid (tca_no2 (W := W) (m := m) hin)
    go_wp2_with fail
    refine (l1In_any _ _ _ _).mono ?_
    rintro e w3 ⟨rfl, rfl⟩
    rw [hin]
    go_wp2
    go_ret3
    exact retIL_no (tca_no0 hv.out) hv.out B2
  have hin2 := (inB_iff _ _ _).1 hin
  obtain ⟨k, a, hk, hkl, hka, hm0, hm1, hv1, hv2, hv3⟩ := tca_at htph.out hin2.1 (show i < tcZ P S l F by omega)
  have hcn := pt_cn hpt.out
  have hi0 := hin2.1
  have hi6 : i ≤ 600 := by omega
  have hv1 := Lib.hid hv1
  have hv2 := Lib.hid hv2
  have hv3 := Lib.hid hv3
  have hka := Lib.hid hka
  clear hin2
  go_wp2_with fail
  refine (l1In_any _ _ _ _).mono ?_
  rintro e w3 ⟨rfl, rfl⟩
  rw [hin]
  replace hin := Lib.hid hin
  clear q1 hc1 hc6
  go_wp2_with fail
  refine (sPart_any _ _ _ _ S F _ hip.out (hSh.out.rd.below B2) (hFh.out.2.2.below B2)).mono ?_
  rintro e w4 ⟨u4, rfl, ho4, hb4⟩
  obtain ⟨x4, n4, rfl, -, -⟩ := (OwR.of ho4).form
  have hr4 := Lib.hid (Rd.of_own ho4)
  clear ho4
  have B4 : Below w.heap.size w w4 := Below.via' B2 hb4
  have g4 := Lib.hid (g2.out.below hb4)
  have t4 := Lib.hid (t2.out.below hb4)
  obtain ⟨ka4, kb4, kc4⟩ := g4.out
  obtain ⟨ta4, tb4, tc4, td4, te4⟩ := t4.out
  try clear ka2 kb2 kc2 ta2 tb2 tc2 td2 te2
  clear hb4
  go_wp2_with fail
  refine (sCount_p _ _ (tbS S F) _ hpt.out hr4.out).mono ?_
  rintro e w5 ⟨rfl, hb5⟩
  have hr5 := Lib.hid (hr4.out.below hb5)
  have B5 : Below w.heap.size w w5 := Below.via' B4 hb5
  have g5 := Lib.hid (g4.out.below hb5)
  have t5 := Lib.hid (t4.out.below hb5)
  obtain ⟨ka5, kb5, kc5⟩ := g5.out
  obtain ⟨ta5, tb5, tc5, td5, te5⟩ := t5.out
  try clear ka4 kb4 kc4 ta4 tb4 tc4 td4 te4
  clear hb5
  have d1 : (cnZ (tbS S F) == 0) = false := by rw [beq_eq_false_iff_ne]; omega
  have d0 : ¬ cnZ (tbS S F) = 0 := by omega
  have d2 : IntKind.i64.wrap (i.tdiv (cnZ (tbS S F))) = k := (IntWalk.i64_quo i _ ⟨by omega, by omega, by omega⟩).trans hk
  have d3 : IntKind.i64.wrap (i.tmod (cnZ (tbS S F))) = i % cnZ (tbS S F) := by rw [Int.tmod_eq_emod_of_nonneg (by omega)]; exact IntWalk.i64_in _ (by omega)
  have q2 : IntKind.i64.wrap (i / cnZ (tbS S F)) = k := by rw [hk]; exact IntWalk.i64_in _ (by have := lvL_len P l; omega)
  have hklt : (k : Int) < ((lvL P l).length : Int) := by omega
  go_wp2
  refine wp_region_held_drew (S := fun X => Below w5.heap.size w5 X) (by kernel_rfl) (Below.drew (Below.refl _ _)) (fun hH => ?_)
  refine wpAnyH_take (i := 0) (v := ?_) rfl (by kernel_rfl) (by kernel_rfl) (by kernel_rfl) (fun _ _ _ h => h) (Or.inl ⟨by rfl, ?_⟩) (by assumption) ?_; rotate_left; · (intro wz hz; (have f0 := (hz.cell (p := ⟨w.heap.size, 0, none⟩) kc5).trans ka5; have f1 := (hz.cell (p := ⟨w.heap.size + 1, 0, none⟩) te5).trans ta5); clear hz; go_simp; try with_reducible rfl); (try simp only [Act.put, List.getElem_toArray, List.getElem_cons_succ, List.getElem_cons_zero, List.setIfInBounds_toArray, List.set_cons_zero, List.set_cons_succ])
  refine wpAnyH_take (i := 1) (v := ?_) rfl (by kernel_rfl) (by kernel_rfl) (by kernel_rfl) (fun _ _ _ h => h) (Or.inl ⟨by rfl, ?_⟩) (by assumption) ?_; rotate_left; · (intro wz hz; (have f0 := (hz.cell (p := ⟨w.heap.size, 0, none⟩) kc5).trans ka5; have f1 := (hz.cell (p := ⟨w.heap.size + 1, 0, none⟩) te5).trans ta5); clear hz; go_simp; try with_reducible rfl); (try simp only [Act.put, List.getElem_toArray, List.getElem_cons_succ, List.getElem_cons_zero, List.setIfInBounds_toArray, List.set_cons_zero, List.set_cons_succ])
  refine wpAnyH_take (i := 2) (v := ?_) rfl (by kernel_rfl) (by kernel_rfl) (by kernel_rfl) (fun _ _ _ h => h) (Or.inl ⟨by rfl, ?_⟩) (by assumption) ?_; rotate_left; · (intro wz hz; (have f0 := (hz.cell (p := ⟨w.heap.size, 0, none⟩) kc5).trans ka5; have f1 := (hz.cell (p := ⟨w.heap.size + 1, 0, none⟩) te5).trans ta5); clear hz; go_simp; try with_reducible rfl); (try simp only [Act.put, List.getElem_toArray, List.getElem_cons_succ, List.getElem_cons_zero, List.setIfInBounds_toArray, List.set_cons_zero, List.set_cons_succ])
  refine wpAnyH_take (i := 4) (v := ?_) rfl (by kernel_rfl) (by kernel_rfl) (by kernel_rfl) (fun _ _ _ h => h) (Or.inl ⟨by rfl, ?_⟩) (by assumption) ?_; rotate_left; · (intro wz hz; (skip); clear hz; go_simp; try with_reducible rfl); (try simp only [Act.put, List.getElem_toArray, List.getElem_cons_succ, List.getElem_cons_zero, List.setIfInBounds_toArray, List.set_cons_zero, List.set_cons_succ])
  refine wpAnyH_take (i := 5) (v := ?_) rfl (by kernel_rfl) (by kernel_rfl) (by kernel_rfl) (fun _ _ _ h => h) (Or.inl ⟨by rfl, ?_⟩) (by assumption) ?_; rotate_left; · (intro wz hz; (skip); clear hz; go_simp; try with_reducible rfl); (try simp only [Act.put, List.getElem_toArray, List.getElem_cons_succ, List.getElem_cons_zero, List.setIfInBounds_toArray, List.set_cons_zero, List.set_cons_succ])
  refine wpAnyH_take (i := 6) (v := ?_) rfl (by kernel_rfl) (by kernel_rfl) (by kernel_rfl) (fun _ _ _ h => h) (Or.inl ⟨by rfl, ?_⟩) (by assumption) ?_; rotate_left; · (intro wz hz; (skip); clear hz; go_simp; try with_reducible rfl); (try simp only [Act.put, List.getElem_toArray, List.getElem_cons_succ, List.getElem_cons_zero, List.setIfInBounds_toArray, List.set_cons_zero, List.set_cons_succ])
  refine wpAnyH_take (i := 9) (v := ?_) rfl (by kernel_rfl) (by kernel_rfl) (by kernel_rfl) (fun _ _ _ h => h) (Or.inl ⟨by rfl, ?_⟩) (by assumption) ?_; rotate_left; · (intro wz hz; (skip); clear hz; go_simp; try with_reducible rfl); (try simp only [Act.put, List.getElem_toArray, List.getElem_cons_succ, List.getElem_cons_zero, List.setIfInBounds_toArray, List.set_cons_zero, List.set_cons_succ])
  refine wpAnyH_take (i := 10) (v := ?_) rfl (by kernel_rfl) (by kernel_rfl) (by kernel_rfl) (fun _ _ _ h => h) (Or.inl ⟨by rfl, ?_⟩) (by assumption) ?_; rotate_left; · (intro wz hz; (skip); clear hz; go_simp; try with_reducible rfl); (try simp only [Act.put, List.getElem_toArray, List.getElem_cons_succ, List.getElem_cons_zero, List.setIfInBounds_toArray, List.set_cons_zero, List.set_cons_succ])
  refine wpAnyH_take (i := 11) (v := ?_) rfl (by kernel_rfl) (by kernel_rfl) (by kernel_rfl) (fun _ _ _ h => h) (Or.inl ⟨by rfl, ?_⟩) (by assumption) ?_; rotate_left; · (intro wz hz; (skip); clear hz; go_simp; try with_reducible rfl); (try simp only [Act.put, List.getElem_toArray, List.getElem_cons_succ, List.getElem_cons_zero, List.setIfInBounds_toArray, List.set_cons_zero, List.set_cons_succ])
  refine wpAnyH_take (i := 12) (v := ?_) rfl (by kernel_rfl) (by kernel_rfl) (by kernel_rfl) (fun _ _ _ h => h) (Or.inl ⟨by rfl, ?_⟩) (by assumption) ?_; rotate_left; · (intro wz hz; (skip); clear hz; go_simp; try with_reducible rfl); (try simp only [Act.put, List.getElem_toArray, List.getElem_cons_succ, List.getElem_cons_zero, List.setIfInBounds_toArray, List.set_cons_zero, List.set_cons_succ])
  refine wpAnyH_ready (rs := [3]) (by kernel_rfl) (by simp) (AllReadyH.cons rfl (fun K hK => ?_) AllReadyH.nil); go_simp
  refine (gLevel_any _ _ P l _ hgh.out (hPh.out.below (Below.via' B5 hH))).mono ?_
  rintro e w6 ⟨v6, rfl, ho6, hb6⟩
  obtain ⟨b6, c6, rfl⟩ := own_some ho6 (by omega)
  obtain ⟨u6, hu6, k6⟩ := own_cell ho6 (j := k) (by omega)
  obtain rfl : u6 = .int .i64 a := Option.some.inj (hu6.symm.trans (iC_at hka.out))
  have l6 := (own_lt ho6).2
  clear hu6 ho6
  refine hK.out _ _ (Below.via' hH hb6) (fun h6 => ?_)
  clear hK K
  (try simp only [Act.put, List.getElem_toArray, List.getElem_cons_succ, List.getElem_cons_zero, List.setIfInBounds_toArray, List.set_cons_zero, List.set_cons_succ])
  refine wpAnyH_take (i := 7) (v := ?_) rfl (by kernel_rfl) (by kernel_rfl) (by kernel_rfl) (fun _ _ _ h => h) (Or.inl ⟨by rfl, ?_⟩) (by assumption) ?_; rotate_left; · (intro wz hz; (skip); clear hz; go_simp; try with_reducible rfl); (try simp only [Act.put, List.getElem_toArray, List.getElem_cons_succ, List.getElem_cons_zero, List.setIfInBounds_toArray, List.set_cons_zero, List.set_cons_succ])
  refine wpAnyH_ready (rs := [8, 13]) (by kernel_rfl) (by simp) (AllReadyH.cons rfl (fun K hK => ?_) (AllReadyH.cons rfl (fun K hK => ?_) AllReadyH.nil))
  go_simp
  refine hK.out _ _ h6 (fun h6b => ?_)
  clear hK K
  (try simp only [Act.put, List.getElem_toArray, List.getElem_cons_succ, List.getElem_cons_zero, List.setIfInBounds_toArray, List.set_cons_zero, List.set_cons_succ])
  refine wpAnyH_ready (rs := [13]) (by kernel_rfl) (by simp) (AllReadyH.cons rfl (fun K hK => ?_) AllReadyH.nil); go_simp
  try rw [show i.tmod (cnZ (tbS S F)) = i % cnZ (tbS S F) from Int.tmod_eq_emod_of_nonneg (by omega)]
  refine (sAt_p _ _ (tbS S F) _ _ hpt.out hm0 (by omega) (hr5.out.below h6)).mono ?_
  rintro e w7 ⟨u7, rfl, ho7, hb7⟩
  have ho7 := Lib.hid (own_more ho7 (Nat.le_trans B5.size h6.size))
  refine hK.out _ _ (Below.via' h6 hb7) (fun h7 => ?_)
  clear hK K
  (try simp only [Act.put, List.getElem_toArray, List.getElem_cons_succ, List.getElem_cons_zero, List.setIfInBounds_toArray, List.set_cons_zero, List.set_cons_succ])
  refine wpAnyH_ready (rs := [14]) (by kernel_rfl) (by simp) (AllReadyH.cons rfl (fun K hK => ?_) AllReadyH.nil); go_simp
  refine hK.out _ _ h7 (fun h7 => ?_)
  clear hK K
  (try simp only [Act.put, List.getElem_toArray, List.getElem_cons_succ, List.getElem_cons_zero, List.setIfInBounds_toArray, List.set_cons_zero, List.set_cons_succ])
  refine wpAnyH_ready (rs := [15]) (by kernel_rfl) (by simp) (AllReadyH.cons rfl (fun K hK => ?_) AllReadyH.nil); go_simp
  refine hK.out _ _ h7 (fun h7 => ?_)
  clear hK K
  (try simp only [Act.put, List.getElem_toArray, List.getElem_cons_succ, List.getElem_cons_zero, List.setIfInBounds_toArray, List.set_cons_zero, List.set_cons_succ])
  refine wpAnyH_ready (rs := [16]) (by kernel_rfl) (by simp) (AllReadyH.cons rfl (fun K hK => ?_) AllReadyH.nil); go_simp
  refine hK.out _ _ h7 (fun h7 => ?_)
  clear hK K
  (try simp only [Act.put, List.getElem_toArray, List.getElem_cons_succ, List.getElem_cons_zero, List.setIfInBounds_toArray, List.set_cons_zero, List.set_cons_succ])
  refine wpAnyH_done (by kernel_rfl) ?_ _
  go_wp2_with fail
  go_ret3
  refine ⟨u7, ret_ivb hv2.out.symm hv1.out.symm, ?_, Below.via' B5 h7⟩
  rw [hv3.out]
  exact ho7.out
  go_simp
  try rw [show i.tmod (cnZ (tbS S F)) = i % cnZ (tbS S F) from Int.tmod_eq_emod_of_nonneg (by omega)]
  refine (sAt_p _ _ (tbS S F) _ _ hpt.out hm0 (by omega) (hr5.out.below h6)).mono ?_
  rintro e w7 ⟨u7, rfl, ho7, hb7⟩
  have ho7 := Lib.hid (own_more ho7 (Nat.le_trans B5.size h6.size))
  refine hK.out _ _ (Below.via' h6 hb7) (fun h7 => ?_)
  clear hK K
  (try simp only [Act.put, List.getElem_toArray, List.getElem_cons_succ, List.getElem_cons_zero, List.setIfInBounds_toArray, List.set_cons_zero, List.set_cons_succ])
  have k7 := (hb7.cell (p := ⟨b6, k, none⟩) l6).trans k6
  refine wpAnyH_ready (rs := [8]) (by kernel_rfl) (by simp) (AllReadyH.cons rfl (fun K hK => ?_) AllReadyH.nil); go_simp
  refine hK.out _ _ h7 (fun h7b => ?_)
  clear hK K
  (try simp only [Act.put, List.getElem_toArray, List.getElem_cons_succ, List.getElem_cons_zero, List.setIfInBounds_toArray, List.set_cons_zero, List.set_cons_succ])
  refine wpAnyH_ready (rs := [14]) (by kernel_rfl) (by simp) (AllReadyH.cons rfl (fun K hK => ?_) AllReadyH.nil); go_simp
  refine hK.out _ _ h7 (fun h7 => ?_)
  clear hK K
  (try simp only [Act.put, List.getElem_toArray, List.getElem_cons_succ, List.getElem_cons_zero, List.setIfInBounds_toArray, List.set_cons_zero, List.set_cons_succ])
  refine wpAnyH_ready (rs := [15]) (by kernel_rfl) (by simp) (AllReadyH.cons rfl (fun K hK => ?_) AllReadyH.nil); go_simp
  refine hK.out _ _ h7 (fun h7 => ?_)
  clear hK K
  (try simp only [Act.put, List.getElem_toArray, List.getElem_cons_succ, List.getElem_cons_zero, List.setIfInBounds_toArray, List.set_cons_zero, List.set_cons_succ])
  refine wpAnyH_ready (rs := [16]) (by kernel_rfl) (by simp) (AllReadyH.cons rfl (fun K hK => ?_) AllReadyH.nil); go_simp
  refine hK.out _ _ h7 (fun h7 => ?_)
  clear hK K
  (try simp only [Act.put, List.getElem_toArray, List.getElem_cons_succ, List.getElem_cons_zero, List.setIfInBounds_toArray, List.set_cons_zero, List.set_cons_succ])
  refine wpAnyH_done (by kernel_rfl) ?_ _
  go_wp2_with fail
  go_ret3
  refine ⟨u7, ret_ivb hv2.out.symm hv1.out.symm, ?_, Below.via' B5 h7⟩
  rw [hv3.out]
  exact ho7.out
end Go.Proofs.Ytgkaalonmkcclaa

namespace Go.Proofs.Ytgkaalonmkcclaa
open Go.RowKit
set_option maxRecDepth 100000

/-- An integer and a list, handed back. -/
def RetIV (a : Int) (L : List Int) (w : World) (e : Ending) (w' : World) : Prop :=
  ∃ u, e = .returned (.tuple #[.int .i64 a, u]) ∧ w'.ownsRow w.heap.size 3 1 u L.length (iC L) ∧ Below w.heap.size w w'
theorem ret_iv {a b : Int} {u : Value} (h : a = b) : Ending.returned (.tuple #[.int .i64 a, u]) = .returned (.tuple #[.int .i64 b, u]) := by rw [h]
set_option maxHeartbeats 8000000 in
theorem gat_any (p x z ga : Option Addr) (va c c2 c3 ca cv : Nat) (P : List Int) (S : List (ByteArray × Int)) (l : Int) (F W : List Int) (m i : Int) (w : World) (htg : TgP P S l F W m) (h0 : 0 ≤ i) (h1 : i < tcZ P S l F) (hA : IIn w ga (lvL P l)) (hV : Rd w (some ⟨va, 0, none⟩) (vC (tbS S F))) (hva : va < w.heap.size) (hcv : (tbS S F).length ≤ cv) :
    Calls Try.prog 81 #[.agg #[.slice p P.length c, .int .i64 l, .slice x F.length c2, .slice z W.length c3, .int .i64 m, .slice ga (lvL P l).length ca, .slice (some ⟨va, 0, none⟩) (tbS S F).length cv], .int .i64 i] w (RetIV (tcaA P S l F W m i) (tcaL P S l F W m i) w) := by
  have hpt := Lib.hid (tbS_ok htg.s htg.r)
  have hl30 := (ge_len htg.g).2
  have hl := lvL_len P l
  have hAh := Lib.hid hA
  have hPt := Lib.hid hV
  have hi6 : i ≤ 600 := by have := htg.c; omega
  obtain ⟨k, a, hk, hkl, hka, hm0, hm1, hv1, hv2, hv3⟩ := tca_at htg h0 h1
  have hcn := pt_cn hpt.out
  have hv1 := Lib.hid hv1
  have hv2 := Lib.hid hv2
  have hv3 := Lib.hid hv3
  clear htg hA hV
  obtain ⟨W2, hW2⟩ : ∃ W2, W2 = w.alloc (.cells #[.slice p P.length c, .int .i64 l, .slice x F.length c2, .slice z W.length c3, .int .i64 m, .slice ga (lvL P l).length ca, .slice (some ⟨va, 0, none⟩) (tbS S F).length cv] 91) := ⟨_, rfl⟩
  have hG := g7_of_wb (Wb.new w 91 #[.slice p P.length c, .int .i64 l, .slice x F.length c2, .slice z W.length c3, .int .i64 m, .slice ga (lvL P l).length ca, .slice (some ⟨va, 0, none⟩) (tbS S F).length cv])
  rw [← hW2] at hG
  have BW : Below w.heap.size w W2 := by rw [hW2]; exact Below.alloc' (Below.refl _ _) _
  replace hG := Lib.hid hG
  replace hW2 := Lib.hid hW2
  obtain ⟨j0, j1, j2, j3, j4, j5, j6, jl⟩ := hG.out
  rw [hW2.out] at j0 j1 j2 j3 j4 j5 j6 jl
  go_enter Try.func81, Try.ntmps81
  go_wp2_with fail
  rw [← hW2.out]
  refine (countComb_p _ _ (tbS S F) _ hpt.out (hPt.out.below BW)).mono ?_
  rintro e w5 ⟨rfl, hb5⟩
  have B5 := Below.via' BW hb5
  clear j0 j1 j2 j3 j4 j5 j6 jl
  obtain ⟨i0, i1, i2, i3, i4, i5, i6, il⟩ := hG.out.below hb5
  have hAr := (hAh.out.below B5).2.2
  obtain ⟨b6, o6, a2, rfl, hb6, hka2, k6⟩ := hAr.int (i := k) hkl
  obtain rfl := Option.some.inj (hka2.symm.trans hka)
  have hSI : Hid (SIn w5 (some ⟨va, 0, none⟩) cv (tbS S F)) := by
    refine ⟨by have := ptS_len hpt.out; omega, hcv, ?_, hPt.out.below B5⟩
    intro q hq
    rcases hpt.out with e | hs
    · rw [e] at hq; cases hq
    · have h1 := schB_va hs hq
      unfold vaB nmB lvB at h1
      simp only [Bool.and_eq_true, decide_eq_true_eq] at h1
      unfold IsI64
      omega
  have d1 : (cnZ (tbS S F) == 0) = false := by rw [beq_eq_false_iff_ne]; omega
  have d0 : ¬ cnZ (tbS S F) = 0 := by omega
  have d2 : IntKind.i64.wrap (i.tdiv (cnZ (tbS S F))) = k := (IntWalk.i64_quo i _ ⟨by omega, by omega, by omega⟩).trans hk
  have d3 : IntKind.i64.wrap (i.tmod (cnZ (tbS S F))) = i % cnZ (tbS S F) := by rw [Int.tmod_eq_emod_of_nonneg (by omega)]; exact IntWalk.i64_in _ (by omega)
  have q2 : IntKind.i64.wrap (i / cnZ (tbS S F)) = k := by rw [hk]; exact IntWalk.i64_in _ (by omega)
  have hklt : (k : Int) < ((lvL P l).length : Int) := by omega
  have hva5 : va < w5.heap.size := Nat.lt_of_lt_of_le hva B5.size
  clear hAr hka hka2
  go_wp2
  refine wp_region_held_drew (S := fun X => Below w5.heap.size w5 X) (by kernel_rfl) (Below.drew (Below.refl _ _)) (fun hH => ?_)
  refine wpAnyH_take (i := 0) (v := ?_) rfl (by kernel_rfl) (by kernel_rfl) (by kernel_rfl) (fun _ _ _ h => h) (Or.inl ⟨by rfl, ?_⟩) (by assumption) ?_; rotate_left; · (intro wz hz; (have f0 := (hz.cell (p := ⟨w.heap.size, 2, none⟩) il).trans i2; have f1 := (hz.cell (p := ⟨w.heap.size, 3, none⟩) il).trans i3; have f2 := (hz.cell (p := ⟨b6, o6 + k, none⟩) hb6).trans k6; have f3 := (hz.cell (p := ⟨w.heap.size, 5, none⟩) il).trans i5; have f4 := (hz.cell (p := ⟨w.heap.size, 6, none⟩) il).trans i6); clear hz; go_simp; try with_reducible rfl); (try simp only [Act.put, List.getElem_toArray, List.getElem_cons_succ, List.getElem_cons_zero, List.setIfInBounds_toArray, List.set_cons_zero, List.set_cons_succ])
  refine wpAnyH_take (i := 1) (v := ?_) rfl (by kernel_rfl) (by kernel_rfl) (by kernel_rfl) (fun _ _ _ h => h) (Or.inl ⟨by rfl, ?_⟩) (by assumption) ?_; rotate_left; · (intro wz hz; (have f0 := (hz.cell (p := ⟨w.heap.size, 2, none⟩) il).trans i2; have f1 := (hz.cell (p := ⟨w.heap.size, 3, none⟩) il).trans i3; have f2 := (hz.cell (p := ⟨b6, o6 + k, none⟩) hb6).trans k6; have f3 := (hz.cell (p := ⟨w.heap.size, 5, none⟩) il).trans i5; have f4 := (hz.cell (p := ⟨w.heap.size, 6, none⟩) il).trans i6); clear hz; go_simp; try with_reducible rfl); (try simp only [Act.put, List.getElem_toArray, List.getElem_cons_succ, List.getElem_cons_zero, List.setIfInBounds_toArray, List.set_cons_zero, List.set_cons_succ])
  refine wpAnyH_take (i := 2) (v := ?_) rfl (by kernel_rfl) (by kernel_rfl) (by kernel_rfl) (fun _ _ _ h => h) (Or.inl ⟨by rfl, ?_⟩) (by assumption) ?_; rotate_left; · (intro wz hz; (skip); clear hz; go_simp; try with_reducible rfl); (try simp only [Act.put, List.getElem_toArray, List.getElem_cons_succ, List.getElem_cons_zero, List.setIfInBounds_toArray, List.set_cons_zero, List.set_cons_succ])
  refine wpAnyH_take (i := 3) (v := ?_) rfl (by kernel_rfl) (by kernel_rfl) (by kernel_rfl) (fun _ _ _ h => h) (Or.inl ⟨by rfl, ?_⟩) (by assumption) ?_; rotate_left; · (intro wz hz; (skip); clear hz; go_simp; try with_reducible rfl); (try simp only [Act.put, List.getElem_toArray, List.getElem_cons_succ, List.getElem_cons_zero, List.setIfInBounds_toArray, List.set_cons_zero, List.set_cons_succ])
  refine wpAnyH_take (i := 4) (v := ?_) rfl (by kernel_rfl) (by kernel_rfl) (by kernel_rfl) (fun _ _ _ h => h) (Or.inl ⟨by rfl, ?_⟩) (by assumption) ?_; rotate_left; · (intro wz hz; (skip); clear hz; go_simp; try with_reducible rfl); (try simp only [Act.put, List.getElem_toArray, List.getElem_cons_succ, List.getElem_cons_zero, List.setIfInBounds_toArray, List.set_cons_zero, List.set_cons_succ])
  refine wpAnyH_take (i := 5) (v := ?_) rfl (by kernel_rfl) (by kernel_rfl) (by kernel_rfl) (fun _ _ _ h => h) (Or.inl ⟨by rfl, ?_⟩) (by assumption) ?_; rotate_left; · (intro wz hz; (skip); clear hz; go_simp; try with_reducible rfl); (try simp only [Act.put, List.getElem_toArray, List.getElem_cons_succ, List.getElem_cons_zero, List.setIfInBounds_toArray, List.set_cons_zero, List.set_cons_succ])
  refine wpAnyH_take (i := 6) (v := ?_) rfl (by kernel_rfl) (by kernel_rfl) (by kernel_rfl) (fun _ _ _ h => h) (Or.inl ⟨by rfl, ?_⟩) (by assumption) ?_; rotate_left; · (intro wz hz; (have f0 := (hz.cell (p := ⟨w.heap.size, 2, none⟩) il).trans i2; have f1 := (hz.cell (p := ⟨w.heap.size, 3, none⟩) il).trans i3; have f2 := (hz.cell (p := ⟨b6, o6 + k, none⟩) hb6).trans k6; have f3 := (hz.cell (p := ⟨w.heap.size, 5, none⟩) il).trans i5; have f4 := (hz.cell (p := ⟨w.heap.size, 6, none⟩) il).trans i6); clear hz; go_simp; try with_reducible rfl); (try simp only [Act.put, List.getElem_toArray, List.getElem_cons_succ, List.getElem_cons_zero, List.setIfInBounds_toArray, List.set_cons_zero, List.set_cons_succ])
  refine wpAnyH_take (i := 7) (v := ?_) rfl (by kernel_rfl) (by kernel_rfl) (by kernel_rfl) (fun _ _ _ h => h) (Or.inl ⟨by rfl, ?_⟩) (by assumption) ?_; rotate_left; · (intro wz hz; (skip); clear hz; go_simp; try with_reducible rfl); (try simp only [Act.put, List.getElem_toArray, List.getElem_cons_succ, List.getElem_cons_zero, List.setIfInBounds_toArray, List.set_cons_zero, List.set_cons_succ])
  refine wpAnyH_take (i := 8) (v := ?_) rfl (by kernel_rfl) (by kernel_rfl) (by kernel_rfl) (fun _ _ _ h => h) (Or.inl ⟨by rfl, ?_⟩) (by assumption) ?_; rotate_left; · (intro wz hz; (have f0 := (hz.cell (p := ⟨w.heap.size, 2, none⟩) il).trans i2; have f1 := (hz.cell (p := ⟨w.heap.size, 3, none⟩) il).trans i3; have f2 := (hz.cell (p := ⟨b6, o6 + k, none⟩) hb6).trans k6; have f3 := (hz.cell (p := ⟨w.heap.size, 5, none⟩) il).trans i5; have f4 := (hz.cell (p := ⟨w.heap.size, 6, none⟩) il).trans i6); clear hz; go_simp; try with_reducible rfl); (try simp only [Act.put, List.getElem_toArray, List.getElem_cons_succ, List.getElem_cons_zero, List.setIfInBounds_toArray, List.set_cons_zero, List.set_cons_succ])
  refine wpAnyH_take (i := 9) (v := ?_) rfl (by kernel_rfl) (by kernel_rfl) (by kernel_rfl) (fun _ _ _ h => h) (Or.inl ⟨by rfl, ?_⟩) (by assumption) ?_; rotate_left; · (intro wz hz; (skip); clear hz; go_simp; try with_reducible rfl); (try simp only [Act.put, List.getElem_toArray, List.getElem_cons_succ, List.getElem_cons_zero, List.setIfInBounds_toArray, List.set_cons_zero, List.set_cons_succ])
  refine wpAnyH_take (i := 10) (v := ?_) rfl (by kernel_rfl) (by kernel_rfl) (by kernel_rfl) (fun _ _ _ h => h) (Or.inl ⟨by rfl, ?_⟩) (by assumption) ?_; rotate_left; · (intro wz hz; (skip); clear hz; go_simp; try with_reducible rfl); (try simp only [Act.put, List.getElem_toArray, List.getElem_cons_succ, List.getElem_cons_zero, List.setIfInBounds_toArray, List.set_cons_zero, List.set_cons_succ])
  refine wpAnyH_take (i := 11) (v := ?_) rfl (by kernel_rfl) (by kernel_rfl) (by kernel_rfl) (fun _ _ _ h => h) (Or.inl ⟨by rfl, ?_⟩) (by assumption) ?_; rotate_left; · (intro wz hz; (skip); clear hz; go_simp; try with_reducible rfl); (try simp only [Act.put, List.getElem_toArray, List.getElem_cons_succ, List.getElem_cons_zero, List.setIfInBounds_toArray, List.set_cons_zero, List.set_cons_succ])
  refine wpAnyH_ready (rs := [12]) (by kernel_rfl) (by simp) (AllReadyH.cons rfl (fun K hK => ?_) AllReadyH.nil); go_simp
  rw [show i.tmod (cnZ (tbS S F)) = i % cnZ (tbS S F) from Int.tmod_eq_emod_of_nonneg (by omega)]
  refine (combAt_p _ _ (tbS S F) _ _ (hSI.out.below hH) hpt.out (fun _ => ⟨va, 0, rfl, Nat.lt_of_lt_of_le hva5 hH.size⟩) hm0 hm1).mono ?_
  rintro e w7 ⟨u7, rfl, ho7, hb7⟩
  have ho7 := Lib.hid (own_more ho7 (Nat.le_trans B5.size hH.size))
  refine hK.out _ _ (Below.via' hH hb7) (fun h7 => ?_)
  clear hK K
  (try simp only [Act.put, List.getElem_toArray, List.getElem_cons_succ, List.getElem_cons_zero, List.setIfInBounds_toArray, List.set_cons_zero, List.set_cons_succ])
  refine wpAnyH_ready (rs := [13]) (by kernel_rfl) (by simp) (AllReadyH.cons rfl (fun K hK => ?_) AllReadyH.nil); go_simp
  refine hK.out _ _ h7 (fun h7 => ?_)
  clear hK K
  (try simp only [Act.put, List.getElem_toArray, List.getElem_cons_succ, List.getElem_cons_zero, List.setIfInBounds_toArray, List.set_cons_zero, List.set_cons_succ])
  refine wpAnyH_ready (rs := [14]) (by kernel_rfl) (by simp) (AllReadyH.cons rfl (fun K hK => ?_) AllReadyH.nil); go_simp
  refine hK.out _ _ h7 (fun h7 => ?_)
  clear hK K
  (try simp only [Act.put, List.getElem_toArray, List.getElem_cons_succ, List.getElem_cons_zero, List.setIfInBounds_toArray, List.set_cons_zero, List.set_cons_succ])
  refine wpAnyH_done (by kernel_rfl) ?_ _
  go_wp2_with fail
  go_ret2
  refine ⟨u7, ret_iv hv2.out.symm, ?_, Below.via' B5 h7⟩
  rw [hv3.out]
  exact ho7.out
set_option maxHeartbeats 8000000 in
theorem iCAt_x (p y x z : Option Addr) (c c1 c2 c3 : Nat) (P : List Int) (S : List (ByteArray × Int)) (l : Int) (F W : List Int) (m i : Int) (w : World) (hP : IIn w p P) (hS : SIn w y c1 S) (hT : TIn w x z F W) :
    Calls Try.prog 31 #[.agg #[.slice p P.length c], .slice y S.length c1, .agg #[.int .i64 l, .slice x F.length c2, .slice z W.length c3, .int .i64 m], .int .i64 i] w (RetIL (tcaA P S l F W m i) (tcaL P S l F W m i) (tcaB P S l F W m i) w) := by
  have hPh := Lib.hid hP
  have hSh := Lib.hid hS
  have hFh := Lib.hid hT.1
  have hWh := Lib.hid hT.2
  clear hP hS hT
  have p1 := Lib.hid (QB.new w p P.length c 33)
  have p2 := Lib.hid (TQ.new (w.alloc (.cells #[.slice p P.length c] 33)) l x F.length c2 z W.length c3 m 37)
  obtain ⟨w0, hw0⟩ : ∃ w0, w0 = (w.alloc (.cells #[.slice p P.length c] 33)).alloc (.cells #[.int .i64 l, .slice x F.length c2, .slice z W.length c3, .int .i64 m] 37) := ⟨_, rfl⟩
  have B0 : Below w.heap.size w w0 := by rw [hw0]; exact (by repeat (first | exact Below.refl _ _ | assumption | refine Below.drew ?_ | refine below_drewN ?_ _ | refine Below.alloc' ?_ _ | (refine Below.setCell ?_ (by first | omega | (simp; done) | (simp; omega) | exact Below.size (by assumption) | exact Nat.le_trans (Below.size (by assumption)) (by simp)) _) | (refine Below.via' ?_ (by assumption)) | (refine Below.alloc ?_ (by first | omega | (simp; done) | (simp; omega) | exact Below.size (by assumption) | exact Nat.le_trans (Below.size (by assumption)) (by simp)) _) | (refine Below.via ?_ (by assumption) (by first | omega | (simp; done) | (simp; omega) | exact Below.size (by assumption) | exact Nat.le_trans (Below.size (by assumption)) (by simp)))))
  have g0 : Hid (QB w0 w.heap.size p P.length c) := by
    rw [hw0]
    exact p1.out.below (show Below (w.alloc (.cells #[.slice p P.length c] 33)).heap.size (w.alloc (.cells #[.slice p P.length c] 33)) _ from (by repeat (first | exact Below.refl _ _ | assumption | refine Below.drew ?_ | refine below_drewN ?_ _ | refine Below.alloc' ?_ _ | (refine Below.setCell ?_ (by first | omega | (simp; done) | (simp; omega) | exact Below.size (by assumption) | exact Nat.le_trans (Below.size (by assumption)) (by simp)) _) | (refine Below.via' ?_ (by assumption)) | (refine Below.alloc ?_ (by first | omega | (simp; done) | (simp; omega) | exact Below.size (by assumption) | exact Nat.le_trans (Below.size (by assumption)) (by simp)) _) | (refine Below.via ?_ (by assumption) (by first | omega | (simp; done) | (simp; omega) | exact Below.size (by assumption) | exact Nat.le_trans (Below.size (by assumption)) (by simp))))))
  have t0 : Hid (TQ w0 (w.heap.size + 1) l x F.length c2 z W.length c3 m) := by
    have h0 := p2.out
    rw [World.size_alloc, ← hw0] at h0
    exact h0
  have z0 : w0.heap.size = w.heap.size + 1 + 1 := by rw [hw0]; simp
  clear p1 p2
  go_enter Try.func31, Try.ntmps31
  go_wp2_with fail
  rw [← hw0]
  replace hw0 := Lib.hid hw0
  replace z0 := Lib.hid z0
  refine (gridOf_any p y x z _ _ _ _ P S l m F W _ (hPh.out.below B0) (hSh.out.below B0) ⟨hFh.out.below B0, hWh.out.below B0⟩).mono ?_
  rintro e w1 ⟨hb1, h1⟩
  have B1 : Below w.heap.size w w1 := Below.via' B0 hb1
  have g1 := Lib.hid (g0.out.below hb1)
  have t1 := Lib.hid (t0.out.below hb1)
  obtain ⟨ka1, kb1, kc1⟩ := g1.out
  obtain ⟨ta1, tb1, tc1, td1, te1⟩ := t1.out
  try clear ka0 kb0 kc0 ta0 tb0 tc0 td0 te0
  clear hb1
  rcases h1 with ⟨hno, rfl⟩ | ⟨htg, ga, ca, va, rfl, hA, hV, hvl⟩
  · have hv := Lib.hid (tca_no1 (i := i) (tg_no hno))
    clear hno
    go_wp2
    go_ret3
    exact retIL_no (tca_no0 hv.out) hv.out (by repeat (first | exact Below.refl _ _ | assumption | refine Below.drew ?_ | refine below_drewN ?_ _ | refine Below.alloc' ?_ _ | (refine Below.setCell ?_ (by first | omega | (simp; done) | (simp; omega) | exact Below.size (by assumption) | exact Nat.le_trans (Below.size (by assumption)) (by simp)) _) | (refine Below.via' ?_ (by assumption)) | (refine Below.alloc ?_ (by first | omega | (simp; done) | (simp; omega) | exact Below.size (by assumption) | exact Nat.le_trans (Below.size (by assumption)) (by simp)) _) | (refine Below.via ?_ (by assumption) (by first | omega | (simp; done) | (simp; omega) | exact Below.size (by assumption) | exact Nat.le_trans (Below.size (by assumption)) (by simp)))))
  have hpt := Lib.hid (tbS_ok htg.s htg.r)
  have hth := Lib.hid htg
  have hl30 := (ge_len htg.g).2
  have hl := lvL_len P l
  have hAh := Lib.hid hA
  have hPt := Lib.hid hV
  clear htg hA hV
  obtain ⟨W2, hW2⟩ : ∃ W2, W2 = w1.alloc (.cells #[.slice p P.length c, .int .i64 l, .slice x F.length c2, .slice z W.length c3, .int .i64 m, .slice ga (lvL P l).length ca, .slice (some ⟨va, 0, none⟩) (tbS S F).length (tbS S F).length] 91) := ⟨_, rfl⟩
  have hG := g7_of_wb (Wb.new w1 91 #[.slice p P.length c, .int .i64 l, .slice x F.length c2, .slice z W.length c3, .int .i64 m, .slice ga (lvL P l).length ca, .slice (some ⟨va, 0, none⟩) (tbS S F).length (tbS S F).length])
  rw [← hW2] at hG
  have BW : Below w1.heap.size w1 W2 := by rw [hW2]; exact Below.alloc' (Below.refl _ _) _
  replace hG := Lib.hid hG
  replace hW2 := Lib.hid hW2
  by_cases hi0 : i < 0
  · have hv := Lib.hid (tca_no2 (P := P) (S := S) (l := l) (F := F) (W := W) (m := m) (i := i) ((inB_no _ _ _).2 (by omega)))
    go_wp2
    go_ret3
    exact retIL_no (tca_no0 hv.out) hv.out (by repeat (first | exact Below.refl _ _ | assumption | refine Below.drew ?_ | refine below_drewN ?_ _ | refine Below.alloc' ?_ _ | (refine Below.setCell ?_ (by first | omega | (simp; done) | (simp; omega) | exact Below.size (by assumption) | exact Nat.le_trans (Below.size (by assumption)) (by simp)) _) | (refine Below.via' ?_ (by assumption)) | (refine Below.alloc ?_ (by first | omega | (simp; done) | (simp; omega) | exact Below.size (by assumption) | exact Nat.le_trans (Below.size (by assumption)) (by simp)) _) | (refine Below.via ?_ (by assumption) (by first | omega | (simp; done) | (simp; omega) | exact Below.size (by assumption) | exact Nat.le_trans (Below.size (by assumption)) (by simp)))))
  go_wp2_with fail
  rw [← hW2.out]
  refine (gcount_any _ _ _ _ _ _ _ _ _ _ _ _ _ _ _ (lvL P l) (tbS S F) _ hpt.out (by omega) (hPt.out.below BW)).mono ?_
  rintro e w2 ⟨rfl, hb2⟩
  have B12 := Below.via' BW hb2
  have B2 := Below.via' B1 B12
  obtain ⟨j0, j1, j2, j3, j4, j5, j6, jl⟩ := hG.out.below hb2
  by_cases hi1 : ((lvL P l).length : Int) * cnZ (tbS S F) ≤ i
  · have hv := Lib.hid (tca_no2 (P := P) (S := S) (l := l) (F := F) (W := W) (m := m) (i := i) ((inB_no _ _ _).2 (by unfold tcZ; omega)))
    go_wp2
    go_ret3
    exact retIL_no (tca_no0 hv.out) hv.out B2
  have htb : Hid (tcaB P S l F W m i = true) := by
    obtain ⟨k, a, -, -, -, -, -, hv1, -, -⟩ := tca_at hth.out (show 0 ≤ i by omega) (show i < tcZ P S l F by unfold tcZ; omega)
    exact hv1
  go_wp2_with fail
  refine (gat_any p x z ga va _ _ _ _ _ P S l F W m i _ hth.out (by omega) (by unfold tcZ; omega) (hAh.out.below B12) (hPt.out.below B12) (Nat.lt_of_lt_of_le hvl B12.size) (Nat.le_refl _)).mono ?_
  rintro e w5 ⟨u7, rfl, ho7, hb5⟩
  have ho7 := Lib.hid (own_more ho7 B2.size)
  have B5 := Below.via' B2 hb5
  go_wp2
  go_ret3
  exact ⟨u7, ret_ivb rfl htb.out.symm, ho7.out, B5⟩
end Go.Proofs.Ytgkaalonmkcclaa
