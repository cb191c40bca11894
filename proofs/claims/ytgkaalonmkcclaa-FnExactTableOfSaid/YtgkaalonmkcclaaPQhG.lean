import Derived.Test.YtgkaalonmkcclaaPQhF
import Derived.Test.YtgkaalonmkcclaaPQhE
namespace Go.Proofs.Ytgkaalonmkcclaa
open Go.RowKit
set_option maxRecDepth 100000

theorem ret_boo {a b : Bool} (h : a = b) : Ending.returned (.bool a) = .returned (.bool b) := by rw [h]
set_option maxHeartbeats 4000000 in
theorem isTb_any (p y x z : Option Addr) (c c1 c2 c3 : Nat) (P : List Int) (S : List (ByteArray × Int)) (l : Int) (F W : List Int) (m : Int) (w : World) (hP : IIn w p P) (hS : SIn w y c1 S) (hT : TIn w x z F W) :
    Calls Try.prog 65 #[.agg #[.slice p P.length c], .slice y S.length c1, .agg #[.int .i64 l, .slice x F.length c2, .slice z W.length c3, .int .i64 m]] w fun e w' => e = .returned (.bool (tgB P S l F W m)) ∧ Below w.heap.size w w' := by
  have hPh := Lib.hid hP
  have hSh := Lib.hid hS
  have hFh := Lib.hid hT.1
  have hWh := Lib.hid hT.2
  clear hP hS hT
  have p1 := Lib.hid (QB.new w p P.length c 33)
  have p2 := Lib.hid (TQ.new (w.alloc (.cells #[.slice p P.length c] 33)) l x F.length c2 z W.length c3 m 37)
  obtain ⟨w0, hw0⟩ : ∃ w0, w0 = (w.alloc (.cells #[.slice p P.length c] 33)).alloc (.cells #[.int .i64 l, .slice x F.length c2, .slice z W.length c3, .int .i64 m] 37) := ⟨_, rfl⟩
  have B0 : Below w.heap.size w w0 := by rw [hw0]; exact (by repeat (first | exact Below.refl _ _ | assumption | refine Below.drew ?_ | refine below_drewN ?_ _ | refine Below.alloc' ?_ _ | (refine Below.setCell ?_ (by first | omega | (simp; done) | (simp; omega) | exact Below.size (by assumption) | exact Nat.le_trans (Below.size (by assumption)) (by simp)) _) | (refine Below.via' ?_ (by assumption)) | (refine Below.alloc ?_ (by first | omega | (simp; done) | (simp; omega) | exact Below.size (by assumption) | exact Nat.le_trans (Below.size (by assumption)) (by simp)) _) | (refine Below.via ?_ (by assumption) (by first | omega | (simp; done) | (simp; omega) | exact Below.size (by assumption) | exact Nat.le_trans (Below.size (by assumption)) (by simp)))))
  have g0 : Hid (QB w0 w.heap.size p P.length c) := by
    rw [hw0]
    exact p1.out.below (show Below (w.alloc (.cells #[.slice p P.length c] 33)).heap.size (w.alloc (.cells #[.slice p P.length c] 33)) _ from (by repeat (first | exact Below.refl _ _ | assumption | refine Below.drew ?_ | refine below_drewN ?_ _ | refine Below.alloc' ?_ _ | (refine Below.setCell ?_ (by first | omega | (simp; done) | (simp; omega) | exact Below.size (by assumption) | exact Nat.le_trans (Below.size (by assumption)) (by simp)) _) | (refine Below.via' ?_ (by assumption)) | (refine Below.alloc ?_ (by first | omega | (simp; done) | (simp; omega) | exact Below.size (by assumption) | exact Nat.le_trans (Below.size (by assumption)) (by simp)) _) | (refine Below.via ?_ (by assumption) (by first | omega | (simp; done) | (simp; omega) | exact Below.size (by assumption) | exact Nat.le_trans (Below.size (by assumption)) (by simp))))))
  have t0 : Hid (TQ w0 (w.heap.size + 1) l x F.length c2 z W.length c3 m) := by
    have h0 := p2.out
    rw [World.size_alloc, ← hw0] at h0
    exact h0
  have z0 : w0.heap.size = w.heap.size + 1 + 1 := by rw [hw0]; simp
  clear p1 p2
  go_enter Try.func65, Try.ntmps65
  go_wp2_with fail
  rw [← hw0]
  replace hw0 := Lib.hid hw0
  replace z0 := Lib.hid z0
  refine (gridOf_any p y x z _ _ _ _ P S l m F W _ (hPh.out.below B0) (hSh.out.below B0) ⟨hFh.out.below B0, hWh.out.below B0⟩).mono ?_
  rintro e w1 ⟨hb1, h1⟩
  have B1 : Below w.heap.size w w1 := Below.via' B0 hb1
  have g1 := Lib.hid (g0.out.below hb1)
  have t1 := Lib.hid (t0.out.below hb1)
  obtain ⟨ka1, kb1, kc1⟩ := g1.out
  obtain ⟨ta1, tb1, tc1, td1, te1⟩ := t1.out
  try clear ka0 kb0 kc0 ta0 tb0 tc0 td0 te0
  clear hb1
  rcases h1 with ⟨hno, rfl⟩ | ⟨htg, ga, ca, va, rfl, hA, hV, hvl⟩
  · have hv := Lib.hid (tg_no hno)
    clear hno
    go_wp2
    go_ret
    exact ⟨ret_boo hv.out.symm, (by repeat (first | exact Below.refl _ _ | assumption | refine Below.drew ?_ | refine below_drewN ?_ _ | refine Below.alloc' ?_ _ | (refine Below.setCell ?_ (by first | omega | (simp; done) | (simp; omega) | exact Below.size (by assumption) | exact Nat.le_trans (Below.size (by assumption)) (by simp)) _) | (refine Below.via' ?_ (by assumption)) | (refine Below.alloc ?_ (by first | omega | (simp; done) | (simp; omega) | exact Below.size (by assumption) | exact Nat.le_trans (Below.size (by assumption)) (by simp)) _) | (refine Below.via ?_ (by assumption) (by first | omega | (simp; done) | (simp; omega) | exact Below.size (by assumption) | exact Nat.le_trans (Below.size (by assumption)) (by simp)))))⟩
  · have hv := Lib.hid (tg_iff.2 htg)
    clear htg
    replace hA := Lib.hid hA
    replace hV := Lib.hid hV
    go_wp2
    go_ret
    exact ⟨ret_boo hv.out.symm, (by repeat (first | exact Below.refl _ _ | assumption | refine Below.drew ?_ | refine below_drewN ?_ _ | refine Below.alloc' ?_ _ | (refine Below.setCell ?_ (by first | omega | (simp; done) | (simp; omega) | exact Below.size (by assumption) | exact Nat.le_trans (Below.size (by assumption)) (by simp)) _) | (refine Below.via' ?_ (by assumption)) | (refine Below.alloc ?_ (by first | omega | (simp; done) | (simp; omega) | exact Below.size (by assumption) | exact Nat.le_trans (Below.size (by assumption)) (by simp)) _) | (refine Below.via ?_ (by assumption) (by first | omega | (simp; done) | (simp; omega) | exact Below.size (by assumption) | exact Nat.le_trans (Below.size (by assumption)) (by simp)))))⟩
end Go.Proofs.Ytgkaalonmkcclaa

namespace Go.Proofs.Ytgkaalonmkcclaa
open Go.RowKit
set_option maxRecDepth 100000

/-- What CellCount answers. -/
def tcN (P : List Int) (S : List (ByteArray × Int)) (l : Int) (F W : List Int) (m : Int) : Int := if tgB P S l F W m then tcZ P S l F else 0
theorem tcN_no {P : List Int} {S : List (ByteArray × Int)} {l : Int} {F W : List Int} {m : Int} (h : ¬ TgP P S l F W m) : tcN P S l F W m = 0 ∧ tgB P S l F W m = false := by
  have e := tg_no h
  exact ⟨if_f e, e⟩
theorem tcN_yes {P : List Int} {S : List (ByteArray × Int)} {l : Int} {F W : List Int} {m : Int} (h : TgP P S l F W m) : tcN P S l F W m = tcZ P S l F ∧ tgB P S l F W m = true := by
  have e := tg_iff.2 h
  exact ⟨if_t e, e⟩
theorem isv_no {P : List Int} {S : List (ByteArray × Int)} {l : Int} {F W : List Int} {m : Int} (h : geB P = false ∨ schB S = false) : tgB P S l F W m = false ∧ isvK P S = false := by
  refine ⟨tg_no (fun k => ?_), ?_⟩
  · rcases h with h | h
    · rw [k.g] at h; cases h
    · rw [k.s] at h; cases h
  · unfold isvK
    rcases h with h | h
    · rw [h]; rfl
    · rw [h, Bool.and_false]
set_option maxHeartbeats 4000000 in
theorem sITa_x (p y x z : Option Addr) (c c1 c2 c3 : Nat) (P : List Int) (S : List (ByteArray × Int)) (l : Int) (F W : List Int) (m : Int) (w : World) (hP : IIn w p P) (hS : SIn w y c1 S) (hT : TIn w x z F W) :
    Calls Try.prog 16 #[.agg #[.slice p P.length c], .slice y S.length c1, .agg #[.int .i64 l, .slice x F.length c2, .slice z W.length c3, .int .i64 m]] w fun e w' => e = .returned (.tuple #[.bool (tgB P S l F W m), .bool (isvK P S)]) ∧ Below w.heap.size w w' := by
  have hPh := Lib.hid hP
  have hSh := Lib.hid hS
  have hFh := Lib.hid hT.1
  have hWh := Lib.hid hT.2
  clear hP hS hT
  have p1 := Lib.hid (QB.new w p P.length c 33)
  have p2 := Lib.hid (TQ.new (w.alloc (.cells #[.slice p P.length c] 33)) l x F.length c2 z W.length c3 m 37)
  obtain ⟨w0, hw0⟩ : ∃ w0, w0 = (w.alloc (.cells #[.slice p P.length c] 33)).alloc (.cells #[.int .i64 l, .slice x F.length c2, .slice z W.length c3, .int .i64 m] 37) := ⟨_, rfl⟩
  have B0 : Below w.heap.size w w0 := by rw [hw0]; exact (by repeat (first | exact Below.refl _ _ | assumption | refine Below.drew ?_ | refine below_drewN ?_ _ | refine Below.alloc' ?_ _ | (refine Below.setCell ?_ (by first | omega | (simp; done) | (simp; omega) | exact Below.size (by assumption) | exact Nat.le_trans (Below.size (by assumption)) (by simp)) _) | (refine Below.via' ?_ (by assumption)) | (refine Below.alloc ?_ (by first | omega | (simp; done) | (simp; omega) | exact Below.size (by assumption) | exact Nat.le_trans (Below.size (by assumption)) (by simp)) _) | (refine Below.via ?_ (by assumption) (by first | omega | (simp; done) | (simp; omega) | exact Below.size (by assumption) | exact Nat.le_trans (Below.size (by assumption)) (by simp)))))
  have g0 : Hid (QB w0 w.heap.size p P.length c) := by
    rw [hw0]
    exact p1.out.below (show Below (w.alloc (.cells #[.slice p P.length c] 33)).heap.size (w.alloc (.cells #[.slice p P.length c] 33)) _ from (by repeat (first | exact Below.refl _ _ | assumption | refine Below.drew ?_ | refine below_drewN ?_ _ | refine Below.alloc' ?_ _ | (refine Below.setCell ?_ (by first | omega | (simp; done) | (simp; omega) | exact Below.size (by assumption) | exact Nat.le_trans (Below.size (by assumption)) (by simp)) _) | (refine Below.via' ?_ (by assumption)) | (refine Below.alloc ?_ (by first | omega | (simp; done) | (simp; omega) | exact Below.size (by assumption) | exact Nat.le_trans (Below.size (by assumption)) (by simp)) _) | (refine Below.via ?_ (by assumption) (by first | omega | (simp; done) | (simp; omega) | exact Below.size (by assumption) | exact Nat.le_trans (Below.size (by assumption)) (by simp))))))
  have t0 : Hid (TQ w0 (w.heap.size + 1) l x F.length c2 z W.length c3 m) := by
    have h0 := p2.out
    rw [World.size_alloc, ← hw0] at h0
    exact h0
  have z0 : w0.heap.size = w.heap.size + 1 + 1 := by rw [hw0]; simp
  clear p1 p2
  cases hg : geB P
  · have hv := Lib.hid (isv_no (S := S) (l := l) (F := F) (W := W) (m := m) (Or.inl hg))
    go_enter Try.func16, Try.ntmps16
    go_wp2_with fail
    rw [← hw0]
    refine (gGood_any _ _ P _ (hPh.out.below B0)).mono ?_
    rintro e w1 ⟨rfl, hb1⟩
    rw [hg]
    go_wp2
    go_ret2
    exact ⟨ret_bb hv.out.1.symm hv.out.2.symm, Below.via' B0 hb1⟩
  have hgh := Lib.hid hg
  clear hg
  go_enter Try.func16, Try.ntmps16
  go_wp2_with fail
  rw [← hw0]
  replace hw0 := Lib.hid hw0
  replace z0 := Lib.hid z0
  refine (gGood_any _ _ P _ (hPh.out.below B0)).mono ?_
  rintro e w1 ⟨rfl, hb1⟩
  rw [hgh.out]
  have B1 : Below w.heap.size w w1 := Below.via' B0 hb1
  have g1 := Lib.hid (g0.out.below hb1)
  have t1 := Lib.hid (t0.out.below hb1)
  obtain ⟨ka1, kb1, kc1⟩ := g1.out
  obtain ⟨ta1, tb1, tc1, td1, te1⟩ := t1.out
  try clear ka0 kb0 kc0 ta0 tb0 tc0 td0 te0
  clear hb1
  go_wp2_with fail
  refine (sGood_x _ _ _ _ (hSh.out.below B1)).mono ?_
  rintro e w2 ⟨rfl, hb2⟩
  have B2 : Below w.heap.size w w2 := Below.via' B1 hb2
  have g2 := Lib.hid (g1.out.below hb2)
  have t2 := Lib.hid (t1.out.below hb2)
  obtain ⟨ka2, kb2, kc2⟩ := g2.out
  obtain ⟨ta2, tb2, tc2, td2, te2⟩ := t2.out
  try clear ka1 kb1 kc1 ta1 tb1 tc1 td1 te1
  clear hb2
  cases hs : schB S
  · have hv := Lib.hid (isv_no (P := P) (l := l) (F := F) (W := W) (m := m) (Or.inr hs))
    go_wp2
    go_ret2
    exact ⟨ret_bb hv.out.1.symm hv.out.2.symm, B2⟩
  have hk := Lib.hid (show isvK P S = true by unfold isvK; rw [hgh.out, hs]; rfl)
  replace hs := Lib.hid hs
  go_wp2_with fail
  refine (uGood_any p y x z _ _ _ _ P S l m F W _ (hPh.out.below B2) (hSh.out.below B2) ⟨hFh.out.below B2, hWh.out.below B2⟩).mono ?_
  rintro e w3 ⟨rfl, hb3⟩
  go_wp2
  go_ret2
  exact ⟨ret_bb rfl hk.out.symm, Below.via' B2 hb3⟩
set_option maxHeartbeats 4000000 in
theorem iITa_x (p y x z : Option Addr) (c c1 c2 c3 : Nat) (P : List Int) (S : List (ByteArray × Int)) (l : Int) (F W : List Int) (m : Int) (w : World) (hP : IIn w p P) (hS : SIn w y c1 S) (hT : TIn w x z F W) :
    Calls Try.prog 20 #[.agg #[.slice p P.length c], .slice y S.length c1, .agg #[.int .i64 l, .slice x F.length c2, .slice z W.length c3, .int .i64 m]] w fun e w' => e = .returned (.tuple #[.bool (tgB P S l F W m), .bool (isvK P S)]) ∧ Below w.heap.size w w' := by
  have hPh := Lib.hid hP
  have hSh := Lib.hid hS
  have hFh := Lib.hid hT.1
  have hWh := Lib.hid hT.2
  clear hP hS hT
  have p1 := Lib.hid (QB.new w p P.length c 33)
  have p2 := Lib.hid (TQ.new (w.alloc (.cells #[.slice p P.length c] 33)) l x F.length c2 z W.length c3 m 37)
  obtain ⟨w0, hw0⟩ : ∃ w0, w0 = (w.alloc (.cells #[.slice p P.length c] 33)).alloc (.cells #[.int .i64 l, .slice x F.length c2, .slice z W.length c3, .int .i64 m] 37) := ⟨_, rfl⟩
  have B0 : Below w.heap.size w w0 := by rw [hw0]; exact (by repeat (first | exact Below.refl _ _ | assumption | refine Below.drew ?_ | refine below_drewN ?_ _ | refine Below.alloc' ?_ _ | (refine Below.setCell ?_ (by first | omega | (simp; done) | (simp; omega) | exact Below.size (by assumption) | exact Nat.le_trans (Below.size (by assumption)) (by simp)) _) | (refine Below.via' ?_ (by assumption)) | (refine Below.alloc ?_ (by first | omega | (simp; done) | (simp; omega) | exact Below.size (by assumption) | exact Nat.le_trans (Below.size (by assumption)) (by simp)) _) | (refine Below.via ?_ (by assumption) (by first | omega | (simp; done) | (simp; omega) | exact Below.size (by assumption) | exact Nat.le_trans (Below.size (by assumption)) (by simp)))))
  have g0 : Hid (QB w0 w.heap.size p P.length c) := by
    rw [hw0]
    exact p1.out.below (show Below (w.alloc (.cells #[.slice p P.length c] 33)).heap.size (w.alloc (.cells #[.slice p P.length c] 33)) _ from (by repeat (first | exact Below.refl _ _ | assumption | refine Below.drew ?_ | refine below_drewN ?_ _ | refine Below.alloc' ?_ _ | (refine Below.setCell ?_ (by first | omega | (simp; done) | (simp; omega) | exact Below.size (by assumption) | exact Nat.le_trans (Below.size (by assumption)) (by simp)) _) | (refine Below.via' ?_ (by assumption)) | (refine Below.alloc ?_ (by first | omega | (simp; done) | (simp; omega) | exact Below.size (by assumption) | exact Nat.le_trans (Below.size (by assumption)) (by simp)) _) | (refine Below.via ?_ (by assumption) (by first | omega | (simp; done) | (simp; omega) | exact Below.size (by assumption) | exact Nat.le_trans (Below.size (by assumption)) (by simp))))))
  have t0 : Hid (TQ w0 (w.heap.size + 1) l x F.length c2 z W.length c3 m) := by
    have h0 := p2.out
    rw [World.size_alloc, ← hw0] at h0
    exact h0
  have z0 : w0.heap.size = w.heap.size + 1 + 1 := by rw [hw0]; simp
  clear p1 p2
  cases hg : geB P
  · have hv := Lib.hid (isv_no (S := S) (l := l) (F := F) (W := W) (m := m) (Or.inl hg))
    go_enter Try.func20, Try.ntmps20
    go_wp2_with fail
    rw [← hw0]
    refine (iGeo_any _ _ P _ (hPh.out.below B0)).mono ?_
    rintro e w1 ⟨rfl, hb1⟩
    rw [hg]
    go_wp2
    go_ret2
    exact ⟨ret_bb hv.out.1.symm hv.out.2.symm, Below.via' B0 hb1⟩
  have hgh := Lib.hid hg
  clear hg
  go_enter Try.func20, Try.ntmps20
  go_wp2_with fail
  rw [← hw0]
  replace hw0 := Lib.hid hw0
  replace z0 := Lib.hid z0
  refine (iGeo_any _ _ P _ (hPh.out.below B0)).mono ?_
  rintro e w1 ⟨rfl, hb1⟩
  rw [hgh.out]
  have B1 : Below w.heap.size w w1 := Below.via' B0 hb1
  have g1 := Lib.hid (g0.out.below hb1)
  have t1 := Lib.hid (t0.out.below hb1)
  obtain ⟨ka1, kb1, kc1⟩ := g1.out
  obtain ⟨ta1, tb1, tc1, td1, te1⟩ := t1.out
  try clear ka0 kb0 kc0 ta0 tb0 tc0 td0 te0
  clear hb1
  go_wp2_with fail
  refine (isSch_x _ _ _ _ (hSh.out.below B1)).mono ?_
  rintro e w2 ⟨rfl, hb2⟩
  have B2 : Below w.heap.size w w2 := Below.via' B1 hb2
  have g2 := Lib.hid (g1.out.below hb2)
  have t2 := Lib.hid (t1.out.below hb2)
  obtain ⟨ka2, kb2, kc2⟩ := g2.out
  obtain ⟨ta2, tb2, tc2, td2, te2⟩ := t2.out
  try clear ka1 kb1 kc1 ta1 tb1 tc1 td1 te1
  clear hb2
  cases hs : schB S
  · have hv := Lib.hid (isv_no (P := P) (l := l) (F := F) (W := W) (m := m) (Or.inr hs))
    go_wp2
    go_ret2
    exact ⟨ret_bb hv.out.1.symm hv.out.2.symm, B2⟩
  have hk := Lib.hid (show isvK P S = true by unfold isvK; rw [hgh.out, hs]; rfl)
  replace hs := Lib.hid hs
  go_wp2_with fail
  refine (isTb_any p y x z _ _ _ _ P S l F W m _ (hPh.out.below B2) (hSh.out.below B2) ⟨hFh.out.below B2, hWh.out.below B2⟩).mono ?_
  rintro e w3 ⟨rfl, hb3⟩
  go_wp2
  go_ret2
  exact ⟨ret_bb rfl hk.out.symm, Below.via' B2 hb3⟩
set_option maxHeartbeats 4000000 in
theorem sCN_x (p y x z : Option Addr) (c c1 c2 c3 : Nat) (P : List Int) (S : List (ByteArray × Int)) (l : Int) (F W : List Int) (m : Int) (w : World) (hP : IIn w p P) (hS : SIn w y c1 S) (hT : TIn w x z F W) :
    Calls Try.prog 24 #[.agg #[.slice p P.length c], .slice y S.length c1, .agg #[.int .i64 l, .slice x F.length c2, .slice z W.length c3, .int .i64 m]] w fun e w' => e = .returned (.tuple #[.int .i64 (tcN P S l F W m), .bool (tgB P S l F W m)]) ∧ Below w.heap.size w w' := by
  have hPh := Lib.hid hP
  have hSh := Lib.hid hS
  have hFh := Lib.hid hT.1
  have hWh := Lib.hid hT.2
  clear hP hS hT
  have p1 := Lib.hid (QB.new w p P.length c 33)
  have p2 := Lib.hid (TQ.new (w.alloc (.cells #[.slice p P.length c] 33)) l x F.length c2 z W.length c3 m 37)
  obtain ⟨w0, hw0⟩ : ∃ w0, w0 = (w.alloc (.cells #[.slice p P.length c] 33)).alloc (.cells #[.int .i64 l, .slice x F.length c2, .slice z W.length c3, .int .i64 m] 37) := ⟨_, rfl⟩
  have B0 : Below w.heap.size w w0 := by rw [hw0]; exact (by repeat (first | exact Below.refl _ _ | assumption | refine Below.drew ?_ | refine below_drewN ?_ _ | refine Below.alloc' ?_ _ | (refine Below.setCell ?_ (by first | omega | (simp; done) | (simp; omega) | exact Below.size (by assumption) | exact Nat.le_trans (Below.size (by assumption)) (by simp)) _) | (refine Below.via' ?_ (by assumption)) | (refine Below.alloc ?_ (by first | omega | (simp; done) | (simp; omega) | exact Below.size (by assumption) | exact Nat.le_trans (Below.size (by assumption)) (by simp)) _) | (refine Below.via ?_ (by assumption) (by first | omega | (simp; done) | (simp; omega) | exact Below.size (by assumption) | exact Nat.le_trans (Below.size (by assumption)) (by simp)))))
  have g0 : Hid (QB w0 w.heap.size p P.length c) := by
    rw [hw0]
    exact p1.out.below (show Below (w.alloc (.cells #[.slice p P.length c] 33)).heap.size (w.alloc (.cells #[.slice p P.length c] 33)) _ from (by repeat (first | exact Below.refl _ _ | assumption | refine Below.drew ?_ | refine below_drewN ?_ _ | refine Below.alloc' ?_ _ | (refine Below.setCell ?_ (by first | omega | (simp; done) | (simp; omega) | exact Below.size (by assumption) | exact Nat.le_trans (Below.size (by assumption)) (by simp)) _) | (refine Below.via' ?_ (by assumption)) | (refine Below.alloc ?_ (by first | omega | (simp; done) | (simp; omega) | exact Below.size (by assumption) | exact Nat.le_trans (Below.size (by assumption)) (by simp)) _) | (refine Below.via ?_ (by assumption) (by first | omega | (simp; done) | (simp; omega) | exact Below.size (by assumption) | exact Nat.le_trans (Below.size (by assumption)) (by simp))))))
  have t0 : Hid (TQ w0 (w.heap.size + 1) l x F.length c2 z W.length c3 m) := by
    have h0 := p2.out
    rw [World.size_alloc, ← hw0] at h0
    exact h0
  have z0 : w0.heap.size = w.heap.size + 1 + 1 := by rw [hw0]; simp
  clear p1 p2
  go_enter Try.func24, Try.ntmps24
  go_wp2_with fail
  rw [← hw0]
  replace hw0 := Lib.hid hw0
  replace z0 := Lib.hid z0
  refine (uGood_any p y x z _ _ _ _ P S l m F W _ (hPh.out.below B0) (hSh.out.below B0) ⟨hFh.out.below B0, hWh.out.below B0⟩).mono ?_
  rintro e w1 ⟨rfl, hb1⟩
  have B1 : Below w.heap.size w w1 := Below.via' B0 hb1
  have g1 := Lib.hid (g0.out.below hb1)
  have t1 := Lib.hid (t0.out.below hb1)
  obtain ⟨ka1, kb1, kc1⟩ := g1.out
  obtain ⟨ta1, tb1, tc1, td1, te1⟩ := t1.out
  try clear ka0 kb0 kc0 ta0 tb0 tc0 td0 te0
  clear hb1
  cases htg : tgB P S l F W m
  · have hv := Lib.hid (show tcN P S l F W m = 0 from if_f htg)
    replace htg := Lib.hid htg
    go_wp2
    go_ret2
    exact ⟨ret_in hv.out.symm htg.out.symm, B1⟩
  have hv := Lib.hid (show tcN P S l F W m = tcZ P S l F from if_t htg)
  have htp := tg_iff.1 htg
  replace htg := Lib.hid htg
  go_wp2_with fail
  refine (uCount_any p y x z _ _ _ _ P S l m F W _ htp.g htp.s htp.r (hPh.out.below B1) (hSh.out.below B1) (hFh.out.below B1)).mono ?_
  rintro e w2 ⟨rfl, hb2⟩
  clear htp
  go_wp2
  go_ret2
  exact ⟨ret_in hv.out.symm htg.out.symm, Below.via' B1 hb2⟩
set_option maxHeartbeats 4000000 in
theorem iCN_x (p y x z : Option Addr) (c c1 c2 c3 : Nat) (P : List Int) (S : List (ByteArray × Int)) (l : Int) (F W : List Int) (m : Int) (w : World) (hP : IIn w p P) (hS : SIn w y c1 S) (hT : TIn w x z F W) :
    Calls Try.prog 25 #[.agg #[.slice p P.length c], .slice y S.length c1, .agg #[.int .i64 l, .slice x F.length c2, .slice z W.length c3, .int .i64 m]] w fun e w' => e = .returned (.tuple #[.int .i64 (tcN P S l F W m), .bool (tgB P S l F W m)]) ∧ Below w.heap.size w w' := by
  have hPh := Lib.hid hP
  have hSh := Lib.hid hS
  have hFh := Lib.hid hT.1
  have hWh := Lib.hid hT.2
  clear hP hS hT
  have p1 := Lib.hid (QB.new w p P.length c 33)
  have p2 := Lib.hid (TQ.new (w.alloc (.cells #[.slice p P.length c] 33)) l x F.length c2 z W.length c3 m 37)
  obtain ⟨w0, hw0⟩ : ∃ w0, w0 = (w.alloc (.cells #[.slice p P.length c] 33)).alloc (.cells #[.int .i64 l, .slice x F.length c2, .slice z W.length c3, .int .i64 m] 37) := ⟨_, rfl⟩
  have B0 : Below w.heap.size w w0 := by rw [hw0]; exact (by repeat (first | exact Below.refl _ _ | assumption | refine Below.drew ?_ | refine below_drewN ?_ _ | refine Below.alloc' ?_ _ | (refine Below.setCell ?_ (by first | omega | (simp; done) | (simp; omega) | exact Below.size (by assumption) | exact Nat.le_trans (Below.size (by assumption)) (by simp)) _) | (refine Below.via' ?_ (by assumption)) | (refine Below.alloc ?_ (by first | omega | (simp; done) | (simp; omega) | exact Below.size (by assumption) | exact Nat.le_trans (Below.size (by assumption)) (by simp)) _) | (refine Below.via ?_ (by assumption) (by first | omega | (simp; done) | (simp; omega) | exact Below.size (by assumption) | exact Nat.le_trans (Below.size (by assumption)) (by simp)))))
  have g0 : Hid (QB w0 w.heap.size p P.length c) := by
    rw [hw0]
    exact p1.out.below (show Below (w.alloc (.cells #[.slice p P.length c] 33)).heap.size (w.alloc (.cells #[.slice p P.length c] 33)) _ from (by repeat (first | exact Below.refl _ _ | assumption | refine Below.drew ?_ | refine below_drewN ?_ _ | refine Below.alloc' ?_ _ | (refine Below.setCell ?_ (by first | omega | (simp; done) | (simp; omega) | exact Below.size (by assumption) | exact Nat.le_trans (Below.size (by assumption)) (by simp)) _) | (refine Below.via' ?_ (by assumption)) | (refine Below.alloc ?_ (by first | omega | (simp; done) | (simp; omega) | exact Below.size (by assumption) | exact Nat.le_trans (Below.size (by assumption)) (by simp)) _) | (refine Below.via ?_ (by assumption) (by first | omega | (simp; done) | (simp; omega) | exact Below.size (by assumption) | exact Nat.le_trans (Below.size (by assumption)) (by simp))))))
  have t0 : Hid (TQ w0 (w.heap.size + 1) l x F.length c2 z W.length c3 m) := by
    have h0 := p2.out
    rw [World.size_alloc, ← hw0] at h0
    exact h0
  have z0 : w0.heap.size = w.heap.size + 1 + 1 := by rw [hw0]; simp
  clear p1 p2
  go_enter Try.func25, Try.ntmps25
  go_wp2_with fail
  rw [← hw0]
  replace hw0 := Lib.hid hw0
  replace z0 := Lib.hid z0
  refine (gridOf_any p y x z _ _ _ _ P S l m F W _ (hPh.out.below B0) (hSh.out.below B0) ⟨hFh.out.below B0, hWh.out.below B0⟩).mono ?_
  rintro e w1 ⟨hb1, h1⟩
  have B1 : Below w.heap.size w w1 := Below.via' B0 hb1
  have g1 := Lib.hid (g0.out.below hb1)
  have t1 := Lib.hid (t0.out.below hb1)
  obtain ⟨ka1, kb1, kc1⟩ := g1.out
  obtain ⟨ta1, tb1, tc1, td1, te1⟩ := t1.out
  try clear ka0 kb0 kc0 ta0 tb0 tc0 td0 te0
  clear hb1
  rcases h1 with ⟨hno, rfl⟩ | ⟨htg, ga, ca, va, rfl, hA, hV, hvl⟩
  · have hv := Lib.hid (tcN_no hno)
    clear hno
    go_wp2
    go_ret2
    exact ⟨ret_in hv.out.1.symm hv.out.2.symm, (by repeat (first | exact Below.refl _ _ | assumption | refine Below.drew ?_ | refine below_drewN ?_ _ | refine Below.alloc' ?_ _ | (refine Below.setCell ?_ (by first | omega | (simp; done) | (simp; omega) | exact Below.size (by assumption) | exact Nat.le_trans (Below.size (by assumption)) (by simp)) _) | (refine Below.via' ?_ (by assumption)) | (refine Below.alloc ?_ (by first | omega | (simp; done) | (simp; omega) | exact Below.size (by assumption) | exact Nat.le_trans (Below.size (by assumption)) (by simp)) _) | (refine Below.via ?_ (by assumption) (by first | omega | (simp; done) | (simp; omega) | exact Below.size (by assumption) | exact Nat.le_trans (Below.size (by assumption)) (by simp)))))⟩
  have hv := Lib.hid (tcN_yes htg)
  have hpt := Lib.hid (tbS_ok htg.s htg.r)
  have hl30 := (ge_len htg.g).2
  have hl := lvL_len P l
  replace hA := Lib.hid hA
  replace hV := Lib.hid hV
  clear htg
  go_wp2_with fail
  refine (gcount_any _ _ _ _ _ _ _ _ _ _ _ _ _ _ _ (lvL P l) (tbS S F) _ hpt.out (by omega) (hV.out.below (by exact (by repeat (first | exact Below.refl _ _ | assumption | refine Below.drew ?_ | refine below_drewN ?_ _ | refine Below.alloc' ?_ _ | (refine Below.setCell ?_ (by first | omega | (simp; done) | (simp; omega) | exact Below.size (by assumption) | exact Nat.le_trans (Below.size (by assumption)) (by simp)) _) | (refine Below.via' ?_ (by assumption)) | (refine Below.alloc ?_ (by first | omega | (simp; done) | (simp; omega) | exact Below.size (by assumption) | exact Nat.le_trans (Below.size (by assumption)) (by simp)) _) | (refine Below.via ?_ (by assumption) (by first | omega | (simp; done) | (simp; omega) | exact Below.size (by assumption) | exact Nat.le_trans (Below.size (by assumption)) (by simp)))))))).mono ?_
  rintro e w2 ⟨rfl, hb2⟩
  have B2 : Below w.heap.size w w2 := (by repeat (first | exact Below.refl _ _ | assumption | refine Below.drew ?_ | refine below_drewN ?_ _ | refine Below.alloc' ?_ _ | (refine Below.setCell ?_ (by first | omega | (simp; done) | (simp; omega) | exact Below.size (by assumption) | exact Nat.le_trans (Below.size (by assumption)) (by simp)) _) | (refine Below.via' ?_ (by assumption)) | (refine Below.alloc ?_ (by first | omega | (simp; done) | (simp; omega) | exact Below.size (by assumption) | exact Nat.le_trans (Below.size (by assumption)) (by simp)) _) | (refine Below.via ?_ (by assumption) (by first | omega | (simp; done) | (simp; omega) | exact Below.size (by assumption) | exact Nat.le_trans (Below.size (by assumption)) (by simp)))))
  go_wp2
  go_ret2
  exact ⟨ret_in (by rw [hv.out.1]; rfl) hv.out.2.symm, B2⟩
end Go.Proofs.Ytgkaalonmkcclaa

namespace Go.Proofs.Ytgkaalonmkcclaa
open Go.RowKit
set_option maxRecDepth 100000

/-- What CellIndex answers. -/
def tciB (P : List Int) (S : List (ByteArray × Int)) (l : Int) (F W : List Int) (m a : Int) (V : List Int) : Bool := tgB P S l F W m && ((lvL P l).contains a && fitB (tbS S F) V)
def tciN (P : List Int) (S : List (ByteArray × Int)) (l : Int) (F W : List Int) (m a : Int) (V : List Int) : Int := if tciB P S l F W m a V then ceZ P S l F a V else 0
section
variable {P : List Int} {S : List (ByteArray × Int)} {l : Int} {F W : List Int} {m a : Int} {V : List Int}
theorem tci_no1 (h : tgB P S l F W m = false) : tciN P S l F W m a V = 0 ∧ tciB P S l F W m a V = false := by
  have e : tciB P S l F W m a V = false := by unfold tciB; rw [h]; rfl
  exact ⟨if_f e, e⟩
theorem tci_no2 (h : (lvL P l).contains a = false) : tciN P S l F W m a V = 0 ∧ tciB P S l F W m a V = false := by
  have e : tciB P S l F W m a V = false := by unfold tciB; rw [h, Bool.false_and, Bool.and_false]
  exact ⟨if_f e, e⟩
theorem tci_no3 (h : fitB (tbS S F) V = false) : tciN P S l F W m a V = 0 ∧ tciB P S l F W m a V = false := by
  have e : tciB P S l F W m a V = false := by unfold tciB; rw [h, Bool.and_false, Bool.and_false]
  exact ⟨if_f e, e⟩
theorem tci_yes (h : tgB P S l F W m = true) (h2 : (lvL P l).contains a = true) (h3 : fitB (tbS S F) V = true) : tciN P S l F W m a V = ceZ P S l F a V ∧ tciB P S l F W m a V = true := by
  have e : tciB P S l F W m a V = true := by unfold tciB; rw [h, h2, h3]; rfl
  exact ⟨if_t e, e⟩
end
theorem fdI_lt {L : List Int} {a : Int} (h : L.contains a = false) : fdI L a < 0 := by
  rw [fdI_miss (fun k => by rw [← List.contains_iff_mem, h] at k; cases k)]
  omega
theorem fdI_ge {L : List Int} {a : Int} (h : L.contains a = true) : 0 ≤ fdI L a := fdI_neg.2 (List.contains_iff_mem.1 h)

set_option maxHeartbeats 4000000 in
theorem gindex_any (p x z ga va v : Option Addr) (c c2 c3 ca cv c4 : Nat) (P : List Int) (S : List (ByteArray × Int)) (l : Int) (F W : List Int) (m a : Int) (V : List Int) (w : World) (htg : TgP P S l F W m) (ha : (lvL P l).contains a = true) (hf : fitB (tbS S F) V = true) (hA : IIn w ga (lvL P l)) (hP : Rd w va (vC (tbS S F))) (hV : IIn w v V) :
    Calls Try.prog 78 #[.agg #[.slice p P.length c, .int .i64 l, .slice x F.length c2, .slice z W.length c3, .int .i64 m, .slice ga (lvL P l).length ca, .slice va (tbS S F).length cv], .int .i64 a, .slice v V.length c4] w fun e w' => e = .returned (.int .i64 (ceZ P S l F a V)) ∧ Below w.heap.size w w' := by
  have hb := ce_bd htg (List.contains_iff_mem.1 ha) hf
  have hc := htg.c
  have q1 : IntKind.i64.wrap (fdI (lvL P l) a * cnZ (tbS S F)) = fdI (lvL P l) a * cnZ (tbS S F) := IntWalk.i64_in _ (by omega)
  have q2 : IntKind.i64.wrap (fdI (lvL P l) a * cnZ (tbS S F) + ixZ (tbS S F) V) = fdI (lvL P l) a * cnZ (tbS S F) + ixZ (tbS S F) V := IntWalk.i64_in _ (by unfold ceZ at hb; omega)
  have hpt := Lib.hid (tbS_ok htg.s htg.r)
  have hfh := Lib.hid hf
  have hAh := Lib.hid hA
  have hPh := Lib.hid hP
  have hVh := Lib.hid hV
  clear htg ha hf hA hP hV hb hc
  go_enter Try.func78, Try.ntmps78
  go_wp2
  go_region_held3 (fun w' => Below ((w.alloc (.cells #[.slice p P.length c, .int .i64 l, .slice x F.length c2, .slice z W.length c3, .int .i64 m, .slice ga (lvL P l).length ca, .slice va (tbS S F).length cv] 91))).heap.size ((w.alloc (.cells #[.slice p P.length c, .int .i64 l, .slice x F.length c2, .slice z W.length c3, .int .i64 m, .slice ga (lvL P l).length ca, .slice va (tbS S F).length cv] 91))) w' ∧ (∀ b o, b < ((w.alloc (.cells #[.slice p P.length c, .int .i64 l, .slice x F.length c2, .slice z W.length c3, .int .i64 m, .slice ga (lvL P l).length ca, .slice va (tbS S F).length cv] 91))).heap.size → w'.cell? ⟨b, o, none⟩ = ((w.alloc (.cells #[.slice p P.length c, .int .i64 l, .slice x F.length c2, .slice z W.length c3, .int .i64 m, .slice ga (lvL P l).length ca, .slice va (tbS S F).length cv] 91))).cell? ⟨b, o, none⟩)) (first | exact keep_of (Below.refl _ _) | ((try go_split_ands); exact keep_of (by repeat (first | exact Below.refl _ _ | assumption | refine Below.drew ?_ | refine below_drewN ?_ _ | refine Below.alloc' ?_ _ | (refine Below.setCell ?_ (by first | omega | (simp; done) | (simp; omega) | exact Below.size (by assumption) | exact Nat.le_trans (Below.size (by assumption)) (by simp)) _) | (refine Below.via' ?_ (by assumption)) | (refine Below.alloc ?_ (by first | omega | (simp; done) | (simp; omega) | exact Below.size (by assumption) | exact Nat.le_trans (Below.size (by assumption)) (by simp)) _) | (refine Below.via ?_ (by assumption) (by first | omega | (simp; done) | (simp; omega) | exact Below.size (by assumption) | exact Nat.le_trans (Below.size (by assumption)) (by simp))))))) (first | (go_at_call 112; refine (indexAt_any _ _ (lvL P l) a _ (hAh.out.below (by exact (by repeat (first | exact Below.refl _ _ | assumption | refine Below.drew ?_ | refine below_drewN ?_ _ | refine Below.alloc' ?_ _ | (refine Below.setCell ?_ (by first | omega | (simp; done) | (simp; omega) | exact Below.size (by assumption) | exact Nat.le_trans (Below.size (by assumption)) (by simp)) _) | (refine Below.via' ?_ (by assumption)) | (refine Below.alloc ?_ (by first | omega | (simp; done) | (simp; omega) | exact Below.size (by assumption) | exact Nat.le_trans (Below.size (by assumption)) (by simp)) _) | (refine Below.via ?_ (by assumption) (by first | omega | (simp; done) | (simp; omega) | exact Below.size (by assumption) | exact Nat.le_trans (Below.size (by assumption)) (by simp)))))))).mono ?_; rintro e w1 ⟨rfl, rfl⟩) | (go_at_call 110; refine (countComb_p _ _ (tbS S F) _ hpt.out (hPh.out.below (by exact (by repeat (first | exact Below.refl _ _ | assumption | refine Below.drew ?_ | refine below_drewN ?_ _ | refine Below.alloc' ?_ _ | (refine Below.setCell ?_ (by first | omega | (simp; done) | (simp; omega) | exact Below.size (by assumption) | exact Nat.le_trans (Below.size (by assumption)) (by simp)) _) | (refine Below.via' ?_ (by assumption)) | (refine Below.alloc ?_ (by first | omega | (simp; done) | (simp; omega) | exact Below.size (by assumption) | exact Nat.le_trans (Below.size (by assumption)) (by simp)) _) | (refine Below.via ?_ (by assumption) (by first | omega | (simp; done) | (simp; omega) | exact Below.size (by assumption) | exact Nat.le_trans (Below.size (by assumption)) (by simp)))))))).mono ?_; rintro e w2 ⟨rfl, hb2⟩) | (go_at_call 113; refine (cix_p _ _ _ _ (tbS S F) V _ hpt.out hfh.out (hPh.out.below (by exact (by repeat (first | exact Below.refl _ _ | assumption | refine Below.drew ?_ | refine below_drewN ?_ _ | refine Below.alloc' ?_ _ | (refine Below.setCell ?_ (by first | omega | (simp; done) | (simp; omega) | exact Below.size (by assumption) | exact Nat.le_trans (Below.size (by assumption)) (by simp)) _) | (refine Below.via' ?_ (by assumption)) | (refine Below.alloc ?_ (by first | omega | (simp; done) | (simp; omega) | exact Below.size (by assumption) | exact Nat.le_trans (Below.size (by assumption)) (by simp)) _) | (refine Below.via ?_ (by assumption) (by first | omega | (simp; done) | (simp; omega) | exact Below.size (by assumption) | exact Nat.le_trans (Below.size (by assumption)) (by simp))))))) (hVh.out.below (by exact (by repeat (first | exact Below.refl _ _ | assumption | refine Below.drew ?_ | refine below_drewN ?_ _ | refine Below.alloc' ?_ _ | (refine Below.setCell ?_ (by first | omega | (simp; done) | (simp; omega) | exact Below.size (by assumption) | exact Nat.le_trans (Below.size (by assumption)) (by simp)) _) | (refine Below.via' ?_ (by assumption)) | (refine Below.alloc ?_ (by first | omega | (simp; done) | (simp; omega) | exact Below.size (by assumption) | exact Nat.le_trans (Below.size (by assumption)) (by simp)) _) | (refine Below.via ?_ (by assumption) (by first | omega | (simp; done) | (simp; omega) | exact Below.size (by assumption) | exact Nat.le_trans (Below.size (by assumption)) (by simp)))))))).mono ?_; rintro e w3 ⟨rfl, hb3⟩)); rename_i hH; obtain ⟨hb4, hcl4⟩ := hH; have hz4 := hb4.size; (try simp at hz4); (try (have hly4 := Nat.lt_of_succ_le hz4)); (try (have hlx4 := Nat.lt_of_succ_lt hly4)); (try (have hlw4 := Nat.lt_of_succ_lt hlx4)); (try (have hle4 := Nat.le_of_lt hly4)); (try (have hya4 : w.heap.size < w4.heap.size := by omega)); (try (have hyb4 : w.heap.size + 1 < w4.heap.size := by omega)); (try (have hyc4 : w.heap.size + 1 + 1 < w4.heap.size := by omega)); (try (have hyd4 : wa.heap.size < w4.heap.size := by omega))
  go_wp2
  go_ret
  exact ⟨rfl, (by repeat (first | exact Below.refl _ _ | assumption | refine Below.drew ?_ | refine below_drewN ?_ _ | refine Below.alloc' ?_ _ | (refine Below.setCell ?_ (by first | omega | (simp; done) | (simp; omega) | exact Below.size (by assumption) | exact Nat.le_trans (Below.size (by assumption)) (by simp)) _) | (refine Below.via' ?_ (by assumption)) | (refine Below.alloc ?_ (by first | omega | (simp; done) | (simp; omega) | exact Below.size (by assumption) | exact Nat.le_trans (Below.size (by assumption)) (by simp)) _) | (refine Below.via ?_ (by assumption) (by first | omega | (simp; done) | (simp; omega) | exact Below.size (by assumption) | exact Nat.le_trans (Below.size (by assumption)) (by simp)))))⟩

set_option maxHeartbeats 8000000 in
theorem iCX_x (p y x z v : Option Addr) (c c1 c2 c3 c4 : Nat) (P : List Int) (S : List (ByteArray × Int)) (l : Int) (F W : List Int) (m a : Int) (V : List Int) (w : World) (hP : IIn w p P) (hS : SIn w y c1 S) (hT : TIn w x z F W) (hV : IIn w v V) :
    Calls Try.prog 28 #[.agg #[.slice p P.length c], .slice y S.length c1, .agg #[.int .i64 l, .slice x F.length c2, .slice z W.length c3, .int .i64 m], .int .i64 a, .slice v V.length c4] w fun e w' => e = .returned (.tuple #[.int .i64 (tciN P S l F W m a V), .bool (tciB P S l F W m a V)]) ∧ Below w.heap.size w w' := by
  have hVh := Lib.hid hV
  clear hV
  have hPh := Lib.hid hP
  have hSh := Lib.hid hS
  have hFh := Lib.hid hT.1
  have hWh := Lib.hid hT.2
  clear hP hS hT
  have p1 := Lib.hid (QB.new w p P.length c 33)
  have p2 := Lib.hid (TQ.new (w.alloc (.cells #[.slice p P.length c] 33)) l x F.length c2 z W.length c3 m 37)
  obtain ⟨w0, hw0⟩ : ∃ w0, w0 = (w.alloc (.cells #[.slice p P.length c] 33)).alloc (.cells #[.int .i64 l, .slice x F.length c2, .slice z W.length c3, .int .i64 m] 37) := ⟨_, rfl⟩
  have B0 : Below w.heap.size w w0 := by rw [hw0]; exact (by repeat (first | exact Below.refl _ _ | assumption | refine Below.drew ?_ | refine below_drewN ?_ _ | refine Below.alloc' ?_ _ | (refine Below.setCell ?_ (by first | omega | (simp; done) | (simp; omega) | exact Below.size (by assumption) | exact Nat.le_trans (Below.size (by assumption)) (by simp)) _) | (refine Below.via' ?_ (by assumption)) | (refine Below.alloc ?_ (by first | omega | (simp; done) | (simp; omega) | exact Below.size (by assumption) | exact Nat.le_trans (Below.size (by assumption)) (by simp)) _) | (refine Below.via ?_ (by assumption) (by first | omega | (simp; done) | (simp; omega) | exact Below.size (by assumption) | exact Nat.le_trans (Below.size (by assumption)) (by simp)))))
  have g0 : Hid (QB w0 w.heap.size p P.length c) := by
    rw [hw0]
    exact p1.out.below (show Below (w.alloc (.cells #[.slice p P.length c] 33)).heap.size (w.alloc (.cells #[.slice p P.length c] 33)) _ from (by repeat (first | exact Below.refl _ _ | assumption | refine Below.drew ?_ | refine below_drewN ?_ _ | refine Below.alloc' ?_ _ | (refine Below.setCell ?_ (by first | omega | (simp; done) | (simp; omega) | exact Below.size (by assumption) | exact Nat.le_trans (Below.size (by assumption)) (by simp)) _) | (refine Below.via' ?_ (by assumption)) | (refine Below.alloc ?_ (by first | omega | (simp; done) | (simp; omega) | exact Below.size (by assumption) | exact Nat.le_trans (Below.size (by assumption)) (by simp)) _) | (refine Below.via ?_ (by assumption) (by first | omega | (simp; done) | (simp; omega) | exact Below.size (by assumption) | exact Nat.le_trans (Below.size (by assumption)) (by simp))))))
  have t0 : Hid (TQ w0 (w.heap.size + 1) l x F.length c2 z W.length c3 m) := by
    have h0 := p2.out
    rw [World.size_alloc, ← hw0] at h0
    exact h0
  have z0 : w0.heap.size = w.heap.size + 1 + 1 := by rw [hw0]; simp
  clear p1 p2
  go_enter Try.func28, Try.ntmps28
  go_wp2_with fail
  rw [← hw0]
  replace hw0 := Lib.hid hw0
  replace z0 := Lib.hid z0
  refine (gridOf_any p y x z _ _ _ _ P S l m F W _ (hPh.out.below B0) (hSh.out.below B0) ⟨hFh.out.below B0, hWh.out.below B0⟩).mono ?_
  rintro e w1 ⟨hb1, h1⟩
  have B1 : Below w.heap.size w w1 := Below.via' B0 hb1
  have g1 := Lib.hid (g0.out.below hb1)
  have t1 := Lib.hid (t0.out.below hb1)
  obtain ⟨ka1, kb1, kc1⟩ := g1.out
  obtain ⟨ta1, tb1, tc1, td1, te1⟩ := t1.out
  try clear ka0 kb0 kc0 ta0 tb0 tc0 td0 te0
  clear hb1
  rcases h1 with ⟨hno, rfl⟩ | ⟨htg, ga, ca, va, rfl, hA, hV, hvl⟩
  · have hv := Lib.hid (tci_no1 (a := a) (V := V) (tg_no hno))
    clear hno
    go_wp2
    go_ret2
    exact ⟨ret_in hv.out.1.symm hv.out.2.symm, (by repeat (first | exact Below.refl _ _ | assumption | refine Below.drew ?_ | refine below_drewN ?_ _ | refine Below.alloc' ?_ _ | (refine Below.setCell ?_ (by first | omega | (simp; done) | (simp; omega) | exact Below.size (by assumption) | exact Nat.le_trans (Below.size (by assumption)) (by simp)) _) | (refine Below.via' ?_ (by assumption)) | (refine Below.alloc ?_ (by first | omega | (simp; done) | (simp; omega) | exact Below.size (by assumption) | exact Nat.le_trans (Below.size (by assumption)) (by simp)) _) | (refine Below.via ?_ (by assumption) (by first | omega | (simp; done) | (simp; omega) | exact Below.size (by assumption) | exact Nat.le_trans (Below.size (by assumption)) (by simp)))))⟩
  have hpt := Lib.hid (tbS_ok htg.s htg.r)
  have hth := Lib.hid htg
  have hAh := Lib.hid hA
  have hPt := Lib.hid hV
  clear htg hA hV
  obtain ⟨W2, hW2⟩ : ∃ W2, W2 = w1.alloc (.cells #[.slice p P.length c, .int .i64 l, .slice x F.length c2, .slice z W.length c3, .int .i64 m, .slice ga (lvL P l).length ca, .slice (some ⟨va, 0, none⟩) (tbS S F).length (tbS S F).length] 91) := ⟨_, rfl⟩
  have hG := g7_of_wb (Wb.new w1 91 #[.slice p P.length c, .int .i64 l, .slice x F.length c2, .slice z W.length c3, .int .i64 m, .slice ga (lvL P l).length ca, .slice (some ⟨va, 0, none⟩) (tbS S F).length (tbS S F).length])
  rw [← hW2] at hG
  have BW : Below w1.heap.size w1 W2 := by rw [hW2]; exact Below.alloc' (Below.refl _ _) _
  replace hG := Lib.hid hG
  replace hW2 := Lib.hid hW2
  cases ha : (lvL P l).contains a
  · have hv := Lib.hid (tci_no2 (S := S) (F := F) (W := W) (m := m) (V := V) ha)
    go_wp2_with fail
    rw [← hW2.out]
    refine (contains_any _ _ (lvL P l) a _ (hAh.out.below BW)).mono ?_
    rintro e w2 ⟨rfl, rfl⟩
    rw [ha]
    go_wp2
    go_ret2
    exact ⟨ret_in hv.out.1.symm hv.out.2.symm, Below.via' B1 BW⟩
  replace ha := Lib.hid ha
  go_wp2_with fail
  rw [← hW2.out]
  refine (contains_any _ _ (lvL P l) a _ (hAh.out.below BW)).mono ?_
  rintro e w2 ⟨rfl, rfl⟩
  rw [ha.out]
  obtain ⟨i0, i1, i2, i3, i4, i5, i6, il⟩ := hG.out
  go_wp2_with fail
  refine (areValues_p _ _ _ _ (tbS S F) V _ hpt.out (hPt.out.below BW) (hVh.out.below (Below.via' B1 BW))).mono ?_
  rintro e w3 ⟨rfl, hb3⟩
  have B3 := Below.via' (Below.via' B1 BW) hb3
  have hB13 := Below.via' BW hb3
  obtain ⟨j0, j1, j2, j3, j4, j5, j6, jl⟩ := hG.out.below hb3
  clear i0 i1 i2 i3 i4 i5 i6 il hb3
  cases hf : fitB (tbS S F) V
  · have hv := Lib.hid (tci_no3 (P := P) (l := l) (W := W) (m := m) (a := a) hf)
    go_wp2
    go_ret2
    exact ⟨ret_in hv.out.1.symm hv.out.2.symm, B3⟩
  have hv := Lib.hid (tci_yes (m := m) (tg_iff.2 hth.out) ha.out hf)
  replace hf := Lib.hid hf
  go_wp2_with fail
  refine (gindex_any _ _ _ _ _ _ _ _ _ _ _ _ P S l F W m a V _ hth.out ha.out hf.out (hAh.out.below hB13) (hPt.out.below hB13) (hVh.out.below B3)).mono ?_
  rintro e w4 ⟨rfl, hb4⟩
  go_wp2
  go_ret2
  exact ⟨ret_in hv.out.1.symm hv.out.2.symm, Below.via' B3 hb4⟩
set_option maxHeartbeats 8000000 in
theorem sCX_x (p y x z v : Option Addr) (c c1 c2 c3 c4 : Nat) (P : List Int) (S : List (ByteArray × Int)) (l : Int) (F W : List Int) (m a : Int) (V : List Int) (w : World) (hP : IIn w p P) (hS : SIn w y c1 S) (hT : TIn w x z F W) (hV : IIn w v V) :
    Calls Try.prog 26 #[.agg #[.slice p P.length c], .slice y S.length c1, .agg #[.int .i64 l, .slice x F.length c2, .slice z W.length c3, .int .i64 m], .int .i64 a, .slice v V.length c4] w fun e w' => e = .returned (.tuple #[.int .i64 (tciN P S l F W m a V), .bool (tciB P S l F W m a V)]) ∧ Below w.heap.size w w' := by
  have hVh := Lib.hid hV
  clear hV
  have hPh := Lib.hid hP
  have hSh := Lib.hid hS
  have hFh := Lib.hid hT.1
  have hWh := Lib.hid hT.2
  clear hP hS hT
  have p1 := Lib.hid (QB.new w p P.length c 33)
  have p2 := Lib.hid (TQ.new (w.alloc (.cells #[.slice p P.length c] 33)) l x F.length c2 z W.length c3 m 37)
  obtain ⟨w0, hw0⟩ : ∃ w0, w0 = (w.alloc (.cells #[.slice p P.length c] 33)).alloc (.cells #[.int .i64 l, .slice x F.length c2, .slice z W.length c3, .int .i64 m] 37) := ⟨_, rfl⟩
  have B0 : Below w.heap.size w w0 := by rw [hw0]; exact (by repeat (first | exact Below.refl _ _ | assumption | refine Below.drew ?_ | refine below_drewN ?_ _ | refine Below.alloc' ?_ _ | (refine Below.setCell ?_ (by first | omega | (simp; done) | (simp; omega) | exact Below.size (by assumption) | exact Nat.le_trans (Below.size (by assumption)) (by simp)) _) | (refine Below.via' ?_ (by assumption)) | (refine Below.alloc ?_ (by first | omega | (simp; done) | (simp; omega) | exact Below.size (by assumption) | exact Nat.le_trans (Below.size (by assumption)) (by simp)) _) | (refine Below.via ?_ (by assumption) (by first | omega | (simp; done) | (simp; omega) | exact Below.size (by assumption) | exact Nat.le_trans (Below.size (by assumption)) (by simp)))))
  have g0 : Hid (QB w0 w.heap.size p P.length c) := by
    rw [hw0]
    exact p1.out.below (show Below (w.alloc (.cells #[.slice p P.length c] 33)).heap.size (w.alloc (.cells #[.slice p P.length c] 33)) _ from (by repeat (first | exact Below.refl _ _ | assumption | refine Below.drew ?_ | refine below_drewN ?_ _ | refine Below.alloc' ?_ _ | (refine Below.setCell ?_ (by first | omega | (simp; done) | (simp; omega) | exact Below.size (by assumption) | exact Nat.le_trans (Below.size (by assumption)) (by simp)) _) | (refine Below.via' ?_ (by assumption)) | (refine Below.alloc ?_ (by first | omega | (simp; done) | (simp; omega) | exact Below.size (by assumption) | exact Nat.le_trans (Below.size (by assumption)) (by simp)) _) | (refine Below.via ?_ (by assumption) (by first | omega | (simp; done) | (simp; omega) | exact Below.size (by assumption) | exact Nat.le_trans (Below.size (by assumption)) (by simp))))))
  have t0 : Hid (TQ w0 (w.heap.size + 1) l x F.length c2 z W.length c3 m) := by
    have h0 := p2.out
    rw [World.size_alloc, ← hw0] at h0
    exact h0
  have z0 : w0.heap.size = w.heap.size + 1 + 1 := by rw [hw0]; simp
  clear p1 p2
  go_enter Try.func26, Try.ntmps26
  go_wp2_with fail
  rw [← hw0]
  replace hw0 := Lib.hid hw0
  replace z0 := Lib.hid z0
  refine (uGood_any p y x z _ _ _ _ P S l m F W _ (hPh.out.below B0) (hSh.out.below B0) ⟨hFh.out.below B0, hWh.out.below B0⟩).mono ?_
  rintro e w1 ⟨rfl, hb1⟩
  have B1 : Below w.heap.size w w1 := Below.via' B0 hb1
  have g1 := Lib.hid (g0.out.below hb1)
  have t1 := Lib.hid (t0.out.below hb1)
  obtain ⟨ka1, kb1, kc1⟩ := g1.out
  obtain ⟨ta1, tb1, tc1, td1, te1⟩ := t1.out
  try clear ka0 kb0 kc0 ta0 tb0 tc0 td0 te0
  clear hb1
  cases htg : tgB P S l F W m
  · have hv := Lib.hid (tci_no1 (a := a) (V := V) htg)
    go_wp2
    go_ret2
    exact ⟨ret_in hv.out.1.symm hv.out.2.symm, B1⟩
  have htp := tg_iff.1 htg
  have hgh := Lib.hid htp.g
  have hip := Lib.hid (inP_of htp.s htp.r rfl)
  have hpt := Lib.hid (tbS_ok htp.s htp.r)
  have hl30 := (ge_len htp.g).2
  have htph := Lib.hid htp
  replace htg := Lib.hid htg
  clear htp
  go_wp2_with fail
  refine (sPart_any _ _ _ _ S F _ hip.out (hSh.out.rd.below B1) (hFh.out.2.2.below B1)).mono ?_
  rintro e w2 ⟨u2, rfl, ho2, hb2⟩
  obtain ⟨x2, n2, rfl, -, -⟩ := (OwR.of ho2).form
  have hr2 := Lib.hid (Rd.of_own ho2)
  clear ho2
  have B2 : Below w.heap.size w w2 := Below.via' B1 hb2
  have g2 := Lib.hid (g1.out.below hb2)
  have t2 := Lib.hid (t1.out.below hb2)
  obtain ⟨ka2, kb2, kc2⟩ := g2.out
  obtain ⟨ta2, tb2, tc2, td2, te2⟩ := t2.out
  try clear ka1 kb1 kc1 ta1 tb1 tc1 td1 te1
  clear hb2
  go_wp2_with fail
  refine (sFits_p _ _ _ _ (tbS S F) V _ hpt.out hr2.out (hVh.out.below B2)).mono ?_
  rintro e w3 ⟨rfl, hb3⟩
  have B3 : Below w.heap.size w w3 := Below.via' B2 hb3
  have g3 := Lib.hid (g2.out.below hb3)
  have t3 := Lib.hid (t2.out.below hb3)
  obtain ⟨ka3, kb3, kc3⟩ := g3.out
  obtain ⟨ta3, tb3, tc3, td3, te3⟩ := t3.out
  try clear ka2 kb2 kc2 ta2 tb2 tc2 td2 te2
  clear hb3
  cases hf : fitB (tbS S F) V
  · have hv := Lib.hid (tci_no3 (P := P) (l := l) (W := W) (m := m) (a := a) hf)
    go_wp2
    go_ret2
    exact ⟨ret_in hv.out.1.symm hv.out.2.symm, B3⟩
  replace hf := Lib.hid hf
  go_wp2_with fail
  refine (gLevel_any _ _ P l _ hgh.out (hPh.out.below B3)).mono ?_
  rintro e w4 ⟨v4, rfl, ho4, hb4⟩
  obtain ⟨x4, n4, rfl, -, -⟩ := (OwR.of ho4).form
  have hi4 : Hid (IIn w4 x4 (lvL P l)) := iin_sel (by omega) (Rd.of_own ho4)
  clear ho4
  have B4 : Below w.heap.size w w4 := Below.via' B3 hb4
  have g4 := Lib.hid (g3.out.below hb4)
  have t4 := Lib.hid (t3.out.below hb4)
  obtain ⟨ka4, kb4, kc4⟩ := g4.out
  obtain ⟨ta4, tb4, tc4, td4, te4⟩ := t4.out
  try clear ka3 kb3 kc3 ta3 tb3 tc3 td3 te3
  clear hb4
  cases ha : (lvL P l).contains a
  · have hv := Lib.hid (tci_no2 (S := S) (F := F) (W := W) (m := m) (V := V) ha)
    have hlt := fdI_lt ha
    go_wp2_with fail
    refine (l1Find_any _ _ (lvL P l) a _ hi4.out).mono ?_
    rintro e w5 ⟨rfl, rfl⟩
    go_wp2
    go_ret2
    exact ⟨ret_in hv.out.1.symm hv.out.2.symm, B4⟩
  have hge := fdI_ge ha
  have hce := ce_bd htph.out (List.contains_iff_mem.1 ha) hf.out
  have hc := htph.out.c
  have q1 : IntKind.i64.wrap (fdI (lvL P l) a * cnZ (tbS S F)) = fdI (lvL P l) a * cnZ (tbS S F) := IntWalk.i64_in _ (by omega)
  have q2 : IntKind.i64.wrap (fdI (lvL P l) a * cnZ (tbS S F) + ixZ (tbS S F) V) = fdI (lvL P l) a * cnZ (tbS S F) + ixZ (tbS S F) V := IntWalk.i64_in _ (by unfold ceZ at hce; omega)
  have hv := Lib.hid (tci_yes (m := m) (W := W) htg.out ha hf.out)
  clear hce hc
  replace ha := Lib.hid ha
  go_wp2_with fail
  refine (l1Find_any _ _ (lvL P l) a _ hi4.out).mono ?_
  rintro e w5 ⟨rfl, rfl⟩
  go_wp2_with fail
  refine (sPart_any _ _ _ _ S F _ hip.out (hSh.out.rd.below B4) (hFh.out.2.2.below B4)).mono ?_
  rintro e w6 ⟨u6, rfl, ho6, hb6⟩
  obtain ⟨x6, n6, rfl, -, -⟩ := (OwR.of ho6).form
  have hr6 := Lib.hid (Rd.of_own ho6)
  clear ho6
  have B6 : Below w.heap.size w w6 := Below.via' B4 hb6
  have g6 := Lib.hid (g4.out.below hb6)
  have t6 := Lib.hid (t4.out.below hb6)
  obtain ⟨ka6, kb6, kc6⟩ := g6.out
  obtain ⟨ta6, tb6, tc6, td6, te6⟩ := t6.out
  try clear ka4 kb4 kc4 ta4 tb4 tc4 td4 te4
  clear hb6
  go_wp2_with fail
  refine (gLevel_any _ _ P l _ hgh.out (hPh.out.below B6)).mono ?_
  rintro e w7 ⟨v7, rfl, ho7, hb7⟩
  obtain ⟨x7, n7, rfl, -, -⟩ := (OwR.of ho7).form
  have hi7 : Hid (IIn w7 x7 (lvL P l)) := iin_sel (by omega) (Rd.of_own ho7)
  have hr7 := Lib.hid (hr6.out.below hb7)
  clear ho7
  have B7 : Below w.heap.size w w7 := Below.via' B6 hb7
  have g7 := Lib.hid (g6.out.below hb7)
  have t7 := Lib.hid (t6.out.below hb7)
  obtain ⟨ka7, kb7, kc7⟩ := g7.out
  obtain ⟨ta7, tb7, tc7, td7, te7⟩ := t7.out
  try clear ka6 kb6 kc6 ta6 tb6 tc6 td6 te6
  clear hb7
  go_wp2_with fail
  refine (l1Find_any _ _ (lvL P l) a _ hi7.out).mono ?_
  rintro e w8 ⟨rfl, rfl⟩
  go_wp2_with fail
  refine (sCount_p _ _ (tbS S F) _ hpt.out hr7.out).mono ?_
  rintro e w9 ⟨rfl, hb9⟩
  have B9 := Below.via' B7 hb9
  have hr9 := Lib.hid (hr7.out.below hb9)
  clear hb9
  go_wp2_with fail
  refine (sIndex_p _ _ _ _ (tbS S F) V _ hpt.out hf.out hr9.out (hVh.out.below B9)).mono ?_
  rintro e w10 ⟨rfl, hb10⟩
  go_wp2
  go_ret2
  exact ⟨ret_in hv.out.1.symm hv.out.2.symm, Below.via' B9 hb10⟩
end Go.Proofs.Ytgkaalonmkcclaa

namespace Go.Proofs.Ytgkaalonmkcclaa
open Go.RowKit
set_option maxRecDepth 100000

/-- A list with its first k and its last k elements exchanged. -/
def rvA (L : List Int) (k t : Nat) : Int := if t < k ∨ L.length ≤ t + k then L.getD (L.length - 1 - t) 0 else L.getD t 0
def rvK (L : List Int) (k : Nat) : List Int := (List.range L.length).map (rvA L k)
theorem rvK_len (L : List Int) (k : Nat) : (rvK L k).length = L.length := by unfold rvK; simp
theorem rvK_at {L : List Int} {k t : Nat} (h : t < L.length) : (rvK L k)[t]? = some (rvA L k t) := by unfold rvK; simp [h]
theorem gd_at {L : List Int} {t : Nat} (h : t < L.length) : L[t]? = some (L.getD t 0) := by rw [List.getD_eq_getElem?_getD, List.getElem?_eq_getElem h]; rfl
theorem rvK_zero (L : List Int) : rvK L 0 = L := by
  apply List.ext_getElem?
  intro t
  by_cases h : t < L.length
  · rw [rvK_at h, gd_at h]
    unfold rvA
    rw [if_neg (by omega)]
  · rw [List.getElem?_eq_none (by rw [rvK_len]; omega), List.getElem?_eq_none (by omega)]
theorem rvK_end {L : List Int} {k : Nat} (hk : L.length ≤ 2 * k + 1) : rvK L k = L.reverse := by
  apply List.ext_getElem?
  intro t
  by_cases h : t < L.length
  · rw [rvK_at h, List.getElem?_reverse h, gd_at (by omega)]
    unfold rvA
    by_cases hc : t < k ∨ L.length ≤ t + k
    · rw [if_pos hc]
    · rw [if_neg hc, show L.length - 1 - t = t by omega]
  · rw [List.getElem?_eq_none (by rw [rvK_len]; omega), List.getElem?_eq_none (by simp; omega)]
theorem rvK_step {L : List Int} {k : Nat} (hk : 2 * k + 1 < L.length) : ((rvK L k).set k (L.getD (L.length - 1 - k) 0)).set (L.length - 1 - k) (L.getD k 0) = rvK L (k + 1) := by
  apply List.ext_getElem?
  intro t
  rw [List.getElem?_set, List.getElem?_set, List.length_set, rvK_len]
  by_cases h : t < L.length
  · rw [rvK_at h, rvK_at h]
    by_cases e1 : L.length - 1 - k = t
    · rw [if_pos e1, if_pos (by omega)]
      unfold rvA
      rw [if_pos (by omega), ← e1, show L.length - 1 - (L.length - 1 - k) = k by omega]
    · rw [if_neg e1]
      by_cases e2 : k = t
      · subst e2
        rw [if_pos rfl, if_pos (by omega)]
        unfold rvA
        rw [if_pos (by omega)]
      · rw [if_neg e2]
        unfold rvA
        by_cases hc : t < k ∨ L.length ≤ t + k
        · rw [if_pos hc, if_pos (by omega)]
        · rw [if_neg hc, if_neg (by omega)]
  · rw [if_neg (by omega), if_neg (by omega), List.getElem?_eq_none (by rw [rvK_len]; omega), List.getElem?_eq_none (by rw [rvK_len]; omega)]

set_option maxHeartbeats 4000000 in
theorem reverse_any (g cap base : Nat) (L : List Int) (w : World) (hm : L.length ≤ 1048576) (h0 : 1 ≤ L.length) (ho : w.ownsRow base 3 1 (.slice (some ⟨g, 0, none⟩) L.length cap) L.length (iC L)) :
    Calls Try.prog 149 #[.slice (some ⟨g, 0, none⟩) L.length cap] w fun e w' => e = .returned (.tuple #[]) ∧ w'.ownsRow base 3 1 (.slice (some ⟨g, 0, none⟩) L.length cap) L.length (iC L.reverse) ∧ w.grownBy w' (some g) := by
  have hoh := Lib.hid ho
  clear ho
  have hpos : (1 : Int) ≤ (L.length : Int) := by omega
  go_enter Try.func149, Try.ntmps149
  go_wp2
  go_loopw [2, 3] (fun a b wr => ∃ k : Nat, 2 * k ≤ L.length ∧ a = .int .i64 k ∧ b = .int .i64 ((L.length : Int) - 1 - k) ∧ wr.ownsRow base 3 1 (.slice (some ⟨g, 0, none⟩) L.length cap) L.length (iC (rvK L k)) ∧ w.grownBy wr (some g)) (fun a _ _ => L.length - (intOf a).toNat)
  case atStart => exact ⟨0, by omega, by go_num, by go_num, by rw [rvK_zero]; exact hoh.out, World.grownBy.refl _ _⟩
  case round =>
    clear hoh
    obtain ⟨k, hk, rfl, rfl, hown, hb⟩ := hrel
    by_cases hlt : 2 * k + 1 < L.length
    · have hlt' : (k : Int) < (L.length : Int) - 1 - (k : Int) := by omega
      obtain ⟨m, hmk⟩ : ∃ m : Nat, m = L.length - 1 - k := ⟨_, rfl⟩
      have hmi : ((L.length : Int) - 1 - (k : Int)) = (m : Int) := by omega
      have hml : m < L.length := by omega
      have hkm : k < m := by omega
      have hkl : k < L.length := by omega
      obtain ⟨u, hu, k0⟩ := own_cell hown (j := k) (by omega)
      obtain ⟨u2, hu2, k02⟩ := own_cell hown (j := m) (by omega)
      have k1 := hown.frozenAt k
      have k12 := hown.frozenAt m
      have k4 := (own_lt hown).2
      have ek : rvA L k k = L.getD k 0 := by unfold rvA; rw [if_neg (by omega)]
      have em : rvA L k m = L.getD m 0 := by unfold rvA; rw [if_neg (by omega)]
      obtain ⟨p, hp⟩ : ∃ p : Int, p = L.getD k 0 := ⟨_, rfl⟩
      obtain ⟨q, hq⟩ : ∃ q : Int, q = L.getD m 0 := ⟨_, rfl⟩
      obtain rfl : u = .int .i64 p := by rw [hp, ← ek]; exact Option.some.inj (hu.symm.trans (iC_at (rvK_at hkl)))
      obtain rfl : u2 = .int .i64 q := by rw [hq, ← em]; exact Option.some.inj (hu2.symm.trans (iC_at (rvK_at hml)))
      have hst := hown.stored k (.int .i64 q)
      have hst2 := hst.1.stored m (.int .i64 p)
      have hse : ((rvK L k).set k q).set m p = rvK L (k + 1) := by rw [hp, hq, hmk]; exact rvK_step hlt
      rw [iC_setG, iC_setG, hse] at hst2
      have ho2 := Lib.hid hst2.1
      have hg2 := Lib.hid ((hb.trans hst.2).trans hst2.2)
      have hown := Lib.hid hown
      have hk0 : (0 : Int) ≤ (k : Int) := by omega
      have hm0 : (0 : Int) ≤ (m : Int) := by omega
      have hk1 : (k : Int) < (L.length : Int) := by omega
      have hm1 : (m : Int) < (L.length : Int) := by omega
      have hne : k ≠ m := by omega
      have hne2 : m ≠ k := by omega
      have hnx : Hid ((m : Int) - 1 = (L.length : Int) - 1 - ((k + 1 : Nat) : Int)) := by unfold Hid; omega
      rw [hmi]
      rw [hmi] at hlt'
      replace hmi := Lib.hid hmi
      replace hmk := Lib.hid hmk
      replace ek := Lib.hid ek
      replace em := Lib.hid em
      replace hu := Lib.hid hu
      replace hu2 := Lib.hid hu2
      clear hst hst2 hse hp hq
      go_wp2
      go_region
      all_goals
        go_wp2
        go_roundw
        case rel => exact ⟨k + 1, by omega, by go_num, by rw [hnx.out], own_below ho2.out (by repeat (first | exact Below.refl _ _ | assumption | refine Below.drew ?_ | refine below_drewN ?_ _ | refine Below.alloc' ?_ _ | (refine Below.setCell ?_ (by first | omega | (simp; done) | (simp; omega) | exact Below.size (by assumption) | exact Nat.le_trans (Below.size (by assumption)) (by simp)) _) | (refine Below.via' ?_ (by assumption)) | (refine Below.alloc ?_ (by first | omega | (simp; done) | (simp; omega) | exact Below.size (by assumption) | exact Nat.le_trans (Below.size (by assumption)) (by simp)) _) | (refine Below.via ?_ (by assumption) (by first | omega | (simp; done) | (simp; omega) | exact Below.size (by assumption) | exact Nat.le_trans (Below.size (by assumption)) (by simp))))), hg2.out.trans (grown_of_bel (by repeat (first | exact Below.refl _ _ | assumption | refine Below.drew ?_ | refine below_drewN ?_ _ | refine Below.alloc' ?_ _ | (refine Below.setCell ?_ (by first | omega | (simp; done) | (simp; omega) | exact Below.size (by assumption) | exact Nat.le_trans (Below.size (by assumption)) (by simp)) _) | (refine Below.via' ?_ (by assumption)) | (refine Below.alloc ?_ (by first | omega | (simp; done) | (simp; omega) | exact Below.size (by assumption) | exact Nat.le_trans (Below.size (by assumption)) (by simp)) _) | (refine Below.via ?_ (by assumption) (by first | omega | (simp; done) | (simp; omega) | exact Below.size (by assumption) | exact Nat.le_trans (Below.size (by assumption)) (by simp))))) _)⟩
        case measure => simp [intOf]; omega
    · have hge : ¬ (k : Int) < (L.length : Int) - 1 - (k : Int) := by omega
      have hv := Lib.hid (rvK_end (L := L) (k := k) (by omega))
      have hown := Lib.hid hown
      go_wp2
      refine bodyPost_end (v := .tuple #[]) (by simp [results, Try.results149, go_sem]) rfl ?_
      exact ⟨rfl, by rw [← hv.out]; exact hown.out, hb⟩

set_option maxHeartbeats 4000000 in
theorem pathTo_any (x : Option Addr) (c : Nat) (P : List Int) (i : Nat) (w : World) (hg : geB P = true) (hi : i < P.length) (h : IIn w x P) :
    Calls Try.prog 143 #[.agg #[.slice x P.length c], .int .i64 i] w (RetG (ptL P i) w) := by
  obtain ⟨i0, hii, hz0, hz1, hz2⟩ := info_parts Try.infoInt
  have hm := h.1
  have hh := Lib.hid h.2.2
  have hl := ge_len hg
  have hd := dp_le hg hi
  have hgh := Lib.hid hg
  have hq0 := Lib.hid (QB.new w x P.length c 33)
  clear h hg
  go_enter Try.func143, Try.ntmps143
  go_wp2
  go_loopw [1, 5] (fun a u wr => ∃ (z : Int) (L R : List Int), a = .int .i64 z ∧ -1 ≤ z ∧ Hid (Clm P z R) ∧ Hid (L ++ R = upW P i) ∧ L.length ≤ 31 ∧ wr.ownsRow (w.heap.size + 1) 3 1 u L.length (iC L) ∧ QB wr w.heap.size x P.length c ∧ Below w.heap.size w wr) (fun a _ _ => (intOf a + 1).toNat)
  case atStart => exact ⟨i, [], upW P i, rfl, by omega, Or.inr ⟨i, rfl, hi, rfl⟩, rfl, by simp, World.ownsRow_nil _ _ _ _, hq0.out, (by repeat (first | exact Below.refl _ _ | assumption | refine Below.drew ?_ | refine below_drewN ?_ _ | refine Below.alloc' ?_ _ | (refine Below.setCell ?_ (by first | omega | (simp; done) | (simp; omega) | exact Below.size (by assumption) | exact Nat.le_trans (Below.size (by assumption)) (by simp)) _) | (refine Below.via' ?_ (by assumption)) | (refine Below.alloc ?_ (by first | omega | (simp; done) | (simp; omega) | exact Below.size (by assumption) | exact Nat.le_trans (Below.size (by assumption)) (by simp)) _) | (refine Below.via ?_ (by assumption) (by first | omega | (simp; done) | (simp; omega) | exact Below.size (by assumption) | exact Nat.le_trans (Below.size (by assumption)) (by simp)))))⟩
  case round =>
    clear hq0
    obtain ⟨z, L, R, rfl, hz, hc, hL, hLl, hown, hq, hb⟩ := hrel
    obtain ⟨ka, kb, kc⟩ := hq
    have hqh := Lib.hid (show QB wr w.heap.size x P.length c from ⟨ka, kb, kc⟩)
    have hownh := Lib.hid hown
    clear hown
    rcases hc.out with ⟨rfl, hR⟩ | ⟨j, rfl, hj, hR⟩
    · have hLe : L = upW P i := by
        have := hL.out
        rw [hR] at this
        simpa using this
      have hv : Hid (L.reverse = ptL P i) := by rw [hLe]; rfl
      have hLn : 1 ≤ L.length := by rw [hLe, up_len]; omega
      obtain ⟨g, cu, rfl⟩ := own_someV hownh.out (by omega)
      replace hLe := Lib.hid hLe
      replace hR := Lib.hid hR
      have hs0 := hb.size
      have hgw := (own_lt hownh.out).1
      clear hc
      go_wp2_with fail
      refine (reverse_any g cu (w.heap.size + 1) L wr (by omega) hLn hownh.out).mono ?_
      rintro e w2 ⟨rfl, ho2, hg2⟩
      have ho2 := Lib.hid ho2
      have hb2 := Lib.hid (hb.grown hg2 (by omega) (fun k hk => by injection hk with hk; omega))
      clear hg2 ka kb kc
      go_wp2
      go_ret
      refine ⟨_, rfl, ?_, hb2.out⟩
      rw [← hv.out, List.length_reverse]
      exact own_more ho2.out (by omega)
    · obtain ⟨b, off, v, hx, hbl, hPj, hc0⟩ := (hh.out.below hb).int (i := j) hj
      have hlen2 : Hid (L.length + R.length = dpN P i + 1) := by
        have := congrArg List.length hL.out
        rw [List.length_append, up_len] at this
        exact this
      have hll : L.length ≤ 30 := by
        have h1 := hlen2.out
        rw [hR, up_len] at h1
        omega
      have hnext : Hid (-1 ≤ v ∧ v < j ∧ ∃ R2, Clm P v R2 ∧ R = (j : Int) :: R2) := by
        rcases Nat.eq_zero_or_pos j with e | e
        · subst e
          have hz := ge_zero hgh.out
          obtain rfl : v = -1 := Option.some.inj (hPj.symm.trans hz)
          exact ⟨by omega, by omega, [], clm_zero, by rw [hR]; exact upW_root⟩
        · obtain ⟨p, hp, hpl⟩ := ge_par hgh.out e hj
          obtain rfl : v = p := Option.some.inj (hPj.symm.trans hp)
          exact ⟨by omega, by omega, upW P p, Or.inr ⟨p, rfl, by omega, rfl⟩, by rw [hR]; exact upW_step hp hpl⟩
      obtain ⟨hn1, hn2, R2, hc2, hR2⟩ := hnext.out
      have hL2 : Hid ((L ++ [(j : Int)]) ++ R2 = upW P i) := by
        have := hL.out
        rw [hR2] at this
        unfold Hid
        simpa using this
      have hj0 : (0 : Int) ≤ (j : Int) := by omega
      have hj1 : (j : Int) < (P.length : Int) := by omega
      have hjm : ((j : Int) == -1) = false := by rw [beq_eq_false_iff_ne]; omega
      have hjm' : ((j : Int) != -1) = true := by show (!((j : Int) == -1)) = true; rw [hjm]; rfl
      replace hc2 := Lib.hid hc2
      replace hx := Lib.hid hx
      replace hPj := Lib.hid hPj
      clear hR hR2 hnext hc hL hlen2
      have hxx := hx.out
      subst hxx
      have hs0 := hb.size
      have hbq : b < w.heap.size := by
        rcases hh.out with h2 | ⟨b2, off2, e2, hl2, _⟩
        · have := iC_len P; rw [h2] at this; simp at this; omega
        · injection e2 with e2; injection e2 with e3; omega
      go_wp2_with (at_builtin; go_loud (refine wpList_append_rd _ rfl (.tmp 8) (.tmp 10) 22 rfl (w.heap.size + 1) 3 i0 (.int .i64 0) 1 8 Try.underlying22 hii hz0 hz1 hz2 rfl (by decide) _ (L).length (iC (L)) rfl ((hownh.out.alloc _)) _ 1 1 rfl (Nat.le_refl _) (by intro h; cases h) (iC [((j : Int) : Int)]) rfl (rd_oneG _ _ _ _ (by simp)) (iC_one _) (by unfold maxLen; omega) (by omega) (by simp; omega) ?_); intro v3 w3 hown3 hgrow3 hwhere3; (have hbx := append_below hb (fun k hk => by have := (hownh.out.lt k hk).1; omega) hgrow3 hwhere3); (obtain ⟨ka3, kb3, kc3⟩ := hqh.out.rest hgrow3 (fun k hk => by have := (hownh.out.lt k hk).1; omega)); (have hc3 := (hbx.1.cell (p := ⟨b, off + j, none⟩) hbq).trans ((hb.cell (p := ⟨b, off + j, none⟩) hbq).symm.trans hc0)))
      have hb3 := Lib.hid hbx.1
      have ho3 : Hid (w3.ownsRow (w.heap.size + 1) 3 1 v3 (L ++ [(j : Int)]).length (iC (L ++ [(j : Int)]))) := own_snoc hown3 rfl rfl
      have hq3 : Hid (QB w3 w.heap.size (some ⟨b, off, none⟩) P.length c) := ⟨ka3, kb3, kc3⟩
      clear hgrow3 hwhere3 hown3 hqh hownh hbx
      go_wp2
      go_roundw
      case rel => exact ⟨v, L ++ [(j : Int)], R2, rfl, hn1, hc2.out, hL2.out, by rw [List.length_append]; simp; omega, ho3.out, hq3.out, hb3.out⟩
      case measure => simp [intOf]; omega
end Go.Proofs.Ytgkaalonmkcclaa

namespace Go.Proofs.Ytgkaalonmkcclaa
open Go.RowKit
set_option maxRecDepth 100000

/-- A list that is handed back only together with true. -/
def gIf (b : Bool) (L : List Int) : List Int := if b then L else []
theorem gIf_len (b : Bool) (L : List Int) {n : Nat} (h : b = true → L.length ≤ n) : (gIf b L).length ≤ n := by
  unfold gIf
  cases b with
  | true => exact h rfl
  | false => simp
theorem RetGB.no {b : Bool} {L : List Int} {w w' : World} (h : b = false) (hb : Below w.heap.size w w') : RetGB (gIf b L) b w (.returned (.tuple #[.slice none 0 0, .bool false])) w' := by
  subst h
  exact ⟨_, rfl, World.ownsRow_nil _ _ _ _, hb⟩
theorem RetGB.yes {b : Bool} {L : List Int} {w w' w2 : World} {v : Value} (h : b = true) (ho : w2.ownsRow w.heap.size 3 1 v L.length (iC L)) (hb2 : Below w2.heap.size w2 w') (hb : Below w.heap.size w w') : RetGB (gIf b L) b w (.returned (.tuple #[v, .bool true])) w' := by
  subst h
  exact ⟨_, rfl, own_below ho hb2, hb⟩
def dpZ (P : List Int) (i : Int) : Int := if gaB P i then dpN P i.toNat else 0
theorem dpZ_no {P : List Int} {i : Int} (h : gaB P i = false) : dpZ P i = 0 := by unfold dpZ; rw [h]; rfl
theorem dpZ_yes {P : List Int} {k : Nat} (h : gaB P k = true) : dpZ P k = dpN P k := by unfold dpZ; rw [h, Int.toNat_natCast]; rfl
def aaB (P : List Int) (i l : Int) : Bool := gaB P i && (decide (0 ≤ l) && decide (l ≤ dpN P i.toNat))
def aaZ (P : List Int) (i l : Int) : Int := if aaB P i l then anZ P i.toNat l else 0
theorem aa_no1 {P : List Int} {i l : Int} (h : gaB P i = false) : aaB P i l = false ∧ aaZ P i l = 0 := by
  have e : aaB P i l = false := by unfold aaB; rw [h]; rfl
  exact ⟨e, by unfold aaZ; rw [e]; rfl⟩
theorem aa_no2 {P : List Int} {k : Nat} {l : Int} (h : ¬ (0 ≤ l ∧ l ≤ dpN P k)) : aaB P k l = false ∧ aaZ P k l = 0 := by
  have e : aaB P k l = false := by
    unfold aaB
    rw [Int.toNat_natCast, Bool.and_eq_false_iff, Bool.and_eq_false_iff, decide_eq_false_iff_not, decide_eq_false_iff_not]
    right
    omega
  exact ⟨e, by unfold aaZ; rw [e]; rfl⟩
theorem aa_yes {P : List Int} {k : Nat} {l : Int} (h : gaB P k = true) (h0 : 0 ≤ l) (h1 : l ≤ dpN P k) : aaB P k l = true ∧ aaZ P k l = anZ P k l := by
  have e : aaB P k l = true := by unfold aaB; rw [h, Int.toNat_natCast, decide_eq_true h0, decide_eq_true h1]; rfl
  exact ⟨e, by unfold aaZ; rw [e, Int.toNat_natCast]; rfl⟩

/-- A level: whether it has areas. -/
def lvnB (P : List Int) (l : Int) : Bool := geB P && decide (0 < (lvL P l).length)
def LvP (P : List Int) (l : Int) (w : World) (e : Ending) (w' : World) : Prop := ∃ v, e = .returned (.tuple #[v, .bool (lvnB P l)]) ∧ w'.ownsRow w.heap.size 3 1 v (gIf (geB P) (lvL P l)).length (iC (gIf (geB P) (lvL P l))) ∧ Below w.heap.size w w'
theorem LvP.no {P : List Int} {l : Int} {w w' : World} (h : geB P = false) (hb : Below w.heap.size w w') : LvP P l w (.returned (.tuple #[.slice none 0 0, .bool false])) w' := by
  unfold LvP lvnB gIf
  rw [h]
  exact ⟨_, rfl, World.ownsRow_nil _ _ _ _, hb⟩
theorem LvP.yes {P : List Int} {l : Int} {w w' w2 : World} {v : Value} {b : Bool} (h : geB P = true) (hq : b = decide (0 < (lvL P l).length)) (ho : w2.ownsRow w.heap.size 3 1 v (lvL P l).length (iC (lvL P l))) (hb2 : Below w2.heap.size w2 w') (hb : Below w.heap.size w w') : LvP P l w (.returned (.tuple #[v, .bool b])) w' := by
  subst hq
  unfold LvP lvnB gIf
  rw [h]
  exact ⟨_, rfl, own_below ho hb2, hb⟩
end Go.Proofs.Ytgkaalonmkcclaa
