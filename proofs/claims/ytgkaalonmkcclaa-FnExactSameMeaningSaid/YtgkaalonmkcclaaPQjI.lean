import Derived.Test.YtgkaalonmkcclaaPQjH
import Derived.Test.YtgkaalonmkcclaaPQjF
namespace Go.Proofs.Ytgkaalonmkcclaa
open Go.RowKit
set_option maxRecDepth 100000

/-- Are both tables? What SameMeaning answers. -/
def smn2 (P : List Int) (S : List (ByteArray × Int)) (l : Int) (F W : List Int) (m k : Int) (G U : List Int) (n : Int) : Bool := tgB P S l F W m && tgB P S k G U n
def smnA (P : List Int) (S : List (ByteArray × Int)) (l : Int) (F W : List Int) (m k : Int) (G U : List Int) (n : Int) : Bool := smn2 P S l F W m k G U n && smT S l F W m k G U n
section
variable {P : List Int} {S : List (ByteArray × Int)} {l : Int} {F W : List Int} {m k : Int} {G U : List Int} {n : Int}
theorem smn_no1 (h : tgB P S l F W m = false) : smn2 P S l F W m k G U n = false ∧ smnA P S l F W m k G U n = false := by unfold smnA smn2; rw [h]; exact ⟨rfl, rfl⟩
theorem smn_no2 (h : tgB P S k G U n = false) : smn2 P S l F W m k G U n = false ∧ smnA P S l F W m k G U n = false := by unfold smnA smn2; rw [h, Bool.and_false]; exact ⟨rfl, rfl⟩
theorem smn_yes (h : tgB P S l F W m = true) (h2 : tgB P S k G U n = true) : smn2 P S l F W m k G U n = true ∧ smnA P S l F W m k G U n = smT S l F W m k G U n := by unfold smnA smn2; rw [h, h2]; exact ⟨rfl, rfl⟩
end
theorem ret_bbM {a b p q : Bool} (h : a = b) (k : p = q) : Ending.returned (.tuple #[.bool a, .bool p]) = .returned (.tuple #[.bool b, .bool q]) := by rw [h, k]
set_option maxHeartbeats 4000000 in
theorem iSM_x (p y x z a b : Option Addr) (c c1 c2 c3 c4 d4 : Nat) (P : List Int) (S : List (ByteArray × Int)) (l : Int) (F W : List Int) (m k : Int) (G U : List Int) (n : Int) (w : World) (hP : IIn w p P) (hS : SIn w y c1 S) (hT : TIn w x z F W) (hV : TIn w a b G U) (hcF : F.length ≤ c2) (hnF : x = none → c2 = 0) (hcW : W.length ≤ c3) (hnW : z = none → c3 = 0) (hcG : G.length ≤ c4) (hnG : a = none → c4 = 0) (hcU : U.length ≤ d4) (hnU : b = none → d4 = 0) :
    Calls Try.prog 56 #[.agg #[.slice p P.length c], .slice y S.length c1, .agg #[.int .i64 l, .slice x F.length c2, .slice z W.length c3, .int .i64 m], .agg #[.int .i64 k, .slice a G.length c4, .slice b U.length d4, .int .i64 n]] w fun e w' => e = .returned (.tuple #[.bool (smnA P S l F W m k G U n), .bool (smn2 P S l F W m k G U n)]) ∧ Below w.heap.size w w' := by
  have hPh := Lib.hid hP
  have hSh := Lib.hid hS
  have hFh := Lib.hid hT.1
  have hWh := Lib.hid hT.2
  have hGh := Lib.hid hV.1
  have hUh := Lib.hid hV.2
  have hmF := hT.1.1
  have hmG := hV.1.1
  have c1h := Lib.hid (And.intro hcF hnF)
  have c2h := Lib.hid (And.intro hcW hnW)
  have c3h := Lib.hid (And.intro hcG hnG)
  have c4h := Lib.hid (And.intro hcU hnU)
  clear hP hS hT hV hcF hnF hcW hnW hcG hnG hcU hnU
  have p1 := Lib.hid (QB.new w p P.length c 33)
  have p2 := Lib.hid (TQ.new (w.alloc (.cells #[.slice p P.length c] 33)) l x F.length c2 z W.length c3 m 37)
  have p3 := Lib.hid (TQ.new ((w.alloc (.cells #[.slice p P.length c] 33)).alloc (.cells #[.int .i64 l, .slice x F.length c2, .slice z W.length c3, .int .i64 m] 37)) k a G.length c4 b U.length d4 n 37)
  obtain ⟨w0, hw0⟩ : ∃ w0, w0 = ((w.alloc (.cells #[.slice p P.length c] 33)).alloc (.cells #[.int .i64 l, .slice x F.length c2, .slice z W.length c3, .int .i64 m] 37)).alloc (.cells #[.int .i64 k, .slice a G.length c4, .slice b U.length d4, .int .i64 n] 37) := ⟨_, rfl⟩
  have B0 : Below w.heap.size w w0 := by rw [hw0]; exact (by repeat (first | exact Below.refl _ _ | assumption | refine Below.drew ?_ | refine below_drewN ?_ _ | refine Below.alloc' ?_ _ | (refine Below.setCell ?_ (by first | omega | (simp; done) | (simp; omega) | exact Below.size (by assumption) | exact Nat.le_trans (Below.size (by assumption)) (by simp)) _) | (refine Below.via' ?_ (by assumption)) | (refine Below.alloc ?_ (by first | omega | (simp; done) | (simp; omega) | exact Below.size (by assumption) | exact Nat.le_trans (Below.size (by assumption)) (by simp)) _) | (refine Below.via ?_ (by assumption) (by first | omega | (simp; done) | (simp; omega) | exact Below.size (by assumption) | exact Nat.le_trans (Below.size (by assumption)) (by simp)))))
  have g0 : Hid (QB w0 w.heap.size p P.length c) := by
    rw [hw0]
    exact p1.out.below (show Below (w.alloc (.cells #[.slice p P.length c] 33)).heap.size (w.alloc (.cells #[.slice p P.length c] 33)) _ from (by repeat (first | exact Below.refl _ _ | assumption | refine Below.drew ?_ | refine below_drewN ?_ _ | refine Below.alloc' ?_ _ | (refine Below.setCell ?_ (by first | omega | (simp; done) | (simp; omega) | exact Below.size (by assumption) | exact Nat.le_trans (Below.size (by assumption)) (by simp)) _) | (refine Below.via' ?_ (by assumption)) | (refine Below.alloc ?_ (by first | omega | (simp; done) | (simp; omega) | exact Below.size (by assumption) | exact Nat.le_trans (Below.size (by assumption)) (by simp)) _) | (refine Below.via ?_ (by assumption) (by first | omega | (simp; done) | (simp; omega) | exact Below.size (by assumption) | exact Nat.le_trans (Below.size (by assumption)) (by simp))))))
  have t0 : Hid (TQ w0 (w.heap.size + 1) l x F.length c2 z W.length c3 m) := by
    have h0 := p2.out.below (show Below ((w.alloc (.cells #[.slice p P.length c] 33)).alloc (.cells #[.int .i64 l, .slice x F.length c2, .slice z W.length c3, .int .i64 m] 37)).heap.size ((w.alloc (.cells #[.slice p P.length c] 33)).alloc (.cells #[.int .i64 l, .slice x F.length c2, .slice z W.length c3, .int .i64 m] 37)) w0 from by rw [hw0]; exact (by repeat (first | exact Below.refl _ _ | assumption | refine Below.drew ?_ | refine below_drewN ?_ _ | refine Below.alloc' ?_ _ | (refine Below.setCell ?_ (by first | omega | (simp; done) | (simp; omega) | exact Below.size (by assumption) | exact Nat.le_trans (Below.size (by assumption)) (by simp)) _) | (refine Below.via' ?_ (by assumption)) | (refine Below.alloc ?_ (by first | omega | (simp; done) | (simp; omega) | exact Below.size (by assumption) | exact Nat.le_trans (Below.size (by assumption)) (by simp)) _) | (refine Below.via ?_ (by assumption) (by first | omega | (simp; done) | (simp; omega) | exact Below.size (by assumption) | exact Nat.le_trans (Below.size (by assumption)) (by simp))))))
    rw [World.size_alloc] at h0
    exact h0
  have u0 : Hid (TQ w0 (w.heap.size + 1 + 1) k a G.length c4 b U.length d4 n) := by
    have h0 := p3.out
    rw [World.size_alloc, World.size_alloc, ← hw0] at h0
    exact h0
  clear p1 p2 p3
  go_enter Try.func56, Try.ntmps56
  go_wp2_with fail
  rw [← hw0]
  replace hw0 := Lib.hid hw0
  refine (isTb_any p y x z _ _ _ _ P S l F W m _ (hPh.out.below B0) (hSh.out.below B0) ⟨hFh.out.below B0, hWh.out.below B0⟩).mono ?_
  rintro e w1 ⟨rfl, hb1⟩
  have B1 : Below w.heap.size w w1 := Below.via' B0 hb1
  have g1 := Lib.hid (g0.out.below hb1)
  have t1 := Lib.hid (t0.out.below hb1)
  have u1 := Lib.hid (u0.out.below hb1)
  obtain ⟨ka1, kb1, kc1⟩ := g1.out
  obtain ⟨ta1, tb1, tc1, td1, te1⟩ := t1.out
  obtain ⟨ua1, ub1, uc1, ud1, ue1⟩ := u1.out
  try clear ka0 kb0 kc0 ta0 tb0 tc0 td0 te0 ua0 ub0 uc0 ud0 ue0
  clear hb1
  cases h1 : tgB P S l F W m
  · have hv := Lib.hid (smn_no1 (k := k) (G := G) (U := U) (n := n) h1)
    replace h1 := Lib.hid h1
    go_wp2
    go_ret2
    exact ⟨ret_bbM hv.out.2.symm hv.out.1.symm, B1⟩
  have h1h := Lib.hid h1
  clear h1
  go_wp2_with fail
  refine (isTb_any p y a b _ _ _ _ P S k G U n _ (hPh.out.below B1) (hSh.out.below B1) ⟨hGh.out.below B1, hUh.out.below B1⟩).mono ?_
  rintro e w2 ⟨rfl, hb2⟩
  have B2 : Below w.heap.size w w2 := Below.via' B1 hb2
  have g2 := Lib.hid (g1.out.below hb2)
  have t2 := Lib.hid (t1.out.below hb2)
  have u2 := Lib.hid (u1.out.below hb2)
  obtain ⟨ka2, kb2, kc2⟩ := g2.out
  obtain ⟨ta2, tb2, tc2, td2, te2⟩ := t2.out
  obtain ⟨ua2, ub2, uc2, ud2, ue2⟩ := u2.out
  try clear ka1 kb1 kc1 ta1 tb1 tc1 td1 te1 ua1 ub1 uc1 ud1 ue1
  clear hb2
  cases h2 : tgB P S k G U n
  · have hv := Lib.hid (smn_no2 (l := l) (F := F) (W := W) (m := m) h2)
    replace h2 := Lib.hid h2
    go_wp2
    go_ret2
    exact ⟨ret_bbM hv.out.2.symm hv.out.1.symm, B2⟩
  have h2h := Lib.hid h2
  have hv := Lib.hid (smn_yes h1h.out h2)
  have g1h := Lib.hid (tg_iff.1 h1h.out)
  have g2h := Lib.hid (tg_iff.1 h2)
  clear h2
  go_wp2_with fail
  refine (haveSame_any y x z a b _ _ _ _ _ S l F W m k G U n _ g1h.out.s (tw_len g1h.out.w) (tw_len g2h.out.w) (hSh.out.below B2) hmF c1h.out.1 c1h.out.2 c2h.out.1 c2h.out.2 (hFh.out.below B2).2.2 (hWh.out.below B2).2.2 hmG c3h.out.1 c3h.out.2 c4h.out.1 c4h.out.2 (hGh.out.below B2).2.2 (hUh.out.below B2).2.2).mono ?_
  rintro e w3 ⟨rfl, hb3⟩
  go_wp2
  go_ret2
  exact ⟨ret_bbM hv.out.2.symm hv.out.1.symm, Below.via' B2 hb3⟩
set_option maxHeartbeats 4000000 in
theorem sSM_x (p y x z a b : Option Addr) (c c1 c2 c3 c4 d4 : Nat) (P : List Int) (S : List (ByteArray × Int)) (l : Int) (F W : List Int) (m k : Int) (G U : List Int) (n : Int) (w : World) (hP : IIn w p P) (hS : SIn w y c1 S) (hT : TIn w x z F W) (hV : TIn w a b G U) (hcF : F.length ≤ c2) (hnF : x = none → c2 = 0) (hcW : W.length ≤ c3) (hnW : z = none → c3 = 0) (hcG : G.length ≤ c4) (hnG : a = none → c4 = 0) (hcU : U.length ≤ d4) (hnU : b = none → d4 = 0) :
    Calls Try.prog 55 #[.agg #[.slice p P.length c], .slice y S.length c1, .agg #[.int .i64 l, .slice x F.length c2, .slice z W.length c3, .int .i64 m], .agg #[.int .i64 k, .slice a G.length c4, .slice b U.length d4, .int .i64 n]] w fun e w' => e = .returned (.tuple #[.bool (smnA P S l F W m k G U n), .bool (smn2 P S l F W m k G U n)]) ∧ Below w.heap.size w w' := by
  have hPh := Lib.hid hP
  have hSh := Lib.hid hS
  have hFh := Lib.hid hT.1
  have hWh := Lib.hid hT.2
  have hGh := Lib.hid hV.1
  have hUh := Lib.hid hV.2
  have hmF := hT.1.1
  have hmG := hV.1.1
  have c1h := Lib.hid (And.intro hcF hnF)
  have c2h := Lib.hid (And.intro hcW hnW)
  have c3h := Lib.hid (And.intro hcG hnG)
  have c4h := Lib.hid (And.intro hcU hnU)
  clear hP hS hT hV hcF hnF hcW hnW hcG hnG hcU hnU
  have p1 := Lib.hid (QB.new w p P.length c 33)
  have p2 := Lib.hid (TQ.new (w.alloc (.cells #[.slice p P.length c] 33)) l x F.length c2 z W.length c3 m 37)
  have p3 := Lib.hid (TQ.new ((w.alloc (.cells #[.slice p P.length c] 33)).alloc (.cells #[.int .i64 l, .slice x F.length c2, .slice z W.length c3, .int .i64 m] 37)) k a G.length c4 b U.length d4 n 37)
  obtain ⟨w0, hw0⟩ : ∃ w0, w0 = ((w.alloc (.cells #[.slice p P.length c] 33)).alloc (.cells #[.int .i64 l, .slice x F.length c2, .slice z W.length c3, .int .i64 m] 37)).alloc (.cells #[.int .i64 k, .slice a G.length c4, .slice b U.length d4, .int .i64 n] 37) := ⟨_, rfl⟩
  have B0 : Below w.heap.size w w0 := by rw [hw0]; exact (by repeat (first | exact Below.refl _ _ | assumption | refine Below.drew ?_ | refine below_drewN ?_ _ | refine Below.alloc' ?_ _ | (refine Below.setCell ?_ (by first | omega | (simp; done) | (simp; omega) | exact Below.size (by assumption) | exact Nat.le_trans (Below.size (by assumption)) (by simp)) _) | (refine Below.via' ?_ (by assumption)) | (refine Below.alloc ?_ (by first | omega | (simp; done) | (simp; omega) | exact Below.size (by assumption) | exact Nat.le_trans (Below.size (by assumption)) (by simp)) _) | (refine Below.via ?_ (by assumption) (by first | omega | (simp; done) | (simp; omega) | exact Below.size (by assumption) | exact Nat.le_trans (Below.size (by assumption)) (by simp)))))
  have g0 : Hid (QB w0 w.heap.size p P.length c) := by
    rw [hw0]
    exact p1.out.below (show Below (w.alloc (.cells #[.slice p P.length c] 33)).heap.size (w.alloc (.cells #[.slice p P.length c] 33)) _ from (by repeat (first | exact Below.refl _ _ | assumption | refine Below.drew ?_ | refine below_drewN ?_ _ | refine Below.alloc' ?_ _ | (refine Below.setCell ?_ (by first | omega | (simp; done) | (simp; omega) | exact Below.size (by assumption) | exact Nat.le_trans (Below.size (by assumption)) (by simp)) _) | (refine Below.via' ?_ (by assumption)) | (refine Below.alloc ?_ (by first | omega | (simp; done) | (simp; omega) | exact Below.size (by assumption) | exact Nat.le_trans (Below.size (by assumption)) (by simp)) _) | (refine Below.via ?_ (by assumption) (by first | omega | (simp; done) | (simp; omega) | exact Below.size (by assumption) | exact Nat.le_trans (Below.size (by assumption)) (by simp))))))
  have t0 : Hid (TQ w0 (w.heap.size + 1) l x F.length c2 z W.length c3 m) := by
    have h0 := p2.out.below (show Below ((w.alloc (.cells #[.slice p P.length c] 33)).alloc (.cells #[.int .i64 l, .slice x F.length c2, .slice z W.length c3, .int .i64 m] 37)).heap.size ((w.alloc (.cells #[.slice p P.length c] 33)).alloc (.cells #[.int .i64 l, .slice x F.length c2, .slice z W.length c3, .int .i64 m] 37)) w0 from by rw [hw0]; exact (by repeat (first | exact Below.refl _ _ | assumption | refine Below.drew ?_ | refine below_drewN ?_ _ | refine Below.alloc' ?_ _ | (refine Below.setCell ?_ (by first | omega | (simp; done) | (simp; omega) | exact Below.size (by assumption) | exact Nat.le_trans (Below.size (by assumption)) (by simp)) _) | (refine Below.via' ?_ (by assumption)) | (refine Below.alloc ?_ (by first | omega | (simp; done) | (simp; omega) | exact Below.size (by assumption) | exact Nat.le_trans (Below.size (by assumption)) (by simp)) _) | (refine Below.via ?_ (by assumption) (by first | omega | (simp; done) | (simp; omega) | exact Below.size (by assumption) | exact Nat.le_trans (Below.size (by assumption)) (by simp))))))
    rw [World.size_alloc] at h0
    exact h0
  have u0 : Hid (TQ w0 (w.heap.size + 1 + 1) k a G.length c4 b U.length d4 n) := by
    have h0 := p3.out
    rw [World.size_alloc, World.size_alloc, ← hw0] at h0
    exact h0
  clear p1 p2 p3
  go_enter Try.func55, Try.ntmps55
  go_wp2_with fail
  rw [← hw0]
  replace hw0 := Lib.hid hw0
  refine (uGood_any p y x z _ _ _ _ P S l m F W _ (hPh.out.below B0) (hSh.out.below B0) ⟨hFh.out.below B0, hWh.out.below B0⟩).mono ?_
  rintro e w1 ⟨rfl, hb1⟩
  have B1 : Below w.heap.size w w1 := Below.via' B0 hb1
  have g1 := Lib.hid (g0.out.below hb1)
  have t1 := Lib.hid (t0.out.below hb1)
  have u1 := Lib.hid (u0.out.below hb1)
  obtain ⟨ka1, kb1, kc1⟩ := g1.out
  obtain ⟨ta1, tb1, tc1, td1, te1⟩ := t1.out
  obtain ⟨ua1, ub1, uc1, ud1, ue1⟩ := u1.out
  try clear ka0 kb0 kc0 ta0 tb0 tc0 td0 te0 ua0 ub0 uc0 ud0 ue0
  clear hb1
  cases h1 : tgB P S l F W m
  · have hv := Lib.hid (smn_no1 (k := k) (G := G) (U := U) (n := n) h1)
    replace h1 := Lib.hid h1
    go_wp2
    go_ret2
    exact ⟨ret_bbM hv.out.2.symm hv.out.1.symm, B1⟩
  have h1h := Lib.hid h1
  clear h1
  go_wp2_with fail
  refine (uGood_any p y a b _ _ _ _ P S k n G U _ (hPh.out.below B1) (hSh.out.below B1) ⟨hGh.out.below B1, hUh.out.below B1⟩).mono ?_
  rintro e w2 ⟨rfl, hb2⟩
  have B2 : Below w.heap.size w w2 := Below.via' B1 hb2
  have g2 := Lib.hid (g1.out.below hb2)
  have t2 := Lib.hid (t1.out.below hb2)
  have u2 := Lib.hid (u1.out.below hb2)
  obtain ⟨ka2, kb2, kc2⟩ := g2.out
  obtain ⟨ta2, tb2, tc2, td2, te2⟩ := t2.out
  obtain ⟨ua2, ub2, uc2, ud2, ue2⟩ := u2.out
  try clear ka1 kb1 kc1 ta1 tb1 tc1 td1 te1 ua1 ub1 uc1 ud1 ue1
  clear hb2
  cases h2 : tgB P S k G U n
  · have hv := Lib.hid (smn_no2 (l := l) (F := F) (W := W) (m := m) h2)
    replace h2 := Lib.hid h2
    go_wp2
    go_ret2
    exact ⟨ret_bbM hv.out.2.symm hv.out.1.symm, B2⟩
  have h2h := Lib.hid h2
  have hv := Lib.hid (smn_yes h1h.out h2)
  have g1h := Lib.hid (tg_iff.1 h1h.out)
  have g2h := Lib.hid (tg_iff.1 h2)
  clear h2
  go_wp2_with fail
  refine (nSame_any y x z a b _ _ _ _ _ S l F W m k G U n _ g1h.out.s (tw_len g1h.out.w) (tw_len g2h.out.w) (hSh.out.below B2) hmF c1h.out.1 c1h.out.2 c2h.out.1 c2h.out.2 (hFh.out.below B2).2.2 (hWh.out.below B2).2.2 hmG c3h.out.1 c3h.out.2 c4h.out.1 c4h.out.2 (hGh.out.below B2).2.2 (hUh.out.below B2).2.2).mono ?_
  rintro e w3 ⟨rfl, hb3⟩
  go_wp2
  go_ret2
  exact ⟨ret_bbM hv.out.2.symm hv.out.1.symm, Below.via' B2 hb3⟩
end Go.Proofs.Ytgkaalonmkcclaa
