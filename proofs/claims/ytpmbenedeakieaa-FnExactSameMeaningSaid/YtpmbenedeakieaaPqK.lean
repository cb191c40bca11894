import Derived.Test.YtpmbenedeakieaaPqU
import Derived.Test.YtpmbenedeakieaaPqJ
namespace Go.Proofs.Ytpmbenedeakieaa
open Go.RowKit
set_option maxRecDepth 100000

/-- What IsSurvey and MeetsWhere answer. -/
def isvB (P : List Int) (S : List (ByteArray × Int)) (M : List RV) : Bool := geB P && (schB S && (dokB S M && tyB P M))
def isvK (P : List Int) (S : List (ByteArray × Int)) : Bool := geB P && schB S
def mwhK (S : List (ByteArray × Int)) (W : List Int) (r : RV) : Bool := schB S && (twB S W && rokB S r)
def mwhB (S : List (ByteArray × Int)) (W : List Int) (r : RV) : Bool := mwhK S W r && tmB W r.2.2
end Go.Proofs.Ytpmbenedeakieaa

namespace Go.Proofs.Ytpmbenedeakieaa
open Go.RowKit
set_option maxRecDepth 100000

theorem ret_boo {a b : Bool} (h : a = b) : Ending.returned (.bool a) = .returned (.bool b) := by rw [h]
set_option maxHeartbeats 4000000 in
theorem isTb_any (p y x z : Option Addr) (c c1 c2 c3 : Nat) (P : List Int) (S : List (ByteArray × Int)) (l : Int) (F W : List Int) (m : Int) (w : World) (hP : IIn w p P) (hS : SIn w y c1 S) (hT : TIn w x z F W) :
    Calls Try.prog 67 #[.agg #[.slice p P.length c], .slice y S.length c1, .agg #[.int .i64 l, .slice x F.length c2, .slice z W.length c3, .int .i64 m]] w fun e w' => e = .returned (.bool (tgB P S l F W m)) ∧ Below w.heap.size w w' := by
  have hPh := Lib.hid hP
  have hSh := Lib.hid hS
  have hFh := Lib.hid hT.1
  have hWh := Lib.hid hT.2
  clear hP hS hT
  have p1 := Lib.hid (QB.new w p P.length c 33)
  have p2 := Lib.hid (TQ.new (w.alloc (.cells #[.slice p P.length c] 33)) l x F.length c2 z W.length c3 m 37)
  obtain ⟨w0, hw0⟩ : ∃ w0, w0 = (w.alloc (.cells #[.slice p P.length c] 33)).alloc (.cells #[.int .i64 l, .slice x F.length c2, .slice z W.length c3, .int .i64 m] 37) := ⟨_, rfl⟩
  have B0 : Below w.heap.size w w0 := by rw [hw0]; exact (by repeat (first | exact Below.refl _ _ | assumption | refine Below.drew ?_ | refine below_drewN ?_ _ | refine Below.alloc' ?_ _ | (refine Below.setCell ?_ (by first | omega | (simp; done) | (simp; omega) | exact Below.size (by assumption) | exact Nat.le_trans (Below.size (by assumption)) (by simp)) _) | (refine Below.via' ?_ (by assumption)) | (refine Below.alloc ?_ (by first | omega | (simp; done) | (simp; omega) | exact Below.size (by assumption) | exact Nat.le_trans (Below.size (by assumption)) (by simp)) _) | (refine Below.via ?_ (by assumption) (by first | omega | (simp; done) | (simp; omega) | exact Below.size (by assumption) | exact Nat.le_trans (Below.size (by assumption)) (by simp)))))
  have g0 : Hid (QB w0 w.heap.size p P.length c) := by
    rw [hw0]
    exact p1.out.below (show Below (w.alloc (.cells #[.slice p P.length c] 33)).heap.size (w.alloc (.cells #[.slice p P.length c] 33)) _ from (by repeat (first | exact Below.refl _ _ | assumption | refine Below.drew ?_ | refine below_drewN ?_ _ | refine Below.alloc' ?_ _ | (refine Below.setCell ?_ (by first | omega | (simp; done) | (simp; omega) | exact Below.size (by assumption) | exact Nat.le_trans (Below.size (by assumption)) (by simp)) _) | (refine Below.via' ?_ (by assumption)) | (refine Below.alloc ?_ (by first | omega | (simp; done) | (simp; omega) | exact Below.size (by assumption) | exact Nat.le_trans (Below.size (by assumption)) (by simp)) _) | (refine Below.via ?_ (by assumption) (by first | omega | (simp; done) | (simp; omega) | exact Below.size (by assumption) | exact Nat.le_trans (Below.size (by assumption)) (by simp))))))
  have t0 : Hid (TQ w0 (w.heap.size + 1) l x F.length c2 z W.length c3 m) := by
    have h0 := p2.out
    rw [World.size_alloc, ← hw0] at h0
    exact h0
  have z0 : w0.heap.size = w.heap.size + 1 + 1 := by rw [hw0]; simp
  clear p1 p2
  go_enter Try.func67, Try.ntmps67
  go_wp2_with fail
  rw [← hw0]
  replace hw0 := Lib.hid hw0
  replace z0 := Lib.hid z0
  refine (gridOf_any p y x z _ _ _ _ P S l m F W _ (hPh.out.below B0) (hSh.out.below B0) ⟨hFh.out.below B0, hWh.out.below B0⟩).mono ?_
  rintro e w1 ⟨hb1, h1⟩
  have B1 : Below w.heap.size w w1 := Below.via' B0 hb1
  have g1 := Lib.hid (g0.out.below hb1)
  have t1 := Lib.hid (t0.out.below hb1)
  obtain ⟨ka1, kb1, kc1⟩ := g1.out
  obtain ⟨ta1, tb1, tc1, td1, te1⟩ := t1.out
  try clear ka0 kb0 kc0 ta0 tb0 tc0 td0 te0
  clear hb1
  rcases h1 with ⟨hno, rfl⟩ | ⟨htg, ga, ca, va, rfl, hA, hV, hvl⟩
  · have hv := Lib.hid (tg_no hno)
    clear hno
    go_wp2
    go_ret
    exact ⟨ret_boo hv.out.symm, (by repeat (first | exact Below.refl _ _ | assumption | refine Below.drew ?_ | refine below_drewN ?_ _ | refine Below.alloc' ?_ _ | (refine Below.setCell ?_ (by first | omega | (simp; done) | (simp; omega) | exact Below.size (by assumption) | exact Nat.le_trans (Below.size (by assumption)) (by simp)) _) | (refine Below.via' ?_ (by assumption)) | (refine Below.alloc ?_ (by first | omega | (simp; done) | (simp; omega) | exact Below.size (by assumption) | exact Nat.le_trans (Below.size (by assumption)) (by simp)) _) | (refine Below.via ?_ (by assumption) (by first | omega | (simp; done) | (simp; omega) | exact Below.size (by assumption) | exact Nat.le_trans (Below.size (by assumption)) (by simp)))))⟩
  · have hv := Lib.hid (tg_iff.2 htg)
    clear htg
    replace hA := Lib.hid hA
    replace hV := Lib.hid hV
    go_wp2
    go_ret
    exact ⟨ret_boo hv.out.symm, (by repeat (first | exact Below.refl _ _ | assumption | refine Below.drew ?_ | refine below_drewN ?_ _ | refine Below.alloc' ?_ _ | (refine Below.setCell ?_ (by first | omega | (simp; done) | (simp; omega) | exact Below.size (by assumption) | exact Nat.le_trans (Below.size (by assumption)) (by simp)) _) | (refine Below.via' ?_ (by assumption)) | (refine Below.alloc ?_ (by first | omega | (simp; done) | (simp; omega) | exact Below.size (by assumption) | exact Nat.le_trans (Below.size (by assumption)) (by simp)) _) | (refine Below.via ?_ (by assumption) (by first | omega | (simp; done) | (simp; omega) | exact Below.size (by assumption) | exact Nat.le_trans (Below.size (by assumption)) (by simp)))))⟩
end Go.Proofs.Ytpmbenedeakieaa
