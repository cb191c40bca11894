/-
  The walks of chapter 10: limits of a cube, the difference of two cubes; the program's and the model's.
-/
import Derived.Test.YtnmpigedhpdenaaCbV
import Derived.Test.YtnmpigedhpdenaaCbY
import Derived.Test.YtnmpigedhpdenaaCbZm
import Derived.Test.YtnmpigedhpdenaaStp
import Derived.Deep.RegionHeld
import Derived.Deep.RegionLaw
import Derived.Deep.DeepCutAuto
namespace Go.Proofs.Ytnmpigedhpdenaa
open Go.RowKit
set_option maxRecDepth 100000

/-- A cube that is handed on, or none. -/
def OnPost (b : Bool) (x : Option Addr) (n c : Nat) (y : Option Addr) (k d : Nat) (w : World) (e : Ending) (w' : World) : Prop :=
  ((b = true ∧ e = .returned (.tuple #[.agg #[.slice x n c, .slice y k d], .bool true])) ∨ (b = false ∧ e = .returned (.tuple #[.agg #[.slice none 0 0, .slice none 0 0], .bool false]))) ∧ Below w.heap.size w w'
theorem within_x (y : Option Addr) (d : Nat) (C : List Int) (w : World) (hC : IIn w y C) :
    Calls Try.prog 96 #[.slice y C.length d, .int .i64 1000000] w fun e w' => e = .returned (.bool (inR C (-1000000) 1000000)) ∧ Below w.heap.size w w' :=
  (areWithin_any _ _ C 1000000 _ (by omega) (by omega) hC).mono fun _ _ h => ⟨h.1, by rw [← h.2]; exact Below.refl _ _⟩
set_option maxHeartbeats 2000000 in
theorem wl_any (x y : Option Addr) (c d : Nat) (Z C : List Int) (w : World) (h : CIn w x y Z C) :
    Calls Try.prog 71 #[.agg #[.slice x Z.length c, .slice y C.length d]] w (OnPost (inR C (-1000000) 1000000) x Z.length c y C.length d w) := by
  have hh := Lib.hid h
  clear h
  obtain ⟨w0, hw0⟩ : ∃ w0, w0 = (w.alloc (.cells #[.slice x Z.length c, .slice y C.length d] 27)).alloc (.cells #[.slice none 0 0, .slice none 0 0] 27) := ⟨_, rfl⟩
  have B0 : Below w.heap.size w w0 := by rw [hw0]; exact (by repeat (first | exact Below.refl _ _ | assumption | refine Below.drew ?_ | refine below_drewN ?_ _ | refine Below.alloc' ?_ _ | (refine Below.setCell ?_ (by first | omega | (simp; done) | (simp; omega) | exact Below.size (by assumption) | exact Nat.le_trans (Below.size (by assumption)) (by simp)) _) | (refine Below.via' ?_ (by assumption)) | (refine Below.alloc ?_ (by first | omega | (simp; done) | (simp; omega) | exact Below.size (by assumption) | exact Nat.le_trans (Below.size (by assumption)) (by simp)) _) | (refine Below.via ?_ (by assumption) (by first | omega | (simp; done) | (simp; omega) | exact Below.size (by assumption) | exact Nat.le_trans (Below.size (by assumption)) (by simp)))))
  have qA : CQ w0 w.heap.size x Z.length c y C.length d := by rw [hw0]; exact (CQ.new w x Z.length c y C.length d 27).below (by repeat (first | exact Below.refl _ _ | assumption | refine Below.drew ?_ | refine below_drewN ?_ _ | refine Below.alloc' ?_ _ | (refine Below.setCell ?_ (by first | omega | (simp; done) | (simp; omega) | exact Below.size (by assumption) | exact Nat.le_trans (Below.size (by assumption)) (by simp)) _) | (refine Below.via' ?_ (by assumption)) | (refine Below.alloc ?_ (by first | omega | (simp; done) | (simp; omega) | exact Below.size (by assumption) | exact Nat.le_trans (Below.size (by assumption)) (by simp)) _) | (refine Below.via ?_ (by assumption) (by first | omega | (simp; done) | (simp; omega) | exact Below.size (by assumption) | exact Nat.le_trans (Below.size (by assumption)) (by simp)))))
  have z0 : Wb w0 (w.heap.size + 1) 27 #[.slice none 0 0, .slice none 0 0] := by
    have h0 := Wb.new (w.alloc (.cells #[.slice x Z.length c, .slice y C.length d] 27)) 27 #[.slice none 0 0, .slice none 0 0]
    rw [World.size_alloc, ← hw0] at h0
    exact h0
  replace qA := Lib.hid qA
  replace z0 := Lib.hid z0
  go_enter Try.func71, Try.ntmps71
  go_wp2_with fail
  rw [← hw0]
  replace hw0 := Lib.hid hw0
  refine (within_x _ _ C _ (hh.out.2.below B0)).mono ?_
  rintro e w1 ⟨rfl, hb1⟩
  have B1 : Below w.heap.size w w1 := Below.via' B0 hb1
  have q1 := Lib.hid (qA.out.below hb1)
  have z1 := Lib.hid (z0.out.kept hb1)
  obtain ⟨qa, qb, qc⟩ := q1.out
  have ya : w1.cell? ⟨w.heap.size + 1, 0, none⟩ = some (.slice none 0 0) := (z1.out.read 0).trans rfl
  have yb : w1.cell? ⟨w.heap.size + 1, 1, none⟩ = some (.slice none 0 0) := (z1.out.read 1).trans rfl
  have ye := z1.out.free 0
  have yf := z1.out.free 1
  have yin := z1.out.inside
  clear hb1
  cases hb : inR C (-1000000) 1000000
  · have hbh := Lib.hid hb
    clear hb
    go_wp2
    refine bodyPost_ret (v := .tuple #[.agg #[.slice none 0 0, .slice none 0 0], .bool false]) (by simp [results, Try.results71, go_sem, *]) rfl ⟨Or.inr ⟨hbh.out, rfl⟩, ?_⟩
    repeat (refine Below.setCell ?_ (by simp; try omega) _)
    exact B1
  · have hbh := Lib.hid hb
    clear hb
    go_wp2
    refine bodyPost_ret (v := .tuple #[.agg #[.slice x Z.length c, .slice y C.length d], .bool true]) (by simp [results, Try.results71, go_sem, *]) rfl ⟨Or.inl ⟨hbh.out, rfl⟩, ?_⟩
    repeat (refine Below.setCell ?_ (by simp; try omega) _)
    exact B1
set_option maxHeartbeats 2000000 in
theorem cbIf_any (x y : Option Addr) (c d : Nat) (Z C : List Int) (w : World) (h : CIn w x y Z C) :
    Calls Try.prog 63 #[.agg #[.slice x Z.length c, .slice y C.length d]] w (OnPost (cgB Z C) x Z.length c y C.length d w) := by
  have hh := Lib.hid h
  clear h
  obtain ⟨w0, hw0⟩ : ∃ w0, w0 = (w.alloc (.cells #[.slice x Z.length c, .slice y C.length d] 27)).alloc (.cells #[.slice none 0 0, .slice none 0 0] 27) := ⟨_, rfl⟩
  have B0 : Below w.heap.size w w0 := by rw [hw0]; exact (by repeat (first | exact Below.refl _ _ | assumption | refine Below.drew ?_ | refine below_drewN ?_ _ | refine Below.alloc' ?_ _ | (refine Below.setCell ?_ (by first | omega | (simp; done) | (simp; omega) | exact Below.size (by assumption) | exact Nat.le_trans (Below.size (by assumption)) (by simp)) _) | (refine Below.via' ?_ (by assumption)) | (refine Below.alloc ?_ (by first | omega | (simp; done) | (simp; omega) | exact Below.size (by assumption) | exact Nat.le_trans (Below.size (by assumption)) (by simp)) _) | (refine Below.via ?_ (by assumption) (by first | omega | (simp; done) | (simp; omega) | exact Below.size (by assumption) | exact Nat.le_trans (Below.size (by assumption)) (by simp)))))
  have qA : CQ w0 w.heap.size x Z.length c y C.length d := by rw [hw0]; exact (CQ.new w x Z.length c y C.length d 27).below (by repeat (first | exact Below.refl _ _ | assumption | refine Below.drew ?_ | refine below_drewN ?_ _ | refine Below.alloc' ?_ _ | (refine Below.setCell ?_ (by first | omega | (simp; done) | (simp; omega) | exact Below.size (by assumption) | exact Nat.le_trans (Below.size (by assumption)) (by simp)) _) | (refine Below.via' ?_ (by assumption)) | (refine Below.alloc ?_ (by first | omega | (simp; done) | (simp; omega) | exact Below.size (by assumption) | exact Nat.le_trans (Below.size (by assumption)) (by simp)) _) | (refine Below.via ?_ (by assumption) (by first | omega | (simp; done) | (simp; omega) | exact Below.size (by assumption) | exact Nat.le_trans (Below.size (by assumption)) (by simp)))))
  have z0 : Wb w0 (w.heap.size + 1) 27 #[.slice none 0 0, .slice none 0 0] := by
    have h0 := Wb.new (w.alloc (.cells #[.slice x Z.length c, .slice y C.length d] 27)) 27 #[.slice none 0 0, .slice none 0 0]
    rw [World.size_alloc, ← hw0] at h0
    exact h0
  replace qA := Lib.hid qA
  replace z0 := Lib.hid z0
  go_enter Try.func63, Try.ntmps63
  go_wp2_with fail
  rw [← hw0]
  replace hw0 := Lib.hid hw0
  refine (cbGood_any _ _ _ _ Z C _ (hh.out.below B0)).mono ?_
  rintro e w1 ⟨rfl, hb1⟩
  have B1 : Below w.heap.size w w1 := Below.via' B0 hb1
  have q1 := Lib.hid (qA.out.below hb1)
  have z1 := Lib.hid (z0.out.kept hb1)
  obtain ⟨qa, qb, qc⟩ := q1.out
  have ya : w1.cell? ⟨w.heap.size + 1, 0, none⟩ = some (.slice none 0 0) := (z1.out.read 0).trans rfl
  have yb : w1.cell? ⟨w.heap.size + 1, 1, none⟩ = some (.slice none 0 0) := (z1.out.read 1).trans rfl
  have ye := z1.out.free 0
  have yf := z1.out.free 1
  have yin := z1.out.inside
  clear hb1
  cases hb : cgB Z C
  · have hbh := Lib.hid hb
    clear hb
    go_wp2
    refine bodyPost_ret (v := .tuple #[.agg #[.slice none 0 0, .slice none 0 0], .bool false]) (by simp [results, Try.results63, go_sem, *]) rfl ⟨Or.inr ⟨hbh.out, rfl⟩, ?_⟩
    repeat (refine Below.setCell ?_ (by simp; try omega) _)
    exact B1
  · have hbh := Lib.hid hb
    clear hb
    go_wp2
    refine bodyPost_ret (v := .tuple #[.agg #[.slice x Z.length c, .slice y C.length d], .bool true]) (by simp [results, Try.results63, go_sem, *]) rfl ⟨Or.inl ⟨hbh.out, rfl⟩, ?_⟩
    repeat (refine Below.setCell ?_ (by simp; try omega) _)
    exact B1
end Go.Proofs.Ytnmpigedhpdenaa
