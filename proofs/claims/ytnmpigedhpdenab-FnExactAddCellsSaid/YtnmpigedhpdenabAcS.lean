/-
  Chapter 8: AddCells: the program's walk.
-/
import Derived.Test.YtnmpigedhpdenabAcR
namespace Go.Proofs.Ytnmpigedhpdenab
open Go.RowKit Go.Shelf
set_option maxRecDepth 100000
attribute [local go_sem] Oper.semAt_some

theorem boxed_new2 (w : World) (o o' : Obj) (ti : TypeId) (v : Value) : Boxed (((w.alloc o).alloc (.cells #[v] ti)).alloc o') (w.heap.size + 1) ti v := by
  have := (Boxed.new (w.alloc o) ti v).alloc o'
  rwa [World.size_alloc] at this
theorem two_newA (w : World) (t : TypeId) (a b : Value) (g : Nat) (h : w.heap.size = g) : (w.alloc (.cells #[a, b] t)).cell? ⟨g, 0, none⟩ = some a ∧ (w.alloc (.cells #[a, b] t)).cell? ⟨g, 1, none⟩ = some b := by
  subst h
  exact ⟨by rw [World.cell?_alloc_at _ _ _ _ rfl]; rfl, by rw [World.cell?_alloc_at _ _ _ _ rfl]; rfl⟩
set_option maxHeartbeats 2000000 in
theorem iAC_x (x y : Option Addr) (c1 c2 : Nat) (A B : List Int) (w : World) (hA : IIn w x A) (hB : IIn w y B) :
    Calls Try.prog 58 #[.slice x A.length c1, .slice y B.length c2] w (RetLB (acL A B) (acB A B) w) := by
  have hAh := Lib.hid hA
  have hBh := Lib.hid hB
  clear hA hB
  by_cases hl : A.length = B.length
  · have e1 : ((A.length : Int) == (B.length : Int)) = true := by rw [beq_iff_eq]; omega
    have e2 : ((A.length : Int) != (B.length : Int)) = false := by show (!((A.length : Int) == (B.length : Int))) = false; rw [e1]; rfl
    have hlh := Lib.hid hl
    clear hl
    cases hca : cvB A
    · have hv := Lib.hid (ac_no2 (A := A) (B := B) hca)
      go_enter Try.func58, Try.ntmps58
      go_wp2_with fail
      refine (areCellValues_any _ _ A _ hAh.out).mono ?_
      rintro e w1 ⟨rfl, rfl⟩
      rw [hca]
      go_wp2
      go_ret2
      rw [hv.out, ac_no hv.out]
      exact ⟨_, rfl, World.ownsRow_nil _ _ _ _, Below.refl _ _⟩
    cases hcb : cvB B
    · have hv := Lib.hid (ac_no3 (A := A) (B := B) hcb)
      go_enter Try.func58, Try.ntmps58
      go_wp2_with fail
      refine (areCellValues_any _ _ A _ hAh.out).mono ?_
      rintro e w1 ⟨rfl, rfl⟩
      rw [hca]
      go_wp2_with fail
      refine (areCellValues_any _ _ B _ hBh.out).mono ?_
      rintro e w2 ⟨rfl, rfl⟩
      rw [hcb]
      go_wp2
      go_ret2
      rw [hv.out, ac_no hv.out]
      exact ⟨_, rfl, World.ownsRow_nil _ _ _ _, Below.refl _ _⟩
    have hv := Lib.hid (ac_yes hlh.out hca hcb)
    have hcah := Lib.hid hca
    have hcbh := Lib.hid hcb
    go_enter Try.func58, Try.ntmps58
    go_wp2_with fail
    refine (areCellValues_any _ _ A _ hAh.out).mono ?_
    rintro e w1 ⟨rfl, rfl⟩
    rw [hca]
    go_wp2_with fail
    refine (areCellValues_any _ _ B _ hBh.out).mono ?_
    rintro e w2 ⟨rfl, rfl⟩
    rw [hcb]
    clear hca hcb
    go_wp2_with fail
    refine (al_any _ _ _ _).mono ?_
    rintro e w3 ⟨rfl, rfl⟩
    go_wp2_with fail
    refine (al_any _ _ _ _).mono ?_
    rintro e w4 ⟨rfl, rfl⟩
    go_wp2_with fail
    refine (sums_any w.heap.size (w.heap.size + 1) (w.heap.size + 1 + 1) c1 c2 x y A B _ hlh.out hcah.out hcbh.out (hAh.out.below (by exact (by repeat (first | exact Below.refl _ _ | assumption | refine Below.drew ?_ | refine below_drewN ?_ _ | refine Below.alloc' ?_ _ | (refine Below.setCell ?_ (by first | omega | (simp; done) | (simp; omega) | exact Below.size (by assumption) | exact Nat.le_trans (Below.size (by assumption)) (by simp)) _) | (refine Below.via' ?_ (by assumption)) | (refine Below.alloc ?_ (by first | omega | (simp; done) | (simp; omega) | exact Below.size (by assumption) | exact Nat.le_trans (Below.size (by assumption)) (by simp)) _) | (refine Below.via ?_ (by assumption) (by first | omega | (simp; done) | (simp; omega) | exact Below.size (by assumption) | exact Nat.le_trans (Below.size (by assumption)) (by simp))))))) (hBh.out.below (by exact (by repeat (first | exact Below.refl _ _ | assumption | refine Below.drew ?_ | refine below_drewN ?_ _ | refine Below.alloc' ?_ _ | (refine Below.setCell ?_ (by first | omega | (simp; done) | (simp; omega) | exact Below.size (by assumption) | exact Nat.le_trans (Below.size (by assumption)) (by simp)) _) | (refine Below.via' ?_ (by assumption)) | (refine Below.alloc ?_ (by first | omega | (simp; done) | (simp; omega) | exact Below.size (by assumption) | exact Nat.le_trans (Below.size (by assumption)) (by simp)) _) | (refine Below.via ?_ (by assumption) (by first | omega | (simp; done) | (simp; omega) | exact Below.size (by assumption) | exact Nat.le_trans (Below.size (by assumption)) (by simp))))))) (((Boxed.new w _ _).alloc _).alloc _) (boxed_new2 _ _ _ _ _) (by simp) (two_newA _ _ _ _ _ (by simp)).1 (two_newA _ _ _ _ _ (by simp)).2).mono ?_
    rintro e w5 ⟨u, rfl, ho, hb⟩
    go_wp2
    go_ret2
    rw [hv.out.1, hv.out.2]
    exact ⟨_, rfl, by rw [acK_len]; exact own_more ho (by simp; omega), (by repeat (first | exact Below.refl _ _ | assumption | refine Below.drew ?_ | refine below_drewN ?_ _ | refine Below.alloc' ?_ _ | (refine Below.setCell ?_ (by first | omega | (simp; done) | (simp; omega) | exact Below.size (by assumption) | exact Nat.le_trans (Below.size (by assumption)) (by simp)) _) | (refine Below.via' ?_ (by assumption)) | (refine Below.alloc ?_ (by first | omega | (simp; done) | (simp; omega) | exact Below.size (by assumption) | exact Nat.le_trans (Below.size (by assumption)) (by simp)) _) | (refine Below.via ?_ (by assumption) (by first | omega | (simp; done) | (simp; omega) | exact Below.size (by assumption) | exact Nat.le_trans (Below.size (by assumption)) (by simp)))))⟩
  · have hlt : ((A.length : Int) == (B.length : Int)) = false := by rw [beq_eq_false_iff_ne]; omega
    have hne : ((A.length : Int) != (B.length : Int)) = true := by show (!((A.length : Int) == (B.length : Int))) = true; rw [hlt]; rfl
    have hv := Lib.hid (ac_no1 hl)
    go_enter Try.func58, Try.ntmps58
    go_wp2
    go_ret2
    rw [hv.out, ac_no hv.out]
    exact ⟨_, rfl, World.ownsRow_nil _ _ _ _, Below.refl _ _⟩
theorem iAC_y (x y : Option Addr) (c1 c2 : Nat) (A B : List Int) (w : World) (hA : IIn w x A) (hB : IIn w y B) (_ : A.length ≤ c1) (_ : x = none → c1 = 0) :
    Calls Try.prog 58 #[.slice x A.length c1, .slice y B.length c2] w (RetLB (acL A B) (acB A B) w) := iAC_x x y c1 c2 A B w hA hB
end Go.Proofs.Ytnmpigedhpdenab
