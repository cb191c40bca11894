/-
  The walks of chapter 6: a small schema; IsContradictory; the program's and the model's.
-/
import Derived.Test.YtnmpigedhpdenabImM
import Derived.Test.YtnmpigedhpdenabEdC
namespace Go.Proofs.Ytnmpigedhpdenab
open Go.RowKit Go.Shelf
set_option maxRecDepth 100000
attribute [local go_sem] Oper.semAt_some

theorem isSmall_any (x : Option Addr) (c : Nat) (S : List (ByteArray × Int)) (w : World) (hS : SIn w x c S) :
    Calls Try.prog 138 #[.slice x S.length c] w fun e w' => e = .returned (.bool (smS S)) ∧ Below w.heap.size w w' := by
  have hSh := Lib.hid hS
  have hm := hS.1
  clear hS
  go_enter Try.func138, Try.ntmps138
  go_wp2_with fail
  refine (isSch_x _ _ _ _ (hSh.out.below (by exact (by repeat (first | exact Below.refl _ _ | assumption | refine Below.drew ?_ | refine below_drewN ?_ _ | refine Below.alloc' ?_ _ | (refine Below.setCell ?_ (by first | omega | (simp; done) | (simp; omega) | exact Below.size (by assumption) | exact Nat.le_trans (Below.size (by assumption)) (by simp)) _) | (refine Below.via' ?_ (by assumption)) | (refine Below.alloc ?_ (by first | omega | (simp; done) | (simp; omega) | exact Below.size (by assumption) | exact Nat.le_trans (Below.size (by assumption)) (by simp)) _) | (refine Below.via ?_ (by assumption) (by first | omega | (simp; done) | (simp; omega) | exact Below.size (by assumption) | exact Nat.le_trans (Below.size (by assumption)) (by simp)))))))).mono ?_
  rintro e w1 ⟨rfl, hb1⟩
  cases hs : schB S
  · have hv := Lib.hid (smS_no1 hs)
    go_wp2
    go_ret
    exact ⟨ret_bool hv.out.symm, (by repeat (first | exact Below.refl _ _ | assumption | refine Below.drew ?_ | refine below_drewN ?_ _ | refine Below.alloc' ?_ _ | (refine Below.setCell ?_ (by first | omega | (simp; done) | (simp; omega) | exact Below.size (by assumption) | exact Nat.le_trans (Below.size (by assumption)) (by simp)) _) | (refine Below.via' ?_ (by assumption)) | (refine Below.alloc ?_ (by first | omega | (simp; done) | (simp; omega) | exact Below.size (by assumption) | exact Nat.le_trans (Below.size (by assumption)) (by simp)) _) | (refine Below.via ?_ (by assumption) (by first | omega | (simp; done) | (simp; omega) | exact Below.size (by assumption) | exact Nat.le_trans (Below.size (by assumption)) (by simp)))))⟩
  have hsh := Lib.hid hs
  clear hs
  go_wp2_with fail
  refine (countCombinations_any _ _ S _ hsh.out hm (hSh.out.rd.below (by exact (by repeat (first | exact Below.refl _ _ | assumption | refine Below.drew ?_ | refine below_drewN ?_ _ | refine Below.alloc' ?_ _ | (refine Below.setCell ?_ (by first | omega | (simp; done) | (simp; omega) | exact Below.size (by assumption) | exact Nat.le_trans (Below.size (by assumption)) (by simp)) _) | (refine Below.via' ?_ (by assumption)) | (refine Below.alloc ?_ (by first | omega | (simp; done) | (simp; omega) | exact Below.size (by assumption) | exact Nat.le_trans (Below.size (by assumption)) (by simp)) _) | (refine Below.via ?_ (by assumption) (by first | omega | (simp; done) | (simp; omega) | exact Below.size (by assumption) | exact Nat.le_trans (Below.size (by assumption)) (by simp)))))))).mono ?_
  rintro e w2 ⟨rfl, hb2⟩
  by_cases hbig : cnZ S ≤ 100
  · have hv := Lib.hid (smS_yes hsh.out hbig)
    go_wp2
    go_ret
    exact ⟨ret_bool hv.out.symm, (by repeat (first | exact Below.refl _ _ | assumption | refine Below.drew ?_ | refine below_drewN ?_ _ | refine Below.alloc' ?_ _ | (refine Below.setCell ?_ (by first | omega | (simp; done) | (simp; omega) | exact Below.size (by assumption) | exact Nat.le_trans (Below.size (by assumption)) (by simp)) _) | (refine Below.via' ?_ (by assumption)) | (refine Below.alloc ?_ (by first | omega | (simp; done) | (simp; omega) | exact Below.size (by assumption) | exact Nat.le_trans (Below.size (by assumption)) (by simp)) _) | (refine Below.via ?_ (by assumption) (by first | omega | (simp; done) | (simp; omega) | exact Below.size (by assumption) | exact Nat.le_trans (Below.size (by assumption)) (by simp)))))⟩
  · have hv := Lib.hid (smS_no2 hbig)
    go_wp2
    go_ret
    exact ⟨ret_bool ((decide_eq_false (by omega)).trans hv.out.symm), (by repeat (first | exact Below.refl _ _ | assumption | refine Below.drew ?_ | refine below_drewN ?_ _ | refine Below.alloc' ?_ _ | (refine Below.setCell ?_ (by first | omega | (simp; done) | (simp; omega) | exact Below.size (by assumption) | exact Nat.le_trans (Below.size (by assumption)) (by simp)) _) | (refine Below.via' ?_ (by assumption)) | (refine Below.alloc ?_ (by first | omega | (simp; done) | (simp; omega) | exact Below.size (by assumption) | exact Nat.le_trans (Below.size (by assumption)) (by simp)) _) | (refine Below.via ?_ (by assumption) (by first | omega | (simp; done) | (simp; omega) | exact Below.size (by assumption) | exact Nat.le_trans (Below.size (by assumption)) (by simp)))))⟩
theorem eSmall_any (x y : Option Addr) (c1 c2 : Nat) (S : List (ByteArray × Int)) (Q : List PR) (w : World) (hS : SIn w x c1 S) (hQ : EIn w y Q) :
    Calls Try.prog 143 #[.slice x S.length c1, .slice y Q.length c2] w fun e w' => e = .returned (.bool (smB S (eM Q))) ∧ Below w.heap.size w w' := by
  have hSh := Lib.hid hS
  have hQh := Lib.hid hQ
  have hm := hS.1
  clear hS hQ
  go_enter Try.func143, Try.ntmps143
  go_wp2_with fail
  refine (eList_any _ _ _ _ S Q _ (hSh.out.below (by exact (by repeat (first | exact Below.refl _ _ | assumption | refine Below.drew ?_ | refine below_drewN ?_ _ | refine Below.alloc' ?_ _ | (refine Below.setCell ?_ (by first | omega | (simp; done) | (simp; omega) | exact Below.size (by assumption) | exact Nat.le_trans (Below.size (by assumption)) (by simp)) _) | (refine Below.via' ?_ (by assumption)) | (refine Below.alloc ?_ (by first | omega | (simp; done) | (simp; omega) | exact Below.size (by assumption) | exact Nat.le_trans (Below.size (by assumption)) (by simp)) _) | (refine Below.via ?_ (by assumption) (by first | omega | (simp; done) | (simp; omega) | exact Below.size (by assumption) | exact Nat.le_trans (Below.size (by assumption)) (by simp))))))) (hQh.out.below (by exact (by repeat (first | exact Below.refl _ _ | assumption | refine Below.drew ?_ | refine below_drewN ?_ _ | refine Below.alloc' ?_ _ | (refine Below.setCell ?_ (by first | omega | (simp; done) | (simp; omega) | exact Below.size (by assumption) | exact Nat.le_trans (Below.size (by assumption)) (by simp)) _) | (refine Below.via' ?_ (by assumption)) | (refine Below.alloc ?_ (by first | omega | (simp; done) | (simp; omega) | exact Below.size (by assumption) | exact Nat.le_trans (Below.size (by assumption)) (by simp)) _) | (refine Below.via ?_ (by assumption) (by first | omega | (simp; done) | (simp; omega) | exact Below.size (by assumption) | exact Nat.le_trans (Below.size (by assumption)) (by simp)))))))).mono ?_
  rintro e w1 ⟨rfl, hb1⟩
  cases he : elB S (eM Q)
  · have hv := Lib.hid (sm_no1 he)
    go_wp2
    go_ret
    exact ⟨ret_bool hv.out.symm, (by repeat (first | exact Below.refl _ _ | assumption | refine Below.drew ?_ | refine below_drewN ?_ _ | refine Below.alloc' ?_ _ | (refine Below.setCell ?_ (by first | omega | (simp; done) | (simp; omega) | exact Below.size (by assumption) | exact Nat.le_trans (Below.size (by assumption)) (by simp)) _) | (refine Below.via' ?_ (by assumption)) | (refine Below.alloc ?_ (by first | omega | (simp; done) | (simp; omega) | exact Below.size (by assumption) | exact Nat.le_trans (Below.size (by assumption)) (by simp)) _) | (refine Below.via ?_ (by assumption) (by first | omega | (simp; done) | (simp; omega) | exact Below.size (by assumption) | exact Nat.le_trans (Below.size (by assumption)) (by simp)))))⟩
  have heh := Lib.hid he
  have hsh := Lib.hid (el_get he).1
  clear he
  go_wp2_with fail
  refine (sCount_any _ _ S _ hsh.out hm (hSh.out.rd.below (by exact (by repeat (first | exact Below.refl _ _ | assumption | refine Below.drew ?_ | refine below_drewN ?_ _ | refine Below.alloc' ?_ _ | (refine Below.setCell ?_ (by first | omega | (simp; done) | (simp; omega) | exact Below.size (by assumption) | exact Nat.le_trans (Below.size (by assumption)) (by simp)) _) | (refine Below.via' ?_ (by assumption)) | (refine Below.alloc ?_ (by first | omega | (simp; done) | (simp; omega) | exact Below.size (by assumption) | exact Nat.le_trans (Below.size (by assumption)) (by simp)) _) | (refine Below.via ?_ (by assumption) (by first | omega | (simp; done) | (simp; omega) | exact Below.size (by assumption) | exact Nat.le_trans (Below.size (by assumption)) (by simp)))))))).mono ?_
  rintro e w2 ⟨rfl, hb2⟩
  by_cases hbig : cnZ S ≤ 100
  · have hv := Lib.hid (sm_yes heh.out hbig)
    go_wp2
    go_ret
    exact ⟨ret_bool hv.out.symm, (by repeat (first | exact Below.refl _ _ | assumption | refine Below.drew ?_ | refine below_drewN ?_ _ | refine Below.alloc' ?_ _ | (refine Below.setCell ?_ (by first | omega | (simp; done) | (simp; omega) | exact Below.size (by assumption) | exact Nat.le_trans (Below.size (by assumption)) (by simp)) _) | (refine Below.via' ?_ (by assumption)) | (refine Below.alloc ?_ (by first | omega | (simp; done) | (simp; omega) | exact Below.size (by assumption) | exact Nat.le_trans (Below.size (by assumption)) (by simp)) _) | (refine Below.via ?_ (by assumption) (by first | omega | (simp; done) | (simp; omega) | exact Below.size (by assumption) | exact Nat.le_trans (Below.size (by assumption)) (by simp)))))⟩
  · have hv := Lib.hid (sm_no2 (M := eM Q) hbig)
    go_wp2
    go_ret
    exact ⟨ret_bool ((decide_eq_false (by omega)).trans hv.out.symm), (by repeat (first | exact Below.refl _ _ | assumption | refine Below.drew ?_ | refine below_drewN ?_ _ | refine Below.alloc' ?_ _ | (refine Below.setCell ?_ (by first | omega | (simp; done) | (simp; omega) | exact Below.size (by assumption) | exact Nat.le_trans (Below.size (by assumption)) (by simp)) _) | (refine Below.via' ?_ (by assumption)) | (refine Below.alloc ?_ (by first | omega | (simp; done) | (simp; omega) | exact Below.size (by assumption) | exact Nat.le_trans (Below.size (by assumption)) (by simp)) _) | (refine Below.via ?_ (by assumption) (by first | omega | (simp; done) | (simp; omega) | exact Below.size (by assumption) | exact Nat.le_trans (Below.size (by assumption)) (by simp)))))⟩
/-- Two result variables' boxes. -/
def ResT (t n : Nat) (v : Value) (b : Bool) (W : World) : Prop := Boxed W n t v ∧ Boxed W (n + 1) 4 (.bool b)
theorem resT_new (t : Nat) (z : Value) (w : World) : ResT t w.heap.size z false ((w.alloc (.cells #[z] t)).alloc (.cells #[.bool false] 4)) := by
  refine ⟨(Boxed.new w t _).alloc _, ?_⟩
  have := Boxed.new (w.alloc (.cells #[z] t)) 4 (.bool false)
  rwa [World.size_alloc] at this
theorem ResT.below {t n : Nat} {v : Value} {b : Bool} {w W : World} (h : ResT t n v b w) (hb : Below w.heap.size w W) : ResT t n v b W := ⟨(hb.block _ h.1.lt).trans h.1, (hb.block _ h.2.lt).trans h.2⟩
theorem ResT.set {t n : Nat} {v v0 : Value} {b b0 : Bool} {W : World} (h : ResT t n v0 b0 W) : ResT t n v b ((W.setCell ⟨n, 0, none⟩ v).setCell ⟨n + 1, 0, none⟩ (.bool b)) :=
  ⟨(h.1.set v).other (by omega) _, (h.2.other (by omega) v).set (.bool b)⟩
theorem ResT.put {t n l : Nat} {v : Value} {b : Bool} {W : World} {o : Obj} (h : ResT t n v b W) (o' : Obj) (hl : W.heap[l]? = some o) (ho : o.isCells = false) : ResT t n v b (W.putObj l o') := by
  have hne : ∀ k c t z, W.heap[k]? = some (.cells c t z) → k ≠ l := by
    rintro k c t z hk rfl
    rw [hk] at hl
    cases hl
    cases ho
  exact ⟨(World.putObj_heap_other (hne _ _ _ _ h.1)).trans h.1, (World.putObj_heap_other (hne _ _ _ _ h.2)).trans h.2⟩
theorem resT_own {β : Type} (t n : Nat) (f : β → Value) (b : Bool) : Own (fun s W => ResT t n (f s) b W) := fun s A B row h hg hr =>
  ⟨boxed_own n t f s A B row h.1 hg hr, boxed_own (n + 1) 4 (fun _ => .bool b) s A B row h.2 hg hr⟩
end Go.Proofs.Ytnmpigedhpdenab
