import Derived.Test.YtnmpigedhpdenabImD
import Derived.Test.YtnmpigedhpdenabEdS
namespace Go.Proofs.Ytnmpigedhpdenab
open Go.RowKit Go.Shelf
set_option maxRecDepth 100000
attribute [local go_sem] Oper.semAt_some

theorem resT_read_KC {t n : Nat} {v : Value} {b : Bool} {W : World} (h : ResT t n v b W) (tmps : Array Value) (h4 : tmps[8]? = some (.pointer (some ⟨n, 0, none⟩))) (h5 : tmps[8 + 1]? = some (.pointer (some ⟨n + 1, 0, none⟩))) :
    (results Try.f62 tmps).run Try.prog W = .ok (.tuple #[v, .bool b]) W := by
  have d1 := h.1.cell
  have d2 := h.2.cell
  simp [results, Try.results62, h4, h5, loadVar, go_sem, d1, d2]
theorem resT_read_CO {t n : Nat} {v : Value} {b : Bool} {W : World} (h : ResT t n v b W) (tmps : Array Value) (h4 : tmps[8]? = some (.pointer (some ⟨n, 0, none⟩))) (h5 : tmps[8 + 1]? = some (.pointer (some ⟨n + 1, 0, none⟩))) :
    (results Try.f65 tmps).run Try.prog W = .ok (.tuple #[v, .bool b]) W := by
  have d1 := h.1.cell
  have d2 := h.2.cell
  simp [results, Try.results65, h4, h5, loadVar, go_sem, d1, d2]
set_option maxHeartbeats 2000000 in
theorem iKC_no (x y f z : Option Addr) (c1 c2 c3 c4 : Nat) (S : List (ByteArray × Int)) (Q : List PR) (F V : List Int) (w : World) (hno : cgG S (eM Q) F V = false) (hS : SIn w x c1 S) (hQ : EIn w y Q) (hF : IIn w f F) (hV : IIn w z V) :
    Calls Try.prog 62 #[.slice x S.length c1, .slice y Q.length c2, .slice f F.length c3, .slice z V.length c4] w fun e w' => e = .returned (.tuple #[(.bool false), .bool false]) ∧ Below w.heap.size w w' := by
  have hSh := Lib.hid hS
  have hQh := Lib.hid hQ
  have hFh := Lib.hid hF
  have hVh := Lib.hid hV
  have hm := hS.1
  have hnh := Lib.hid hno
  have hr := Lib.hid (resT_new 4 (.bool false) w)
  clear hS hQ hF hV hno
  go_enter Try.func62, Try.ntmps62
  go_wp2_with fail
  refine (isSmall_any _ _ _ _ (hSh.out.below (by exact (by repeat (first | exact Below.refl _ _ | assumption | refine Below.drew ?_ | refine below_drewN ?_ _ | refine Below.alloc' ?_ _ | (refine Below.setCell ?_ (by first | omega | (simp; done) | (simp; omega) | exact Below.size (by assumption) | exact Nat.le_trans (Below.size (by assumption)) (by simp)) _) | (refine Below.via' ?_ (by assumption)) | (refine Below.alloc ?_ (by first | omega | (simp; done) | (simp; omega) | exact Below.size (by assumption) | exact Nat.le_trans (Below.size (by assumption)) (by simp)) _) | (refine Below.via ?_ (by assumption) (by first | omega | (simp; done) | (simp; omega) | exact Below.size (by assumption) | exact Nat.le_trans (Below.size (by assumption)) (by simp)))))))).mono ?_
  rintro e w1 ⟨rfl, hb1⟩
  cases hs : smS S
  · skip
    obtain ⟨r1, r2⟩ := (hr.out.below hb1)
    have c1 := r1.cell
    have f1 := r1.frozen
    have c2 := r2.cell
    have f2 := r2.frozen
    have r1h := Lib.hid r1
    have r2h := Lib.hid r2
    clear r1 r2
    go_wp2
    refine bodyPost_ret (resT_read_KC (ResT.set ⟨r1h.out, r2h.out⟩) _ rfl rfl) rfl ?_
    exact ⟨rfl, resB_to (by exact (by repeat (first | exact Below.refl _ _ | assumption | refine Below.drew ?_ | refine below_drewN ?_ _ | refine Below.alloc' ?_ _ | (refine Below.setCell ?_ (by first | omega | (simp; done) | (simp; omega) | exact Below.size (by assumption) | exact Nat.le_trans (Below.size (by assumption)) (by simp)) _) | (refine Below.via' ?_ (by assumption)) | (refine Below.alloc ?_ (by first | omega | (simp; done) | (simp; omega) | exact Below.size (by assumption) | exact Nat.le_trans (Below.size (by assumption)) (by simp)) _) | (refine Below.via ?_ (by assumption) (by first | omega | (simp; done) | (simp; omega) | exact Below.size (by assumption) | exact Nat.le_trans (Below.size (by assumption)) (by simp)))))) (Nat.le_refl _)⟩
  have hsh := Lib.hid hs
  have hsc := Lib.hid (smS_get hs).1
  clear hs
  have hr2 := Lib.hid (hr.out.below hb1)
  have hB1 : Below w.heap.size w w1 := (by repeat (first | exact Below.refl _ _ | assumption | refine Below.drew ?_ | refine below_drewN ?_ _ | refine Below.alloc' ?_ _ | (refine Below.setCell ?_ (by first | omega | (simp; done) | (simp; omega) | exact Below.size (by assumption) | exact Nat.le_trans (Below.size (by assumption)) (by simp)) _) | (refine Below.via' ?_ (by assumption)) | (refine Below.alloc ?_ (by first | omega | (simp; done) | (simp; omega) | exact Below.size (by assumption) | exact Nat.le_trans (Below.size (by assumption)) (by simp)) _) | (refine Below.via ?_ (by assumption) (by first | omega | (simp; done) | (simp; omega) | exact Below.size (by assumption) | exact Nat.le_trans (Below.size (by assumption)) (by simp)))))
  clear hb1
  go_wp2_with fail
  refine (areEditsFor_any _ _ _ _ S Q _ hsc.out hm (hSh.out.rd.below (by exact (by repeat (first | exact Below.refl _ _ | assumption | refine Below.drew ?_ | refine below_drewN ?_ _ | refine Below.alloc' ?_ _ | (refine Below.setCell ?_ (by first | omega | (simp; done) | (simp; omega) | exact Below.size (by assumption) | exact Nat.le_trans (Below.size (by assumption)) (by simp)) _) | (refine Below.via' ?_ (by assumption)) | (refine Below.alloc ?_ (by first | omega | (simp; done) | (simp; omega) | exact Below.size (by assumption) | exact Nat.le_trans (Below.size (by assumption)) (by simp)) _) | (refine Below.via ?_ (by assumption) (by first | omega | (simp; done) | (simp; omega) | exact Below.size (by assumption) | exact Nat.le_trans (Below.size (by assumption)) (by simp))))))) (hQh.out.below (by exact (by repeat (first | exact Below.refl _ _ | assumption | refine Below.drew ?_ | refine below_drewN ?_ _ | refine Below.alloc' ?_ _ | (refine Below.setCell ?_ (by first | omega | (simp; done) | (simp; omega) | exact Below.size (by assumption) | exact Nat.le_trans (Below.size (by assumption)) (by simp)) _) | (refine Below.via' ?_ (by assumption)) | (refine Below.alloc ?_ (by first | omega | (simp; done) | (simp; omega) | exact Below.size (by assumption) | exact Nat.le_trans (Below.size (by assumption)) (by simp)) _) | (refine Below.via ?_ (by assumption) (by first | omega | (simp; done) | (simp; omega) | exact Below.size (by assumption) | exact Nat.le_trans (Below.size (by assumption)) (by simp)))))))).mono ?_
  rintro e w2 ⟨rfl, hb2⟩
  have hr3 := Lib.hid (hr2.out.below hb2)
  have hB2 : Below w.heap.size w w2 := (by repeat (first | exact Below.refl _ _ | assumption | refine Below.drew ?_ | refine below_drewN ?_ _ | refine Below.alloc' ?_ _ | (refine Below.setCell ?_ (by first | omega | (simp; done) | (simp; omega) | exact Below.size (by assumption) | exact Nat.le_trans (Below.size (by assumption)) (by simp)) _) | (refine Below.via' ?_ (by assumption)) | (refine Below.alloc ?_ (by first | omega | (simp; done) | (simp; omega) | exact Below.size (by assumption) | exact Nat.le_trans (Below.size (by assumption)) (by simp)) _) | (refine Below.via ?_ (by assumption) (by first | omega | (simp; done) | (simp; omega) | exact Below.size (by assumption) | exact Nat.le_trans (Below.size (by assumption)) (by simp)))))
  clear hb2 hB1
  cases he : elB S (eM Q)
  · skip
    obtain ⟨r1, r2⟩ := hr3.out
    have c1 := r1.cell
    have f1 := r1.frozen
    have c2 := r2.cell
    have f2 := r2.frozen
    have r1h := Lib.hid r1
    have r2h := Lib.hid r2
    clear r1 r2
    go_wp2
    refine bodyPost_ret (resT_read_KC (ResT.set ⟨r1h.out, r2h.out⟩) _ rfl rfl) rfl ?_
    exact ⟨rfl, resB_to hB2 (Nat.le_refl _)⟩
  have hsm := Lib.hid (sm_both hsh.out he)
  clear he
  go_wp2_with fail
  refine (areVariablesOf_any _ _ _ _ S F _ hm (hFh.out.below (by exact (by repeat (first | exact Below.refl _ _ | assumption | refine Below.drew ?_ | refine below_drewN ?_ _ | refine Below.alloc' ?_ _ | (refine Below.setCell ?_ (by first | omega | (simp; done) | (simp; omega) | exact Below.size (by assumption) | exact Nat.le_trans (Below.size (by assumption)) (by simp)) _) | (refine Below.via' ?_ (by assumption)) | (refine Below.alloc ?_ (by first | omega | (simp; done) | (simp; omega) | exact Below.size (by assumption) | exact Nat.le_trans (Below.size (by assumption)) (by simp)) _) | (refine Below.via ?_ (by assumption) (by first | omega | (simp; done) | (simp; omega) | exact Below.size (by assumption) | exact Nat.le_trans (Below.size (by assumption)) (by simp)))))))).mono ?_
  rintro e w3 ⟨rfl, rfl⟩
  cases hv : rsB S F
  · skip
    obtain ⟨r1, r2⟩ := hr3.out
    have c1 := r1.cell
    have f1 := r1.frozen
    have c2 := r2.cell
    have f2 := r2.frozen
    have r1h := Lib.hid r1
    have r2h := Lib.hid r2
    clear r1 r2
    go_wp2
    refine bodyPost_ret (resT_read_KC (ResT.set ⟨r1h.out, r2h.out⟩) _ rfl rfl) rfl ?_
    exact ⟨rfl, resB_to hB2 (Nat.le_refl _)⟩
  have hrs := Lib.hid hv
  clear hv
  go_wp2_with fail
  refine (areValues_any _ _ _ _ S V _ hsc.out hm (hSh.out.rd.below (by exact (by repeat (first | exact Below.refl _ _ | assumption | refine Below.drew ?_ | refine below_drewN ?_ _ | refine Below.alloc' ?_ _ | (refine Below.setCell ?_ (by first | omega | (simp; done) | (simp; omega) | exact Below.size (by assumption) | exact Nat.le_trans (Below.size (by assumption)) (by simp)) _) | (refine Below.via' ?_ (by assumption)) | (refine Below.alloc ?_ (by first | omega | (simp; done) | (simp; omega) | exact Below.size (by assumption) | exact Nat.le_trans (Below.size (by assumption)) (by simp)) _) | (refine Below.via ?_ (by assumption) (by first | omega | (simp; done) | (simp; omega) | exact Below.size (by assumption) | exact Nat.le_trans (Below.size (by assumption)) (by simp))))))) (hVh.out.below (by exact (by repeat (first | exact Below.refl _ _ | assumption | refine Below.drew ?_ | refine below_drewN ?_ _ | refine Below.alloc' ?_ _ | (refine Below.setCell ?_ (by first | omega | (simp; done) | (simp; omega) | exact Below.size (by assumption) | exact Nat.le_trans (Below.size (by assumption)) (by simp)) _) | (refine Below.via' ?_ (by assumption)) | (refine Below.alloc ?_ (by first | omega | (simp; done) | (simp; omega) | exact Below.size (by assumption) | exact Nat.le_trans (Below.size (by assumption)) (by simp)) _) | (refine Below.via ?_ (by assumption) (by first | omega | (simp; done) | (simp; omega) | exact Below.size (by assumption) | exact Nat.le_trans (Below.size (by assumption)) (by simp)))))))).mono ?_
  rintro e w4 ⟨rfl, hb4⟩
  have hr4 := Lib.hid (hr3.out.below hb4)
  have hB4 : Below w.heap.size w w4 := (by repeat (first | exact Below.refl _ _ | assumption | refine Below.drew ?_ | refine below_drewN ?_ _ | refine Below.alloc' ?_ _ | (refine Below.setCell ?_ (by first | omega | (simp; done) | (simp; omega) | exact Below.size (by assumption) | exact Nat.le_trans (Below.size (by assumption)) (by simp)) _) | (refine Below.via' ?_ (by assumption)) | (refine Below.alloc ?_ (by first | omega | (simp; done) | (simp; omega) | exact Below.size (by assumption) | exact Nat.le_trans (Below.size (by assumption)) (by simp)) _) | (refine Below.via ?_ (by assumption) (by first | omega | (simp; done) | (simp; omega) | exact Below.size (by assumption) | exact Nat.le_trans (Below.size (by assumption)) (by simp)))))
  cases hf : fitB S V
  · skip
    obtain ⟨r1, r2⟩ := hr4.out
    have c1 := r1.cell
    have f1 := r1.frozen
    have c2 := r2.cell
    have f2 := r2.frozen
    have r1h := Lib.hid r1
    have r2h := Lib.hid r2
    clear r1 r2
    go_wp2
    refine bodyPost_ret (resT_read_KC (ResT.set ⟨r1h.out, r2h.out⟩) _ rfl rfl) rfl ?_
    exact ⟨rfl, resB_to hB4 (Nat.le_refl _)⟩
  · have := hnh.out
    rw [cg_yes hsm.out hrs.out hf] at this
    cases this
set_option maxHeartbeats 2000000 in
theorem iCO_no (x y f z : Option Addr) (c1 c2 c3 c4 : Nat) (S : List (ByteArray × Int)) (Q : List PR) (F V : List Int) (w : World) (hno : cgG S (eM Q) F V = false) (hS : SIn w x c1 S) (hQ : EIn w y Q) (hF : IIn w f F) (hV : IIn w z V) :
    Calls Try.prog 65 #[.slice x S.length c1, .slice y Q.length c2, .slice f F.length c3, .slice z V.length c4] w fun e w' => e = .returned (.tuple #[(.slice none 0 0), .bool false]) ∧ Below w.heap.size w w' := by
  have hSh := Lib.hid hS
  have hQh := Lib.hid hQ
  have hFh := Lib.hid hF
  have hVh := Lib.hid hV
  have hm := hS.1
  have hnh := Lib.hid hno
  have hr := Lib.hid (resT_new 23 (.slice none 0 0) w)
  clear hS hQ hF hV hno
  go_enter Try.func65, Try.ntmps65
  go_wp2_with fail
  refine (isSmall_any _ _ _ _ (hSh.out.below (by exact (by repeat (first | exact Below.refl _ _ | assumption | refine Below.drew ?_ | refine below_drewN ?_ _ | refine Below.alloc' ?_ _ | (refine Below.setCell ?_ (by first | omega | (simp; done) | (simp; omega) | exact Below.size (by assumption) | exact Nat.le_trans (Below.size (by assumption)) (by simp)) _) | (refine Below.via' ?_ (by assumption)) | (refine Below.alloc ?_ (by first | omega | (simp; done) | (simp; omega) | exact Below.size (by assumption) | exact Nat.le_trans (Below.size (by assumption)) (by simp)) _) | (refine Below.via ?_ (by assumption) (by first | omega | (simp; done) | (simp; omega) | exact Below.size (by assumption) | exact Nat.le_trans (Below.size (by assumption)) (by simp)))))))).mono ?_
  rintro e w1 ⟨rfl, hb1⟩
  cases hs : smS S
  · skip
    obtain ⟨r1, r2⟩ := (hr.out.below hb1)
    have c1 := r1.cell
    have f1 := r1.frozen
    have c2 := r2.cell
    have f2 := r2.frozen
    have r1h := Lib.hid r1
    have r2h := Lib.hid r2
    clear r1 r2
    go_wp2
    refine bodyPost_ret (resT_read_CO (ResT.set ⟨r1h.out, r2h.out⟩) _ rfl rfl) rfl ?_
    exact ⟨rfl, resB_to (by exact (by repeat (first | exact Below.refl _ _ | assumption | refine Below.drew ?_ | refine below_drewN ?_ _ | refine Below.alloc' ?_ _ | (refine Below.setCell ?_ (by first | omega | (simp; done) | (simp; omega) | exact Below.size (by assumption) | exact Nat.le_trans (Below.size (by assumption)) (by simp)) _) | (refine Below.via' ?_ (by assumption)) | (refine Below.alloc ?_ (by first | omega | (simp; done) | (simp; omega) | exact Below.size (by assumption) | exact Nat.le_trans (Below.size (by assumption)) (by simp)) _) | (refine Below.via ?_ (by assumption) (by first | omega | (simp; done) | (simp; omega) | exact Below.size (by assumption) | exact Nat.le_trans (Below.size (by assumption)) (by simp)))))) (Nat.le_refl _)⟩
  have hsh := Lib.hid hs
  have hsc := Lib.hid (smS_get hs).1
  clear hs
  have hr2 := Lib.hid (hr.out.below hb1)
  have hB1 : Below w.heap.size w w1 := (by repeat (first | exact Below.refl _ _ | assumption | refine Below.drew ?_ | refine below_drewN ?_ _ | refine Below.alloc' ?_ _ | (refine Below.setCell ?_ (by first | omega | (simp; done) | (simp; omega) | exact Below.size (by assumption) | exact Nat.le_trans (Below.size (by assumption)) (by simp)) _) | (refine Below.via' ?_ (by assumption)) | (refine Below.alloc ?_ (by first | omega | (simp; done) | (simp; omega) | exact Below.size (by assumption) | exact Nat.le_trans (Below.size (by assumption)) (by simp)) _) | (refine Below.via ?_ (by assumption) (by first | omega | (simp; done) | (simp; omega) | exact Below.size (by assumption) | exact Nat.le_trans (Below.size (by assumption)) (by simp)))))
  clear hb1
  go_wp2_with fail
  refine (areEditsFor_any _ _ _ _ S Q _ hsc.out hm (hSh.out.rd.below (by exact (by repeat (first | exact Below.refl _ _ | assumption | refine Below.drew ?_ | refine below_drewN ?_ _ | refine Below.alloc' ?_ _ | (refine Below.setCell ?_ (by first | omega | (simp; done) | (simp; omega) | exact Below.size (by assumption) | exact Nat.le_trans (Below.size (by assumption)) (by simp)) _) | (refine Below.via' ?_ (by assumption)) | (refine Below.alloc ?_ (by first | omega | (simp; done) | (simp; omega) | exact Below.size (by assumption) | exact Nat.le_trans (Below.size (by assumption)) (by simp)) _) | (refine Below.via ?_ (by assumption) (by first | omega | (simp; done) | (simp; omega) | exact Below.size (by assumption) | exact Nat.le_trans (Below.size (by assumption)) (by simp))))))) (hQh.out.below (by exact (by repeat (first | exact Below.refl _ _ | assumption | refine Below.drew ?_ | refine below_drewN ?_ _ | refine Below.alloc' ?_ _ | (refine Below.setCell ?_ (by first | omega | (simp; done) | (simp; omega) | exact Below.size (by assumption) | exact Nat.le_trans (Below.size (by assumption)) (by simp)) _) | (refine Below.via' ?_ (by assumption)) | (refine Below.alloc ?_ (by first | omega | (simp; done) | (simp; omega) | exact Below.size (by assumption) | exact Nat.le_trans (Below.size (by assumption)) (by simp)) _) | (refine Below.via ?_ (by assumption) (by first | omega | (simp; done) | (simp; omega) | exact Below.size (by assumption) | exact Nat.le_trans (Below.size (by assumption)) (by simp)))))))).mono ?_
  rintro e w2 ⟨rfl, hb2⟩
  have hr3 := Lib.hid (hr2.out.below hb2)
  have hB2 : Below w.heap.size w w2 := (by repeat (first | exact Below.refl _ _ | assumption | refine Below.drew ?_ | refine below_drewN ?_ _ | refine Below.alloc' ?_ _ | (refine Below.setCell ?_ (by first | omega | (simp; done) | (simp; omega) | exact Below.size (by assumption) | exact Nat.le_trans (Below.size (by assumption)) (by simp)) _) | (refine Below.via' ?_ (by assumption)) | (refine Below.alloc ?_ (by first | omega | (simp; done) | (simp; omega) | exact Below.size (by assumption) | exact Nat.le_trans (Below.size (by assumption)) (by simp)) _) | (refine Below.via ?_ (by assumption) (by first | omega | (simp; done) | (simp; omega) | exact Below.size (by assumption) | exact Nat.le_trans (Below.size (by assumption)) (by simp)))))
  clear hb2 hB1
  cases he : elB S (eM Q)
  · skip
    obtain ⟨r1, r2⟩ := hr3.out
    have c1 := r1.cell
    have f1 := r1.frozen
    have c2 := r2.cell
    have f2 := r2.frozen
    have r1h := Lib.hid r1
    have r2h := Lib.hid r2
    clear r1 r2
    go_wp2
    refine bodyPost_ret (resT_read_CO (ResT.set ⟨r1h.out, r2h.out⟩) _ rfl rfl) rfl ?_
    exact ⟨rfl, resB_to hB2 (Nat.le_refl _)⟩
  have hsm := Lib.hid (sm_both hsh.out he)
  clear he
  go_wp2_with fail
  refine (areVariablesOf_any _ _ _ _ S F _ hm (hFh.out.below (by exact (by repeat (first | exact Below.refl _ _ | assumption | refine Below.drew ?_ | refine below_drewN ?_ _ | refine Below.alloc' ?_ _ | (refine Below.setCell ?_ (by first | omega | (simp; done) | (simp; omega) | exact Below.size (by assumption) | exact Nat.le_trans (Below.size (by assumption)) (by simp)) _) | (refine Below.via' ?_ (by assumption)) | (refine Below.alloc ?_ (by first | omega | (simp; done) | (simp; omega) | exact Below.size (by assumption) | exact Nat.le_trans (Below.size (by assumption)) (by simp)) _) | (refine Below.via ?_ (by assumption) (by first | omega | (simp; done) | (simp; omega) | exact Below.size (by assumption) | exact Nat.le_trans (Below.size (by assumption)) (by simp)))))))).mono ?_
  rintro e w3 ⟨rfl, rfl⟩
  cases hv : rsB S F
  · skip
    obtain ⟨r1, r2⟩ := hr3.out
    have c1 := r1.cell
    have f1 := r1.frozen
    have c2 := r2.cell
    have f2 := r2.frozen
    have r1h := Lib.hid r1
    have r2h := Lib.hid r2
    clear r1 r2
    go_wp2
    refine bodyPost_ret (resT_read_CO (ResT.set ⟨r1h.out, r2h.out⟩) _ rfl rfl) rfl ?_
    exact ⟨rfl, resB_to hB2 (Nat.le_refl _)⟩
  have hrs := Lib.hid hv
  clear hv
  go_wp2_with fail
  refine (areValues_any _ _ _ _ S V _ hsc.out hm (hSh.out.rd.below (by exact (by repeat (first | exact Below.refl _ _ | assumption | refine Below.drew ?_ | refine below_drewN ?_ _ | refine Below.alloc' ?_ _ | (refine Below.setCell ?_ (by first | omega | (simp; done) | (simp; omega) | exact Below.size (by assumption) | exact Nat.le_trans (Below.size (by assumption)) (by simp)) _) | (refine Below.via' ?_ (by assumption)) | (refine Below.alloc ?_ (by first | omega | (simp; done) | (simp; omega) | exact Below.size (by assumption) | exact Nat.le_trans (Below.size (by assumption)) (by simp)) _) | (refine Below.via ?_ (by assumption) (by first | omega | (simp; done) | (simp; omega) | exact Below.size (by assumption) | exact Nat.le_trans (Below.size (by assumption)) (by simp))))))) (hVh.out.below (by exact (by repeat (first | exact Below.refl _ _ | assumption | refine Below.drew ?_ | refine below_drewN ?_ _ | refine Below.alloc' ?_ _ | (refine Below.setCell ?_ (by first | omega | (simp; done) | (simp; omega) | exact Below.size (by assumption) | exact Nat.le_trans (Below.size (by assumption)) (by simp)) _) | (refine Below.via' ?_ (by assumption)) | (refine Below.alloc ?_ (by first | omega | (simp; done) | (simp; omega) | exact Below.size (by assumption) | exact Nat.le_trans (Below.size (by assumption)) (by simp)) _) | (refine Below.via ?_ (by assumption) (by first | omega | (simp; done) | (simp; omega) | exact Below.size (by assumption) | exact Nat.le_trans (Below.size (by assumption)) (by simp)))))))).mono ?_
  rintro e w4 ⟨rfl, hb4⟩
  have hr4 := Lib.hid (hr3.out.below hb4)
  have hB4 : Below w.heap.size w w4 := (by repeat (first | exact Below.refl _ _ | assumption | refine Below.drew ?_ | refine below_drewN ?_ _ | refine Below.alloc' ?_ _ | (refine Below.setCell ?_ (by first | omega | (simp; done) | (simp; omega) | exact Below.size (by assumption) | exact Nat.le_trans (Below.size (by assumption)) (by simp)) _) | (refine Below.via' ?_ (by assumption)) | (refine Below.alloc ?_ (by first | omega | (simp; done) | (simp; omega) | exact Below.size (by assumption) | exact Nat.le_trans (Below.size (by assumption)) (by simp)) _) | (refine Below.via ?_ (by assumption) (by first | omega | (simp; done) | (simp; omega) | exact Below.size (by assumption) | exact Nat.le_trans (Below.size (by assumption)) (by simp)))))
  cases hf : fitB S V
  · skip
    obtain ⟨r1, r2⟩ := hr4.out
    have c1 := r1.cell
    have f1 := r1.frozen
    have c2 := r2.cell
    have f2 := r2.frozen
    have r1h := Lib.hid r1
    have r2h := Lib.hid r2
    clear r1 r2
    go_wp2
    refine bodyPost_ret (resT_read_CO (ResT.set ⟨r1h.out, r2h.out⟩) _ rfl rfl) rfl ?_
    exact ⟨rfl, resB_to hB4 (Nat.le_refl _)⟩
  · have := hnh.out
    rw [cg_yes hsm.out hrs.out hf] at this
    cases this
set_option maxHeartbeats 4000000 in
theorem iKC_yes (x y f z : Option Addr) (c1 c2 c3 c4 : Nat) (S : List (ByteArray × Int)) (Q : List PR) (F V : List Int) (w : World) (hok : cgG S (eM Q) F V = true) (hS : SIn w x c1 S) (hQ : EIn w y Q) (hF : IIn w f F) (hV : IIn w z V) :
    Calls Try.prog 62 #[.slice x S.length c1, .slice y Q.length c2, .slice f F.length c3, .slice z V.length c4] w fun e w' => e = .returned (.tuple #[.bool (ccB S (eM Q) F V), .bool true]) ∧ Below w.heap.size w w' := by
  have hSh := Lib.hid hS
  have hQh := Lib.hid hQ
  have hFh := Lib.hid hF
  have hVh := Lib.hid hV
  have hm := hS.1
  obtain ⟨g1, g2, g3⟩ := cg_get hok
  obtain ⟨g4, g5⟩ := sm_get g1
  have heh := Lib.hid g4
  have hsh := Lib.hid (el_get g4).1
  have hss := Lib.hid (smS_yes (el_get g4).1 g5)
  have hrs := Lib.hid g2
  have hfi := Lib.hid g3
  obtain ⟨n1, n2⟩ := cn_all hsh.out
  obtain ⟨N, hN⟩ : ∃ N : Nat, cnZ S = (N : Int) := ⟨(cnZ S).toNat, by omega⟩
  have hN2 : N ≤ 262144 := by omega
  have hNh := Lib.hid hN
  have hokh := Lib.hid hok
  have hcn : Hid (coN S (eM Q) F V = ftN (coP S (eM Q) F V) N) := by unfold Hid coN; rw [show (cnZ S).toNat = N by omega]
  have hr := Lib.hid (resT_new 4 (.bool false) w)
  clear hS hQ hF hV hok hN g1 g2 g3 g4 g5 n1 n2
  refine (callsIn_wide (n := 5)).1 ?_
  refine callsIn_of_wp_marks Try.func62 rfl trivial ?_ rfl
  simp only [Try.ntmps62, List.size_toArray, List.length_cons, List.length_nil, Nat.reduceAdd, Nat.reduceSub, Array.replicate_succ, Array.replicate_zero, List.push_toArray, List.append_toArray, List.nil_append, List.cons_append]
  refine wpIn_wide.2 ?_
  go_wp2_with fail
  refine (isSmall_any _ _ _ _ (hSh.out.below (by exact (by repeat (first | exact Below.refl _ _ | assumption | refine Below.drew ?_ | refine below_drewN ?_ _ | refine Below.alloc' ?_ _ | (refine Below.setCell ?_ (by first | omega | (simp; done) | (simp; omega) | exact Below.size (by assumption) | exact Nat.le_trans (Below.size (by assumption)) (by simp)) _) | (refine Below.via' ?_ (by assumption)) | (refine Below.alloc ?_ (by first | omega | (simp; done) | (simp; omega) | exact Below.size (by assumption) | exact Nat.le_trans (Below.size (by assumption)) (by simp)) _) | (refine Below.via ?_ (by assumption) (by first | omega | (simp; done) | (simp; omega) | exact Below.size (by assumption) | exact Nat.le_trans (Below.size (by assumption)) (by simp)))))))).mono ?_
  rintro e w1 ⟨rfl, hb1⟩
  rw [hss.out]
  have hr2 := Lib.hid (hr.out.below hb1)
  have hB1 : Below w.heap.size w w1 := (by repeat (first | exact Below.refl _ _ | assumption | refine Below.drew ?_ | refine below_drewN ?_ _ | refine Below.alloc' ?_ _ | (refine Below.setCell ?_ (by first | omega | (simp; done) | (simp; omega) | exact Below.size (by assumption) | exact Nat.le_trans (Below.size (by assumption)) (by simp)) _) | (refine Below.via' ?_ (by assumption)) | (refine Below.alloc ?_ (by first | omega | (simp; done) | (simp; omega) | exact Below.size (by assumption) | exact Nat.le_trans (Below.size (by assumption)) (by simp)) _) | (refine Below.via ?_ (by assumption) (by first | omega | (simp; done) | (simp; omega) | exact Below.size (by assumption) | exact Nat.le_trans (Below.size (by assumption)) (by simp)))))
  clear hb1
  go_wp2_with fail
  refine (areEditsFor_any _ _ _ _ S Q _ hsh.out hm (hSh.out.rd.below (by exact (by repeat (first | exact Below.refl _ _ | assumption | refine Below.drew ?_ | refine below_drewN ?_ _ | refine Below.alloc' ?_ _ | (refine Below.setCell ?_ (by first | omega | (simp; done) | (simp; omega) | exact Below.size (by assumption) | exact Nat.le_trans (Below.size (by assumption)) (by simp)) _) | (refine Below.via' ?_ (by assumption)) | (refine Below.alloc ?_ (by first | omega | (simp; done) | (simp; omega) | exact Below.size (by assumption) | exact Nat.le_trans (Below.size (by assumption)) (by simp)) _) | (refine Below.via ?_ (by assumption) (by first | omega | (simp; done) | (simp; omega) | exact Below.size (by assumption) | exact Nat.le_trans (Below.size (by assumption)) (by simp))))))) (hQh.out.below (by exact (by repeat (first | exact Below.refl _ _ | assumption | refine Below.drew ?_ | refine below_drewN ?_ _ | refine Below.alloc' ?_ _ | (refine Below.setCell ?_ (by first | omega | (simp; done) | (simp; omega) | exact Below.size (by assumption) | exact Nat.le_trans (Below.size (by assumption)) (by simp)) _) | (refine Below.via' ?_ (by assumption)) | (refine Below.alloc ?_ (by first | omega | (simp; done) | (simp; omega) | exact Below.size (by assumption) | exact Nat.le_trans (Below.size (by assumption)) (by simp)) _) | (refine Below.via ?_ (by assumption) (by first | omega | (simp; done) | (simp; omega) | exact Below.size (by assumption) | exact Nat.le_trans (Below.size (by assumption)) (by simp)))))))).mono ?_
  rintro e w2 ⟨rfl, hb2⟩
  rw [heh.out]
  have hr3 := Lib.hid (hr2.out.below hb2)
  have hB2 : Below w.heap.size w w2 := (by repeat (first | exact Below.refl _ _ | assumption | refine Below.drew ?_ | refine below_drewN ?_ _ | refine Below.alloc' ?_ _ | (refine Below.setCell ?_ (by first | omega | (simp; done) | (simp; omega) | exact Below.size (by assumption) | exact Nat.le_trans (Below.size (by assumption)) (by simp)) _) | (refine Below.via' ?_ (by assumption)) | (refine Below.alloc ?_ (by first | omega | (simp; done) | (simp; omega) | exact Below.size (by assumption) | exact Nat.le_trans (Below.size (by assumption)) (by simp)) _) | (refine Below.via ?_ (by assumption) (by first | omega | (simp; done) | (simp; omega) | exact Below.size (by assumption) | exact Nat.le_trans (Below.size (by assumption)) (by simp)))))
  clear hb2 hB1
  go_wp2_with fail
  refine (areVariablesOf_any _ _ _ _ S F _ hm (hFh.out.below (by exact (by repeat (first | exact Below.refl _ _ | assumption | refine Below.drew ?_ | refine below_drewN ?_ _ | refine Below.alloc' ?_ _ | (refine Below.setCell ?_ (by first | omega | (simp; done) | (simp; omega) | exact Below.size (by assumption) | exact Nat.le_trans (Below.size (by assumption)) (by simp)) _) | (refine Below.via' ?_ (by assumption)) | (refine Below.alloc ?_ (by first | omega | (simp; done) | (simp; omega) | exact Below.size (by assumption) | exact Nat.le_trans (Below.size (by assumption)) (by simp)) _) | (refine Below.via ?_ (by assumption) (by first | omega | (simp; done) | (simp; omega) | exact Below.size (by assumption) | exact Nat.le_trans (Below.size (by assumption)) (by simp)))))))).mono ?_
  rintro e w9 ⟨rfl, rfl⟩
  rw [hrs.out]
  go_wp2_with fail
  refine (areValues_any _ _ _ _ S V _ hsh.out hm (hSh.out.rd.below (by exact (by repeat (first | exact Below.refl _ _ | assumption | refine Below.drew ?_ | refine below_drewN ?_ _ | refine Below.alloc' ?_ _ | (refine Below.setCell ?_ (by first | omega | (simp; done) | (simp; omega) | exact Below.size (by assumption) | exact Nat.le_trans (Below.size (by assumption)) (by simp)) _) | (refine Below.via' ?_ (by assumption)) | (refine Below.alloc ?_ (by first | omega | (simp; done) | (simp; omega) | exact Below.size (by assumption) | exact Nat.le_trans (Below.size (by assumption)) (by simp)) _) | (refine Below.via ?_ (by assumption) (by first | omega | (simp; done) | (simp; omega) | exact Below.size (by assumption) | exact Nat.le_trans (Below.size (by assumption)) (by simp))))))) (hVh.out.below (by exact (by repeat (first | exact Below.refl _ _ | assumption | refine Below.drew ?_ | refine below_drewN ?_ _ | refine Below.alloc' ?_ _ | (refine Below.setCell ?_ (by first | omega | (simp; done) | (simp; omega) | exact Below.size (by assumption) | exact Nat.le_trans (Below.size (by assumption)) (by simp)) _) | (refine Below.via' ?_ (by assumption)) | (refine Below.alloc ?_ (by first | omega | (simp; done) | (simp; omega) | exact Below.size (by assumption) | exact Nat.le_trans (Below.size (by assumption)) (by simp)) _) | (refine Below.via ?_ (by assumption) (by first | omega | (simp; done) | (simp; omega) | exact Below.size (by assumption) | exact Nat.le_trans (Below.size (by assumption)) (by simp)))))))).mono ?_
  rintro e w3 ⟨rfl, hb3⟩
  rw [hfi.out]
  have hr4 := Lib.hid (hr3.out.below hb3)
  have hB3 : Below w.heap.size w w3 := (by repeat (first | exact Below.refl _ _ | assumption | refine Below.drew ?_ | refine below_drewN ?_ _ | refine Below.alloc' ?_ _ | (refine Below.setCell ?_ (by first | omega | (simp; done) | (simp; omega) | exact Below.size (by assumption) | exact Nat.le_trans (Below.size (by assumption)) (by simp)) _) | (refine Below.via' ?_ (by assumption)) | (refine Below.alloc ?_ (by first | omega | (simp; done) | (simp; omega) | exact Below.size (by assumption) | exact Nat.le_trans (Below.size (by assumption)) (by simp)) _) | (refine Below.via ?_ (by assumption) (by first | omega | (simp; done) | (simp; omega) | exact Below.size (by assumption) | exact Nat.le_trans (Below.size (by assumption)) (by simp)))))
  clear hb3 hB2
  go_wp2_with fail
  refine (completions_any _ _ _ _ _ _ _ _ _ _ _ _ _).mono ?_
  rintro e w4 ⟨rfl, rfl⟩
  have bS := (((Boxed.new w3 54 (.slice x S.length c1)).alloc (.cells #[.slice y Q.length c2] 83)).alloc (.cells #[.slice f F.length c3] 23)).alloc (.cells #[.slice z V.length c4] 23)
  have bQ := ((Boxed.new (w3.alloc (.cells #[.slice x S.length c1] 54)) 83 (.slice y Q.length c2)).alloc (.cells #[.slice f F.length c3] 23)).alloc (.cells #[.slice z V.length c4] 23)
  have bF := (Boxed.new ((w3.alloc (.cells #[.slice x S.length c1] 54)).alloc (.cells #[.slice y Q.length c2] 83)) 23 (.slice f F.length c3)).alloc (.cells #[.slice z V.length c4] 23)
  have bV := Boxed.new (((w3.alloc (.cells #[.slice x S.length c1] 54)).alloc (.cells #[.slice y Q.length c2] 83)).alloc (.cells #[.slice f F.length c3] 23)) 23 (.slice z V.length c4)
  simp only [World.size_alloc] at bS bQ bF bV ⊢
  have hB0 : Below w.heap.size w ((((w3.alloc (.cells #[.slice x S.length c1] 54)).alloc (.cells #[.slice y Q.length c2] 83)).alloc (.cells #[.slice f F.length c3] 23)).alloc (.cells #[.slice z V.length c4] 23)) := (by repeat (first | exact Below.refl _ _ | assumption | refine Below.drew ?_ | refine below_drewN ?_ _ | refine Below.alloc' ?_ _ | (refine Below.setCell ?_ (by first | omega | (simp; done) | (simp; omega) | exact Below.size (by assumption) | exact Nat.le_trans (Below.size (by assumption)) (by simp)) _) | (refine Below.via' ?_ (by assumption)) | (refine Below.alloc ?_ (by first | omega | (simp; done) | (simp; omega) | exact Below.size (by assumption) | exact Nat.le_trans (Below.size (by assumption)) (by simp)) _) | (refine Below.via ?_ (by assumption) (by first | omega | (simp; done) | (simp; omega) | exact Below.size (by assumption) | exact Nat.le_trans (Below.size (by assumption)) (by simp)))))
  have hr0 : ResT 4 w.heap.size (.bool false) false ((((w3.alloc (.cells #[.slice x S.length c1] 54)).alloc (.cells #[.slice y Q.length c2] 83)).alloc (.cells #[.slice f F.length c3] 23)).alloc (.cells #[.slice z V.length c4] 23)) := ⟨(((hr4.out.1.alloc _).alloc _).alloc _).alloc _, (((hr4.out.2.alloc _).alloc _).alloc _).alloc _⟩
  have hw3 := hB3.size
  obtain ⟨W0, hW0⟩ : ∃ W0, (((w3.alloc (.cells #[.slice x S.length c1] 54)).alloc (.cells #[.slice y Q.length c2] 83)).alloc (.cells #[.slice f F.length c3] 23)).alloc (.cells #[.slice z V.length c4] 23) = W0 := ⟨_, rfl⟩
  rw [hW0] at bS bQ bF bV hB0 hr0 ⊢
  have hn0 := hB0.size
  have hD0 := hr0.2.lt
  have hit := Lib.hid (co_rows w3.heap.size (w3.heap.size + 1) (w3.heap.size + 1 + 1 + 1) (w3.heap.size + 1 + 1) w.heap.size x y f z c1 c2 c3 c4 S Q F V w W0 hokh.out hSh.out hQh.out hFh.out hVh.out N hNh.out hN2 hB0 hn0 bS bQ bV bF)
  clear hW0 bS bQ bV bF
  go_wp2
  refine (wpIn_wide (n := 5)).1 ?_
  refine range_rows (by omega) (gf := 179) (lb := #[.pointer (some ⟨w3.heap.size, 0, none⟩), .pointer (some ⟨w3.heap.size + 1, 0, none⟩), .pointer (some ⟨w3.heap.size + 1 + 1 + 1, 0, none⟩), .pointer (some ⟨w3.heap.size + 1 + 1, 0, none⟩)]) rfl (enters_of Try.func179 (by kernel_rfl) rfl) rfl
    (fun q : PR => q.v) (fun _ _ => False) (CmR S (eM Q) F V w.heap.size N) (fun ys => ys = [] ∧ ftN (coP S (eM Q) F V) N = none) hit.out (Below.refl _ _)
    (fun _ _ _ h _ => h) (fun h => by obtain ⟨_, _, h⟩ := h; exact h.elim)
    (fun _ X => ResT 4 w.heap.size (.bool false) false X ∧ Below w.heap.size w X)
    (fun _ X => (ResT 4 w.heap.size (.bool true) true X ∧ (coN S (eM Q) F V).isSome = true) ∧ Below w.heap.size w X)
    (((resT_own 4 w.heap.size (fun _ : List PR => .bool false) false).from _).and (ownFrom_below (Nat.le_refl _) (by omega)))
    ((((resT_own 4 w.heap.size (fun _ : List PR => .bool true) true).from _).and (ownFrom_pure _ (fun _ : List PR => (coN S (eM Q) F V).isSome = true))).and (ownFrom_below (Nat.le_refl _) (by omega)))
    ⟨hr0, hB0⟩
    (fun _ q a' _ => a' = { tmps := #[.slice x S.length c1, .slice y Q.length c2, .slice f F.length c3, .slice z V.length c4, undef, undef, undef, undef, .pointer (some ⟨w.heap.size, 0, none⟩), .pointer (some ⟨w.heap.size + 1, 0, none⟩), .slice x S.length c1, .bool true, .bool false, .bool false, .slice x S.length c1, .slice y Q.length c2, .bool true, .bool false, .bool false, .bool false, .slice x S.length c1, .slice f F.length c3, .bool true, .bool false, .bool false, .bool false, .slice x S.length c1, .slice z V.length c4, .bool true, .bool false, .bool false, .slice x S.length c1, .slice y Q.length c2, .slice f F.length c3, .slice z V.length c4, .func (.func 179) #[] #[.pointer (some ⟨w3.heap.size, 0, none⟩), .pointer (some ⟨w3.heap.size + 1, 0, none⟩), .pointer (some ⟨w3.heap.size + 1 + 1 + 1, 0, none⟩), .pointer (some ⟨w3.heap.size + 1 + 1, 0, none⟩)], q.v], defers := [] } ∧ (coN S (eM Q) F V).isSome = true)
    (fun _ _ _ _ _ _ _ hs _ _ => hs)
    ?assign ?body ?done ?stop
  case assign =>
    rintro l pre q X K hI ⟨⟨k, hk, hp, hn, _⟩, hrow⟩ hK
    have hsome : (coN S (eM Q) F V).isSome = true := by rw [hcn.out, ft_found hk hn hp]; rfl
    have hKh := Lib.hid hK
    clear hK
    gi_wp2
    have h0 := hKh.out _ X (KeepsFrom.refl _ X) (fun h => by obtain ⟨_, _, h⟩ := h; exact h.elim) hI ⟨rfl, hsome⟩
    first | exact h0 | simpa using h0
  case body =>
    rintro l pre q a' X hl ⟨r, hr⟩ ⟨hres, hB⟩ ⟨rfl, hsome⟩
    have c1 := hres.1.cell
    have f1 := hres.1.frozen
    have c2 := hres.2.cell
    have f2 := hres.2.frozen
    have hh := Lib.hid hres
    clear hres
    gi_wp2
    exact rowPost_ret (((KeepsOthers.setCell _ _ _).from _).trans ((KeepsOthers.setCell _ _ _).from _)) ⟨⟨hh.out.set, hsome⟩, resB_to hB (Nat.le_refl _)⟩
  case done =>
    rintro ys X ⟨rfl, hz⟩ ⟨hres, hB⟩ hK
    have hv : Hid (ccB S (eM Q) F V = false) := by unfold Hid; rw [cc_ok hokh.out, hcn.out, hz]; rfl
    have c1 := hres.1.cell
    have f1 := hres.1.frozen
    have c2 := hres.2.cell
    have f2 := hres.2.frozen
    have rh := Lib.hid hres
    have hKh := Lib.hid hK
    clear hres hz hK
    go_wp2
    have hD : ((X.setCell ⟨w.heap.size, 0, none⟩ (.bool false)).setCell ⟨w.heap.size + 1, 0, none⟩ (.bool true)).heap[W0.heap.size]? = some (.deferred (some [])) :=
      (Below.heap_setCell _ _ _ _ (by show W0.heap.size ≠ w.heap.size + 1; omega)).trans ((Below.heap_setCell _ _ _ _ (by show W0.heap.size ≠ w.heap.size; omega)).trans hKh.out)
    have hfin : ResT 4 w.heap.size (.bool false) true ((X.setCell ⟨w.heap.size, 0, none⟩ (.bool false)).setCell ⟨w.heap.size + 1, 0, none⟩ (.bool true)) := rh.out.set
    have hBf := resB_to (v := .bool false) (b := true) hB (Nat.le_refl w.heap.size)
    refine ⟨by simp, .inl ⟨_, _, rfl, run_takeDeferred hD, ?_⟩⟩
    exact ⟨_, resT_read_KC (hfin.put _ hD rfl) _ rfl rfl, by rw [hv.out], hBf.trans (belowK_b (w := w) (Nat.le_refl _) _ W0.heap.size _ _ (by omega) hD rfl rfl)⟩
  case stop =>
    rintro pre X ⟨⟨hres, hsome⟩, hB⟩ hK
    have hv : Hid (ccB S (eM Q) F V = true) := by unfold Hid; rw [cc_ok hokh.out]; exact hsome
    have rh := Lib.hid hres
    clear hres hsome
    gi_wp2
    refine ⟨by simp, .inl ⟨_, _, rfl, run_takeDeferred hK, ?_⟩⟩
    exact ⟨_, resT_read_KC (rh.out.put _ hK rfl) _ rfl rfl, by rw [hv.out], hB.trans (belowK_b (w := w) (Nat.le_refl _) _ W0.heap.size _ _ (by omega) hK rfl rfl)⟩
theorem iKC_m (x y f z : Option Addr) (c1 c2 c3 c4 : Nat) (S : List (ByteArray × Int)) (Q : List PR) (F V : List Int) (w : World) (hS : SIn w x c1 S) (hQ : EIn w y Q) (hF : IIn w f F) (hV : IIn w z V) (M : List (List Int)) (hM : eM Q = M) :
    Calls Try.prog 62 #[.slice x S.length c1, .slice y Q.length c2, .slice f F.length c3, .slice z V.length c4] w fun e w' => e = .returned (.tuple #[.bool (ccB S M F V), .bool (cgG S M F V)]) ∧ Below w.heap.size w w' := by
  subst hM
  cases h : cgG S (eM Q) F V
  · refine (iKC_no x y f z c1 c2 c3 c4 S Q F V w h hS hQ hF hV).mono ?_
    rintro e w' ⟨rfl, hb⟩
    exact ⟨by rw [cc_no h], hb⟩
  · exact iKC_yes x y f z c1 c2 c3 c4 S Q F V w h hS hQ hF hV
theorem sKC_m (x y f z : Option Addr) (c1 c2 c3 c4 : Nat) (S : List (ByteArray × Int)) (Q : List PR) (F V : List Int) (w : World) (hS : SIn w x c1 S) (hQ : EIn w y Q) (hF : IIn w f F) (hV : IIn w z V) (M : List (List Int)) (hM : eM Q = M) :
    Calls Try.prog 60 #[.slice x S.length c1, .slice y Q.length c2, .slice f F.length c3, .slice z V.length c4] w fun e w' => e = .returned (.tuple #[.bool (ccB S M F V), .bool (cgG S M F V)]) ∧ Below w.heap.size w w' := by subst hM; exact sKC_x x y f z c1 c2 c3 c4 S Q F V w hS hQ hF hV
theorem row_set {n k : Nat} {u v v0 : Value} {b b0 : Bool} {W : World} {xs : List Value} (h : W.ownsRow n 3 1 u k xs) (r : ResT 23 n v0 b0 W) : ((W.setCell ⟨n, 0, none⟩ v).setCell ⟨n + 1, 0, none⟩ (.bool b)).ownsRow n 3 1 u k xs := by
  have h1 := h.kept (grownBy_setCell' W n v) (.inr (Ne.symm (r.1.not_row (by decide) h)))
  have r2 := r.2.other (by omega) (B' := n) v
  exact h1.kept (grownBy_setCell' _ (n + 1) (.bool b)) (.inr (Ne.symm (r2.not_row (by decide) h1)))
set_option maxHeartbeats 4000000 in
theorem iCO_yes (x y f z : Option Addr) (c1 c2 c3 c4 : Nat) (S : List (ByteArray × Int)) (Q : List PR) (F V : List Int) (w : World) (hok : cgG S (eM Q) F V = true) (hS : SIn w x c1 S) (hQ : EIn w y Q) (hF : IIn w f F) (hV : IIn w z V) :
    Calls Try.prog 65 #[.slice x S.length c1, .slice y Q.length c2, .slice f F.length c3, .slice z V.length c4] w (RetLB (eIf (ccB S (eM Q) F V) (coL S (eM Q) F V)) (ccB S (eM Q) F V) w) := by
  have hSh := Lib.hid hS
  have hQh := Lib.hid hQ
  have hFh := Lib.hid hF
  have hVh := Lib.hid hV
  have hm := hS.1
  obtain ⟨g1, g2, g3⟩ := cg_get hok
  obtain ⟨g4, g5⟩ := sm_get g1
  have heh := Lib.hid g4
  have hsh := Lib.hid (el_get g4).1
  have hss := Lib.hid (smS_yes (el_get g4).1 g5)
  have hrs := Lib.hid g2
  have hfi := Lib.hid g3
  obtain ⟨n1, n2⟩ := cn_all hsh.out
  obtain ⟨N, hN⟩ : ∃ N : Nat, cnZ S = (N : Int) := ⟨(cnZ S).toNat, by omega⟩
  have hN2 : N ≤ 262144 := by omega
  have hNh := Lib.hid hN
  have hokh := Lib.hid hok
  have hcn : Hid (coN S (eM Q) F V = ftN (coP S (eM Q) F V) N) := by unfold Hid coN; rw [show (cnZ S).toNat = N by omega]
  have hr := Lib.hid (resT_new 23 (.slice none 0 0) w)
  clear hS hQ hF hV hok hN g1 g2 g3 g4 g5 n1 n2
  refine (callsIn_wide (n := 5)).1 ?_
  refine callsIn_of_wp_marks Try.func65 rfl trivial ?_ rfl
  simp only [Try.ntmps65, List.size_toArray, List.length_cons, List.length_nil, Nat.reduceAdd, Nat.reduceSub, Array.replicate_succ, Array.replicate_zero, List.push_toArray, List.append_toArray, List.nil_append, List.cons_append]
  refine wpIn_wide.2 ?_
  go_wp2_with fail
  refine (isSmall_any _ _ _ _ (hSh.out.below (by exact (by repeat (first | exact Below.refl _ _ | assumption | refine Below.drew ?_ | refine below_drewN ?_ _ | refine Below.alloc' ?_ _ | (refine Below.setCell ?_ (by first | omega | (simp; done) | (simp; omega) | exact Below.size (by assumption) | exact Nat.le_trans (Below.size (by assumption)) (by simp)) _) | (refine Below.via' ?_ (by assumption)) | (refine Below.alloc ?_ (by first | omega | (simp; done) | (simp; omega) | exact Below.size (by assumption) | exact Nat.le_trans (Below.size (by assumption)) (by simp)) _) | (refine Below.via ?_ (by assumption) (by first | omega | (simp; done) | (simp; omega) | exact Below.size (by assumption) | exact Nat.le_trans (Below.size (by assumption)) (by simp)))))))).mono ?_
  rintro e w1 ⟨rfl, hb1⟩
  rw [hss.out]
  have hr2 := Lib.hid (hr.out.below hb1)
  have hB1 : Below w.heap.size w w1 := (by repeat (first | exact Below.refl _ _ | assumption | refine Below.drew ?_ | refine below_drewN ?_ _ | refine Below.alloc' ?_ _ | (refine Below.setCell ?_ (by first | omega | (simp; done) | (simp; omega) | exact Below.size (by assumption) | exact Nat.le_trans (Below.size (by assumption)) (by simp)) _) | (refine Below.via' ?_ (by assumption)) | (refine Below.alloc ?_ (by first | omega | (simp; done) | (simp; omega) | exact Below.size (by assumption) | exact Nat.le_trans (Below.size (by assumption)) (by simp)) _) | (refine Below.via ?_ (by assumption) (by first | omega | (simp; done) | (simp; omega) | exact Below.size (by assumption) | exact Nat.le_trans (Below.size (by assumption)) (by simp)))))
  clear hb1
  go_wp2_with fail
  refine (areEditsFor_any _ _ _ _ S Q _ hsh.out hm (hSh.out.rd.below (by exact (by repeat (first | exact Below.refl _ _ | assumption | refine Below.drew ?_ | refine below_drewN ?_ _ | refine Below.alloc' ?_ _ | (refine Below.setCell ?_ (by first | omega | (simp; done) | (simp; omega) | exact Below.size (by assumption) | exact Nat.le_trans (Below.size (by assumption)) (by simp)) _) | (refine Below.via' ?_ (by assumption)) | (refine Below.alloc ?_ (by first | omega | (simp; done) | (simp; omega) | exact Below.size (by assumption) | exact Nat.le_trans (Below.size (by assumption)) (by simp)) _) | (refine Below.via ?_ (by assumption) (by first | omega | (simp; done) | (simp; omega) | exact Below.size (by assumption) | exact Nat.le_trans (Below.size (by assumption)) (by simp))))))) (hQh.out.below (by exact (by repeat (first | exact Below.refl _ _ | assumption | refine Below.drew ?_ | refine below_drewN ?_ _ | refine Below.alloc' ?_ _ | (refine Below.setCell ?_ (by first | omega | (simp; done) | (simp; omega) | exact Below.size (by assumption) | exact Nat.le_trans (Below.size (by assumption)) (by simp)) _) | (refine Below.via' ?_ (by assumption)) | (refine Below.alloc ?_ (by first | omega | (simp; done) | (simp; omega) | exact Below.size (by assumption) | exact Nat.le_trans (Below.size (by assumption)) (by simp)) _) | (refine Below.via ?_ (by assumption) (by first | omega | (simp; done) | (simp; omega) | exact Below.size (by assumption) | exact Nat.le_trans (Below.size (by assumption)) (by simp)))))))).mono ?_
  rintro e w2 ⟨rfl, hb2⟩
  rw [heh.out]
  have hr3 := Lib.hid (hr2.out.below hb2)
  have hB2 : Below w.heap.size w w2 := (by repeat (first | exact Below.refl _ _ | assumption | refine Below.drew ?_ | refine below_drewN ?_ _ | refine Below.alloc' ?_ _ | (refine Below.setCell ?_ (by first | omega | (simp; done) | (simp; omega) | exact Below.size (by assumption) | exact Nat.le_trans (Below.size (by assumption)) (by simp)) _) | (refine Below.via' ?_ (by assumption)) | (refine Below.alloc ?_ (by first | omega | (simp; done) | (simp; omega) | exact Below.size (by assumption) | exact Nat.le_trans (Below.size (by assumption)) (by simp)) _) | (refine Below.via ?_ (by assumption) (by first | omega | (simp; done) | (simp; omega) | exact Below.size (by assumption) | exact Nat.le_trans (Below.size (by assumption)) (by simp)))))
  clear hb2 hB1
  go_wp2_with fail
  refine (areVariablesOf_any _ _ _ _ S F _ hm (hFh.out.below (by exact (by repeat (first | exact Below.refl _ _ | assumption | refine Below.drew ?_ | refine below_drewN ?_ _ | refine Below.alloc' ?_ _ | (refine Below.setCell ?_ (by first | omega | (simp; done) | (simp; omega) | exact Below.size (by assumption) | exact Nat.le_trans (Below.size (by assumption)) (by simp)) _) | (refine Below.via' ?_ (by assumption)) | (refine Below.alloc ?_ (by first | omega | (simp; done) | (simp; omega) | exact Below.size (by assumption) | exact Nat.le_trans (Below.size (by assumption)) (by simp)) _) | (refine Below.via ?_ (by assumption) (by first | omega | (simp; done) | (simp; omega) | exact Below.size (by assumption) | exact Nat.le_trans (Below.size (by assumption)) (by simp)))))))).mono ?_
  rintro e w9 ⟨rfl, rfl⟩
  rw [hrs.out]
  go_wp2_with fail
  refine (areValues_any _ _ _ _ S V _ hsh.out hm (hSh.out.rd.below (by exact (by repeat (first | exact Below.refl _ _ | assumption | refine Below.drew ?_ | refine below_drewN ?_ _ | refine Below.alloc' ?_ _ | (refine Below.setCell ?_ (by first | omega | (simp; done) | (simp; omega) | exact Below.size (by assumption) | exact Nat.le_trans (Below.size (by assumption)) (by simp)) _) | (refine Below.via' ?_ (by assumption)) | (refine Below.alloc ?_ (by first | omega | (simp; done) | (simp; omega) | exact Below.size (by assumption) | exact Nat.le_trans (Below.size (by assumption)) (by simp)) _) | (refine Below.via ?_ (by assumption) (by first | omega | (simp; done) | (simp; omega) | exact Below.size (by assumption) | exact Nat.le_trans (Below.size (by assumption)) (by simp))))))) (hVh.out.below (by exact (by repeat (first | exact Below.refl _ _ | assumption | refine Below.drew ?_ | refine below_drewN ?_ _ | refine Below.alloc' ?_ _ | (refine Below.setCell ?_ (by first | omega | (simp; done) | (simp; omega) | exact Below.size (by assumption) | exact Nat.le_trans (Below.size (by assumption)) (by simp)) _) | (refine Below.via' ?_ (by assumption)) | (refine Below.alloc ?_ (by first | omega | (simp; done) | (simp; omega) | exact Below.size (by assumption) | exact Nat.le_trans (Below.size (by assumption)) (by simp)) _) | (refine Below.via ?_ (by assumption) (by first | omega | (simp; done) | (simp; omega) | exact Below.size (by assumption) | exact Nat.le_trans (Below.size (by assumption)) (by simp)))))))).mono ?_
  rintro e w3 ⟨rfl, hb3⟩
  rw [hfi.out]
  have hr4 := Lib.hid (hr3.out.below hb3)
  have hB3 : Below w.heap.size w w3 := (by repeat (first | exact Below.refl _ _ | assumption | refine Below.drew ?_ | refine below_drewN ?_ _ | refine Below.alloc' ?_ _ | (refine Below.setCell ?_ (by first | omega | (simp; done) | (simp; omega) | exact Below.size (by assumption) | exact Nat.le_trans (Below.size (by assumption)) (by simp)) _) | (refine Below.via' ?_ (by assumption)) | (refine Below.alloc ?_ (by first | omega | (simp; done) | (simp; omega) | exact Below.size (by assumption) | exact Nat.le_trans (Below.size (by assumption)) (by simp)) _) | (refine Below.via ?_ (by assumption) (by first | omega | (simp; done) | (simp; omega) | exact Below.size (by assumption) | exact Nat.le_trans (Below.size (by assumption)) (by simp)))))
  clear hb3 hB2
  go_wp2_with fail
  refine (completions_any _ _ _ _ _ _ _ _ _ _ _ _ _).mono ?_
  rintro e w4 ⟨rfl, rfl⟩
  have bS := (((Boxed.new w3 54 (.slice x S.length c1)).alloc (.cells #[.slice y Q.length c2] 83)).alloc (.cells #[.slice f F.length c3] 23)).alloc (.cells #[.slice z V.length c4] 23)
  have bQ := ((Boxed.new (w3.alloc (.cells #[.slice x S.length c1] 54)) 83 (.slice y Q.length c2)).alloc (.cells #[.slice f F.length c3] 23)).alloc (.cells #[.slice z V.length c4] 23)
  have bF := (Boxed.new ((w3.alloc (.cells #[.slice x S.length c1] 54)).alloc (.cells #[.slice y Q.length c2] 83)) 23 (.slice f F.length c3)).alloc (.cells #[.slice z V.length c4] 23)
  have bV := Boxed.new (((w3.alloc (.cells #[.slice x S.length c1] 54)).alloc (.cells #[.slice y Q.length c2] 83)).alloc (.cells #[.slice f F.length c3] 23)) 23 (.slice z V.length c4)
  simp only [World.size_alloc] at bS bQ bF bV ⊢
  have hB0 : Below w.heap.size w ((((w3.alloc (.cells #[.slice x S.length c1] 54)).alloc (.cells #[.slice y Q.length c2] 83)).alloc (.cells #[.slice f F.length c3] 23)).alloc (.cells #[.slice z V.length c4] 23)) := (by repeat (first | exact Below.refl _ _ | assumption | refine Below.drew ?_ | refine below_drewN ?_ _ | refine Below.alloc' ?_ _ | (refine Below.setCell ?_ (by first | omega | (simp; done) | (simp; omega) | exact Below.size (by assumption) | exact Nat.le_trans (Below.size (by assumption)) (by simp)) _) | (refine Below.via' ?_ (by assumption)) | (refine Below.alloc ?_ (by first | omega | (simp; done) | (simp; omega) | exact Below.size (by assumption) | exact Nat.le_trans (Below.size (by assumption)) (by simp)) _) | (refine Below.via ?_ (by assumption) (by first | omega | (simp; done) | (simp; omega) | exact Below.size (by assumption) | exact Nat.le_trans (Below.size (by assumption)) (by simp)))))
  have hr0 : ResT 23 w.heap.size (.slice none 0 0) false ((((w3.alloc (.cells #[.slice x S.length c1] 54)).alloc (.cells #[.slice y Q.length c2] 83)).alloc (.cells #[.slice f F.length c3] 23)).alloc (.cells #[.slice z V.length c4] 23)) := ⟨(((hr4.out.1.alloc _).alloc _).alloc _).alloc _, (((hr4.out.2.alloc _).alloc _).alloc _).alloc _⟩
  have hw3 := hB3.size
  obtain ⟨W0, hW0⟩ : ∃ W0, (((w3.alloc (.cells #[.slice x S.length c1] 54)).alloc (.cells #[.slice y Q.length c2] 83)).alloc (.cells #[.slice f F.length c3] 23)).alloc (.cells #[.slice z V.length c4] 23) = W0 := ⟨_, rfl⟩
  rw [hW0] at bS bQ bF bV hB0 hr0 ⊢
  have hn0 := hB0.size
  have hD0 := hr0.2.lt
  have hit := Lib.hid (co_rows w3.heap.size (w3.heap.size + 1) (w3.heap.size + 1 + 1 + 1) (w3.heap.size + 1 + 1) w.heap.size x y f z c1 c2 c3 c4 S Q F V w W0 hokh.out hSh.out hQh.out hFh.out hVh.out N hNh.out hN2 hB0 hn0 bS bQ bV bF)
  clear hW0 bS bQ bV bF
  go_wp2
  refine (wpIn_wide (n := 5)).1 ?_
  refine range_rows (by omega) (gf := 179) (lb := #[.pointer (some ⟨w3.heap.size, 0, none⟩), .pointer (some ⟨w3.heap.size + 1, 0, none⟩), .pointer (some ⟨w3.heap.size + 1 + 1 + 1, 0, none⟩), .pointer (some ⟨w3.heap.size + 1 + 1, 0, none⟩)]) rfl (enters_of Try.func179 (by kernel_rfl) rfl) rfl
    (fun q : PR => q.v) (fun _ _ => False) (CmR S (eM Q) F V w.heap.size N) (fun ys => ys = [] ∧ ftN (coP S (eM Q) F V) N = none) hit.out (Below.refl _ _)
    (fun _ _ _ h _ => h) (fun h => by obtain ⟨_, _, h⟩ := h; exact h.elim)
    (fun _ X => ResT 23 w.heap.size (.slice none 0 0) false X ∧ Below w.heap.size w X)
    (fun s X => (∃ q : PR, (ResT 23 w.heap.size q.v true X ∧ X.ownsRow w.heap.size 3 1 q.v q.L.length (iC q.L)) ∧ ∃ k : Nat, coN S (eM Q) F V = some k ∧ q.L = atL S k) ∧ Below w.heap.size w X)
    (((resT_own 23 w.heap.size (fun _ : List PR => .slice none 0 0) false).from _).and (ownFrom_below (Nat.le_refl _) (by omega)))
    (OwnFrom.and (fun _ A B row hs hgr hr => by obtain ⟨q, ⟨h1, h2⟩, h3⟩ := hs; exact ⟨q, ⟨resT_own 23 w.heap.size (fun _ : Unit => q.v) true () A B row h1 hgr (fun r e => (hr r e).2), own_cells h2 hgr (fun r e => (hr r e).2)⟩, h3⟩) (ownFrom_below (Nat.le_refl _) (by omega)))
    ⟨hr0, hB0⟩
    (fun _ q a' X => (a' = { tmps := #[.slice x S.length c1, .slice y Q.length c2, .slice f F.length c3, .slice z V.length c4, undef, undef, undef, undef, .pointer (some ⟨w.heap.size, 0, none⟩), .pointer (some ⟨w.heap.size + 1, 0, none⟩), q.v, .slice x S.length c1, .bool true, .bool false, .bool false, .slice x S.length c1, .slice y Q.length c2, .bool true, .bool false, .bool false, .bool false, .slice x S.length c1, .slice f F.length c3, .bool true, .bool false, .bool false, .bool false, .slice x S.length c1, .slice z V.length c4, .bool true, .bool false, .bool false, .slice x S.length c1, .slice y Q.length c2, .slice f F.length c3, .slice z V.length c4, .func (.func 179) #[] #[.pointer (some ⟨w3.heap.size, 0, none⟩), .pointer (some ⟨w3.heap.size + 1, 0, none⟩), .pointer (some ⟨w3.heap.size + 1 + 1 + 1, 0, none⟩), .pointer (some ⟨w3.heap.size + 1 + 1, 0, none⟩)], q.v, undef], defers := [] } ∧ ∃ k : Nat, coN S (eM Q) F V = some k ∧ q.L = atL S k) ∧ X.ownsRow w.heap.size 3 1 q.v q.L.length (iC q.L))
    (fun _ _ _ _ A B row hs hgr hr => ⟨hs.1, own_cells hs.2 hgr (fun r e => (hr r e).2)⟩)
    ?assign ?body ?done ?stop
  case assign =>
    rintro l pre q X K hI ⟨⟨k, hk, hp, hn, hq⟩, hrow⟩ hK
    have hsome : ∃ k : Nat, coN S (eM Q) F V = some k ∧ q.L = atL S k := ⟨k, by rw [hcn.out, ft_found hk hn hp], hq⟩
    have hKh := Lib.hid hK
    clear hK
    gi_wp2
    have h0 := hKh.out _ X (KeepsFrom.refl _ X) (fun h => by obtain ⟨_, _, h⟩ := h; exact h.elim) hI ⟨⟨rfl, hsome⟩, hrow⟩
    first | exact h0 | simpa using h0
  case body =>
    rintro l pre ⟨qa, qh, qx, qc, qL⟩ a' X hl ⟨r, hr⟩ ⟨hres, hB⟩ ⟨⟨rfl, hsome⟩, hrow⟩
    dsimp only [PR.v] at hrow hsome ⊢
    have c1 := hres.1.cell
    have f1 := hres.1.frozen
    have c2 := hres.2.cell
    have f2 := hres.2.frozen
    have hh := Lib.hid hres
    have hrowh := Lib.hid hrow
    have hsomeh := Lib.hid hsome
    clear hres hrow hsome
    gi_wp2
    exact rowPost_ret (((KeepsOthers.setCell _ _ _).from _).trans ((KeepsOthers.setCell _ _ _).from _)) ⟨⟨⟨qa, qh, qx, qc, qL⟩, ⟨hh.out.set, row_set hrowh.out hh.out⟩, hsomeh.out⟩, resB_to hB (Nat.le_refl _)⟩
  case done =>
    rintro ys X ⟨rfl, hz⟩ ⟨hres, hB⟩ hK
    have hv : Hid (ccB S (eM Q) F V = false) := by unfold Hid; rw [cc_ok hokh.out, hcn.out, hz]; rfl
    have c1 := hres.1.cell
    have f1 := hres.1.frozen
    have c2 := hres.2.cell
    have f2 := hres.2.frozen
    have rh := Lib.hid hres
    have hKh := Lib.hid hK
    clear hres hz hK
    go_wp2
    have hD : ((X.setCell ⟨w.heap.size, 0, none⟩ (.slice none 0 0)).setCell ⟨w.heap.size + 1, 0, none⟩ (.bool false)).heap[W0.heap.size]? = some (.deferred (some [])) :=
      (Below.heap_setCell _ _ _ _ (by show W0.heap.size ≠ w.heap.size + 1; omega)).trans ((Below.heap_setCell _ _ _ _ (by show W0.heap.size ≠ w.heap.size; omega)).trans hKh.out)
    have hfin : ResT 23 w.heap.size (.slice none 0 0) false ((X.setCell ⟨w.heap.size, 0, none⟩ (.slice none 0 0)).setCell ⟨w.heap.size + 1, 0, none⟩ (.bool false)) := rh.out.set
    have hBf := resB_to (v := .slice none 0 0) (b := false) hB (Nat.le_refl w.heap.size)
    refine ⟨by simp, .inl ⟨_, _, rfl, run_takeDeferred hD, ?_⟩⟩
    refine ⟨_, resT_read_CO (hfin.put _ hD rfl) _ rfl rfl, retLB_no hv.out (hBf.trans (belowK_b (w := w) (Nat.le_refl _) _ W0.heap.size _ _ (by omega) hD rfl rfl))⟩
  case stop =>
    rintro pre X ⟨⟨q, ⟨hres, hrow⟩, k, hk, hq⟩, hB⟩ hK
    have hv : Hid (ccB S (eM Q) F V = true) := by unfold Hid; rw [cc_ok hokh.out, hk]; rfl
    have hL := Lib.hid ((co_some hk).trans hq.symm)
    have rh := Lib.hid hres
    have hrow2 := Lib.hid (ownsRow_putObj hrow (.deferred none) hK rfl)
    clear hres hk hq hrow
    gi_wp2
    refine ⟨by simp, .inl ⟨_, _, rfl, run_takeDeferred hK, ?_⟩⟩
    refine ⟨_, resT_read_CO (rh.out.put _ hK rfl) _ rfl rfl, retLB_yes hv.out (by rw [hL.out]; exact hrow2.out) (hB.trans (belowK_b (w := w) (Nat.le_refl _) _ W0.heap.size _ _ (by omega) hK rfl rfl))⟩
theorem iCO_m (x y f z : Option Addr) (c1 c2 c3 c4 : Nat) (S : List (ByteArray × Int)) (Q : List PR) (F V : List Int) (w : World) (hS : SIn w x c1 S) (hQ : EIn w y Q) (hF : IIn w f F) (hV : IIn w z V) (M : List (List Int)) (hM : eM Q = M) :
    Calls Try.prog 65 #[.slice x S.length c1, .slice y Q.length c2, .slice f F.length c3, .slice z V.length c4] w (RetLB (eIf (ccB S M F V) (coL S M F V)) (ccB S M F V) w) := by
  subst hM
  cases h : cgG S (eM Q) F V
  · refine (iCO_no x y f z c1 c2 c3 c4 S Q F V w h hS hQ hF hV).mono ?_
    rintro e w' ⟨rfl, hb⟩
    exact retLB_no (cc_no h) hb
  · exact iCO_yes x y f z c1 c2 c3 c4 S Q F V w h hS hQ hF hV
theorem sCO_m (x y f z : Option Addr) (c1 c2 c3 c4 : Nat) (S : List (ByteArray × Int)) (Q : List PR) (F V : List Int) (w : World) (hS : SIn w x c1 S) (hQ : EIn w y Q) (hF : IIn w f F) (hV : IIn w z V) (M : List (List Int)) (hM : eM Q = M) :
    Calls Try.prog 64 #[.slice x S.length c1, .slice y Q.length c2, .slice f F.length c3, .slice z V.length c4] w (RetLB (eIf (ccB S M F V) (coL S M F V)) (ccB S M F V) w) := by subst hM; exact sCO_x x y f z c1 c2 c3 c4 S Q F V w hS hQ hF hV
end Go.Proofs.Ytnmpigedhpdenab

namespace Go.Proofs.Ytnmpigedhpdenab
open Go.RowKit
set_option maxRecDepth 100000

/-- The edits that are marked from k on. -/
def mE (k : Int) : List PR → List PR
  | [] => []
  | q :: r => ⟨q.a, q.h, q.x, q.c, mkL k q.L.length⟩ :: mE (k + q.L.length) r
theorem mE_len : ∀ (k : Int) (Q : List PR), (mE k Q).length = Q.length
  | _, [] => rfl
  | k, q :: r => by simp [mE, mE_len _ r]
theorem mE_app : ∀ (k : Int) (Q T : List PR), mE k (Q ++ T) = mE k Q ++ mE (k + tot Q) T
  | k, [], T => by simp [mE, tot]
  | k, q :: r, T => by
    simp only [List.cons_append, mE, mE_app _ r T]
    congr 3
    unfold tot
    simp only [List.map_cons, List.sum_cons]
    omega
theorem mE_step (k : Int) {Q : List PR} {i : Nat} {q : PR} (h : Q[i]? = some q) (hi : i < Q.length) :
    mE k (Q.take (i + 1)) ++ Q.drop (i + 1) = (mE k (Q.take i) ++ Q.drop i).set i ⟨q.a, q.h, q.x, q.c, mkL (k + tot (Q.take i)) q.L.length⟩ := by
  have hl : (mE k (Q.take i)).length = i := by rw [mE_len, List.length_take]; omega
  have hd : Q.drop i = q :: Q.drop (i + 1) := by
    rw [List.drop_eq_getElem_cons hi]
    rw [List.getElem?_eq_getElem hi] at h
    injection h with h
    rw [h]
  rw [List.set_append_right _ _ (by omega), hl, Nat.sub_self, hd, List.set_cons_zero, take_snoc h, mE_app, List.append_assoc]
  rfl
theorem mE_at (k : Int) {Q : List PR} {i : Nat} {q : PR} (h : Q[i]? = some q) (hi : i < Q.length) :
    (mE k Q)[i]? = some ⟨q.a, q.h, q.x, q.c, mkL (k + tot (Q.take i)) q.L.length⟩ := by
  have hl : (mE k (Q.take i)).length = i := by rw [mE_len, List.length_take]; omega
  have e : mE k Q = mE k (Q.take (i + 1)) ++ mE (k + tot (Q.take (i + 1))) (Q.drop (i + 1)) := by rw [← mE_app, List.take_append_drop]
  rw [e, List.getElem?_append_left (by rw [mE_len, List.length_take]; omega), take_snoc h, mE_app, List.getElem?_append_right (by omega), hl, Nat.sub_self]
  rfl
theorem eC_setL : ∀ (Q : List PR) (i : Nat) (q : PR) (M : List Int), Q[i]? = some q → M.length = q.L.length → eC (Q.set i ⟨q.a, q.h, q.x, q.c, M⟩) = eC Q
  | [], i, q, M, h, _ => by simp at h
  | p :: r, 0, q, M, h, hl => by simp at h; subst h; simp [eC, PR.v, hl]
  | p :: r, i + 1, q, M, h, hl => by
    simp only [List.getElem?_cons_succ] at h
    have := eC_setL r i q M h hl
    unfold eC at this ⊢
    simp only [List.set_cons_succ, List.map_cons, this]
section
variable {w w1 : World} {lo hi : Nat} {te ti : TypeId} {Q : List PR} {i g c : Nat} {q : PR}
/-- The row of edit i is written. -/
theorem OwE.turn {M : List Int} (h : OwE w lo hi te ti (.slice (some ⟨g, 0, none⟩) Q.length c) Q) (hq : Q[i]? = some q) (hl : M.length = q.L.length) (hr : w1.ownsRow lo ti 1 q.v q.L.length (iC M)) (hg : w.grownBy w1 q.v.ownBlock) :
    OwE w1 lo hi te ti (.slice (some ⟨g, 0, none⟩) (Q.set i ⟨q.a, q.h, q.x, q.c, M⟩).length c) (Q.set i ⟨q.a, q.h, q.x, q.c, M⟩) := by
  obtain ⟨h1, h2, h3⟩ := h
  have hmem := List.mem_of_getElem? hq
  have hpv : (PR.mk q.a q.h q.x q.c M).v = q.v := by unfold PR.v; rw [hl]
  refine ⟨⟨?_, fun k hk => h1.2 k hk⟩, ⟨fun r hr2 => ?_, ?_⟩, fun r hr2 k hk => ?_⟩
  · rw [List.length_set, eC_setL Q i q M hq hl]
    refine h1.1.kept hg (Or.inr fun e => h3 q hmem g rfl ?_)
    rw [← e]; rfl
  · rcases mem_set_cases hr2 with rfl | ⟨j, hji, hj⟩
    · rw [hpv]; exact ⟨by rw [hl]; exact hr, (h2.1 q hmem).2⟩
    · have hrm := List.mem_of_getElem? hj
      refine ⟨(h2.1 r hrm).1.kept hg ?_, (h2.1 r hrm).2⟩
      cases hb : r.v.ownBlock with
      | none => exact Or.inl rfl
      | some k => exact Or.inr fun e => blk_ne h2.2 hq hj hji e.symm hb
  · rw [blk_set hq (by rw [hpv])]; exact h2.2
  · rcases mem_set_cases hr2 with rfl | ⟨j, _, hj⟩
    · rw [hpv]; exact h3 q hmem k hk
    · exact h3 r (List.mem_of_getElem? hj) k hk
end
set_option maxHeartbeats 4000000 in
theorem markEditS_any (x : Option Addr) (cap : Nat) (k : Int) (lo hi : Nat) (Q : List PR) (w : World) (hk : 0 ≤ k) (hk2 : k ≤ 1000000000) (hn : Q.length ≤ 1048576) (ht : tot Q ≤ 1048576) (hown : OwE w lo hi 153 3 (.slice x Q.length cap) Q) :
    Calls Try.prog 66 #[.slice x Q.length cap, .int .i64 k] w fun e w' => e = .returned (.int .i64 (k + tot Q)) ∧ OwE w' lo hi 153 3 (.slice x Q.length cap) (mE k Q) ∧ Off lo hi w w' := by
  by_cases h0 : Q.length = 0
  · obtain rfl : Q = [] := List.eq_nil_of_length_eq_zero h0
    have hown := Lib.hid hown
    go_enter Try.func66, Try.ntmps66
    go_wp2
    refine wp_loop_rounds 1 ?_
    rw [rounds_succ]
    go_wp2
    go_ret
    exact ⟨ret_int (by simp [tot]), hown.out, Off.refl _ _ _⟩
  obtain ⟨g, cap', he⟩ := own_some hown.1.1 (by omega)
  injection he with hx _ hc
  subst hx hc
  have hown0 := Lib.hid hown
  clear hown
  go_enter Try.func66, Try.ntmps66
  go_wp2
  go_loopw [1, 5] (fun q c wr => ∃ i : Nat, i ≤ Q.length ∧ c = .int .i64 i ∧ q = .int .i64 (k + tot (Q.take i)) ∧ Hid (OwE wr lo hi 153 3 (.slice (some ⟨g, 0, none⟩) (mE k (Q.take i) ++ Q.drop i).length cap) (mE k (Q.take i) ++ Q.drop i)) ∧ Off lo hi w wr) (fun _ c _ => Q.length - (intOf c).toNat)
  case atStart => exact ⟨0, by omega, rfl, (by rw [tot0]; go_num), (by unfold Hid; simpa [mE] using hown0.out), Off.refl _ _ _⟩
  case round =>
    clear hown0
    obtain ⟨i, hil, rfl, rfl, hown, hb⟩ := hrel
    have hzl : (mE k (Q.take i) ++ Q.drop i).length = Q.length := by rw [List.length_append, mE_len, List.length_take, List.length_drop]; omega
    by_cases hlt : i < Q.length
    · obtain ⟨q, hq⟩ : ∃ q, Q[i]? = some q := ⟨Q[i], List.getElem?_eq_getElem hlt⟩
      have hZ : (mE k (Q.take i) ++ Q.drop i)[i]? = some q := by
        rw [List.getElem?_append_right (by rw [mE_len, List.length_take]; omega), mE_len, List.length_take, Nat.min_eq_left (by omega), Nat.sub_self, List.getElem?_drop, Nat.add_zero, hq]
      have hstep := Lib.hid (mE_step k hq hlt)
      have htt := tot_take hq
      have htl : tot (Q.take (i + 1)) ≤ tot Q := by
        conv => rhs; rw [← List.take_append_drop (i + 1) Q]
        unfold tot
        rw [List.map_append, List.sum_append]
        omega
      generalize hZe : mE k (Q.take i) ++ Q.drop i = Z at hown hZ hzl hstep
      have hti : tot (Q.take i) ≤ 1048576 := by omega
      generalize htie : tot (Q.take i) = t at *
      have hql : q.L.length ≤ 1048576 := by omega
      have ho0 := hown.out.1.1
      rw [hzl] at ho0
      obtain ⟨u0, hu0, k0⟩ := own_cell ho0 (j := i) (by omega)
      have e2 : u0 = .slice q.x q.L.length q.c := Option.some.inj (hu0.symm.trans (eC_at hZ))
      subst e2
      have k4 := (own_lt ho0).2
      have hin := Lib.hid (hown.out.1.2 g rfl)
      clear hu0 ho0
      replace hZ := Lib.hid hZ
      replace hq := Lib.hid hq
      have hlt' : (i : Int) < (Q.length : Int) := by omega
      go_wp2_with fail
      refine (markIntS_any _ _ _ _ lo _ _ (by omega) (by omega) hql (hown.out.2.1.1 _ (List.mem_of_getElem? hZ.out)).1).mono ?_
      rintro e w2 ⟨rfl, hm2, hg2⟩
      have P2 := Lib.hid (hown.out.turn hZ.out (by rw [mkL_len]) hm2 hg2)
      have hbl := Lib.hid ((hown.out.2.1.1 _ (List.mem_of_getElem? hZ.out)).2)
      go_wp2
      go_roundw
      case rel =>
        refine ⟨i + 1, by omega, by go_num, ?_, ?_, ?_⟩
        · rw [htt]
          congr 1
          push_cast
          omega
        · rw [hstep.out]
          exact P2.out
        · exact hb.trans (Off.of_grown hg2 (fun k hk => hbl.out k hk))
      case measure => simp [intOf]; omega
    · have hij : i = Q.length := by omega
      subst hij
      have hown := Lib.hid (show OwE wr lo hi 153 3 (.slice (some ⟨g, 0, none⟩) Q.length cap) (mE k Q) from by simpa [mE_len] using hown.out)
      rw [List.take_length]
      clear hzl
      go_wp2
      go_ret
      exact ⟨rfl, hown.out, hb⟩

set_option maxHeartbeats 4000000 in
theorem heldEditS_any (x : Option Addr) (cap : Nat) (k : Int) (Q : List PR) (w : World) (hk : 0 ≤ k) (hk2 : k ≤ 1000000000) (hn : Q.length ≤ 1048576) (ht : tot Q ≤ 1048576) (hx : Rd w x (eC (mE k Q))) (hxi : ∀ q ∈ mE k Q, Rd w q.x (iC q.L)) :
    Calls Try.prog 69 #[.slice x Q.length cap, .int .i64 k] w fun e w' => e = .returned (.int .i64 (k + tot Q)) ∧ Below w.heap.size w w' := by
  have hxh := Lib.hid hx
  have hih := Lib.hid hxi
  clear hx hxi
  go_enter Try.func69, Try.ntmps69
  go_wp2
  go_loopw [1, 5] (fun q c wr => ∃ i : Nat, i ≤ Q.length ∧ c = .int .i64 i ∧ q = .int .i64 (k + tot (Q.take i)) ∧ Below w.heap.size w wr) (fun _ c _ => Q.length - (intOf c).toNat)
  case atStart => exact ⟨0, by omega, rfl, (by rw [tot0]; go_num), Below.refl _ _⟩
  case round =>
    obtain ⟨i, hi, rfl, rfl, hb⟩ := hrel
    by_cases hlt : i < Q.length
    · obtain ⟨q, hq⟩ : ∃ q, Q[i]? = some q := ⟨Q[i], List.getElem?_eq_getElem hlt⟩
      have htt := tot_take hq
      have htl : tot (Q.take (i + 1)) ≤ tot Q := by
        conv => rhs; rw [← List.take_append_drop (i + 1) Q]
        unfold tot
        rw [List.map_append, List.sum_append]
        omega
      have hma := mE_at k hq hlt
      generalize htie : tot (Q.take i) = t at *
      obtain ⟨bl, off, p, hbx, hbl, hSi, hc0⟩ := (hxh.out.below hb).ed (i := i) (by rw [mE_len]; exact hlt)
      have hrd := Lib.hid ((hih.out p (List.mem_of_getElem? hSi)).below hb)
      obtain rfl := Option.some.inj (hSi.symm.trans hma)
      simp only [mkL_len] at hc0 hrd
      subst hbx
      clear hSi hma
      replace hq := Lib.hid hq
      have hql : q.L.length ≤ 1048576 := by omega
      have hlt' : (i : Int) < (Q.length : Int) := by omega
      have hi0 : (0 : Int) ≤ (i : Int) := by omega
      have hkk : ¬ (k + (t : Int) + (q.L.length : Int) < 0) := by omega
      go_wp2_with fail
      refine (heldIntS_any _ _ _ _ _ (by omega) (by omega) hql (hrd.out.below (by exact (by repeat (first | exact Below.refl _ _ | assumption | refine Below.drew ?_ | refine below_drewN ?_ _ | refine Below.alloc' ?_ _ | (refine Below.setCell ?_ (by first | omega | (simp; done) | (simp; omega) | exact Below.size (by assumption) | exact Nat.le_trans (Below.size (by assumption)) (by simp)) _) | (refine Below.via' ?_ (by assumption)) | (refine Below.alloc ?_ (by first | omega | (simp; done) | (simp; omega) | exact Below.size (by assumption) | exact Nat.le_trans (Below.size (by assumption)) (by simp)) _) | (refine Below.via ?_ (by assumption) (by first | omega | (simp; done) | (simp; omega) | exact Below.size (by assumption) | exact Nat.le_trans (Below.size (by assumption)) (by simp)))))))).mono ?_
      rintro e w2 ⟨rfl, rfl⟩
      go_wp2
      go_roundw
      case rel =>
        refine ⟨i + 1, by omega, by go_num, ?_, (by repeat (first | exact Below.refl _ _ | assumption | refine Below.drew ?_ | refine below_drewN ?_ _ | refine Below.alloc' ?_ _ | (refine Below.setCell ?_ (by first | omega | (simp; done) | (simp; omega) | exact Below.size (by assumption) | exact Nat.le_trans (Below.size (by assumption)) (by simp)) _) | (refine Below.via' ?_ (by assumption)) | (refine Below.alloc ?_ (by first | omega | (simp; done) | (simp; omega) | exact Below.size (by assumption) | exact Nat.le_trans (Below.size (by assumption)) (by simp)) _) | (refine Below.via ?_ (by assumption) (by first | omega | (simp; done) | (simp; omega) | exact Below.size (by assumption) | exact Nat.le_trans (Below.size (by assumption)) (by simp)))))⟩
        rw [htt]
        congr 1
        push_cast
        omega
      case measure => simp [intOf]; omega
    · have hij : i = Q.length := by omega
      subst hij
      rw [List.take_length]
      go_wp2
      go_ret
      exact ⟨rfl, hb⟩
end Go.Proofs.Ytnmpigedhpdenab
