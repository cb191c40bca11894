/-
  The walks of chapter 5: FailedEdits; the program's and the model's.
-/
import Derived.Test.YtgkaalonmkcclabEdW
namespace Go.Proofs.Ytgkaalonmkcclab
open Go.RowKit
set_option maxRecDepth 100000

/-- Does the edit with this index fail? The failed edits. -/
def feB (M : List (List Int)) (V : List Int) (i : Nat) : Bool := match M[i]? with | some E => fsB E V | none => false
theorem fe_at {M : List (List Int)} {V E : List Int} {i : Nat} (h : M[i]? = some E) : feB M V i = fsB E V := by unfold feB; rw [h]
def feUp (M : List (List Int)) (V : List Int) (n : Nat) : List Int := pkUp (feB M V) n
theorem feUp_len (M : List (List Int)) (V : List Int) (n : Nat) : (feUp M V n).length ≤ n := pkUp_len _ _
def feL (M : List (List Int)) (V : List Int) : List Int := feUp M V M.length
theorem feL_len (M : List (List Int)) (V : List Int) : (feL M V).length ≤ M.length := pkUp_len _ _
/-- A schema, a list of edits and values for it. -/
def slfB (S : List (ByteArray × Int)) (M : List (List Int)) (V : List Int) : Bool := elB S M && fitB S V
theorem slf_no1 {S : List (ByteArray × Int)} {M : List (List Int)} {V : List Int} (h : elB S M = false) : slfB S M V = false := by unfold slfB; rw [h]; rfl
theorem slf_no2 {S : List (ByteArray × Int)} {M : List (List Int)} {V : List Int} (h : fitB S V = false) : slfB S M V = false := by unfold slfB; rw [h, Bool.and_false]
theorem slf_yes {S : List (ByteArray × Int)} {M : List (List Int)} {V : List Int} (h : elB S M = true) (k : fitB S V = true) : slfB S M V = true := by unfold slfB; rw [h, k]; rfl

set_option maxHeartbeats 1000000 in
theorem eFailed_any (y z : Option Addr) (c2 c3 : Nat) (Q : List PR) (V : List Int) (w : World) (hl40 : Q.length ≤ 40) (hf : ∀ E ∈ eM Q, Fine E V) (hQ : EIn w y Q) (hV : IIn w z V) :
    Calls Try.prog 67 #[.slice y Q.length c2, .slice z V.length c3] w (RetL (feL (eM Q) V) w) := by
  obtain ⟨i0, hii, hz0, hz1, hz2⟩ := info_parts Try.infoInt
  have hQh := Lib.hid hQ
  have hVh := Lib.hid hV
  have hfh := Lib.hid hf
  have hel := Lib.hid (eM_len Q)
  clear hQ hV hf
  go_enter Try.func67, Try.ntmps67
  go_wp2
  go_loopw [5, 10] (fun u c wr => ∃ i : Nat, i ≤ Q.length ∧ c = .int .i64 i ∧ wr.ownsRow w.heap.size 3 1 u (feUp (eM Q) V i).length (iC (feUp (eM Q) V i)) ∧ Below w.heap.size w wr) (fun _ c _ => Q.length - (intOf c).toNat)
  case atStart => exact ⟨0, by omega, rfl, World.ownsRow_nil _ _ _ _, Below.refl _ _⟩
  case round =>
    obtain ⟨i, hi, rfl, hown, hBr⟩ := hrel
    have hownh := Lib.hid hown
    clear hown
    have hsl := feUp_len (eM Q) V i
    have hs0 := hBr.size
    by_cases hlt : i < Q.length
    · obtain ⟨bl, off, q, rfl, hbl, hQq, hc0⟩ := (hQh.out.below hBr).2.2.ed hlt
      have hE := Lib.hid ((hQh.out.2.1 q (List.mem_of_getElem? hQq)).below hBr)
      have hqe := eM_at hQq
      have hfi := Lib.hid (hfh.out _ (List.mem_of_getElem? hqe))
      have hiv := fe_at (V := V) hqe
      have hlt' : (i : Int) < (Q.length : Int) := by omega
      clear hQq hqe
      cases hh : fsB q.L V
      · have hsel : Hid (feUp (eM Q) V (i + 1) = feUp (eM Q) V i) := pkUp_no (by rw [hiv]; exact hh)
        clear hiv
        go_wp2_with fail
        refine (eFails_any _ _ _ _ q.L V _ hfi.out (hE.out.below (by exact (by repeat (first | exact Below.refl _ _ | assumption | refine Below.drew ?_ | refine below_drewN ?_ _ | refine Below.alloc' ?_ _ | (refine Below.setCell ?_ (by first | omega | (simp; done) | (simp; omega) | exact Below.size (by assumption) | exact Nat.le_trans (Below.size (by assumption)) (by simp)) _) | (refine Below.via' ?_ (by assumption)) | (refine Below.alloc ?_ (by first | omega | (simp; done) | (simp; omega) | exact Below.size (by assumption) | exact Nat.le_trans (Below.size (by assumption)) (by simp)) _) | (refine Below.via ?_ (by assumption) (by first | omega | (simp; done) | (simp; omega) | exact Below.size (by assumption) | exact Nat.le_trans (Below.size (by assumption)) (by simp))))))) (hVh.out.below (by exact (by repeat (first | exact Below.refl _ _ | assumption | refine Below.drew ?_ | refine below_drewN ?_ _ | refine Below.alloc' ?_ _ | (refine Below.setCell ?_ (by first | omega | (simp; done) | (simp; omega) | exact Below.size (by assumption) | exact Nat.le_trans (Below.size (by assumption)) (by simp)) _) | (refine Below.via' ?_ (by assumption)) | (refine Below.alloc ?_ (by first | omega | (simp; done) | (simp; omega) | exact Below.size (by assumption) | exact Nat.le_trans (Below.size (by assumption)) (by simp)) _) | (refine Below.via ?_ (by assumption) (by first | omega | (simp; done) | (simp; omega) | exact Below.size (by assumption) | exact Nat.le_trans (Below.size (by assumption)) (by simp)))))))).mono ?_
        rintro e w3 ⟨rfl, hb3⟩
        rw [hh]
        go_wp2
        have hbw : Below wr.heap.size wr w3 := (by repeat (first | exact Below.refl _ _ | assumption | refine Below.drew ?_ | refine below_drewN ?_ _ | refine Below.alloc' ?_ _ | (refine Below.setCell ?_ (by first | omega | (simp; done) | (simp; omega) | exact Below.size (by assumption) | exact Nat.le_trans (Below.size (by assumption)) (by simp)) _) | (refine Below.via' ?_ (by assumption)) | (refine Below.alloc ?_ (by first | omega | (simp; done) | (simp; omega) | exact Below.size (by assumption) | exact Nat.le_trans (Below.size (by assumption)) (by simp)) _) | (refine Below.via ?_ (by assumption) (by first | omega | (simp; done) | (simp; omega) | exact Below.size (by assumption) | exact Nat.le_trans (Below.size (by assumption)) (by simp)))))
        go_roundw
        case rel => exact ⟨i + 1, by omega, by go_num, by rw [hsel.out]; exact own_below hownh.out hbw, hBr.trans (hbw.mono hBr.size)⟩
        case measure => simp [intOf]; omega
      · have hsel : Hid (feUp (eM Q) V (i + 1) = feUp (eM Q) V i ++ [(i : Int)]) := pkUp_yes (by rw [hiv]; exact hh)
        clear hiv
        go_wp2_with fail
        refine (eFails_any _ _ _ _ q.L V _ hfi.out (hE.out.below (by exact (by repeat (first | exact Below.refl _ _ | assumption | refine Below.drew ?_ | refine below_drewN ?_ _ | refine Below.alloc' ?_ _ | (refine Below.setCell ?_ (by first | omega | (simp; done) | (simp; omega) | exact Below.size (by assumption) | exact Nat.le_trans (Below.size (by assumption)) (by simp)) _) | (refine Below.via' ?_ (by assumption)) | (refine Below.alloc ?_ (by first | omega | (simp; done) | (simp; omega) | exact Below.size (by assumption) | exact Nat.le_trans (Below.size (by assumption)) (by simp)) _) | (refine Below.via ?_ (by assumption) (by first | omega | (simp; done) | (simp; omega) | exact Below.size (by assumption) | exact Nat.le_trans (Below.size (by assumption)) (by simp))))))) (hVh.out.below (by exact (by repeat (first | exact Below.refl _ _ | assumption | refine Below.drew ?_ | refine below_drewN ?_ _ | refine Below.alloc' ?_ _ | (refine Below.setCell ?_ (by first | omega | (simp; done) | (simp; omega) | exact Below.size (by assumption) | exact Nat.le_trans (Below.size (by assumption)) (by simp)) _) | (refine Below.via' ?_ (by assumption)) | (refine Below.alloc ?_ (by first | omega | (simp; done) | (simp; omega) | exact Below.size (by assumption) | exact Nat.le_trans (Below.size (by assumption)) (by simp)) _) | (refine Below.via ?_ (by assumption) (by first | omega | (simp; done) | (simp; omega) | exact Below.size (by assumption) | exact Nat.le_trans (Below.size (by assumption)) (by simp)))))))).mono ?_
        rintro e w3 ⟨rfl, hb3⟩
        rw [hh]
        have hbw : Below wr.heap.size wr w3 := (by repeat (first | exact Below.refl _ _ | assumption | refine Below.drew ?_ | refine below_drewN ?_ _ | refine Below.alloc' ?_ _ | (refine Below.setCell ?_ (by first | omega | (simp; done) | (simp; omega) | exact Below.size (by assumption) | exact Nat.le_trans (Below.size (by assumption)) (by simp)) _) | (refine Below.via' ?_ (by assumption)) | (refine Below.alloc ?_ (by first | omega | (simp; done) | (simp; omega) | exact Below.size (by assumption) | exact Nat.le_trans (Below.size (by assumption)) (by simp)) _) | (refine Below.via ?_ (by assumption) (by first | omega | (simp; done) | (simp; omega) | exact Below.size (by assumption) | exact Nat.le_trans (Below.size (by assumption)) (by simp)))))
        have ho3 := Lib.hid (own_below hownh.out hbw)
        have hBr3 := hBr.trans (hbw.mono hBr.size)
        have hs3 := hbw.size
        go_wp2_with (at_builtin; go_loud (refine wpList_append_rd _ rfl (.tmp 18) (.tmp 20) 24 rfl (w.heap.size) 3 i0 (.int .i64 0) 1 8 Try.underlying24 hii hz0 hz1 hz2 rfl (by decide) _ (feUp (eM Q) V i).length (iC (feUp (eM Q) V i)) rfl ((ho3.out.alloc _)) _ 1 1 rfl (Nat.le_refl _) (by intro h; cases h) (iC [((i : Int) : Int)]) rfl (rd_oneE _ _ _ _ (by simp)) (iC_one _) (by unfold maxLen; omega) (by omega) (by simp; omega) ?_); intro v3 w3 hown3 hgrow3 hwhere3)
        obtain ⟨hb4, -⟩ := append_below hBr3 (fun k hk => by have := (ho3.out.lt k hk).1; omega) hgrow3 hwhere3
        have hown3 := Lib.hid (own_snocE hown3 hsel.out rfl)
        clear hgrow3 hwhere3
        go_wp2
        go_roundw
        case rel => exact ⟨i + 1, by omega, by go_num, hown3.out, hb4⟩
        case measure => simp [intOf]; omega
    · have hij : i = Q.length := by omega
      subst hij
      have hfin := Lib.hid (show feUp (eM Q) V Q.length = feL (eM Q) V by unfold feL; rw [hel.out])
      go_wp2
      go_ret
      exact ⟨_, rfl, by rw [← hfin.out]; exact hownh.out, hBr⟩
set_option maxHeartbeats 1000000 in
theorem failedEdits_any (y z : Option Addr) (c2 c3 : Nat) (Q : List PR) (V : List Int) (w : World) (hf : ∀ E ∈ eM Q, Fine E V) (hQ : EIn w y Q) (hV : IIn w z V) :
    Calls Try.prog 62 #[.slice y Q.length c2, .slice z V.length c3] w (RetL (feL (eM Q) V) w) := by
  obtain ⟨i0, hii, hz0, hz1, hz2⟩ := info_parts Try.infoInt
  have hQh := Lib.hid hQ
  have hVh := Lib.hid hV
  have hfh := Lib.hid hf
  have hel := Lib.hid (eM_len Q)
  have hql := hQ.1
  clear hQ hV hf
  go_enter Try.func62, Try.ntmps62
  go_wp2
  go_loopw [5, 10] (fun u c wr => ∃ i : Nat, i ≤ Q.length ∧ c = .int .i64 i ∧ wr.ownsRow w.heap.size 3 1 u (feUp (eM Q) V i).length (iC (feUp (eM Q) V i)) ∧ Below w.heap.size w wr) (fun _ c _ => Q.length - (intOf c).toNat)
  case atStart => exact ⟨0, by omega, rfl, World.ownsRow_nil _ _ _ _, Below.refl _ _⟩
  case round =>
    obtain ⟨i, hi, rfl, hown, hBr⟩ := hrel
    have hownh := Lib.hid hown
    clear hown
    have hsl := feUp_len (eM Q) V i
    have hs0 := hBr.size
    by_cases hlt : i < Q.length
    · obtain ⟨bl, off, q, rfl, hbl, hQq, hc0⟩ := (hQh.out.below hBr).2.2.ed hlt
      have hE := Lib.hid ((hQh.out.2.1 q (List.mem_of_getElem? hQq)).below hBr)
      have hqe := eM_at hQq
      have hfi := Lib.hid (hfh.out _ (List.mem_of_getElem? hqe))
      have hiv := fe_at (V := V) hqe
      have hlt' : (i : Int) < (Q.length : Int) := by omega
      clear hQq hqe
      cases hh : fsB q.L V
      · have hsel : Hid (feUp (eM Q) V (i + 1) = feUp (eM Q) V i) := pkUp_no (by rw [hiv]; exact hh)
        clear hiv
        go_wp2_with fail
        refine (failsEdit_any _ _ _ _ q.L V _ hfi.out (hE.out.below (by exact (by repeat (first | exact Below.refl _ _ | assumption | refine Below.drew ?_ | refine below_drewN ?_ _ | refine Below.alloc' ?_ _ | (refine Below.setCell ?_ (by first | omega | (simp; done) | (simp; omega) | exact Below.size (by assumption) | exact Nat.le_trans (Below.size (by assumption)) (by simp)) _) | (refine Below.via' ?_ (by assumption)) | (refine Below.alloc ?_ (by first | omega | (simp; done) | (simp; omega) | exact Below.size (by assumption) | exact Nat.le_trans (Below.size (by assumption)) (by simp)) _) | (refine Below.via ?_ (by assumption) (by first | omega | (simp; done) | (simp; omega) | exact Below.size (by assumption) | exact Nat.le_trans (Below.size (by assumption)) (by simp))))))) (hVh.out.below (by exact (by repeat (first | exact Below.refl _ _ | assumption | refine Below.drew ?_ | refine below_drewN ?_ _ | refine Below.alloc' ?_ _ | (refine Below.setCell ?_ (by first | omega | (simp; done) | (simp; omega) | exact Below.size (by assumption) | exact Nat.le_trans (Below.size (by assumption)) (by simp)) _) | (refine Below.via' ?_ (by assumption)) | (refine Below.alloc ?_ (by first | omega | (simp; done) | (simp; omega) | exact Below.size (by assumption) | exact Nat.le_trans (Below.size (by assumption)) (by simp)) _) | (refine Below.via ?_ (by assumption) (by first | omega | (simp; done) | (simp; omega) | exact Below.size (by assumption) | exact Nat.le_trans (Below.size (by assumption)) (by simp)))))))).mono ?_
        rintro e w3 ⟨rfl, hb3⟩
        rw [hh]
        go_wp2
        have hbw : Below wr.heap.size wr w3 := (by repeat (first | exact Below.refl _ _ | assumption | refine Below.drew ?_ | refine below_drewN ?_ _ | refine Below.alloc' ?_ _ | (refine Below.setCell ?_ (by first | omega | (simp; done) | (simp; omega) | exact Below.size (by assumption) | exact Nat.le_trans (Below.size (by assumption)) (by simp)) _) | (refine Below.via' ?_ (by assumption)) | (refine Below.alloc ?_ (by first | omega | (simp; done) | (simp; omega) | exact Below.size (by assumption) | exact Nat.le_trans (Below.size (by assumption)) (by simp)) _) | (refine Below.via ?_ (by assumption) (by first | omega | (simp; done) | (simp; omega) | exact Below.size (by assumption) | exact Nat.le_trans (Below.size (by assumption)) (by simp)))))
        go_roundw
        case rel => exact ⟨i + 1, by omega, by go_num, by rw [hsel.out]; exact own_below hownh.out hbw, hBr.trans (hbw.mono hBr.size)⟩
        case measure => simp [intOf]; omega
      · have hsel : Hid (feUp (eM Q) V (i + 1) = feUp (eM Q) V i ++ [(i : Int)]) := pkUp_yes (by rw [hiv]; exact hh)
        clear hiv
        go_wp2_with fail
        refine (failsEdit_any _ _ _ _ q.L V _ hfi.out (hE.out.below (by exact (by repeat (first | exact Below.refl _ _ | assumption | refine Below.drew ?_ | refine below_drewN ?_ _ | refine Below.alloc' ?_ _ | (refine Below.setCell ?_ (by first | omega | (simp; done) | (simp; omega) | exact Below.size (by assumption) | exact Nat.le_trans (Below.size (by assumption)) (by simp)) _) | (refine Below.via' ?_ (by assumption)) | (refine Below.alloc ?_ (by first | omega | (simp; done) | (simp; omega) | exact Below.size (by assumption) | exact Nat.le_trans (Below.size (by assumption)) (by simp)) _) | (refine Below.via ?_ (by assumption) (by first | omega | (simp; done) | (simp; omega) | exact Below.size (by assumption) | exact Nat.le_trans (Below.size (by assumption)) (by simp))))))) (hVh.out.below (by exact (by repeat (first | exact Below.refl _ _ | assumption | refine Below.drew ?_ | refine below_drewN ?_ _ | refine Below.alloc' ?_ _ | (refine Below.setCell ?_ (by first | omega | (simp; done) | (simp; omega) | exact Below.size (by assumption) | exact Nat.le_trans (Below.size (by assumption)) (by simp)) _) | (refine Below.via' ?_ (by assumption)) | (refine Below.alloc ?_ (by first | omega | (simp; done) | (simp; omega) | exact Below.size (by assumption) | exact Nat.le_trans (Below.size (by assumption)) (by simp)) _) | (refine Below.via ?_ (by assumption) (by first | omega | (simp; done) | (simp; omega) | exact Below.size (by assumption) | exact Nat.le_trans (Below.size (by assumption)) (by simp)))))))).mono ?_
        rintro e w3 ⟨rfl, hb3⟩
        rw [hh]
        have hbw : Below wr.heap.size wr w3 := (by repeat (first | exact Below.refl _ _ | assumption | refine Below.drew ?_ | refine below_drewN ?_ _ | refine Below.alloc' ?_ _ | (refine Below.setCell ?_ (by first | omega | (simp; done) | (simp; omega) | exact Below.size (by assumption) | exact Nat.le_trans (Below.size (by assumption)) (by simp)) _) | (refine Below.via' ?_ (by assumption)) | (refine Below.alloc ?_ (by first | omega | (simp; done) | (simp; omega) | exact Below.size (by assumption) | exact Nat.le_trans (Below.size (by assumption)) (by simp)) _) | (refine Below.via ?_ (by assumption) (by first | omega | (simp; done) | (simp; omega) | exact Below.size (by assumption) | exact Nat.le_trans (Below.size (by assumption)) (by simp)))))
        have ho3 := Lib.hid (own_below hownh.out hbw)
        have hBr3 := hBr.trans (hbw.mono hBr.size)
        have hs3 := hbw.size
        go_wp2_with (at_builtin; go_loud (refine wpList_append_rd _ rfl (.tmp 18) (.tmp 20) 24 rfl (w.heap.size) 3 i0 (.int .i64 0) 1 8 Try.underlying24 hii hz0 hz1 hz2 rfl (by decide) _ (feUp (eM Q) V i).length (iC (feUp (eM Q) V i)) rfl ((ho3.out.alloc _)) _ 1 1 rfl (Nat.le_refl _) (by intro h; cases h) (iC [((i : Int) : Int)]) rfl (rd_oneE _ _ _ _ (by simp)) (iC_one _) (by unfold maxLen; omega) (by omega) (by simp; omega) ?_); intro v3 w3 hown3 hgrow3 hwhere3)
        obtain ⟨hb4, -⟩ := append_below hBr3 (fun k hk => by have := (ho3.out.lt k hk).1; omega) hgrow3 hwhere3
        have hown3 := Lib.hid (own_snocE hown3 hsel.out rfl)
        clear hgrow3 hwhere3
        go_wp2
        go_roundw
        case rel => exact ⟨i + 1, by omega, by go_num, hown3.out, hb4⟩
        case measure => simp [intOf]; omega
    · have hij : i = Q.length := by omega
      subst hij
      have hfin := Lib.hid (show feUp (eM Q) V Q.length = feL (eM Q) V by unfold feL; rw [hel.out])
      go_wp2
      go_ret
      exact ⟨_, rfl, by rw [← hfin.out]; exact hownh.out, hBr⟩
theorem tot_eM {T Q : List PR} (h : eM T = eM Q) : tot T = tot Q := by
  have h1 : ∀ P : List PR, tot P = ((eM P).map List.length).sum := by intro P; unfold tot eM; rw [List.map_map]; rfl
  rw [h1, h1, h]
theorem slf_len {S : List (ByteArray × Int)} {M : List (List Int)} {V : List Int} (h : slfB S M V = true) : M.length ≤ 40 := by
  unfold slfB at h
  rw [Bool.and_eq_true] at h
  exact (el_get h.1).2.1
end Go.Proofs.Ytgkaalonmkcclab
