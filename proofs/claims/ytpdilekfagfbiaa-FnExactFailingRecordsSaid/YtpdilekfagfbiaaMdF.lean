/-
  Chapter 7: the records that fail; the nearest donor: the mathematics and the walks, the model's and the program's.
-/
import Derived.Test.YtpdilekfagfbiaaImS
import Derived.Test.YtpdilekfagfbiaaEdP
import Derived.Test.YtpdilekfagfbiaaEdZ
namespace Go.Proofs.Ytpdilekfagfbiaa
open Go.RowKit
set_option maxRecDepth 100000

/-- A small schema, edits and data for it. -/
def sdB (S : List (ByteArray × Int)) (M : List (List Int)) (R : List RV) : Bool := smB S M && dokB S R
theorem sd_no1 {S : List (ByteArray × Int)} {M : List (List Int)} {R : List RV} (h : smB S M = false) : sdB S M R = false := by unfold sdB; rw [h]; rfl
theorem sd_no2 {S : List (ByteArray × Int)} {M : List (List Int)} {R : List RV} (h : dokB S R = false) : sdB S M R = false := by unfold sdB; rw [h, Bool.and_false]
theorem sd_yes {S : List (ByteArray × Int)} {M : List (List Int)} {R : List RV} (h : smB S M = true) (k : dokB S R = true) : sdB S M R = true := by unfold sdB; rw [h, k]; rfl
theorem sd_get {S : List (ByteArray × Int)} {M : List (List Int)} {R : List RV} (h : sdB S M R = true) : smB S M = true ∧ dokB S R = true := by
  unfold sdB at h
  rwa [Bool.and_eq_true] at h
/-- Does the record with this index fail an edit? The records that do. -/
def frB (M D : List (List Int)) (i : Nat) : Bool := match D[i]? with | some V => faB M V | none => false
theorem fr_at {M D : List (List Int)} {V : List Int} {i : Nat} (h : D[i]? = some V) : frB M D i = faB M V := by unfold frB; rw [h]
def frUp (M D : List (List Int)) (n : Nat) : List Int := pkUp (frB M D) n
def frL (M D : List (List Int)) : List Int := frUp M D D.length
theorem frUp_len (M D : List (List Int)) (n : Nat) : (frUp M D n).length ≤ n := pkUp_len _ _

set_option maxHeartbeats 1000000 in
theorem sFR_x (x y z : Option Addr) (c1 c2 c3 : Nat) (S : List (ByteArray × Int)) (Q P : List PR) (w : World) (hS : SIn w x c1 S) (hQ : EIn w y Q) (hP : DIn w z P) :
    Calls Try.prog 45 #[.slice x S.length c1, .slice y Q.length c2, .slice z P.length c3] w (RetLB (eIf (sdB S (eM Q) (pM P)) (frL (eM Q) (dV (pM P)))) (sdB S (eM Q) (pM P)) w) := by
  obtain ⟨i0, hii, hz0, hz1, hz2⟩ := info_parts Try.infoInt
  have hSh := Lib.hid hS
  have hQh := Lib.hid hQ
  have hPh := Lib.hid hP
  have hm := hS.1
  have hel := Lib.hid (eM_len Q)
  have hpl := Lib.hid (pM_len P)
  clear hS hQ hP
  go_enter Try.func45, Try.ntmps45
  go_wp2_with fail
  refine (eSmall_any _ _ _ _ S Q _ (hSh.out.below (by exact (by repeat (first | exact Below.refl _ _ | assumption | refine Below.drew ?_ | refine below_drewN ?_ _ | refine Below.alloc' ?_ _ | (refine Below.setCell ?_ (by first | omega | (simp; done) | (simp; omega) | exact Below.size (by assumption) | exact Nat.le_trans (Below.size (by assumption)) (by simp)) _) | (refine Below.via' ?_ (by assumption)) | (refine Below.alloc ?_ (by first | omega | (simp; done) | (simp; omega) | exact Below.size (by assumption) | exact Nat.le_trans (Below.size (by assumption)) (by simp)) _) | (refine Below.via ?_ (by assumption) (by first | omega | (simp; done) | (simp; omega) | exact Below.size (by assumption) | exact Nat.le_trans (Below.size (by assumption)) (by simp))))))) (hQh.out.below (by exact (by repeat (first | exact Below.refl _ _ | assumption | refine Below.drew ?_ | refine below_drewN ?_ _ | refine Below.alloc' ?_ _ | (refine Below.setCell ?_ (by first | omega | (simp; done) | (simp; omega) | exact Below.size (by assumption) | exact Nat.le_trans (Below.size (by assumption)) (by simp)) _) | (refine Below.via' ?_ (by assumption)) | (refine Below.alloc ?_ (by first | omega | (simp; done) | (simp; omega) | exact Below.size (by assumption) | exact Nat.le_trans (Below.size (by assumption)) (by simp)) _) | (refine Below.via ?_ (by assumption) (by first | omega | (simp; done) | (simp; omega) | exact Below.size (by assumption) | exact Nat.le_trans (Below.size (by assumption)) (by simp)))))))).mono ?_
  rintro e w1 ⟨rfl, hb1⟩
  cases he : smB S (eM Q)
  · have hv := Lib.hid (sd_no1 (R := pM P) he)
    go_wp2
    go_ret2
    exact retLB_no hv.out (by repeat (first | exact Below.refl _ _ | assumption | refine Below.drew ?_ | refine below_drewN ?_ _ | refine Below.alloc' ?_ _ | (refine Below.setCell ?_ (by first | omega | (simp; done) | (simp; omega) | exact Below.size (by assumption) | exact Nat.le_trans (Below.size (by assumption)) (by simp)) _) | (refine Below.via' ?_ (by assumption)) | (refine Below.alloc ?_ (by first | omega | (simp; done) | (simp; omega) | exact Below.size (by assumption) | exact Nat.le_trans (Below.size (by assumption)) (by simp)) _) | (refine Below.via ?_ (by assumption) (by first | omega | (simp; done) | (simp; omega) | exact Below.size (by assumption) | exact Nat.le_trans (Below.size (by assumption)) (by simp)))))
  have hsmh := Lib.hid he
  obtain ⟨g1, g2, g3⟩ := el_get (sm_get he).1
  have hsh := Lib.hid g1
  have hl40 : Q.length ≤ 40 := by have := hel.out; omega
  have hedh := Lib.hid g3
  clear he g1 g2 g3
  go_wp2_with fail
  refine (dGood_any _ _ _ _ S P _ hsh.out hm (hSh.out.rd.below (by exact (by repeat (first | exact Below.refl _ _ | assumption | refine Below.drew ?_ | refine below_drewN ?_ _ | refine Below.alloc' ?_ _ | (refine Below.setCell ?_ (by first | omega | (simp; done) | (simp; omega) | exact Below.size (by assumption) | exact Nat.le_trans (Below.size (by assumption)) (by simp)) _) | (refine Below.via' ?_ (by assumption)) | (refine Below.alloc ?_ (by first | omega | (simp; done) | (simp; omega) | exact Below.size (by assumption) | exact Nat.le_trans (Below.size (by assumption)) (by simp)) _) | (refine Below.via ?_ (by assumption) (by first | omega | (simp; done) | (simp; omega) | exact Below.size (by assumption) | exact Nat.le_trans (Below.size (by assumption)) (by simp))))))) (hPh.out.below (by exact (by repeat (first | exact Below.refl _ _ | assumption | refine Below.drew ?_ | refine below_drewN ?_ _ | refine Below.alloc' ?_ _ | (refine Below.setCell ?_ (by first | omega | (simp; done) | (simp; omega) | exact Below.size (by assumption) | exact Nat.le_trans (Below.size (by assumption)) (by simp)) _) | (refine Below.via' ?_ (by assumption)) | (refine Below.alloc ?_ (by first | omega | (simp; done) | (simp; omega) | exact Below.size (by assumption) | exact Nat.le_trans (Below.size (by assumption)) (by simp)) _) | (refine Below.via ?_ (by assumption) (by first | omega | (simp; done) | (simp; omega) | exact Below.size (by assumption) | exact Nat.le_trans (Below.size (by assumption)) (by simp)))))))).mono ?_
  rintro e w2 ⟨rfl, hb2⟩
  cases hf : dokB S (pM P)
  · have hv := Lib.hid (sd_no2 (M := eM Q) hf)
    go_wp2
    go_ret2
    exact retLB_no hv.out (by repeat (first | exact Below.refl _ _ | assumption | refine Below.drew ?_ | refine below_drewN ?_ _ | refine Below.alloc' ?_ _ | (refine Below.setCell ?_ (by first | omega | (simp; done) | (simp; omega) | exact Below.size (by assumption) | exact Nat.le_trans (Below.size (by assumption)) (by simp)) _) | (refine Below.via' ?_ (by assumption)) | (refine Below.alloc ?_ (by first | omega | (simp; done) | (simp; omega) | exact Below.size (by assumption) | exact Nat.le_trans (Below.size (by assumption)) (by simp)) _) | (refine Below.via ?_ (by assumption) (by first | omega | (simp; done) | (simp; omega) | exact Below.size (by assumption) | exact Nat.le_trans (Below.size (by assumption)) (by simp)))))
  have hfh := Lib.hid hf
  have hp40 : P.length ≤ 40 := by have := dokB_len hf; have := hpl.out; omega
  clear hf
  have hv := Lib.hid (sd_yes hsmh.out hfh.out)
  have B2 : Below w.heap.size w w2 := (by repeat (first | exact Below.refl _ _ | assumption | refine Below.drew ?_ | refine below_drewN ?_ _ | refine Below.alloc' ?_ _ | (refine Below.setCell ?_ (by first | omega | (simp; done) | (simp; omega) | exact Below.size (by assumption) | exact Nat.le_trans (Below.size (by assumption)) (by simp)) _) | (refine Below.via' ?_ (by assumption)) | (refine Below.alloc ?_ (by first | omega | (simp; done) | (simp; omega) | exact Below.size (by assumption) | exact Nat.le_trans (Below.size (by assumption)) (by simp)) _) | (refine Below.via ?_ (by assumption) (by first | omega | (simp; done) | (simp; omega) | exact Below.size (by assumption) | exact Nat.le_trans (Below.size (by assumption)) (by simp)))))
  have hs2' := B2.size
  go_wp2
  clear hb1 hb2
  go_loopw [8, 23] (fun u c wr => ∃ i : Nat, i ≤ P.length ∧ c = .int .i64 i ∧ wr.ownsRow w2.heap.size 3 1 u (frUp (eM Q) (dV (pM P)) i).length (iC (frUp (eM Q) (dV (pM P)) i)) ∧ Below w.heap.size w wr ∧ w2.heap.size ≤ wr.heap.size) (fun _ c _ => P.length - (intOf c).toNat)
  case atStart => exact ⟨0, by omega, rfl, World.ownsRow_nil _ _ _ _, B2, Nat.le_refl _⟩
  case round =>
    obtain ⟨i, hi, rfl, hown, hBr, hszr⟩ := hrel
    have hownh := Lib.hid hown
    clear hown
    have hsl := frUp_len (eM Q) (dV (pM P)) i
    by_cases hlt : i < P.length
    · obtain ⟨bl2, off2, p, rfl, hbl2, hPp, hc1, hc2, hc3⟩ := (hPh.out.below hBr).2.2.rec hlt
      have hV := Lib.hid ((hPh.out.2.1 p (List.mem_of_getElem? hPp)).2.2.below hBr)
      have hfi := Lib.hid (fun E hE => fine_of hsh.out (hedh.out E hE) (rokB_get (dokB_mem hfh.out (List.mem_of_getElem? (pM_at hPp)))).2.2.2.2)
      have hiv := fr_at (M := eM Q) (dV_at hPp)
      have hlt' : (i : Int) < (P.length : Int) := by omega
      clear hPp
      have hfn := fe_none (M := eM Q) (V := p.L)
      cases hh : faB (eM Q) p.L
      · have hsel : Hid (frUp (eM Q) (dV (pM P)) (i + 1) = frUp (eM Q) (dV (pM P)) i) := pkUp_no (by rw [hiv]; exact hh)
        have hz0 := hfn.2 hh
        have hz : ¬ (0 : Int) < ((feL (eM Q) p.L).length : Int) := by omega
        clear hiv hfn hz0
        go_wp2_with fail
        refine (eFailed_any _ _ _ _ Q p.L _ hl40 hfi.out (hQh.out.below (by exact (by repeat (first | exact Below.refl _ _ | assumption | refine Below.drew ?_ | refine below_drewN ?_ _ | refine Below.alloc' ?_ _ | (refine Below.setCell ?_ (by first | omega | (simp; done) | (simp; omega) | exact Below.size (by assumption) | exact Nat.le_trans (Below.size (by assumption)) (by simp)) _) | (refine Below.via' ?_ (by assumption)) | (refine Below.alloc ?_ (by first | omega | (simp; done) | (simp; omega) | exact Below.size (by assumption) | exact Nat.le_trans (Below.size (by assumption)) (by simp)) _) | (refine Below.via ?_ (by assumption) (by first | omega | (simp; done) | (simp; omega) | exact Below.size (by assumption) | exact Nat.le_trans (Below.size (by assumption)) (by simp))))))) (hV.out.below (by exact (by repeat (first | exact Below.refl _ _ | assumption | refine Below.drew ?_ | refine below_drewN ?_ _ | refine Below.alloc' ?_ _ | (refine Below.setCell ?_ (by first | omega | (simp; done) | (simp; omega) | exact Below.size (by assumption) | exact Nat.le_trans (Below.size (by assumption)) (by simp)) _) | (refine Below.via' ?_ (by assumption)) | (refine Below.alloc ?_ (by first | omega | (simp; done) | (simp; omega) | exact Below.size (by assumption) | exact Nat.le_trans (Below.size (by assumption)) (by simp)) _) | (refine Below.via ?_ (by assumption) (by first | omega | (simp; done) | (simp; omega) | exact Below.size (by assumption) | exact Nat.le_trans (Below.size (by assumption)) (by simp)))))))).mono ?_
        rintro e w3 ⟨u3, rfl, ho3, hb3⟩
        obtain ⟨x3, n3, rfl, -, -⟩ := (OwR.of ho3).form
        go_wp2
        have hbw : Below wr.heap.size wr w3 := (by repeat (first | exact Below.refl _ _ | assumption | refine Below.drew ?_ | refine below_drewN ?_ _ | refine Below.alloc' ?_ _ | (refine Below.setCell ?_ (by first | omega | (simp; done) | (simp; omega) | exact Below.size (by assumption) | exact Nat.le_trans (Below.size (by assumption)) (by simp)) _) | (refine Below.via' ?_ (by assumption)) | (refine Below.alloc ?_ (by first | omega | (simp; done) | (simp; omega) | exact Below.size (by assumption) | exact Nat.le_trans (Below.size (by assumption)) (by simp)) _) | (refine Below.via ?_ (by assumption) (by first | omega | (simp; done) | (simp; omega) | exact Below.size (by assumption) | exact Nat.le_trans (Below.size (by assumption)) (by simp)))))
        go_roundw
        case rel => exact ⟨i + 1, by omega, by go_num, by rw [hsel.out]; exact own_below hownh.out hbw, hBr.trans (hbw.mono hBr.size), Nat.le_trans hszr hbw.size⟩
        case measure => simp [intOf]; omega
      · have hsel : Hid (frUp (eM Q) (dV (pM P)) (i + 1) = frUp (eM Q) (dV (pM P)) i ++ [(i : Int)]) := pkUp_yes (by rw [hiv]; exact hh)
        have hz : (0 : Int) < ((feL (eM Q) p.L).length : Int) := by
          rcases Nat.eq_zero_or_pos (feL (eM Q) p.L).length with h0 | h0
          · rw [hfn.1 h0] at hh; cases hh
          · omega
        clear hiv hfn
        go_wp2_with fail
        refine (eFailed_any _ _ _ _ Q p.L _ hl40 hfi.out (hQh.out.below (by exact (by repeat (first | exact Below.refl _ _ | assumption | refine Below.drew ?_ | refine below_drewN ?_ _ | refine Below.alloc' ?_ _ | (refine Below.setCell ?_ (by first | omega | (simp; done) | (simp; omega) | exact Below.size (by assumption) | exact Nat.le_trans (Below.size (by assumption)) (by simp)) _) | (refine Below.via' ?_ (by assumption)) | (refine Below.alloc ?_ (by first | omega | (simp; done) | (simp; omega) | exact Below.size (by assumption) | exact Nat.le_trans (Below.size (by assumption)) (by simp)) _) | (refine Below.via ?_ (by assumption) (by first | omega | (simp; done) | (simp; omega) | exact Below.size (by assumption) | exact Nat.le_trans (Below.size (by assumption)) (by simp))))))) (hV.out.below (by exact (by repeat (first | exact Below.refl _ _ | assumption | refine Below.drew ?_ | refine below_drewN ?_ _ | refine Below.alloc' ?_ _ | (refine Below.setCell ?_ (by first | omega | (simp; done) | (simp; omega) | exact Below.size (by assumption) | exact Nat.le_trans (Below.size (by assumption)) (by simp)) _) | (refine Below.via' ?_ (by assumption)) | (refine Below.alloc ?_ (by first | omega | (simp; done) | (simp; omega) | exact Below.size (by assumption) | exact Nat.le_trans (Below.size (by assumption)) (by simp)) _) | (refine Below.via ?_ (by assumption) (by first | omega | (simp; done) | (simp; omega) | exact Below.size (by assumption) | exact Nat.le_trans (Below.size (by assumption)) (by simp)))))))).mono ?_
        rintro e w3 ⟨u3, rfl, ho3, hb3⟩
        obtain ⟨x3, n3, rfl, -, -⟩ := (OwR.of ho3).form
        clear ho3
        have hbw : Below wr.heap.size wr w3 := (by repeat (first | exact Below.refl _ _ | assumption | refine Below.drew ?_ | refine below_drewN ?_ _ | refine Below.alloc' ?_ _ | (refine Below.setCell ?_ (by first | omega | (simp; done) | (simp; omega) | exact Below.size (by assumption) | exact Nat.le_trans (Below.size (by assumption)) (by simp)) _) | (refine Below.via' ?_ (by assumption)) | (refine Below.alloc ?_ (by first | omega | (simp; done) | (simp; omega) | exact Below.size (by assumption) | exact Nat.le_trans (Below.size (by assumption)) (by simp)) _) | (refine Below.via ?_ (by assumption) (by first | omega | (simp; done) | (simp; omega) | exact Below.size (by assumption) | exact Nat.le_trans (Below.size (by assumption)) (by simp)))))
        have ho3 := Lib.hid (own_below hownh.out hbw)
        have hBr3 := hBr.trans (hbw.mono hBr.size)
        have hs3 := hbw.size
        go_wp2_with (at_builtin; go_loud (refine wpList_append_rd _ rfl (.tmp 34) (.tmp 36) 39 rfl (w2.heap.size) 3 i0 (.int .i64 0) 1 8 Try.underlying39 hii hz0 hz1 hz2 rfl (by decide) _ (frUp (eM Q) (dV (pM P)) i).length (iC (frUp (eM Q) (dV (pM P)) i)) rfl ((ho3.out.alloc _)) _ 1 1 rfl (Nat.le_refl _) (by intro h; cases h) (iC [((i : Int) : Int)]) rfl (rd_oneE _ _ _ _ (by simp)) (iC_one _) (by unfold maxLen; omega) (by omega) (by simp; omega) ?_); intro v3 w3 hown3 hgrow3 hwhere3)
        obtain ⟨hb5, -⟩ := append_below hBr3 (fun k hk => by have := (ho3.out.lt k hk).1; omega) hgrow3 hwhere3
        have hs5 := hgrow3.size
        have hown3 := Lib.hid (own_snocE hown3 hsel.out rfl)
        clear hgrow3 hwhere3
        go_wp2
        go_roundw
        case rel => exact ⟨i + 1, by omega, by go_num, hown3.out, hb5, by simp at hs5; omega⟩
        case measure => simp [intOf]; omega
    · have hij : i = P.length := by omega
      subst hij
      have hfin := Lib.hid (show frUp (eM Q) (dV (pM P)) P.length = frL (eM Q) (dV (pM P)) by unfold frL; rw [dV_len, hpl.out])
      go_wp2
      go_ret2
      exact retLB_yes hv.out (by rw [← hfin.out]; exact own_more hownh.out hs2') hBr
set_option maxHeartbeats 1000000 in
theorem iFR_x (x y z : Option Addr) (c1 c2 c3 : Nat) (S : List (ByteArray × Int)) (Q P : List PR) (w : World) (hS : SIn w x c1 S) (hQ : EIn w y Q) (hP : DIn w z P) :
    Calls Try.prog 47 #[.slice x S.length c1, .slice y Q.length c2, .slice z P.length c3] w (RetLB (eIf (sdB S (eM Q) (pM P)) (frL (eM Q) (dV (pM P)))) (sdB S (eM Q) (pM P)) w) := by
  obtain ⟨i0, hii, hz0, hz1, hz2⟩ := info_parts Try.infoInt
  have hSh := Lib.hid hS
  have hQh := Lib.hid hQ
  have hPh := Lib.hid hP
  have hm := hS.1
  have hel := Lib.hid (eM_len Q)
  have hpl := Lib.hid (pM_len P)
  clear hS hQ hP
  go_enter Try.func47, Try.ntmps47
  go_wp2_with fail
  refine (isSmall_any _ _ _ _ (hSh.out.below (by exact (by repeat (first | exact Below.refl _ _ | assumption | refine Below.drew ?_ | refine below_drewN ?_ _ | refine Below.alloc' ?_ _ | (refine Below.setCell ?_ (by first | omega | (simp; done) | (simp; omega) | exact Below.size (by assumption) | exact Nat.le_trans (Below.size (by assumption)) (by simp)) _) | (refine Below.via' ?_ (by assumption)) | (refine Below.alloc ?_ (by first | omega | (simp; done) | (simp; omega) | exact Below.size (by assumption) | exact Nat.le_trans (Below.size (by assumption)) (by simp)) _) | (refine Below.via ?_ (by assumption) (by first | omega | (simp; done) | (simp; omega) | exact Below.size (by assumption) | exact Nat.le_trans (Below.size (by assumption)) (by simp)))))))).mono ?_
  rintro e w0 ⟨rfl, hb0⟩
  cases hs : smS S
  · have hv := Lib.hid (sd_no1 (R := pM P) (sm_no3 (M := eM Q) hs))
    go_wp2
    go_ret2
    exact retLB_no hv.out (by repeat (first | exact Below.refl _ _ | assumption | refine Below.drew ?_ | refine below_drewN ?_ _ | refine Below.alloc' ?_ _ | (refine Below.setCell ?_ (by first | omega | (simp; done) | (simp; omega) | exact Below.size (by assumption) | exact Nat.le_trans (Below.size (by assumption)) (by simp)) _) | (refine Below.via' ?_ (by assumption)) | (refine Below.alloc ?_ (by first | omega | (simp; done) | (simp; omega) | exact Below.size (by assumption) | exact Nat.le_trans (Below.size (by assumption)) (by simp)) _) | (refine Below.via ?_ (by assumption) (by first | omega | (simp; done) | (simp; omega) | exact Below.size (by assumption) | exact Nat.le_trans (Below.size (by assumption)) (by simp)))))
  have hsh := Lib.hid (smS_get hs).1
  have hcn := Lib.hid (smS_get hs).2
  clear hs
  go_wp2_with fail
  refine (areEditsFor_any _ _ _ _ S Q _ hsh.out hm (hSh.out.rd.below (by exact (by repeat (first | exact Below.refl _ _ | assumption | refine Below.drew ?_ | refine below_drewN ?_ _ | refine Below.alloc' ?_ _ | (refine Below.setCell ?_ (by first | omega | (simp; done) | (simp; omega) | exact Below.size (by assumption) | exact Nat.le_trans (Below.size (by assumption)) (by simp)) _) | (refine Below.via' ?_ (by assumption)) | (refine Below.alloc ?_ (by first | omega | (simp; done) | (simp; omega) | exact Below.size (by assumption) | exact Nat.le_trans (Below.size (by assumption)) (by simp)) _) | (refine Below.via ?_ (by assumption) (by first | omega | (simp; done) | (simp; omega) | exact Below.size (by assumption) | exact Nat.le_trans (Below.size (by assumption)) (by simp))))))) (hQh.out.below (by exact (by repeat (first | exact Below.refl _ _ | assumption | refine Below.drew ?_ | refine below_drewN ?_ _ | refine Below.alloc' ?_ _ | (refine Below.setCell ?_ (by first | omega | (simp; done) | (simp; omega) | exact Below.size (by assumption) | exact Nat.le_trans (Below.size (by assumption)) (by simp)) _) | (refine Below.via' ?_ (by assumption)) | (refine Below.alloc ?_ (by first | omega | (simp; done) | (simp; omega) | exact Below.size (by assumption) | exact Nat.le_trans (Below.size (by assumption)) (by simp)) _) | (refine Below.via ?_ (by assumption) (by first | omega | (simp; done) | (simp; omega) | exact Below.size (by assumption) | exact Nat.le_trans (Below.size (by assumption)) (by simp)))))))).mono ?_
  rintro e w1 ⟨rfl, hb1⟩
  cases he : elB S (eM Q)
  · have hv := Lib.hid (sd_no1 (R := pM P) (sm_no1 he))
    go_wp2
    go_ret2
    exact retLB_no hv.out (by repeat (first | exact Below.refl _ _ | assumption | refine Below.drew ?_ | refine below_drewN ?_ _ | refine Below.alloc' ?_ _ | (refine Below.setCell ?_ (by first | omega | (simp; done) | (simp; omega) | exact Below.size (by assumption) | exact Nat.le_trans (Below.size (by assumption)) (by simp)) _) | (refine Below.via' ?_ (by assumption)) | (refine Below.alloc ?_ (by first | omega | (simp; done) | (simp; omega) | exact Below.size (by assumption) | exact Nat.le_trans (Below.size (by assumption)) (by simp)) _) | (refine Below.via ?_ (by assumption) (by first | omega | (simp; done) | (simp; omega) | exact Below.size (by assumption) | exact Nat.le_trans (Below.size (by assumption)) (by simp)))))
  have hsmh := Lib.hid (sm_yes he hcn.out)
  obtain ⟨-, g2, g3⟩ := el_get he
  have hl40 : Q.length ≤ 40 := by have := hel.out; omega
  have hedh := Lib.hid g3
  clear he g2 g3
  go_wp2_with fail
  refine (areDataFor_any _ _ _ _ S P _ hsh.out hm (hSh.out.rd.below (by exact (by repeat (first | exact Below.refl _ _ | assumption | refine Below.drew ?_ | refine below_drewN ?_ _ | refine Below.alloc' ?_ _ | (refine Below.setCell ?_ (by first | omega | (simp; done) | (simp; omega) | exact Below.size (by assumption) | exact Nat.le_trans (Below.size (by assumption)) (by simp)) _) | (refine Below.via' ?_ (by assumption)) | (refine Below.alloc ?_ (by first | omega | (simp; done) | (simp; omega) | exact Below.size (by assumption) | exact Nat.le_trans (Below.size (by assumption)) (by simp)) _) | (refine Below.via ?_ (by assumption) (by first | omega | (simp; done) | (simp; omega) | exact Below.size (by assumption) | exact Nat.le_trans (Below.size (by assumption)) (by simp))))))) (hPh.out.below (by exact (by repeat (first | exact Below.refl _ _ | assumption | refine Below.drew ?_ | refine below_drewN ?_ _ | refine Below.alloc' ?_ _ | (refine Below.setCell ?_ (by first | omega | (simp; done) | (simp; omega) | exact Below.size (by assumption) | exact Nat.le_trans (Below.size (by assumption)) (by simp)) _) | (refine Below.via' ?_ (by assumption)) | (refine Below.alloc ?_ (by first | omega | (simp; done) | (simp; omega) | exact Below.size (by assumption) | exact Nat.le_trans (Below.size (by assumption)) (by simp)) _) | (refine Below.via ?_ (by assumption) (by first | omega | (simp; done) | (simp; omega) | exact Below.size (by assumption) | exact Nat.le_trans (Below.size (by assumption)) (by simp)))))))).mono ?_
  rintro e w2 ⟨rfl, hb2⟩
  cases hf : dokB S (pM P)
  · have hv := Lib.hid (sd_no2 (M := eM Q) hf)
    go_wp2
    go_ret2
    exact retLB_no hv.out (by repeat (first | exact Below.refl _ _ | assumption | refine Below.drew ?_ | refine below_drewN ?_ _ | refine Below.alloc' ?_ _ | (refine Below.setCell ?_ (by first | omega | (simp; done) | (simp; omega) | exact Below.size (by assumption) | exact Nat.le_trans (Below.size (by assumption)) (by simp)) _) | (refine Below.via' ?_ (by assumption)) | (refine Below.alloc ?_ (by first | omega | (simp; done) | (simp; omega) | exact Below.size (by assumption) | exact Nat.le_trans (Below.size (by assumption)) (by simp)) _) | (refine Below.via ?_ (by assumption) (by first | omega | (simp; done) | (simp; omega) | exact Below.size (by assumption) | exact Nat.le_trans (Below.size (by assumption)) (by simp)))))
  have hfh := Lib.hid hf
  have hp40 : P.length ≤ 40 := by have := dokB_len hf; have := hpl.out; omega
  clear hf
  have hv := Lib.hid (sd_yes hsmh.out hfh.out)
  have B2 : Below w.heap.size w w2 := (by repeat (first | exact Below.refl _ _ | assumption | refine Below.drew ?_ | refine below_drewN ?_ _ | refine Below.alloc' ?_ _ | (refine Below.setCell ?_ (by first | omega | (simp; done) | (simp; omega) | exact Below.size (by assumption) | exact Nat.le_trans (Below.size (by assumption)) (by simp)) _) | (refine Below.via' ?_ (by assumption)) | (refine Below.alloc ?_ (by first | omega | (simp; done) | (simp; omega) | exact Below.size (by assumption) | exact Nat.le_trans (Below.size (by assumption)) (by simp)) _) | (refine Below.via ?_ (by assumption) (by first | omega | (simp; done) | (simp; omega) | exact Below.size (by assumption) | exact Nat.le_trans (Below.size (by assumption)) (by simp)))))
  have hs2' := B2.size
  go_wp2
  clear hb0 hb1 hb2
  go_loopw [8, 28] (fun u c wr => ∃ i : Nat, i ≤ P.length ∧ c = .int .i64 i ∧ wr.ownsRow w2.heap.size 3 1 u (frUp (eM Q) (dV (pM P)) i).length (iC (frUp (eM Q) (dV (pM P)) i)) ∧ Below w.heap.size w wr ∧ w2.heap.size ≤ wr.heap.size) (fun _ c _ => P.length - (intOf c).toNat)
  case atStart => exact ⟨0, by omega, rfl, World.ownsRow_nil _ _ _ _, B2, Nat.le_refl _⟩
  case round =>
    obtain ⟨i, hi, rfl, hown, hBr, hszr⟩ := hrel
    have hownh := Lib.hid hown
    clear hown
    have hsl := frUp_len (eM Q) (dV (pM P)) i
    by_cases hlt : i < P.length
    · obtain ⟨bl2, off2, p, rfl, hbl2, hPp, hc1, hc2, hc3⟩ := (hPh.out.below hBr).2.2.rec hlt
      have hV := Lib.hid ((hPh.out.2.1 p (List.mem_of_getElem? hPp)).2.2.below hBr)
      have hfi := Lib.hid (fun E hE => fine_of hsh.out (hedh.out E hE) (rokB_get (dokB_mem hfh.out (List.mem_of_getElem? (pM_at hPp)))).2.2.2.2)
      have hiv := fr_at (M := eM Q) (dV_at hPp)
      have hlt' : (i : Int) < (P.length : Int) := by omega
      clear hPp
      cases hh : faB (eM Q) p.L
      · have hsel : Hid (frUp (eM Q) (dV (pM P)) (i + 1) = frUp (eM Q) (dV (pM P)) i) := pkUp_no (by rw [hiv]; exact hh)
        clear hiv
        go_wp2_with fail
        refine (failsAny_any _ _ _ _ Q p.L _ hfi.out (hQh.out.below (by exact (by repeat (first | exact Below.refl _ _ | assumption | refine Below.drew ?_ | refine below_drewN ?_ _ | refine Below.alloc' ?_ _ | (refine Below.setCell ?_ (by first | omega | (simp; done) | (simp; omega) | exact Below.size (by assumption) | exact Nat.le_trans (Below.size (by assumption)) (by simp)) _) | (refine Below.via' ?_ (by assumption)) | (refine Below.alloc ?_ (by first | omega | (simp; done) | (simp; omega) | exact Below.size (by assumption) | exact Nat.le_trans (Below.size (by assumption)) (by simp)) _) | (refine Below.via ?_ (by assumption) (by first | omega | (simp; done) | (simp; omega) | exact Below.size (by assumption) | exact Nat.le_trans (Below.size (by assumption)) (by simp))))))) (hV.out.below (by exact (by repeat (first | exact Below.refl _ _ | assumption | refine Below.drew ?_ | refine below_drewN ?_ _ | refine Below.alloc' ?_ _ | (refine Below.setCell ?_ (by first | omega | (simp; done) | (simp; omega) | exact Below.size (by assumption) | exact Nat.le_trans (Below.size (by assumption)) (by simp)) _) | (refine Below.via' ?_ (by assumption)) | (refine Below.alloc ?_ (by first | omega | (simp; done) | (simp; omega) | exact Below.size (by assumption) | exact Nat.le_trans (Below.size (by assumption)) (by simp)) _) | (refine Below.via ?_ (by assumption) (by first | omega | (simp; done) | (simp; omega) | exact Below.size (by assumption) | exact Nat.le_trans (Below.size (by assumption)) (by simp)))))))).mono ?_
        rintro e w3 ⟨rfl, hb3⟩
        rw [hh]
        go_wp2
        have hbw : Below wr.heap.size wr w3 := (by repeat (first | exact Below.refl _ _ | assumption | refine Below.drew ?_ | refine below_drewN ?_ _ | refine Below.alloc' ?_ _ | (refine Below.setCell ?_ (by first | omega | (simp; done) | (simp; omega) | exact Below.size (by assumption) | exact Nat.le_trans (Below.size (by assumption)) (by simp)) _) | (refine Below.via' ?_ (by assumption)) | (refine Below.alloc ?_ (by first | omega | (simp; done) | (simp; omega) | exact Below.size (by assumption) | exact Nat.le_trans (Below.size (by assumption)) (by simp)) _) | (refine Below.via ?_ (by assumption) (by first | omega | (simp; done) | (simp; omega) | exact Below.size (by assumption) | exact Nat.le_trans (Below.size (by assumption)) (by simp)))))
        go_roundw
        case rel => exact ⟨i + 1, by omega, by go_num, by rw [hsel.out]; exact own_below hownh.out hbw, hBr.trans (hbw.mono hBr.size), Nat.le_trans hszr hbw.size⟩
        case measure => simp [intOf]; omega
      · have hsel : Hid (frUp (eM Q) (dV (pM P)) (i + 1) = frUp (eM Q) (dV (pM P)) i ++ [(i : Int)]) := pkUp_yes (by rw [hiv]; exact hh)
        clear hiv
        go_wp2_with fail
        refine (failsAny_any _ _ _ _ Q p.L _ hfi.out (hQh.out.below (by exact (by repeat (first | exact Below.refl _ _ | assumption | refine Below.drew ?_ | refine below_drewN ?_ _ | refine Below.alloc' ?_ _ | (refine Below.setCell ?_ (by first | omega | (simp; done) | (simp; omega) | exact Below.size (by assumption) | exact Nat.le_trans (Below.size (by assumption)) (by simp)) _) | (refine Below.via' ?_ (by assumption)) | (refine Below.alloc ?_ (by first | omega | (simp; done) | (simp; omega) | exact Below.size (by assumption) | exact Nat.le_trans (Below.size (by assumption)) (by simp)) _) | (refine Below.via ?_ (by assumption) (by first | omega | (simp; done) | (simp; omega) | exact Below.size (by assumption) | exact Nat.le_trans (Below.size (by assumption)) (by simp))))))) (hV.out.below (by exact (by repeat (first | exact Below.refl _ _ | assumption | refine Below.drew ?_ | refine below_drewN ?_ _ | refine Below.alloc' ?_ _ | (refine Below.setCell ?_ (by first | omega | (simp; done) | (simp; omega) | exact Below.size (by assumption) | exact Nat.le_trans (Below.size (by assumption)) (by simp)) _) | (refine Below.via' ?_ (by assumption)) | (refine Below.alloc ?_ (by first | omega | (simp; done) | (simp; omega) | exact Below.size (by assumption) | exact Nat.le_trans (Below.size (by assumption)) (by simp)) _) | (refine Below.via ?_ (by assumption) (by first | omega | (simp; done) | (simp; omega) | exact Below.size (by assumption) | exact Nat.le_trans (Below.size (by assumption)) (by simp)))))))).mono ?_
        rintro e w3 ⟨rfl, hb3⟩
        rw [hh]
        have hbw : Below wr.heap.size wr w3 := (by repeat (first | exact Below.refl _ _ | assumption | refine Below.drew ?_ | refine below_drewN ?_ _ | refine Below.alloc' ?_ _ | (refine Below.setCell ?_ (by first | omega | (simp; done) | (simp; omega) | exact Below.size (by assumption) | exact Nat.le_trans (Below.size (by assumption)) (by simp)) _) | (refine Below.via' ?_ (by assumption)) | (refine Below.alloc ?_ (by first | omega | (simp; done) | (simp; omega) | exact Below.size (by assumption) | exact Nat.le_trans (Below.size (by assumption)) (by simp)) _) | (refine Below.via ?_ (by assumption) (by first | omega | (simp; done) | (simp; omega) | exact Below.size (by assumption) | exact Nat.le_trans (Below.size (by assumption)) (by simp)))))
        have ho3 := Lib.hid (own_below hownh.out hbw)
        have hBr3 := hBr.trans (hbw.mono hBr.size)
        have hs3 := hbw.size
        go_wp2_with (at_builtin; go_loud (refine wpList_append_rd _ rfl (.tmp 37) (.tmp 39) 39 rfl (w2.heap.size) 3 i0 (.int .i64 0) 1 8 Try.underlying39 hii hz0 hz1 hz2 rfl (by decide) _ (frUp (eM Q) (dV (pM P)) i).length (iC (frUp (eM Q) (dV (pM P)) i)) rfl ((ho3.out.alloc _)) _ 1 1 rfl (Nat.le_refl _) (by intro h; cases h) (iC [((i : Int) : Int)]) rfl (rd_oneE _ _ _ _ (by simp)) (iC_one _) (by unfold maxLen; omega) (by omega) (by simp; omega) ?_); intro v3 w3 hown3 hgrow3 hwhere3)
        obtain ⟨hb5, -⟩ := append_below hBr3 (fun k hk => by have := (ho3.out.lt k hk).1; omega) hgrow3 hwhere3
        have hs5 := hgrow3.size
        have hown3 := Lib.hid (own_snocE hown3 hsel.out rfl)
        clear hgrow3 hwhere3
        go_wp2
        go_roundw
        case rel => exact ⟨i + 1, by omega, by go_num, hown3.out, hb5, by simp at hs5; omega⟩
        case measure => simp [intOf]; omega
    · have hij : i = P.length := by omega
      subst hij
      have hfin := Lib.hid (show frUp (eM Q) (dV (pM P)) P.length = frL (eM Q) (dV (pM P)) by unfold frL; rw [dV_len, hpl.out])
      go_wp2
      go_ret2
      exact retLB_yes hv.out (by rw [← hfin.out]; exact own_more hownh.out hs2') hBr
theorem sFR_m (x y z : Option Addr) (c1 c2 c3 : Nat) (S : List (ByteArray × Int)) (Q P : List PR) (w : World) (hS : SIn w x c1 S) (hQ : EIn w y Q) (hP : DIn w z P) (M : List (List Int)) (hM : eM Q = M) (R : List RV) (hR : pM P = R) :
    Calls Try.prog 45 #[.slice x S.length c1, .slice y Q.length c2, .slice z P.length c3] w (RetLB (eIf (sdB S M R) (frL M (dV R))) (sdB S M R) w) := by subst hM; subst hR; exact sFR_x x y z c1 c2 c3 S Q P w hS hQ hP
theorem iFR_m (x y z : Option Addr) (c1 c2 c3 : Nat) (S : List (ByteArray × Int)) (Q P : List PR) (w : World) (hS : SIn w x c1 S) (hQ : EIn w y Q) (hP : DIn w z P) (M : List (List Int)) (hM : eM Q = M) (R : List RV) (hR : pM P = R) :
    Calls Try.prog 47 #[.slice x S.length c1, .slice y Q.length c2, .slice z P.length c3] w (RetLB (eIf (sdB S M R) (frL M (dV R))) (sdB S M R) w) := by subst hM; subst hR; exact iFR_x x y z c1 c2 c3 S Q P w hS hQ hP
theorem frL_len (M D : List (List Int)) : (frL M D).length ≤ D.length := pkUp_len _ _
theorem sd_len {S : List (ByteArray × Int)} {M : List (List Int)} {R : List RV} (h : sdB S M R = true) : R.length ≤ 40 := dokB_len (sd_get h).2
end Go.Proofs.Ytpdilekfagfbiaa
