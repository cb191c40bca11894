import Derived.Test.YtpdilekfagfbiaaImS
import Derived.Test.YtpdilekfagfbiaaEdP
import Derived.Test.YtpdilekfagfbiaaEdZ
import Derived.Test.YtpdilekfagfbiaaDfv
import Derived.Test.YtpdilekfagfbiaaEdX
import Derived.Test.YtpdilekfagfbiaaGrpW
import Derived.Carry
namespace Go.Proofs.Ytpdilekfagfbiaa
open Go.RowKit
set_option maxRecDepth 100000

/-- A small schema, edits and data for it. -/
def sdB (S : List (ByteArray × Int)) (M : List (List Int)) (R : List RV) : Bool := smB S M && dokB S R
theorem sd_no1 {S : List (ByteArray × Int)} {M : List (List Int)} {R : List RV} (h : smB S M = false) : sdB S M R = false := by unfold sdB; rw [h]; rfl
theorem sd_no2 {S : List (ByteArray × Int)} {M : List (List Int)} {R : List RV} (h : dokB S R = false) : sdB S M R = false := by unfold sdB; rw [h, Bool.and_false]
theorem sd_yes {S : List (ByteArray × Int)} {M : List (List Int)} {R : List RV} (h : smB S M = true) (k : dokB S R = true) : sdB S M R = true := by unfold sdB; rw [h, k]; rfl
theorem sd_get {S : List (ByteArray × Int)} {M : List (List Int)} {R : List RV} (h : sdB S M R = true) : smB S M = true ∧ dokB S R = true := by
  unfold sdB at h
  rwa [Bool.and_eq_true] at h
/-- Does the record with this index fail an edit? The records that do. -/
def frB (M D : List (List Int)) (i : Nat) : Bool := match D[i]? with | some V => faB M V | none => false
theorem fr_at {M D : List (List Int)} {V : List Int} {i : Nat} (h : D[i]? = some V) : frB M D i = faB M V := by unfold frB; rw [h]
def frUp (M D : List (List Int)) (n : Nat) : List Int := pkUp (frB M D) n
def frL (M D : List (List Int)) : List Int := frUp M D D.length
theorem frUp_len (M D : List (List Int)) (n : Nat) : (frUp M D n).length ≤ n := pkUp_len _ _

set_option maxHeartbeats 1000000 in
theorem sFR_x (x y z : Option Addr) (c1 c2 c3 : Nat) (S : List (ByteArray × Int)) (Q P : List PR) (w : World) (hS : SIn w x c1 S) (hQ : EIn w y Q) (hP : DIn w z P) :
    Calls Try.prog 45 #[.slice x S.length c1, .slice y Q.length c2, .slice z P.length c3] w (RetLB (eIf (sdB S (eM Q) (pM P)) (frL (eM Q) (dV (pM P)))) (sdB S (eM Q) (pM P)) w) := by
  obtain ⟨i0, hii, hz0, hz1, hz2⟩ := info_parts Try.infoInt
  have hSh := Lib.hid hS
  have hQh := Lib.hid hQ
  have hPh := Lib.hid hP
  have hm := hS.1
  have hel := Lib.hid (eM_len Q)
  have hpl := Lib.hid (pM_len P)
  clear hS hQ hP
  go_enter Try.func45, Try.ntmps45
  go_wp2_with fail
  refine (eSmall_any _ _ _ _ S Q _ (hSh.out.below (by exact (by repeat (first | exact Below.refl _ _ | assumption | refine Below.drew ?_ | refine below_drewN ?_ _ | refine Below.alloc' ?_ _ | (refine Below.setCell ?_ (by first | omega | (simp; done) | (simp; omega) | exact Below.size (by assumption) | exact Nat.le_trans (Below.size (by assumption)) (by simp)) _) | (refine Below.via' ?_ (by assumption)) | (refine Below.alloc ?_ (by first | omega | (simp; done) | (simp; omega) | exact Below.size (by assumption) | exact Nat.le_trans (Below.size (by assumption)) (by simp)) _) | (refine Below.via ?_ (by assumption) (by first | omega | (simp; done) | (simp; omega) | exact Below.size (by assumption) | exact Nat.le_trans (Below.size (by assumption)) (by simp))))))) (hQh.out.below (by exact (by repeat (first | exact Below.refl _ _ | assumption | refine Below.drew ?_ | refine below_drewN ?_ _ | refine Below.alloc' ?_ _ | (refine Below.setCell ?_ (by first | omega | (simp; done) | (simp; omega) | exact Below.size (by assumption) | exact Nat.le_trans (Below.size (by assumption)) (by simp)) _) | (refine Below.via' ?_ (by assumption)) | (refine Below.alloc ?_ (by first | omega | (simp; done) | (simp; omega) | exact Below.size (by assumption) | exact Nat.le_trans (Below.size (by assumption)) (by simp)) _) | (refine Below.via ?_ (by assumption) (by first | omega | (simp; done) | (simp; omega) | exact Below.size (by assumption) | exact Nat.le_trans (Below.size (by assumption)) (by simp)))))))).mono ?_
  rintro e w1 ⟨rfl, hb1⟩
  cases he : smB S (eM Q)
  · have hv := Lib.hid (sd_no1 (R := pM P) he)
    go_wp2
    go_ret2
    exact retLB_no hv.out (by repeat (first | exact Below.refl _ _ | assumption | refine Below.drew ?_ | refine below_drewN ?_ _ | refine Below.alloc' ?_ _ | (refine Below.setCell ?_ (by first | omega | (simp; done) | (simp; omega) | exact Below.size (by assumption) | exact Nat.le_trans (Below.size (by assumption)) (by simp)) _) | (refine Below.via' ?_ (by assumption)) | (refine Below.alloc ?_ (by first | omega | (simp; done) | (simp; omega) | exact Below.size (by assumption) | exact Nat.le_trans (Below.size (by assumption)) (by simp)) _) | (refine Below.via ?_ (by assumption) (by first | omega | (simp; done) | (simp; omega) | exact Below.size (by assumption) | exact Nat.le_trans (Below.size (by assumption)) (by simp)))))
  have hsmh := Lib.hid he
  obtain ⟨g1, g2, g3⟩ := el_get (sm_get he).1
  have hsh := Lib.hid g1
  have hl40 : Q.length ≤ 40 := by have := hel.out; omega
  have hedh := Lib.hid g3
  clear he g1 g2 g3
  go_wp2_with fail
  refine (dGood_any _ _ _ _ S P _ hsh.out hm (hSh.out.rd.below (by exact (by repeat (first | exact Below.refl _ _ | assumption | refine Below.drew ?_ | refine below_drewN ?_ _ | refine Below.alloc' ?_ _ | (refine Below.setCell ?_ (by first | omega | (simp; done) | (simp; omega) | exact Below.size (by assumption) | exact Nat.le_trans (Below.size (by assumption)) (by simp)) _) | (refine Below.via' ?_ (by assumption)) | (refine Below.alloc ?_ (by first | omega | (simp; done) | (simp; omega) | exact Below.size (by assumption) | exact Nat.le_trans (Below.size (by assumption)) (by simp)) _) | (refine Below.via ?_ (by assumption) (by first | omega | (simp; done) | (simp; omega) | exact Below.size (by assumption) | exact Nat.le_trans (Below.size (by assumption)) (by simp))))))) (hPh.out.below (by exact (by repeat (first | exact Below.refl _ _ | assumption | refine Below.drew ?_ | refine below_drewN ?_ _ | refine Below.alloc' ?_ _ | (refine Below.setCell ?_ (by first | omega | (simp; done) | (simp; omega) | exact Below.size (by assumption) | exact Nat.le_trans (Below.size (by assumption)) (by simp)) _) | (refine Below.via' ?_ (by assumption)) | (refine Below.alloc ?_ (by first | omega | (simp; done) | (simp; omega) | exact Below.size (by assumption) | exact Nat.le_trans (Below.size (by assumption)) (by simp)) _) | (refine Below.via ?_ (by assumption) (by first | omega | (simp; done) | (simp; omega) | exact Below.size (by assumption) | exact Nat.le_trans (Below.size (by assumption)) (by simp)))))))).mono ?_
  rintro e w2 ⟨rfl, hb2⟩
  cases hf : dokB S (pM P)
  · have hv := Lib.hid (sd_no2 (M := eM Q) hf)
    go_wp2
    go_ret2
    exact retLB_no hv.out (by repeat (first | exact Below.refl _ _ | assumption | refine Below.drew ?_ | refine below_drewN ?_ _ | refine Below.alloc' ?_ _ | (refine Below.setCell ?_ (by first | omega | (simp; done) | (simp; omega) | exact Below.size (by assumption) | exact Nat.le_trans (Below.size (by assumption)) (by simp)) _) | (refine Below.via' ?_ (by assumption)) | (refine Below.alloc ?_ (by first | omega | (simp; done) | (simp; omega) | exact Below.size (by assumption) | exact Nat.le_trans (Below.size (by assumption)) (by simp)) _) | (refine Below.via ?_ (by assumption) (by first | omega | (simp; done) | (simp; omega) | exact Below.size (by assumption) | exact Nat.le_trans (Below.size (by assumption)) (by simp)))))
  have hfh := Lib.hid hf
  have hp40 : P.length ≤ 40 := by have := dokB_len hf; have := hpl.out; omega
  clear hf
  have hv := Lib.hid (sd_yes hsmh.out hfh.out)
  have B2 : Below w.heap.size w w2 := (by repeat (first | exact Below.refl _ _ | assumption | refine Below.drew ?_ | refine below_drewN ?_ _ | refine Below.alloc' ?_ _ | (refine Below.setCell ?_ (by first | omega | (simp; done) | (simp; omega) | exact Below.size (by assumption) | exact Nat.le_trans (Below.size (by assumption)) (by simp)) _) | (refine Below.via' ?_ (by assumption)) | (refine Below.alloc ?_ (by first | omega | (simp; done) | (simp; omega) | exact Below.size (by assumption) | exact Nat.le_trans (Below.size (by assumption)) (by simp)) _) | (refine Below.via ?_ (by assumption) (by first | omega | (simp; done) | (simp; omega) | exact Below.size (by assumption) | exact Nat.le_trans (Below.size (by assumption)) (by simp)))))
  have hs2' := B2.size
  go_wp2
  clear hb1 hb2
  go_loopw [8, 23] (fun u c wr => ∃ i : Nat, i ≤ P.length ∧ c = .int .i64 i ∧ wr.ownsRow w2.heap.size 3 1 u (frUp (eM Q) (dV (pM P)) i).length (iC (frUp (eM Q) (dV (pM P)) i)) ∧ Below w.heap.size w wr ∧ w2.heap.size ≤ wr.heap.size) (fun _ c _ => P.length - (intOf c).toNat)
  case atStart => exact ⟨0, by omega, rfl, World.ownsRow_nil _ _ _ _, B2, Nat.le_refl _⟩
  case round =>
    obtain ⟨i, hi, rfl, hown, hBr, hszr⟩ := hrel
    have hownh := Lib.hid hown
    clear hown
    have hsl := frUp_len (eM Q) (dV (pM P)) i
    by_cases hlt : i < P.length
    · obtain ⟨bl2, off2, p, rfl, hbl2, hPp, hc1, hc2, hc3⟩ := (hPh.out.below hBr).2.2.rec hlt
      have hV := Lib.hid ((hPh.out.2.1 p (List.mem_of_getElem? hPp)).2.2.below hBr)
      have hfi := Lib.hid (fun E hE => fine_of hsh.out (hedh.out E hE) (rokB_get (dokB_mem hfh.out (List.mem_of_getElem? (pM_at hPp)))).2.2.2.2)
      have hiv := fr_at (M := eM Q) (dV_at hPp)
      have hlt' : (i : Int) < (P.length : Int) := by omega
      clear hPp
      have hfn := fe_none (M := eM Q) (V := p.L)
      cases hh : faB (eM Q) p.L
      · have hsel : Hid (frUp (eM Q) (dV (pM P)) (i + 1) = frUp (eM Q) (dV (pM P)) i) := pkUp_no (by rw [hiv]; exact hh)
        have hz0 := hfn.2 hh
        have hz : ¬ (0 : Int) < ((feL (eM Q) p.L).length : Int) := by omega
        clear hiv hfn hz0
        go_wp2_with fail
        refine (eFailed_any _ _ _ _ Q p.L _ hl40 hfi.out (hQh.out.below (by exact (by repeat (first | exact Below.refl _ _ | assumption | refine Below.drew ?_ | refine below_drewN ?_ _ | refine Below.alloc' ?_ _ | (refine Below.setCell ?_ (by first | omega | (simp; done) | (simp; omega) | exact Below.size (by assumption) | exact Nat.le_trans (Below.size (by assumption)) (by simp)) _) | (refine Below.via' ?_ (by assumption)) | (refine Below.alloc ?_ (by first | omega | (simp; done) | (simp; omega) | exact Below.size (by assumption) | exact Nat.le_trans (Below.size (by assumption)) (by simp)) _) | (refine Below.via ?_ (by assumption) (by first | omega | (simp; done) | (simp; omega) | exact Below.size (by assumption) | exact Nat.le_trans (Below.size (by assumption)) (by simp))))))) (hV.out.below (by exact (by repeat (first | exact Below.refl _ _ | assumption | refine Below.drew ?_ | refine below_drewN ?_ _ | refine Below.alloc' ?_ _ | (refine Below.setCell ?_ (by first | omega | (simp; done) | (simp; omega) | exact Below.size (by assumption) | exact Nat.le_trans (Below.size (by assumption)) (by simp)) _) | (refine Below.via' ?_ (by assumption)) | (refine Below.alloc ?_ (by first | omega | (simp; done) | (simp; omega) | exact Below.size (by assumption) | exact Nat.le_trans (Below.size (by assumption)) (by simp)) _) | (refine Below.via ?_ (by assumption) (by first | omega | (simp; done) | (simp; omega) | exact Below.size (by assumption) | exact Nat.le_trans (Below.size (by assumption)) (by simp)))))))).mono ?_
        rintro e w3 ⟨u3, rfl, ho3, hb3⟩
        obtain ⟨x3, n3, rfl, -, -⟩ := (OwR.of ho3).form
        go_wp2
        have hbw : Below wr.heap.size wr w3 := (by repeat (first | exact Below.refl _ _ | assumption | refine Below.drew ?_ | refine below_drewN ?_ _ | refine Below.alloc' ?_ _ | (refine Below.setCell ?_ (by first | omega | (simp; done) | (simp; omega) | exact Below.size (by assumption) | exact Nat.le_trans (Below.size (by assumption)) (by simp)) _) | (refine Below.via' ?_ (by assumption)) | (refine Below.alloc ?_ (by first | omega | (simp; done) | (simp; omega) | exact Below.size (by assumption) | exact Nat.le_trans (Below.size (by assumption)) (by simp)) _) | (refine Below.via ?_ (by assumption) (by first | omega | (simp; done) | (simp; omega) | exact Below.size (by assumption) | exact Nat.le_trans (Below.size (by assumption)) (by simp)))))
        go_roundw
        case rel => exact ⟨i + 1, by omega, by go_num, by rw [hsel.out]; exact own_below hownh.out hbw, hBr.trans (hbw.mono hBr.size), Nat.le_trans hszr hbw.size⟩
        case measure => simp [intOf]; omega
      · have hsel : Hid (frUp (eM Q) (dV (pM P)) (i + 1) = frUp (eM Q) (dV (pM P)) i ++ [(i : Int)]) := pkUp_yes (by rw [hiv]; exact hh)
        have hz : (0 : Int) < ((feL (eM Q) p.L).length : Int) := by
          rcases Nat.eq_zero_or_pos (feL (eM Q) p.L).length with h0 | h0
          · rw [hfn.1 h0] at hh; cases hh
          · omega
        clear hiv hfn
        go_wp2_with fail
        refine (eFailed_any _ _ _ _ Q p.L _ hl40 hfi.out (hQh.out.below (by exact (by repeat (first | exact Below.refl _ _ | assumption | refine Below.drew ?_ | refine below_drewN ?_ _ | refine Below.alloc' ?_ _ | (refine Below.setCell ?_ (by first | omega | (simp; done) | (simp; omega) | exact Below.size (by assumption) | exact Nat.le_trans (Below.size (by assumption)) (by simp)) _) | (refine Below.via' ?_ (by assumption)) | (refine Below.alloc ?_ (by first | omega | (simp; done) | (simp; omega) | exact Below.size (by assumption) | exact Nat.le_trans (Below.size (by assumption)) (by simp)) _) | (refine Below.via ?_ (by assumption) (by first | omega | (simp; done) | (simp; omega) | exact Below.size (by assumption) | exact Nat.le_trans (Below.size (by assumption)) (by simp))))))) (hV.out.below (by exact (by repeat (first | exact Below.refl _ _ | assumption | refine Below.drew ?_ | refine below_drewN ?_ _ | refine Below.alloc' ?_ _ | (refine Below.setCell ?_ (by first | omega | (simp; done) | (simp; omega) | exact Below.size (by assumption) | exact Nat.le_trans (Below.size (by assumption)) (by simp)) _) | (refine Below.via' ?_ (by assumption)) | (refine Below.alloc ?_ (by first | omega | (simp; done) | (simp; omega) | exact Below.size (by assumption) | exact Nat.le_trans (Below.size (by assumption)) (by simp)) _) | (refine Below.via ?_ (by assumption) (by first | omega | (simp; done) | (simp; omega) | exact Below.size (by assumption) | exact Nat.le_trans (Below.size (by assumption)) (by simp)))))))).mono ?_
        rintro e w3 ⟨u3, rfl, ho3, hb3⟩
        obtain ⟨x3, n3, rfl, -, -⟩ := (OwR.of ho3).form
        clear ho3
        have hbw : Below wr.heap.size wr w3 := (by repeat (first | exact Below.refl _ _ | assumption | refine Below.drew ?_ | refine below_drewN ?_ _ | refine Below.alloc' ?_ _ | (refine Below.setCell ?_ (by first | omega | (simp; done) | (simp; omega) | exact Below.size (by assumption) | exact Nat.le_trans (Below.size (by assumption)) (by simp)) _) | (refine Below.via' ?_ (by assumption)) | (refine Below.alloc ?_ (by first | omega | (simp; done) | (simp; omega) | exact Below.size (by assumption) | exact Nat.le_trans (Below.size (by assumption)) (by simp)) _) | (refine Below.via ?_ (by assumption) (by first | omega | (simp; done) | (simp; omega) | exact Below.size (by assumption) | exact Nat.le_trans (Below.size (by assumption)) (by simp)))))
        have ho3 := Lib.hid (own_below hownh.out hbw)
        have hBr3 := hBr.trans (hbw.mono hBr.size)
        have hs3 := hbw.size
        go_wp2_with (at_builtin; go_loud (refine wpList_append_rd _ rfl (.tmp 34) (.tmp 36) 39 rfl (w2.heap.size) 3 i0 (.int .i64 0) 1 8 Try.underlying39 hii hz0 hz1 hz2 rfl (by decide) _ (frUp (eM Q) (dV (pM P)) i).length (iC (frUp (eM Q) (dV (pM P)) i)) rfl ((ho3.out.alloc _)) _ 1 1 rfl (Nat.le_refl _) (by intro h; cases h) (iC [((i : Int) : Int)]) rfl (rd_oneE _ _ _ _ (by simp)) (iC_one _) (by unfold maxLen; omega) (by omega) (by simp; omega) ?_); intro v3 w3 hown3 hgrow3 hwhere3)
        obtain ⟨hb5, -⟩ := append_below hBr3 (fun k hk => by have := (ho3.out.lt k hk).1; omega) hgrow3 hwhere3
        have hs5 := hgrow3.size
        have hown3 := Lib.hid (own_snocE hown3 hsel.out rfl)
        clear hgrow3 hwhere3
        go_wp2
        go_roundw
        case rel => exact ⟨i + 1, by omega, by go_num, hown3.out, hb5, by simp at hs5; omega⟩
        case measure => simp [intOf]; omega
    · have hij : i = P.length := by omega
      subst hij
      have hfin := Lib.hid (show frUp (eM Q) (dV (pM P)) P.length = frL (eM Q) (dV (pM P)) by unfold frL; rw [dV_len, hpl.out])
      go_wp2
      go_ret2
      exact retLB_yes hv.out (by rw [← hfin.out]; exact own_more hownh.out hs2') hBr
set_option maxHeartbeats 1000000 in
theorem iFR_x (x y z : Option Addr) (c1 c2 c3 : Nat) (S : List (ByteArray × Int)) (Q P : List PR) (w : World) (hS : SIn w x c1 S) (hQ : EIn w y Q) (hP : DIn w z P) :
    Calls Try.prog 47 #[.slice x S.length c1, .slice y Q.length c2, .slice z P.length c3] w (RetLB (eIf (sdB S (eM Q) (pM P)) (frL (eM Q) (dV (pM P)))) (sdB S (eM Q) (pM P)) w) := by
  obtain ⟨i0, hii, hz0, hz1, hz2⟩ := info_parts Try.infoInt
  have hSh := Lib.hid hS
  have hQh := Lib.hid hQ
  have hPh := Lib.hid hP
  have hm := hS.1
  have hel := Lib.hid (eM_len Q)
  have hpl := Lib.hid (pM_len P)
  clear hS hQ hP
  go_enter Try.func47, Try.ntmps47
  go_wp2_with fail
  refine (isSmall_any _ _ _ _ (hSh.out.below (by exact (by repeat (first | exact Below.refl _ _ | assumption | refine Below.drew ?_ | refine below_drewN ?_ _ | refine Below.alloc' ?_ _ | (refine Below.setCell ?_ (by first | omega | (simp; done) | (simp; omega) | exact Below.size (by assumption) | exact Nat.le_trans (Below.size (by assumption)) (by simp)) _) | (refine Below.via' ?_ (by assumption)) | (refine Below.alloc ?_ (by first | omega | (simp; done) | (simp; omega) | exact Below.size (by assumption) | exact Nat.le_trans (Below.size (by assumption)) (by simp)) _) | (refine Below.via ?_ (by assumption) (by first | omega | (simp; done) | (simp; omega) | exact Below.size (by assumption) | exact Nat.le_trans (Below.size (by assumption)) (by simp)))))))).mono ?_
  rintro e w0 ⟨rfl, hb0⟩
  cases hs : smS S
  · have hv := Lib.hid (sd_no1 (R := pM P) (sm_no3 (M := eM Q) hs))
    go_wp2
    go_ret2
    exact retLB_no hv.out (by repeat (first | exact Below.refl _ _ | assumption | refine Below.drew ?_ | refine below_drewN ?_ _ | refine Below.alloc' ?_ _ | (refine Below.setCell ?_ (by first | omega | (simp; done) | (simp; omega) | exact Below.size (by assumption) | exact Nat.le_trans (Below.size (by assumption)) (by simp)) _) | (refine Below.via' ?_ (by assumption)) | (refine Below.alloc ?_ (by first | omega | (simp; done) | (simp; omega) | exact Below.size (by assumption) | exact Nat.le_trans (Below.size (by assumption)) (by simp)) _) | (refine Below.via ?_ (by assumption) (by first | omega | (simp; done) | (simp; omega) | exact Below.size (by assumption) | exact Nat.le_trans (Below.size (by assumption)) (by simp)))))
  have hsh := Lib.hid (smS_get hs).1
  have hcn := Lib.hid (smS_get hs).2
  clear hs
  go_wp2_with fail
  refine (areEditsFor_any _ _ _ _ S Q _ hsh.out hm (hSh.out.rd.below (by exact (by repeat (first | exact Below.refl _ _ | assumption | refine Below.drew ?_ | refine below_drewN ?_ _ | refine Below.alloc' ?_ _ | (refine Below.setCell ?_ (by first | omega | (simp; done) | (simp; omega) | exact Below.size (by assumption) | exact Nat.le_trans (Below.size (by assumption)) (by simp)) _) | (refine Below.via' ?_ (by assumption)) | (refine Below.alloc ?_ (by first | omega | (simp; done) | (simp; omega) | exact Below.size (by assumption) | exact Nat.le_trans (Below.size (by assumption)) (by simp)) _) | (refine Below.via ?_ (by assumption) (by first | omega | (simp; done) | (simp; omega) | exact Below.size (by assumption) | exact Nat.le_trans (Below.size (by assumption)) (by simp))))))) (hQh.out.below (by exact (by repeat (first | exact Below.refl _ _ | assumption | refine Below.drew ?_ | refine below_drewN ?_ _ | refine Below.alloc' ?_ _ | (refine Below.setCell ?_ (by first | omega | (simp; done) | (simp; omega) | exact Below.size (by assumption) | exact Nat.le_trans (Below.size (by assumption)) (by simp)) _) | (refine Below.via' ?_ (by assumption)) | (refine Below.alloc ?_ (by first | omega | (simp; done) | (simp; omega) | exact Below.size (by assumption) | exact Nat.le_trans (Below.size (by assumption)) (by simp)) _) | (refine Below.via ?_ (by assumption) (by first | omega | (simp; done) | (simp; omega) | exact Below.size (by assumption) | exact Nat.le_trans (Below.size (by assumption)) (by simp)))))))).mono ?_
  rintro e w1 ⟨rfl, hb1⟩
  cases he : elB S (eM Q)
  · have hv := Lib.hid (sd_no1 (R := pM P) (sm_no1 he))
    go_wp2
    go_ret2
    exact retLB_no hv.out (by repeat (first | exact Below.refl _ _ | assumption | refine Below.drew ?_ | refine below_drewN ?_ _ | refine Below.alloc' ?_ _ | (refine Below.setCell ?_ (by first | omega | (simp; done) | (simp; omega) | exact Below.size (by assumption) | exact Nat.le_trans (Below.size (by assumption)) (by simp)) _) | (refine Below.via' ?_ (by assumption)) | (refine Below.alloc ?_ (by first | omega | (simp; done) | (simp; omega) | exact Below.size (by assumption) | exact Nat.le_trans (Below.size (by assumption)) (by simp)) _) | (refine Below.via ?_ (by assumption) (by first | omega | (simp; done) | (simp; omega) | exact Below.size (by assumption) | exact Nat.le_trans (Below.size (by assumption)) (by simp)))))
  have hsmh := Lib.hid (sm_yes he hcn.out)
  obtain ⟨-, g2, g3⟩ := el_get he
  have hl40 : Q.length ≤ 40 := by have := hel.out; omega
  have hedh := Lib.hid g3
  clear he g2 g3
  go_wp2_with fail
  refine (areDataFor_any _ _ _ _ S P _ hsh.out hm (hSh.out.rd.below (by exact (by repeat (first | exact Below.refl _ _ | assumption | refine Below.drew ?_ | refine below_drewN ?_ _ | refine Below.alloc' ?_ _ | (refine Below.setCell ?_ (by first | omega | (simp; done) | (simp; omega) | exact Below.size (by assumption) | exact Nat.le_trans (Below.size (by assumption)) (by simp)) _) | (refine Below.via' ?_ (by assumption)) | (refine Below.alloc ?_ (by first | omega | (simp; done) | (simp; omega) | exact Below.size (by assumption) | exact Nat.le_trans (Below.size (by assumption)) (by simp)) _) | (refine Below.via ?_ (by assumption) (by first | omega | (simp; done) | (simp; omega) | exact Below.size (by assumption) | exact Nat.le_trans (Below.size (by assumption)) (by simp))))))) (hPh.out.below (by exact (by repeat (first | exact Below.refl _ _ | assumption | refine Below.drew ?_ | refine below_drewN ?_ _ | refine Below.alloc' ?_ _ | (refine Below.setCell ?_ (by first | omega | (simp; done) | (simp; omega) | exact Below.size (by assumption) | exact Nat.le_trans (Below.size (by assumption)) (by simp)) _) | (refine Below.via' ?_ (by assumption)) | (refine Below.alloc ?_ (by first | omega | (simp; done) | (simp; omega) | exact Below.size (by assumption) | exact Nat.le_trans (Below.size (by assumption)) (by simp)) _) | (refine Below.via ?_ (by assumption) (by first | omega | (simp; done) | (simp; omega) | exact Below.size (by assumption) | exact Nat.le_trans (Below.size (by assumption)) (by simp)))))))).mono ?_
  rintro e w2 ⟨rfl, hb2⟩
  cases hf : dokB S (pM P)
  · have hv := Lib.hid (sd_no2 (M := eM Q) hf)
    go_wp2
    go_ret2
    exact retLB_no hv.out (by repeat (first | exact Below.refl _ _ | assumption | refine Below.drew ?_ | refine below_drewN ?_ _ | refine Below.alloc' ?_ _ | (refine Below.setCell ?_ (by first | omega | (simp; done) | (simp; omega) | exact Below.size (by assumption) | exact Nat.le_trans (Below.size (by assumption)) (by simp)) _) | (refine Below.via' ?_ (by assumption)) | (refine Below.alloc ?_ (by first | omega | (simp; done) | (simp; omega) | exact Below.size (by assumption) | exact Nat.le_trans (Below.size (by assumption)) (by simp)) _) | (refine Below.via ?_ (by assumption) (by first | omega | (simp; done) | (simp; omega) | exact Below.size (by assumption) | exact Nat.le_trans (Below.size (by assumption)) (by simp)))))
  have hfh := Lib.hid hf
  have hp40 : P.length ≤ 40 := by have := dokB_len hf; have := hpl.out; omega
  clear hf
  have hv := Lib.hid (sd_yes hsmh.out hfh.out)
  have B2 : Below w.heap.size w w2 := (by repeat (first | exact Below.refl _ _ | assumption | refine Below.drew ?_ | refine below_drewN ?_ _ | refine Below.alloc' ?_ _ | (refine Below.setCell ?_ (by first | omega | (simp; done) | (simp; omega) | exact Below.size (by assumption) | exact Nat.le_trans (Below.size (by assumption)) (by simp)) _) | (refine Below.via' ?_ (by assumption)) | (refine Below.alloc ?_ (by first | omega | (simp; done) | (simp; omega) | exact Below.size (by assumption) | exact Nat.le_trans (Below.size (by assumption)) (by simp)) _) | (refine Below.via ?_ (by assumption) (by first | omega | (simp; done) | (simp; omega) | exact Below.size (by assumption) | exact Nat.le_trans (Below.size (by assumption)) (by simp)))))
  have hs2' := B2.size
  go_wp2
  clear hb0 hb1 hb2
  go_loopw [8, 28] (fun u c wr => ∃ i : Nat, i ≤ P.length ∧ c = .int .i64 i ∧ wr.ownsRow w2.heap.size 3 1 u (frUp (eM Q) (dV (pM P)) i).length (iC (frUp (eM Q) (dV (pM P)) i)) ∧ Below w.heap.size w wr ∧ w2.heap.size ≤ wr.heap.size) (fun _ c _ => P.length - (intOf c).toNat)
  case atStart => exact ⟨0, by omega, rfl, World.ownsRow_nil _ _ _ _, B2, Nat.le_refl _⟩
  case round =>
    obtain ⟨i, hi, rfl, hown, hBr, hszr⟩ := hrel
    have hownh := Lib.hid hown
    clear hown
    have hsl := frUp_len (eM Q) (dV (pM P)) i
    by_cases hlt : i < P.length
    · obtain ⟨bl2, off2, p, rfl, hbl2, hPp, hc1, hc2, hc3⟩ := (hPh.out.below hBr).2.2.rec hlt
      have hV := Lib.hid ((hPh.out.2.1 p (List.mem_of_getElem? hPp)).2.2.below hBr)
      have hfi := Lib.hid (fun E hE => fine_of hsh.out (hedh.out E hE) (rokB_get (dokB_mem hfh.out (List.mem_of_getElem? (pM_at hPp)))).2.2.2.2)
      have hiv := fr_at (M := eM Q) (dV_at hPp)
      have hlt' : (i : Int) < (P.length : Int) := by omega
      clear hPp
      cases hh : faB (eM Q) p.L
      · have hsel : Hid (frUp (eM Q) (dV (pM P)) (i + 1) = frUp (eM Q) (dV (pM P)) i) := pkUp_no (by rw [hiv]; exact hh)
        clear hiv
        go_wp2_with fail
        refine (failsAny_any _ _ _ _ Q p.L _ hfi.out (hQh.out.below (by exact (by repeat (first | exact Below.refl _ _ | assumption | refine Below.drew ?_ | refine below_drewN ?_ _ | refine Below.alloc' ?_ _ | (refine Below.setCell ?_ (by first | omega | (simp; done) | (simp; omega) | exact Below.size (by assumption) | exact Nat.le_trans (Below.size (by assumption)) (by simp)) _) | (refine Below.via' ?_ (by assumption)) | (refine Below.alloc ?_ (by first | omega | (simp; done) | (simp; omega) | exact Below.size (by assumption) | exact Nat.le_trans (Below.size (by assumption)) (by simp)) _) | (refine Below.via ?_ (by assumption) (by first | omega | (simp; done) | (simp; omega) | exact Below.size (by assumption) | exact Nat.le_trans (Below.size (by assumption)) (by simp))))))) (hV.out.below (by exact (by repeat (first | exact Below.refl _ _ | assumption | refine Below.drew ?_ | refine below_drewN ?_ _ | refine Below.alloc' ?_ _ | (refine Below.setCell ?_ (by first | omega | (simp; done) | (simp; omega) | exact Below.size (by assumption) | exact Nat.le_trans (Below.size (by assumption)) (by simp)) _) | (refine Below.via' ?_ (by assumption)) | (refine Below.alloc ?_ (by first | omega | (simp; done) | (simp; omega) | exact Below.size (by assumption) | exact Nat.le_trans (Below.size (by assumption)) (by simp)) _) | (refine Below.via ?_ (by assumption) (by first | omega | (simp; done) | (simp; omega) | exact Below.size (by assumption) | exact Nat.le_trans (Below.size (by assumption)) (by simp)))))))).mono ?_
        rintro e w3 ⟨rfl, hb3⟩
        rw [hh]
        go_wp2
        have hbw : Below wr.heap.size wr w3 := (by repeat (first | exact Below.refl _ _ | assumption | refine Below.drew ?_ | refine below_drewN ?_ _ | refine Below.alloc' ?_ _ | (refine Below.setCell ?_ (by first | omega | (simp; done) | (simp; omega) | exact Below.size (by assumption) | exact Nat.le_trans (Below.size (by assumption)) (by simp)) _) | (refine Below.via' ?_ (by assumption)) | (refine Below.alloc ?_ (by first | omega | (simp; done) | (simp; omega) | exact Below.size (by assumption) | exact Nat.le_trans (Below.size (by assumption)) (by simp)) _) | (refine Below.via ?_ (by assumption) (by first | omega | (simp; done) | (simp; omega) | exact Below.size (by assumption) | exact Nat.le_trans (Below.size (by assumption)) (by simp)))))
        go_roundw
        case rel => exact ⟨i + 1, by omega, by go_num, by rw [hsel.out]; exact own_below hownh.out hbw, hBr.trans (hbw.mono hBr.size), Nat.le_trans hszr hbw.size⟩
        case measure => simp [intOf]; omega
      · have hsel : Hid (frUp (eM Q) (dV (pM P)) (i + 1) = frUp (eM Q) (dV (pM P)) i ++ [(i : Int)]) := pkUp_yes (by rw [hiv]; exact hh)
        clear hiv
        go_wp2_with fail
        refine (failsAny_any _ _ _ _ Q p.L _ hfi.out (hQh.out.below (by exact (by repeat (first | exact Below.refl _ _ | assumption | refine Below.drew ?_ | refine below_drewN ?_ _ | refine Below.alloc' ?_ _ | (refine Below.setCell ?_ (by first | omega | (simp; done) | (simp; omega) | exact Below.size (by assumption) | exact Nat.le_trans (Below.size (by assumption)) (by simp)) _) | (refine Below.via' ?_ (by assumption)) | (refine Below.alloc ?_ (by first | omega | (simp; done) | (simp; omega) | exact Below.size (by assumption) | exact Nat.le_trans (Below.size (by assumption)) (by simp)) _) | (refine Below.via ?_ (by assumption) (by first | omega | (simp; done) | (simp; omega) | exact Below.size (by assumption) | exact Nat.le_trans (Below.size (by assumption)) (by simp))))))) (hV.out.below (by exact (by repeat (first | exact Below.refl _ _ | assumption | refine Below.drew ?_ | refine below_drewN ?_ _ | refine Below.alloc' ?_ _ | (refine Below.setCell ?_ (by first | omega | (simp; done) | (simp; omega) | exact Below.size (by assumption) | exact Nat.le_trans (Below.size (by assumption)) (by simp)) _) | (refine Below.via' ?_ (by assumption)) | (refine Below.alloc ?_ (by first | omega | (simp; done) | (simp; omega) | exact Below.size (by assumption) | exact Nat.le_trans (Below.size (by assumption)) (by simp)) _) | (refine Below.via ?_ (by assumption) (by first | omega | (simp; done) | (simp; omega) | exact Below.size (by assumption) | exact Nat.le_trans (Below.size (by assumption)) (by simp)))))))).mono ?_
        rintro e w3 ⟨rfl, hb3⟩
        rw [hh]
        have hbw : Below wr.heap.size wr w3 := (by repeat (first | exact Below.refl _ _ | assumption | refine Below.drew ?_ | refine below_drewN ?_ _ | refine Below.alloc' ?_ _ | (refine Below.setCell ?_ (by first | omega | (simp; done) | (simp; omega) | exact Below.size (by assumption) | exact Nat.le_trans (Below.size (by assumption)) (by simp)) _) | (refine Below.via' ?_ (by assumption)) | (refine Below.alloc ?_ (by first | omega | (simp; done) | (simp; omega) | exact Below.size (by assumption) | exact Nat.le_trans (Below.size (by assumption)) (by simp)) _) | (refine Below.via ?_ (by assumption) (by first | omega | (simp; done) | (simp; omega) | exact Below.size (by assumption) | exact Nat.le_trans (Below.size (by assumption)) (by simp)))))
        have ho3 := Lib.hid (own_below hownh.out hbw)
        have hBr3 := hBr.trans (hbw.mono hBr.size)
        have hs3 := hbw.size
        go_wp2_with (at_builtin; go_loud (refine wpList_append_rd _ rfl (.tmp 37) (.tmp 39) 39 rfl (w2.heap.size) 3 i0 (.int .i64 0) 1 8 Try.underlying39 hii hz0 hz1 hz2 rfl (by decide) _ (frUp (eM Q) (dV (pM P)) i).length (iC (frUp (eM Q) (dV (pM P)) i)) rfl ((ho3.out.alloc _)) _ 1 1 rfl (Nat.le_refl _) (by intro h; cases h) (iC [((i : Int) : Int)]) rfl (rd_oneE _ _ _ _ (by simp)) (iC_one _) (by unfold maxLen; omega) (by omega) (by simp; omega) ?_); intro v3 w3 hown3 hgrow3 hwhere3)
        obtain ⟨hb5, -⟩ := append_below hBr3 (fun k hk => by have := (ho3.out.lt k hk).1; omega) hgrow3 hwhere3
        have hs5 := hgrow3.size
        have hown3 := Lib.hid (own_snocE hown3 hsel.out rfl)
        clear hgrow3 hwhere3
        go_wp2
        go_roundw
        case rel => exact ⟨i + 1, by omega, by go_num, hown3.out, hb5, by simp at hs5; omega⟩
        case measure => simp [intOf]; omega
    · have hij : i = P.length := by omega
      subst hij
      have hfin := Lib.hid (show frUp (eM Q) (dV (pM P)) P.length = frL (eM Q) (dV (pM P)) by unfold frL; rw [dV_len, hpl.out])
      go_wp2
      go_ret2
      exact retLB_yes hv.out (by rw [← hfin.out]; exact own_more hownh.out hs2') hBr
theorem sFR_m (x y z : Option Addr) (c1 c2 c3 : Nat) (S : List (ByteArray × Int)) (Q P : List PR) (w : World) (hS : SIn w x c1 S) (hQ : EIn w y Q) (hP : DIn w z P) (M : List (List Int)) (hM : eM Q = M) (R : List RV) (hR : pM P = R) :
    Calls Try.prog 45 #[.slice x S.length c1, .slice y Q.length c2, .slice z P.length c3] w (RetLB (eIf (sdB S M R) (frL M (dV R))) (sdB S M R) w) := by subst hM; subst hR; exact sFR_x x y z c1 c2 c3 S Q P w hS hQ hP
theorem iFR_m (x y z : Option Addr) (c1 c2 c3 : Nat) (S : List (ByteArray × Int)) (Q P : List PR) (w : World) (hS : SIn w x c1 S) (hQ : EIn w y Q) (hP : DIn w z P) (M : List (List Int)) (hM : eM Q = M) (R : List RV) (hR : pM P = R) :
    Calls Try.prog 47 #[.slice x S.length c1, .slice y Q.length c2, .slice z P.length c3] w (RetLB (eIf (sdB S M R) (frL M (dV R))) (sdB S M R) w) := by subst hM; subst hR; exact iFR_x x y z c1 c2 c3 S Q P w hS hQ hP
theorem frL_len (M D : List (List Int)) : (frL M D).length ≤ D.length := pkUp_len _ _
theorem sd_len {S : List (ByteArray × Int)} {M : List (List Int)} {R : List RV} (h : sdB S M R = true) : R.length ≤ 40 := dokB_len (sd_get h).2
end Go.Proofs.Ytpdilekfagfbiaa

namespace Go.Proofs.Ytpdilekfagfbiaa
open Go.RowKit
set_option maxRecDepth 100000

/-- One weight for each variable. -/
def wgB (S : List (ByteArray × Int)) (W : List Int) : Bool := decide (W.length = S.length) && inR W 1 100
theorem wg_no1 {S : List (ByteArray × Int)} {W : List Int} (h : W.length ≠ S.length) : wgB S W = false := by unfold wgB; rw [decide_eq_false h]; rfl
theorem wg_no2 {S : List (ByteArray × Int)} {W : List Int} (h : inR W 1 100 = false) : wgB S W = false := by unfold wgB; rw [h, Bool.and_false]
theorem wg_yes {S : List (ByteArray × Int)} {W : List Int} (h : W.length = S.length) (k : inR W 1 100 = true) : wgB S W = true := by unfold wgB; rw [decide_eq_true h, k]; rfl
theorem wg_get {S : List (ByteArray × Int)} {W : List Int} (h : wgB S W = true) : W.length = S.length ∧ inR W 1 100 = true := by
  unfold wgB at h
  rw [Bool.and_eq_true] at h
  exact ⟨of_decide_eq_true h.1, h.2⟩
theorem inR_at {G : List Int} {lo hi v : Int} {i : Nat} (h : inR G lo hi = true) (hi' : G[i]? = some v) : lo ≤ v ∧ v ≤ hi := by
  unfold inR at h
  rw [List.all_eq_true] at h
  exact (inB_iff v lo hi).1 (h v (List.mem_of_getElem? hi')) |> fun k => k
/-- The weight of a variable; the weights of a set. -/
def wtA (W : List Int) (v : Int) : Int := (W[v.toNat]?).getD 0
def swZ (W L : List Int) : Int := (L.map (wtA W)).sum
theorem wtA_at {W : List Int} {i : Nat} {n : Int} (h : W[i]? = some n) : wtA W (i : Int) = n := by unfold wtA; rw [Int.toNat_natCast, h]; rfl
theorem wtA_bd {W : List Int} (h : inR W 1 100 = true) (v : Int) : 0 ≤ wtA W v ∧ wtA W v ≤ 100 := by
  unfold wtA
  cases e : W[v.toNat]? with
  | none => exact ⟨by simp, by simp⟩
  | some n => have := inR_at h e; exact ⟨by simp; omega, by simp; omega⟩
theorem sw_snoc (W L : List Int) (v : Int) : swZ W (L ++ [v]) = swZ W L + wtA W v := by unfold swZ; rw [List.map_append, List.sum_append]; simp
theorem sw_bd {W : List Int} (h : inR W 1 100 = true) : ∀ L : List Int, 0 ≤ swZ W L ∧ swZ W L ≤ 100 * (L.length : Int)
  | [] => ⟨by simp [swZ], by simp [swZ]⟩
  | v :: L => by
    have a := sw_bd h L
    have b := wtA_bd h v
    have e : swZ W (v :: L) = wtA W v + swZ W L := by unfold swZ; simp
    rw [e, List.length_cons]
    exact ⟨by omega, by omega⟩
theorem sw_take {W L : List Int} {i : Nat} {v : Int} (h : L[i]? = some v) : swZ W (L.take (i + 1)) = swZ W (L.take i) + wtA W v := by
  rw [List.take_add_one, h, Option.toList_some, sw_snoc]
/-- The cost of a change, variable by variable. -/
def chZ (W A B : List Int) (n : Nat) : Int := swZ W (pkUp (dvB A B) n)
theorem ch_yes {W A B : List Int} {i : Nat} (h : dvB A B i = true) : chZ W A B (i + 1) = chZ W A B i + wtA W (i : Int) := by unfold chZ; rw [pkUp_yes h, sw_snoc]
theorem ch_no {W A B : List Int} {i : Nat} (h : dvB A B i = false) : chZ W A B (i + 1) = chZ W A B i := by unfold chZ; rw [pkUp_no h]
theorem ch_bd {W A B : List Int} {n : Nat} (h : inR W 1 100 = true) : 0 ≤ chZ W A B n ∧ chZ W A B n ≤ 100 * (n : Int) := by
  have a := sw_bd h (pkUp (dvB A B) n)
  have b := pkUp_len (dvB A B) n
  unfold chZ
  exact ⟨a.1, by omega⟩

set_option maxHeartbeats 1000000 in
theorem areWeights_any (x y : Option Addr) (c1 c2 : Nat) (S : List (ByteArray × Int)) (W : List Int) (w : World) (hm : S.length ≤ 1048576) (hW : IIn w y W) :
    Calls Try.prog 101 #[.slice x S.length c1, .slice y W.length c2] w fun e w' => e = .returned (.bool (wgB S W)) ∧ Below w.heap.size w w' := by
  have hWh := Lib.hid hW
  have hWl := hW.1
  clear hW
  by_cases hlen : W.length = S.length
  · have hne : ((W.length : Int) != (S.length : Int)) = false := by rw [bne_eq_false_iff_eq]; omega
    go_enter Try.func101, Try.ntmps101
    go_wp2
    go_loopw [14] (fun c wr => ∃ i : Nat, i ≤ W.length ∧ c = .int .i64 i ∧ Hid (∀ j, j < i → ∃ v, W[j]? = some v ∧ inB v 1 100 = true) ∧ Below w.heap.size w wr) (fun c _ => W.length - (intOf c).toNat)
    case atStart => exact ⟨0, by omega, rfl, (fun j hj => absurd hj (by omega)), (by repeat (first | exact Below.refl _ _ | assumption | refine Below.drew ?_ | refine below_drewN ?_ _ | refine Below.alloc' ?_ _ | (refine Below.setCell ?_ (by first | omega | (simp; done) | (simp; omega) | exact Below.size (by assumption) | exact Nat.le_trans (Below.size (by assumption)) (by simp)) _) | (refine Below.via' ?_ (by assumption)) | (refine Below.alloc ?_ (by first | omega | (simp; done) | (simp; omega) | exact Below.size (by assumption) | exact Nat.le_trans (Below.size (by assumption)) (by simp)) _) | (refine Below.via ?_ (by assumption) (by first | omega | (simp; done) | (simp; omega) | exact Below.size (by assumption) | exact Nat.le_trans (Below.size (by assumption)) (by simp)))))⟩
    case round =>
      obtain ⟨i, hi, rfl, hall, hb⟩ := hrel
      by_cases hlt : i < W.length
      · obtain ⟨bl, off, v, rfl, hbl, hWi, hc0⟩ := (hWh.out.below hb).2.2.int hlt
        have hlt' : (i : Int) < (W.length : Int) := by omega
        have hi0 : (0 : Int) ≤ (i : Int) := by omega
        by_cases h1 : v < 1
        · have hv := Lib.hid (wg_no2 (S := S) (inR_bad hWi ((inB_no v 1 100).2 (by omega))))
          clear hWi
          go_wp2
          go_ret
          exact ⟨ret_bool hv.out.symm, (by repeat (first | exact Below.refl _ _ | assumption | refine Below.drew ?_ | refine below_drewN ?_ _ | refine Below.alloc' ?_ _ | (refine Below.setCell ?_ (by first | omega | (simp; done) | (simp; omega) | exact Below.size (by assumption) | exact Nat.le_trans (Below.size (by assumption)) (by simp)) _) | (refine Below.via' ?_ (by assumption)) | (refine Below.alloc ?_ (by first | omega | (simp; done) | (simp; omega) | exact Below.size (by assumption) | exact Nat.le_trans (Below.size (by assumption)) (by simp)) _) | (refine Below.via ?_ (by assumption) (by first | omega | (simp; done) | (simp; omega) | exact Below.size (by assumption) | exact Nat.le_trans (Below.size (by assumption)) (by simp)))))⟩
        by_cases h2 : 100 < v
        · have hv := Lib.hid (wg_no2 (S := S) (inR_bad hWi ((inB_no v 1 100).2 (by omega))))
          clear hWi
          go_wp2
          go_ret
          exact ⟨ret_bool hv.out.symm, (by repeat (first | exact Below.refl _ _ | assumption | refine Below.drew ?_ | refine below_drewN ?_ _ | refine Below.alloc' ?_ _ | (refine Below.setCell ?_ (by first | omega | (simp; done) | (simp; omega) | exact Below.size (by assumption) | exact Nat.le_trans (Below.size (by assumption)) (by simp)) _) | (refine Below.via' ?_ (by assumption)) | (refine Below.alloc ?_ (by first | omega | (simp; done) | (simp; omega) | exact Below.size (by assumption) | exact Nat.le_trans (Below.size (by assumption)) (by simp)) _) | (refine Below.via ?_ (by assumption) (by first | omega | (simp; done) | (simp; omega) | exact Below.size (by assumption) | exact Nat.le_trans (Below.size (by assumption)) (by simp)))))⟩
        have hgood := (inB_iff v 1 100).2 ⟨by omega, by omega⟩
        replace hWi := Lib.hid hWi
        go_wp2
        go_roundw
        case rel =>
          refine ⟨i + 1, by omega, by go_num, fun j hj => ?_, (by repeat (first | exact Below.refl _ _ | assumption | refine Below.drew ?_ | refine below_drewN ?_ _ | refine Below.alloc' ?_ _ | (refine Below.setCell ?_ (by first | omega | (simp; done) | (simp; omega) | exact Below.size (by assumption) | exact Nat.le_trans (Below.size (by assumption)) (by simp)) _) | (refine Below.via' ?_ (by assumption)) | (refine Below.alloc ?_ (by first | omega | (simp; done) | (simp; omega) | exact Below.size (by assumption) | exact Nat.le_trans (Below.size (by assumption)) (by simp)) _) | (refine Below.via ?_ (by assumption) (by first | omega | (simp; done) | (simp; omega) | exact Below.size (by assumption) | exact Nat.le_trans (Below.size (by assumption)) (by simp)))))⟩
          rcases Nat.lt_or_ge j i with hj2 | hj2
          · exact hall.out j hj2
          · obtain rfl : j = i := by omega
            exact ⟨v, hWi.out, hgood⟩
        case measure => simp [intOf]; omega
      · have hij : i = W.length := by omega
        subst hij
        have hv := Lib.hid (wg_yes hlen (inR_all hall.out))
        clear hall
        go_wp2
        go_ret
        exact ⟨ret_bool hv.out.symm, (by repeat (first | exact Below.refl _ _ | assumption | refine Below.drew ?_ | refine below_drewN ?_ _ | refine Below.alloc' ?_ _ | (refine Below.setCell ?_ (by first | omega | (simp; done) | (simp; omega) | exact Below.size (by assumption) | exact Nat.le_trans (Below.size (by assumption)) (by simp)) _) | (refine Below.via' ?_ (by assumption)) | (refine Below.alloc ?_ (by first | omega | (simp; done) | (simp; omega) | exact Below.size (by assumption) | exact Nat.le_trans (Below.size (by assumption)) (by simp)) _) | (refine Below.via ?_ (by assumption) (by first | omega | (simp; done) | (simp; omega) | exact Below.size (by assumption) | exact Nat.le_trans (Below.size (by assumption)) (by simp)))))⟩
  · have hne : ((W.length : Int) != (S.length : Int)) = true := by rw [bne_iff_ne]; omega
    have hv := Lib.hid (wg_no1 hlen)
    go_enter Try.func101, Try.ntmps101
    go_wp2
    go_ret
    exact ⟨ret_bool hv.out.symm, (by repeat (first | exact Below.refl _ _ | assumption | refine Below.drew ?_ | refine below_drewN ?_ _ | refine Below.alloc' ?_ _ | (refine Below.setCell ?_ (by first | omega | (simp; done) | (simp; omega) | exact Below.size (by assumption) | exact Nat.le_trans (Below.size (by assumption)) (by simp)) _) | (refine Below.via' ?_ (by assumption)) | (refine Below.alloc ?_ (by first | omega | (simp; done) | (simp; omega) | exact Below.size (by assumption) | exact Nat.le_trans (Below.size (by assumption)) (by simp)) _) | (refine Below.via ?_ (by assumption) (by first | omega | (simp; done) | (simp; omega) | exact Below.size (by assumption) | exact Nat.le_trans (Below.size (by assumption)) (by simp)))))⟩
set_option maxHeartbeats 1000000 in
theorem iWeights_any (x y : Option Addr) (c1 c2 : Nat) (S : List (ByteArray × Int)) (W : List Int) (w : World) (hW : IIn w y W) :
    Calls Try.prog 98 #[.slice x S.length c1, .slice y W.length c2] w fun e w' => e = .returned (.bool (wgB S W)) ∧ Below w.heap.size w w' := by
  have hWh := Lib.hid hW
  have hWl := hW.1
  clear hW
  by_cases hlen : W.length = S.length
  · have hne : ((W.length : Int) == (S.length : Int)) = true := by rw [beq_iff_eq]; omega
    have hv : Hid (inR W 1 100 = wgB S W) := by
      unfold Hid
      cases h : inR W 1 100
      · rw [wg_no2 h]
      · rw [wg_yes hlen h]
    replace hlen := Lib.hid hlen
    go_enter Try.func98, Try.ntmps98
    go_wp2_with (go_at_call 142; refine (l1All_any _ _ W _ _ _ hWl (hWh.out.2.2.below (by exact (by repeat (first | exact Below.refl _ _ | assumption | refine Below.drew ?_ | refine below_drewN ?_ _ | refine Below.alloc' ?_ _ | (refine Below.setCell ?_ (by first | omega | (simp; done) | (simp; omega) | exact Below.size (by assumption) | exact Nat.le_trans (Below.size (by assumption)) (by simp)) _) | (refine Below.via' ?_ (by assumption)) | (refine Below.alloc ?_ (by first | omega | (simp; done) | (simp; omega) | exact Below.size (by assumption) | exact Nat.le_trans (Below.size (by assumption)) (by simp)) _) | (refine Below.via ?_ (by assumption) (by first | omega | (simp; done) | (simp; omega) | exact Below.size (by assumption) | exact Nat.le_trans (Below.size (by assumption)) (by simp)))))))).mono ?_; rintro e w1 ⟨rfl, rfl⟩)
    go_ret
    exact ⟨ret_bool hv.out, (by repeat (first | exact Below.refl _ _ | assumption | refine Below.drew ?_ | refine below_drewN ?_ _ | refine Below.alloc' ?_ _ | (refine Below.setCell ?_ (by first | omega | (simp; done) | (simp; omega) | exact Below.size (by assumption) | exact Nat.le_trans (Below.size (by assumption)) (by simp)) _) | (refine Below.via' ?_ (by assumption)) | (refine Below.alloc ?_ (by first | omega | (simp; done) | (simp; omega) | exact Below.size (by assumption) | exact Nat.le_trans (Below.size (by assumption)) (by simp)) _) | (refine Below.via ?_ (by assumption) (by first | omega | (simp; done) | (simp; omega) | exact Below.size (by assumption) | exact Nat.le_trans (Below.size (by assumption)) (by simp)))))⟩
  · have hne : ((W.length : Int) == (S.length : Int)) = false := by rw [beq_eq_false_iff_ne]; omega
    have hv := Lib.hid (wg_no1 hlen)
    go_enter Try.func98, Try.ntmps98
    go_wp2
    go_ret
    exact ⟨ret_bool hv.out.symm, (by repeat (first | exact Below.refl _ _ | assumption | refine Below.drew ?_ | refine below_drewN ?_ _ | refine Below.alloc' ?_ _ | (refine Below.setCell ?_ (by first | omega | (simp; done) | (simp; omega) | exact Below.size (by assumption) | exact Nat.le_trans (Below.size (by assumption)) (by simp)) _) | (refine Below.via' ?_ (by assumption)) | (refine Below.alloc ?_ (by first | omega | (simp; done) | (simp; omega) | exact Below.size (by assumption) | exact Nat.le_trans (Below.size (by assumption)) (by simp)) _) | (refine Below.via ?_ (by assumption) (by first | omega | (simp; done) | (simp; omega) | exact Below.size (by assumption) | exact Nat.le_trans (Below.size (by assumption)) (by simp)))))⟩
set_option maxHeartbeats 1000000 in
theorem sumWeights_any (x y : Option Addr) (c1 c2 : Nat) (W L : List Int) (w : World) (hw : inR W 1 100 = true) (hl : L.length ≤ 1000) (hL : ∀ v ∈ L, 0 ≤ v ∧ v < (W.length : Int)) (hWi : IIn w x W) (hLi : IIn w y L) :
    Calls Try.prog 102 #[.slice x W.length c1, .slice y L.length c2] w fun e w' => e = .returned (.int .i64 (swZ W L)) ∧ Below w.heap.size w w' := by
  have hWh := Lib.hid hWi
  have hWl := hWi.1
  have hLh := Lib.hid hLi
  have hb0 := Lib.hid (fun M : List Int => sw_bd hw M)
  have hwt := Lib.hid (wtA_bd hw)
  have hLm := Lib.hid hL
  clear hWi hLi hL
  go_enter Try.func102, Try.ntmps102
  go_wp2
  go_loopw [5, 10] (fun q c wr => ∃ i : Nat, i ≤ L.length ∧ c = .int .i64 i ∧ q = .int .i64 (swZ W (L.take i)) ∧ Below w.heap.size w wr) (fun _ c _ => L.length - (intOf c).toNat)
  case atStart => exact ⟨0, by omega, rfl, rfl, (by repeat (first | exact Below.refl _ _ | assumption | refine Below.drew ?_ | refine below_drewN ?_ _ | refine Below.alloc' ?_ _ | (refine Below.setCell ?_ (by first | omega | (simp; done) | (simp; omega) | exact Below.size (by assumption) | exact Nat.le_trans (Below.size (by assumption)) (by simp)) _) | (refine Below.via' ?_ (by assumption)) | (refine Below.alloc ?_ (by first | omega | (simp; done) | (simp; omega) | exact Below.size (by assumption) | exact Nat.le_trans (Below.size (by assumption)) (by simp)) _) | (refine Below.via ?_ (by assumption) (by first | omega | (simp; done) | (simp; omega) | exact Below.size (by assumption) | exact Nat.le_trans (Below.size (by assumption)) (by simp)))))⟩
  case round =>
    obtain ⟨i, hi, rfl, rfl, hb⟩ := hrel
    by_cases hlt : i < L.length
    · obtain ⟨bl, off, v, rfl, hbl, hLv, hc0⟩ := (hLh.out.below hb).2.2.int hlt
      obtain ⟨v1, v2⟩ := hLm.out v (List.mem_of_getElem? hLv)
      obtain ⟨k, rfl⟩ : ∃ k : Nat, v = (k : Int) := ⟨v.toNat, by omega⟩
      obtain ⟨bl2, off2, n, rfl, hbl2, hWk, hc1⟩ := (hWh.out.below hb).2.2.int (i := k) (by omega)
      have hst := Lib.hid (sw_take (W := W) hLv)
      have hwn := Lib.hid (wtA_at hWk)
      have hb1 := hb0.out (L.take i)
      have hb2 : ((L.take i).length : Int) ≤ 1000 := by rw [List.length_take]; omega
      have hn := hwt.out (k : Int)
      rw [hwn.out] at hn
      have hlt' : (i : Int) < (L.length : Int) := by omega
      have hi0 : (0 : Int) ≤ (i : Int) := by omega
      replace hLv := Lib.hid hLv
      replace hWk := Lib.hid hWk
      go_wp2
      go_roundw
      case rel => exact ⟨i + 1, by omega, by go_num, (by rw [hst.out, hwn.out]; try rw [IntWalk.i64_in _ (by omega)]), (by repeat (first | exact Below.refl _ _ | assumption | refine Below.drew ?_ | refine below_drewN ?_ _ | refine Below.alloc' ?_ _ | (refine Below.setCell ?_ (by first | omega | (simp; done) | (simp; omega) | exact Below.size (by assumption) | exact Nat.le_trans (Below.size (by assumption)) (by simp)) _) | (refine Below.via' ?_ (by assumption)) | (refine Below.alloc ?_ (by first | omega | (simp; done) | (simp; omega) | exact Below.size (by assumption) | exact Nat.le_trans (Below.size (by assumption)) (by simp)) _) | (refine Below.via ?_ (by assumption) (by first | omega | (simp; done) | (simp; omega) | exact Below.size (by assumption) | exact Nat.le_trans (Below.size (by assumption)) (by simp)))))⟩
      case measure => simp [intOf]; omega
    · have hij : i = L.length := by omega
      subst hij
      go_wp2
      go_ret
      exact ⟨ret_int (by rw [List.take_length]), (by repeat (first | exact Below.refl _ _ | assumption | refine Below.drew ?_ | refine below_drewN ?_ _ | refine Below.alloc' ?_ _ | (refine Below.setCell ?_ (by first | omega | (simp; done) | (simp; omega) | exact Below.size (by assumption) | exact Nat.le_trans (Below.size (by assumption)) (by simp)) _) | (refine Below.via' ?_ (by assumption)) | (refine Below.alloc ?_ (by first | omega | (simp; done) | (simp; omega) | exact Below.size (by assumption) | exact Nat.le_trans (Below.size (by assumption)) (by simp)) _) | (refine Below.via ?_ (by assumption) (by first | omega | (simp; done) | (simp; omega) | exact Below.size (by assumption) | exact Nat.le_trans (Below.size (by assumption)) (by simp)))))⟩
set_option maxHeartbeats 2000000 in
theorem iChanged_any (x y z : Option Addr) (c1 c2 c3 : Nat) (W V X : List Int) (w : World) (hw : inR W 1 100 = true) (hl : V.length = X.length) (hl2 : V.length = W.length) (h6 : V.length ≤ 1000) (hWi : IIn w x W) (hV : IIn w y V) (hX : IIn w z X) :
    Calls Try.prog 99 #[.slice x W.length c1, .slice y V.length c2, .slice z X.length c3] w fun e w' => e = .returned (.int .i64 (swZ W (dvL V X))) ∧ Below w.heap.size w w' := by
  have hWh := Lib.hid hWi
  have hVh := Lib.hid hV
  have hXh := Lib.hid hX
  have hlh := Lib.hid hl
  have hlw := Lib.hid hl2
  have hb0 := Lib.hid (fun n : Nat => ch_bd (A := V) (B := X) (n := n) hw)
  have hwt := Lib.hid (wtA_bd hw)
  clear hWi hV hX hl hl2
  go_enter Try.func99, Try.ntmps99
  go_wp2
  go_loopw [7, 11] (fun q c wr => ∃ i : Nat, i ≤ V.length ∧ c = .int .i64 i ∧ q = .int .i64 (chZ W V X i) ∧ Below w.heap.size w wr) (fun _ c _ => V.length - (intOf c).toNat)
  case atStart => exact ⟨0, by omega, rfl, rfl, (by repeat (first | exact Below.refl _ _ | assumption | refine Below.drew ?_ | refine below_drewN ?_ _ | refine Below.alloc' ?_ _ | (refine Below.setCell ?_ (by first | omega | (simp; done) | (simp; omega) | exact Below.size (by assumption) | exact Nat.le_trans (Below.size (by assumption)) (by simp)) _) | (refine Below.via' ?_ (by assumption)) | (refine Below.alloc ?_ (by first | omega | (simp; done) | (simp; omega) | exact Below.size (by assumption) | exact Nat.le_trans (Below.size (by assumption)) (by simp)) _) | (refine Below.via ?_ (by assumption) (by first | omega | (simp; done) | (simp; omega) | exact Below.size (by assumption) | exact Nat.le_trans (Below.size (by assumption)) (by simp)))))⟩
  case round =>
    obtain ⟨i, hi, rfl, rfl, hb⟩ := hrel
    by_cases hlt : i < V.length
    · obtain ⟨bl, off, a, rfl, hbl, hVi, hc0⟩ := (hVh.out.below hb).2.2.int hlt
      obtain ⟨bl2, off2, d, rfl, hbl2, hXi, hc1⟩ := (hXh.out.below hb).2.2.int (i := i) (by have := hlh.out; omega)
      obtain ⟨bl3, off3, n, rfl, hbl3, hWi, hc2⟩ := (hWh.out.below hb).2.2.int (i := i) (by have := hlw.out; omega)
      have hwn := Lib.hid (wtA_at hWi)
      have hbb := hb0.out i
      have hn := hwt.out (i : Int)
      rw [hwn.out] at hn
      have hlt' : (i : Int) < (V.length : Int) := by omega
      have hlt2 : (i : Int) < (X.length : Int) := by have := hlh.out; omega
      have hlt3 : (i : Int) < (W.length : Int) := by have := hlw.out; omega
      have hi0 : (0 : Int) ≤ (i : Int) := by omega
      by_cases he : a = d
      · have hsel := Lib.hid (ch_no (W := W) (show dvB V X i = false by unfold dvB; rw [hVi, hXi, he]; simp))
        have heb : (a == d) = true := by rw [beq_iff_eq]; exact he
        replace he := Lib.hid he
        replace hVi := Lib.hid hVi
        replace hXi := Lib.hid hXi
        replace hWi := Lib.hid hWi
        go_wp2
        go_region
        all_goals
          go_wp2
          go_roundw
          case rel => exact ⟨i + 1, by omega, by go_num, by rw [hsel.out], (by repeat (first | exact Below.refl _ _ | assumption | refine Below.drew ?_ | refine below_drewN ?_ _ | refine Below.alloc' ?_ _ | (refine Below.setCell ?_ (by first | omega | (simp; done) | (simp; omega) | exact Below.size (by assumption) | exact Nat.le_trans (Below.size (by assumption)) (by simp)) _) | (refine Below.via' ?_ (by assumption)) | (refine Below.alloc ?_ (by first | omega | (simp; done) | (simp; omega) | exact Below.size (by assumption) | exact Nat.le_trans (Below.size (by assumption)) (by simp)) _) | (refine Below.via ?_ (by assumption) (by first | omega | (simp; done) | (simp; omega) | exact Below.size (by assumption) | exact Nat.le_trans (Below.size (by assumption)) (by simp)))))⟩
          case measure => simp [intOf]; omega
      · have hsel := Lib.hid (ch_yes (W := W) (show dvB V X i = true by unfold dvB; rw [hVi, hXi]; simp [he]))
        have heb : (a == d) = false := by rw [beq_eq_false_iff_ne]; exact he
        replace he := Lib.hid he
        replace hVi := Lib.hid hVi
        replace hXi := Lib.hid hXi
        replace hWi := Lib.hid hWi
        have heb2 : (a != d) = true := by rw [bne, heb]; rfl
        go_wp2
        go_region
        all_goals
          go_wp2
          first
            | (go_roundw
               case rel => exact ⟨i + 1, by omega, by go_num, (by rw [hsel.out, hwn.out]; try rw [IntWalk.i64_in _ (by omega)]), (by repeat (first | exact Below.refl _ _ | assumption | refine Below.drew ?_ | refine below_drewN ?_ _ | refine Below.alloc' ?_ _ | (refine Below.setCell ?_ (by first | omega | (simp; done) | (simp; omega) | exact Below.size (by assumption) | exact Nat.le_trans (Below.size (by assumption)) (by simp)) _) | (refine Below.via' ?_ (by assumption)) | (refine Below.alloc ?_ (by first | omega | (simp; done) | (simp; omega) | exact Below.size (by assumption) | exact Nat.le_trans (Below.size (by assumption)) (by simp)) _) | (refine Below.via ?_ (by assumption) (by first | omega | (simp; done) | (simp; omega) | exact Below.size (by assumption) | exact Nat.le_trans (Below.size (by assumption)) (by simp)))))⟩
               case measure => simp [intOf]; omega)
            | (go_region
               all_goals
                 go_wp2
                 go_roundw
                 case rel => exact ⟨i + 1, by omega, by go_num, (by rw [hsel.out, hwn.out]; try rw [IntWalk.i64_in _ (by omega)]), (by repeat (first | exact Below.refl _ _ | assumption | refine Below.drew ?_ | refine below_drewN ?_ _ | refine Below.alloc' ?_ _ | (refine Below.setCell ?_ (by first | omega | (simp; done) | (simp; omega) | exact Below.size (by assumption) | exact Nat.le_trans (Below.size (by assumption)) (by simp)) _) | (refine Below.via' ?_ (by assumption)) | (refine Below.alloc ?_ (by first | omega | (simp; done) | (simp; omega) | exact Below.size (by assumption) | exact Nat.le_trans (Below.size (by assumption)) (by simp)) _) | (refine Below.via ?_ (by assumption) (by first | omega | (simp; done) | (simp; omega) | exact Below.size (by assumption) | exact Nat.le_trans (Below.size (by assumption)) (by simp)))))⟩
                 case measure => simp [intOf]; omega)
    · have hij : i = V.length := by omega
      subst hij
      go_wp2
      go_ret
      exact ⟨ret_int rfl, (by repeat (first | exact Below.refl _ _ | assumption | refine Below.drew ?_ | refine below_drewN ?_ _ | refine Below.alloc' ?_ _ | (refine Below.setCell ?_ (by first | omega | (simp; done) | (simp; omega) | exact Below.size (by assumption) | exact Nat.le_trans (Below.size (by assumption)) (by simp)) _) | (refine Below.via' ?_ (by assumption)) | (refine Below.alloc ?_ (by first | omega | (simp; done) | (simp; omega) | exact Below.size (by assumption) | exact Nat.le_trans (Below.size (by assumption)) (by simp)) _) | (refine Below.via ?_ (by assumption) (by first | omega | (simp; done) | (simp; omega) | exact Below.size (by assumption) | exact Nat.le_trans (Below.size (by assumption)) (by simp)))))⟩

/-- A schema, weights and two lists of values for it. -/
def wvB (S : List (ByteArray × Int)) (W A B : List Int) : Bool := schB S && wgB S W && fitB S A && fitB S B
theorem wv_no1 {S : List (ByteArray × Int)} {W A B : List Int} (h : schB S = false) : wvB S W A B = false := by unfold wvB; rw [h]; rfl
theorem wv_no2 {S : List (ByteArray × Int)} {W A B : List Int} (h : wgB S W = false) : wvB S W A B = false := by unfold wvB; rw [h, Bool.and_false]; rfl
theorem wv_no3 {S : List (ByteArray × Int)} {W A B : List Int} (h : fitB S A = false) : wvB S W A B = false := by unfold wvB; rw [h, Bool.and_false]; rfl
theorem wv_no4 {S : List (ByteArray × Int)} {W A B : List Int} (h : fitB S B = false) : wvB S W A B = false := by unfold wvB; rw [h, Bool.and_false]
theorem wv_yes {S : List (ByteArray × Int)} {W A B : List Int} (h1 : schB S = true) (h2 : wgB S W = true) (h3 : fitB S A = true) (h4 : fitB S B = true) : wvB S W A B = true := by unfold wvB; rw [h1, h2, h3, h4]; rfl
set_option maxHeartbeats 2000000 in
theorem sCstA_x (x y z u : Option Addr) (c1 c2 c3 c4 : Nat) (S : List (ByteArray × Int)) (W A B : List Int) (w : World) (hS : SIn w x c1 S) (hW : IIn w y W) (hA : IIn w z A) (hB : IIn w u B) :
    Calls Try.prog 40 #[.slice x S.length c1, .slice y W.length c2, .slice z A.length c3, .slice u B.length c4] w fun e w' => e = .returned (.tuple #[.int .i64 (nIf (wvB S W A B) (swZ W (dvL A B))), .bool (wvB S W A B)]) ∧ Below w.heap.size w w' := by
  have hSh := Lib.hid hS
  have hWh := Lib.hid hW
  have hAh := Lib.hid hA
  have hBh := Lib.hid hB
  have hm := hS.1
  clear hS hW hA hB
  go_enter Try.func40, Try.ntmps40
  go_wp2_with fail
  refine (sGood_x _ _ _ _ (hSh.out.below (by exact (by repeat (first | exact Below.refl _ _ | assumption | refine Below.drew ?_ | refine below_drewN ?_ _ | refine Below.alloc' ?_ _ | (refine Below.setCell ?_ (by first | omega | (simp; done) | (simp; omega) | exact Below.size (by assumption) | exact Nat.le_trans (Below.size (by assumption)) (by simp)) _) | (refine Below.via' ?_ (by assumption)) | (refine Below.alloc ?_ (by first | omega | (simp; done) | (simp; omega) | exact Below.size (by assumption) | exact Nat.le_trans (Below.size (by assumption)) (by simp)) _) | (refine Below.via ?_ (by assumption) (by first | omega | (simp; done) | (simp; omega) | exact Below.size (by assumption) | exact Nat.le_trans (Below.size (by assumption)) (by simp)))))))).mono ?_
  rintro e w1 ⟨rfl, hb1⟩
  cases hs : schB S
  · have hv := Lib.hid (wv_no1 (W := W) (A := A) (B := B) hs)
    go_wp2
    go_ret2
    exact retN_no hv.out (by repeat (first | exact Below.refl _ _ | assumption | refine Below.drew ?_ | refine below_drewN ?_ _ | refine Below.alloc' ?_ _ | (refine Below.setCell ?_ (by first | omega | (simp; done) | (simp; omega) | exact Below.size (by assumption) | exact Nat.le_trans (Below.size (by assumption)) (by simp)) _) | (refine Below.via' ?_ (by assumption)) | (refine Below.alloc ?_ (by first | omega | (simp; done) | (simp; omega) | exact Below.size (by assumption) | exact Nat.le_trans (Below.size (by assumption)) (by simp)) _) | (refine Below.via ?_ (by assumption) (by first | omega | (simp; done) | (simp; omega) | exact Below.size (by assumption) | exact Nat.le_trans (Below.size (by assumption)) (by simp)))))
  have hsh := Lib.hid hs
  clear hs
  go_wp2_with fail
  refine (iWeights_any _ _ _ _ S W _ (hWh.out.below (by exact (by repeat (first | exact Below.refl _ _ | assumption | refine Below.drew ?_ | refine below_drewN ?_ _ | refine Below.alloc' ?_ _ | (refine Below.setCell ?_ (by first | omega | (simp; done) | (simp; omega) | exact Below.size (by assumption) | exact Nat.le_trans (Below.size (by assumption)) (by simp)) _) | (refine Below.via' ?_ (by assumption)) | (refine Below.alloc ?_ (by first | omega | (simp; done) | (simp; omega) | exact Below.size (by assumption) | exact Nat.le_trans (Below.size (by assumption)) (by simp)) _) | (refine Below.via ?_ (by assumption) (by first | omega | (simp; done) | (simp; omega) | exact Below.size (by assumption) | exact Nat.le_trans (Below.size (by assumption)) (by simp)))))))).mono ?_
  rintro e w2 ⟨rfl, hb2⟩
  cases hg : wgB S W
  · have hv := Lib.hid (wv_no2 (A := A) (B := B) hg)
    go_wp2
    go_ret2
    exact retN_no hv.out (by repeat (first | exact Below.refl _ _ | assumption | refine Below.drew ?_ | refine below_drewN ?_ _ | refine Below.alloc' ?_ _ | (refine Below.setCell ?_ (by first | omega | (simp; done) | (simp; omega) | exact Below.size (by assumption) | exact Nat.le_trans (Below.size (by assumption)) (by simp)) _) | (refine Below.via' ?_ (by assumption)) | (refine Below.alloc ?_ (by first | omega | (simp; done) | (simp; omega) | exact Below.size (by assumption) | exact Nat.le_trans (Below.size (by assumption)) (by simp)) _) | (refine Below.via ?_ (by assumption) (by first | omega | (simp; done) | (simp; omega) | exact Below.size (by assumption) | exact Nat.le_trans (Below.size (by assumption)) (by simp)))))
  have hgh := Lib.hid hg
  clear hg
  go_wp2_with fail
  refine (sFits_any _ _ _ _ S A _ hsh.out hm (hSh.out.rd.below (by exact (by repeat (first | exact Below.refl _ _ | assumption | refine Below.drew ?_ | refine below_drewN ?_ _ | refine Below.alloc' ?_ _ | (refine Below.setCell ?_ (by first | omega | (simp; done) | (simp; omega) | exact Below.size (by assumption) | exact Nat.le_trans (Below.size (by assumption)) (by simp)) _) | (refine Below.via' ?_ (by assumption)) | (refine Below.alloc ?_ (by first | omega | (simp; done) | (simp; omega) | exact Below.size (by assumption) | exact Nat.le_trans (Below.size (by assumption)) (by simp)) _) | (refine Below.via ?_ (by assumption) (by first | omega | (simp; done) | (simp; omega) | exact Below.size (by assumption) | exact Nat.le_trans (Below.size (by assumption)) (by simp))))))) (hAh.out.below (by exact (by repeat (first | exact Below.refl _ _ | assumption | refine Below.drew ?_ | refine below_drewN ?_ _ | refine Below.alloc' ?_ _ | (refine Below.setCell ?_ (by first | omega | (simp; done) | (simp; omega) | exact Below.size (by assumption) | exact Nat.le_trans (Below.size (by assumption)) (by simp)) _) | (refine Below.via' ?_ (by assumption)) | (refine Below.alloc ?_ (by first | omega | (simp; done) | (simp; omega) | exact Below.size (by assumption) | exact Nat.le_trans (Below.size (by assumption)) (by simp)) _) | (refine Below.via ?_ (by assumption) (by first | omega | (simp; done) | (simp; omega) | exact Below.size (by assumption) | exact Nat.le_trans (Below.size (by assumption)) (by simp)))))))).mono ?_
  rintro e w3 ⟨rfl, hb3⟩
  cases hf : fitB S A
  · have hv := Lib.hid (wv_no3 (W := W) (B := B) hf)
    go_wp2
    go_ret2
    exact retN_no hv.out (by repeat (first | exact Below.refl _ _ | assumption | refine Below.drew ?_ | refine below_drewN ?_ _ | refine Below.alloc' ?_ _ | (refine Below.setCell ?_ (by first | omega | (simp; done) | (simp; omega) | exact Below.size (by assumption) | exact Nat.le_trans (Below.size (by assumption)) (by simp)) _) | (refine Below.via' ?_ (by assumption)) | (refine Below.alloc ?_ (by first | omega | (simp; done) | (simp; omega) | exact Below.size (by assumption) | exact Nat.le_trans (Below.size (by assumption)) (by simp)) _) | (refine Below.via ?_ (by assumption) (by first | omega | (simp; done) | (simp; omega) | exact Below.size (by assumption) | exact Nat.le_trans (Below.size (by assumption)) (by simp)))))
  have hfh := Lib.hid hf
  clear hf
  go_wp2_with fail
  refine (sFits_any _ _ _ _ S B _ hsh.out hm (hSh.out.rd.below (by exact (by repeat (first | exact Below.refl _ _ | assumption | refine Below.drew ?_ | refine below_drewN ?_ _ | refine Below.alloc' ?_ _ | (refine Below.setCell ?_ (by first | omega | (simp; done) | (simp; omega) | exact Below.size (by assumption) | exact Nat.le_trans (Below.size (by assumption)) (by simp)) _) | (refine Below.via' ?_ (by assumption)) | (refine Below.alloc ?_ (by first | omega | (simp; done) | (simp; omega) | exact Below.size (by assumption) | exact Nat.le_trans (Below.size (by assumption)) (by simp)) _) | (refine Below.via ?_ (by assumption) (by first | omega | (simp; done) | (simp; omega) | exact Below.size (by assumption) | exact Nat.le_trans (Below.size (by assumption)) (by simp))))))) (hBh.out.below (by exact (by repeat (first | exact Below.refl _ _ | assumption | refine Below.drew ?_ | refine below_drewN ?_ _ | refine Below.alloc' ?_ _ | (refine Below.setCell ?_ (by first | omega | (simp; done) | (simp; omega) | exact Below.size (by assumption) | exact Nat.le_trans (Below.size (by assumption)) (by simp)) _) | (refine Below.via' ?_ (by assumption)) | (refine Below.alloc ?_ (by first | omega | (simp; done) | (simp; omega) | exact Below.size (by assumption) | exact Nat.le_trans (Below.size (by assumption)) (by simp)) _) | (refine Below.via ?_ (by assumption) (by first | omega | (simp; done) | (simp; omega) | exact Below.size (by assumption) | exact Nat.le_trans (Below.size (by assumption)) (by simp)))))))).mono ?_
  rintro e w4 ⟨rfl, hb4⟩
  cases hf : fitB S B
  · have hv := Lib.hid (wv_no4 (W := W) (A := A) hf)
    go_wp2
    go_ret2
    exact retN_no hv.out (by repeat (first | exact Below.refl _ _ | assumption | refine Below.drew ?_ | refine below_drewN ?_ _ | refine Below.alloc' ?_ _ | (refine Below.setCell ?_ (by first | omega | (simp; done) | (simp; omega) | exact Below.size (by assumption) | exact Nat.le_trans (Below.size (by assumption)) (by simp)) _) | (refine Below.via' ?_ (by assumption)) | (refine Below.alloc ?_ (by first | omega | (simp; done) | (simp; omega) | exact Below.size (by assumption) | exact Nat.le_trans (Below.size (by assumption)) (by simp)) _) | (refine Below.via ?_ (by assumption) (by first | omega | (simp; done) | (simp; omega) | exact Below.size (by assumption) | exact Nat.le_trans (Below.size (by assumption)) (by simp)))))
  have hfh2 := Lib.hid hf
  clear hf
  have hv := Lib.hid (wv_yes hsh.out hgh.out hfh.out hfh2.out)
  have hl6 := (schB_len hsh.out).2
  have hla := Lib.hid (fit_len hfh.out)
  have hlb := Lib.hid (fit_len hfh2.out)
  have hlw := Lib.hid (wg_get hgh.out).1
  have hwr := Lib.hid (wg_get hgh.out).2
  go_wp2_with fail
  refine (iChanged_any _ _ _ _ _ _ W A B _ hwr.out (by have := hla.out; have := hlb.out; omega) (by have := hla.out; have := hlw.out; omega) (by have := hla.out; omega) (hWh.out.below (by exact (by repeat (first | exact Below.refl _ _ | assumption | refine Below.drew ?_ | refine below_drewN ?_ _ | refine Below.alloc' ?_ _ | (refine Below.setCell ?_ (by first | omega | (simp; done) | (simp; omega) | exact Below.size (by assumption) | exact Nat.le_trans (Below.size (by assumption)) (by simp)) _) | (refine Below.via' ?_ (by assumption)) | (refine Below.alloc ?_ (by first | omega | (simp; done) | (simp; omega) | exact Below.size (by assumption) | exact Nat.le_trans (Below.size (by assumption)) (by simp)) _) | (refine Below.via ?_ (by assumption) (by first | omega | (simp; done) | (simp; omega) | exact Below.size (by assumption) | exact Nat.le_trans (Below.size (by assumption)) (by simp))))))) (hAh.out.below (by exact (by repeat (first | exact Below.refl _ _ | assumption | refine Below.drew ?_ | refine below_drewN ?_ _ | refine Below.alloc' ?_ _ | (refine Below.setCell ?_ (by first | omega | (simp; done) | (simp; omega) | exact Below.size (by assumption) | exact Nat.le_trans (Below.size (by assumption)) (by simp)) _) | (refine Below.via' ?_ (by assumption)) | (refine Below.alloc ?_ (by first | omega | (simp; done) | (simp; omega) | exact Below.size (by assumption) | exact Nat.le_trans (Below.size (by assumption)) (by simp)) _) | (refine Below.via ?_ (by assumption) (by first | omega | (simp; done) | (simp; omega) | exact Below.size (by assumption) | exact Nat.le_trans (Below.size (by assumption)) (by simp))))))) (hBh.out.below (by exact (by repeat (first | exact Below.refl _ _ | assumption | refine Below.drew ?_ | refine below_drewN ?_ _ | refine Below.alloc' ?_ _ | (refine Below.setCell ?_ (by first | omega | (simp; done) | (simp; omega) | exact Below.size (by assumption) | exact Nat.le_trans (Below.size (by assumption)) (by simp)) _) | (refine Below.via' ?_ (by assumption)) | (refine Below.alloc ?_ (by first | omega | (simp; done) | (simp; omega) | exact Below.size (by assumption) | exact Nat.le_trans (Below.size (by assumption)) (by simp)) _) | (refine Below.via ?_ (by assumption) (by first | omega | (simp; done) | (simp; omega) | exact Below.size (by assumption) | exact Nat.le_trans (Below.size (by assumption)) (by simp)))))))).mono ?_
  rintro e w5 ⟨rfl, hb5⟩
  go_wp2
  go_ret2
  exact retN_yes hv.out rfl (by repeat (first | exact Below.refl _ _ | assumption | refine Below.drew ?_ | refine below_drewN ?_ _ | refine Below.alloc' ?_ _ | (refine Below.setCell ?_ (by first | omega | (simp; done) | (simp; omega) | exact Below.size (by assumption) | exact Nat.le_trans (Below.size (by assumption)) (by simp)) _) | (refine Below.via' ?_ (by assumption)) | (refine Below.alloc ?_ (by first | omega | (simp; done) | (simp; omega) | exact Below.size (by assumption) | exact Nat.le_trans (Below.size (by assumption)) (by simp)) _) | (refine Below.via ?_ (by assumption) (by first | omega | (simp; done) | (simp; omega) | exact Below.size (by assumption) | exact Nat.le_trans (Below.size (by assumption)) (by simp)))))
theorem dv_in {A B : List Int} : ∀ v ∈ dvL A B, 0 ≤ v ∧ v < (A.length : Int) := by
  intro v hv
  unfold dvL at hv
  obtain ⟨i, rfl, hi, _⟩ := pkUp_mem hv
  omega
set_option maxHeartbeats 2000000 in
theorem iCstA_x (x y z u : Option Addr) (c1 c2 c3 c4 : Nat) (S : List (ByteArray × Int)) (W A B : List Int) (w : World) (hS : SIn w x c1 S) (hW : IIn w y W) (hA : IIn w z A) (hB : IIn w u B) :
    Calls Try.prog 41 #[.slice x S.length c1, .slice y W.length c2, .slice z A.length c3, .slice u B.length c4] w fun e w' => e = .returned (.tuple #[.int .i64 (nIf (wvB S W A B) (swZ W (dvL A B))), .bool (wvB S W A B)]) ∧ Below w.heap.size w w' := by
  have hSh := Lib.hid hS
  have hWh := Lib.hid hW
  have hAh := Lib.hid hA
  have hBh := Lib.hid hB
  have hm := hS.1
  clear hS hW hA hB
  go_enter Try.func41, Try.ntmps41
  go_wp2_with fail
  refine (isSch_x _ _ _ _ (hSh.out.below (by exact (by repeat (first | exact Below.refl _ _ | assumption | refine Below.drew ?_ | refine below_drewN ?_ _ | refine Below.alloc' ?_ _ | (refine Below.setCell ?_ (by first | omega | (simp; done) | (simp; omega) | exact Below.size (by assumption) | exact Nat.le_trans (Below.size (by assumption)) (by simp)) _) | (refine Below.via' ?_ (by assumption)) | (refine Below.alloc ?_ (by first | omega | (simp; done) | (simp; omega) | exact Below.size (by assumption) | exact Nat.le_trans (Below.size (by assumption)) (by simp)) _) | (refine Below.via ?_ (by assumption) (by first | omega | (simp; done) | (simp; omega) | exact Below.size (by assumption) | exact Nat.le_trans (Below.size (by assumption)) (by simp)))))))).mono ?_
  rintro e w1 ⟨rfl, hb1⟩
  cases hs : schB S
  · have hv := Lib.hid (wv_no1 (W := W) (A := A) (B := B) hs)
    go_wp2
    go_ret2
    exact retN_no hv.out (by repeat (first | exact Below.refl _ _ | assumption | refine Below.drew ?_ | refine below_drewN ?_ _ | refine Below.alloc' ?_ _ | (refine Below.setCell ?_ (by first | omega | (simp; done) | (simp; omega) | exact Below.size (by assumption) | exact Nat.le_trans (Below.size (by assumption)) (by simp)) _) | (refine Below.via' ?_ (by assumption)) | (refine Below.alloc ?_ (by first | omega | (simp; done) | (simp; omega) | exact Below.size (by assumption) | exact Nat.le_trans (Below.size (by assumption)) (by simp)) _) | (refine Below.via ?_ (by assumption) (by first | omega | (simp; done) | (simp; omega) | exact Below.size (by assumption) | exact Nat.le_trans (Below.size (by assumption)) (by simp)))))
  have hsh := Lib.hid hs
  clear hs
  go_wp2_with fail
  refine (areWeights_any _ _ _ _ S W _ hm (hWh.out.below (by exact (by repeat (first | exact Below.refl _ _ | assumption | refine Below.drew ?_ | refine below_drewN ?_ _ | refine Below.alloc' ?_ _ | (refine Below.setCell ?_ (by first | omega | (simp; done) | (simp; omega) | exact Below.size (by assumption) | exact Nat.le_trans (Below.size (by assumption)) (by simp)) _) | (refine Below.via' ?_ (by assumption)) | (refine Below.alloc ?_ (by first | omega | (simp; done) | (simp; omega) | exact Below.size (by assumption) | exact Nat.le_trans (Below.size (by assumption)) (by simp)) _) | (refine Below.via ?_ (by assumption) (by first | omega | (simp; done) | (simp; omega) | exact Below.size (by assumption) | exact Nat.le_trans (Below.size (by assumption)) (by simp)))))))).mono ?_
  rintro e w2 ⟨rfl, hb2⟩
  cases hg : wgB S W
  · have hv := Lib.hid (wv_no2 (A := A) (B := B) hg)
    go_wp2
    go_ret2
    exact retN_no hv.out (by repeat (first | exact Below.refl _ _ | assumption | refine Below.drew ?_ | refine below_drewN ?_ _ | refine Below.alloc' ?_ _ | (refine Below.setCell ?_ (by first | omega | (simp; done) | (simp; omega) | exact Below.size (by assumption) | exact Nat.le_trans (Below.size (by assumption)) (by simp)) _) | (refine Below.via' ?_ (by assumption)) | (refine Below.alloc ?_ (by first | omega | (simp; done) | (simp; omega) | exact Below.size (by assumption) | exact Nat.le_trans (Below.size (by assumption)) (by simp)) _) | (refine Below.via ?_ (by assumption) (by first | omega | (simp; done) | (simp; omega) | exact Below.size (by assumption) | exact Nat.le_trans (Below.size (by assumption)) (by simp)))))
  have hgh := Lib.hid hg
  clear hg
  go_wp2_with fail
  refine (areValues_any _ _ _ _ S A _ hsh.out hm (hSh.out.rd.below (by exact (by repeat (first | exact Below.refl _ _ | assumption | refine Below.drew ?_ | refine below_drewN ?_ _ | refine Below.alloc' ?_ _ | (refine Below.setCell ?_ (by first | omega | (simp; done) | (simp; omega) | exact Below.size (by assumption) | exact Nat.le_trans (Below.size (by assumption)) (by simp)) _) | (refine Below.via' ?_ (by assumption)) | (refine Below.alloc ?_ (by first | omega | (simp; done) | (simp; omega) | exact Below.size (by assumption) | exact Nat.le_trans (Below.size (by assumption)) (by simp)) _) | (refine Below.via ?_ (by assumption) (by first | omega | (simp; done) | (simp; omega) | exact Below.size (by assumption) | exact Nat.le_trans (Below.size (by assumption)) (by simp))))))) (hAh.out.below (by exact (by repeat (first | exact Below.refl _ _ | assumption | refine Below.drew ?_ | refine below_drewN ?_ _ | refine Below.alloc' ?_ _ | (refine Below.setCell ?_ (by first | omega | (simp; done) | (simp; omega) | exact Below.size (by assumption) | exact Nat.le_trans (Below.size (by assumption)) (by simp)) _) | (refine Below.via' ?_ (by assumption)) | (refine Below.alloc ?_ (by first | omega | (simp; done) | (simp; omega) | exact Below.size (by assumption) | exact Nat.le_trans (Below.size (by assumption)) (by simp)) _) | (refine Below.via ?_ (by assumption) (by first | omega | (simp; done) | (simp; omega) | exact Below.size (by assumption) | exact Nat.le_trans (Below.size (by assumption)) (by simp)))))))).mono ?_
  rintro e w3 ⟨rfl, hb3⟩
  cases hf : fitB S A
  · have hv := Lib.hid (wv_no3 (W := W) (B := B) hf)
    go_wp2
    go_ret2
    exact retN_no hv.out (by repeat (first | exact Below.refl _ _ | assumption | refine Below.drew ?_ | refine below_drewN ?_ _ | refine Below.alloc' ?_ _ | (refine Below.setCell ?_ (by first | omega | (simp; done) | (simp; omega) | exact Below.size (by assumption) | exact Nat.le_trans (Below.size (by assumption)) (by simp)) _) | (refine Below.via' ?_ (by assumption)) | (refine Below.alloc ?_ (by first | omega | (simp; done) | (simp; omega) | exact Below.size (by assumption) | exact Nat.le_trans (Below.size (by assumption)) (by simp)) _) | (refine Below.via ?_ (by assumption) (by first | omega | (simp; done) | (simp; omega) | exact Below.size (by assumption) | exact Nat.le_trans (Below.size (by assumption)) (by simp)))))
  have hfh := Lib.hid hf
  clear hf
  go_wp2_with fail
  refine (areValues_any _ _ _ _ S B _ hsh.out hm (hSh.out.rd.below (by exact (by repeat (first | exact Below.refl _ _ | assumption | refine Below.drew ?_ | refine below_drewN ?_ _ | refine Below.alloc' ?_ _ | (refine Below.setCell ?_ (by first | omega | (simp; done) | (simp; omega) | exact Below.size (by assumption) | exact Nat.le_trans (Below.size (by assumption)) (by simp)) _) | (refine Below.via' ?_ (by assumption)) | (refine Below.alloc ?_ (by first | omega | (simp; done) | (simp; omega) | exact Below.size (by assumption) | exact Nat.le_trans (Below.size (by assumption)) (by simp)) _) | (refine Below.via ?_ (by assumption) (by first | omega | (simp; done) | (simp; omega) | exact Below.size (by assumption) | exact Nat.le_trans (Below.size (by assumption)) (by simp))))))) (hBh.out.below (by exact (by repeat (first | exact Below.refl _ _ | assumption | refine Below.drew ?_ | refine below_drewN ?_ _ | refine Below.alloc' ?_ _ | (refine Below.setCell ?_ (by first | omega | (simp; done) | (simp; omega) | exact Below.size (by assumption) | exact Nat.le_trans (Below.size (by assumption)) (by simp)) _) | (refine Below.via' ?_ (by assumption)) | (refine Below.alloc ?_ (by first | omega | (simp; done) | (simp; omega) | exact Below.size (by assumption) | exact Nat.le_trans (Below.size (by assumption)) (by simp)) _) | (refine Below.via ?_ (by assumption) (by first | omega | (simp; done) | (simp; omega) | exact Below.size (by assumption) | exact Nat.le_trans (Below.size (by assumption)) (by simp)))))))).mono ?_
  rintro e w4 ⟨rfl, hb4⟩
  cases hf : fitB S B
  · have hv := Lib.hid (wv_no4 (W := W) (A := A) hf)
    go_wp2
    go_ret2
    exact retN_no hv.out (by repeat (first | exact Below.refl _ _ | assumption | refine Below.drew ?_ | refine below_drewN ?_ _ | refine Below.alloc' ?_ _ | (refine Below.setCell ?_ (by first | omega | (simp; done) | (simp; omega) | exact Below.size (by assumption) | exact Nat.le_trans (Below.size (by assumption)) (by simp)) _) | (refine Below.via' ?_ (by assumption)) | (refine Below.alloc ?_ (by first | omega | (simp; done) | (simp; omega) | exact Below.size (by assumption) | exact Nat.le_trans (Below.size (by assumption)) (by simp)) _) | (refine Below.via ?_ (by assumption) (by first | omega | (simp; done) | (simp; omega) | exact Below.size (by assumption) | exact Nat.le_trans (Below.size (by assumption)) (by simp)))))
  have hfh2 := Lib.hid hf
  clear hf
  have hv := Lib.hid (wv_yes hsh.out hgh.out hfh.out hfh2.out)
  have hl6 := (schB_len hsh.out).2
  have hla := Lib.hid (fit_len hfh.out)
  have hlb := Lib.hid (fit_len hfh2.out)
  have hlw := Lib.hid (wg_get hgh.out).1
  have hwr := Lib.hid (wg_get hgh.out).2
  go_wp2_with fail
  refine (differing_any _ _ _ _ A B _ (by have := hla.out; have := hlb.out; omega) (by have := hla.out; omega) (hAh.out.below (by exact (by repeat (first | exact Below.refl _ _ | assumption | refine Below.drew ?_ | refine below_drewN ?_ _ | refine Below.alloc' ?_ _ | (refine Below.setCell ?_ (by first | omega | (simp; done) | (simp; omega) | exact Below.size (by assumption) | exact Nat.le_trans (Below.size (by assumption)) (by simp)) _) | (refine Below.via' ?_ (by assumption)) | (refine Below.alloc ?_ (by first | omega | (simp; done) | (simp; omega) | exact Below.size (by assumption) | exact Nat.le_trans (Below.size (by assumption)) (by simp)) _) | (refine Below.via ?_ (by assumption) (by first | omega | (simp; done) | (simp; omega) | exact Below.size (by assumption) | exact Nat.le_trans (Below.size (by assumption)) (by simp))))))) (hBh.out.below (by exact (by repeat (first | exact Below.refl _ _ | assumption | refine Below.drew ?_ | refine below_drewN ?_ _ | refine Below.alloc' ?_ _ | (refine Below.setCell ?_ (by first | omega | (simp; done) | (simp; omega) | exact Below.size (by assumption) | exact Nat.le_trans (Below.size (by assumption)) (by simp)) _) | (refine Below.via' ?_ (by assumption)) | (refine Below.alloc ?_ (by first | omega | (simp; done) | (simp; omega) | exact Below.size (by assumption) | exact Nat.le_trans (Below.size (by assumption)) (by simp)) _) | (refine Below.via ?_ (by assumption) (by first | omega | (simp; done) | (simp; omega) | exact Below.size (by assumption) | exact Nat.le_trans (Below.size (by assumption)) (by simp)))))))).mono ?_
  rintro e w5 ⟨u5, rfl, ho5, hb5⟩
  obtain ⟨x5, n5, rfl, -, -⟩ := (OwR.of ho5).form
  have hdl := dvL_len A B
  have hin5 := Lib.hid (show IIn w5 x5 (dvL A B) from pk_iinW (by have := hla.out; omega) (Rd.of_own ho5))
  clear ho5
  go_wp2_with fail
  refine (sumWeights_any _ _ _ _ W (dvL A B) _ hwr.out (by have := hla.out; omega) (fun v hv => by have := dv_in v hv; have := hla.out; have := hlw.out; omega) (hWh.out.below (by exact (by repeat (first | exact Below.refl _ _ | assumption | refine Below.drew ?_ | refine below_drewN ?_ _ | refine Below.alloc' ?_ _ | (refine Below.setCell ?_ (by first | omega | (simp; done) | (simp; omega) | exact Below.size (by assumption) | exact Nat.le_trans (Below.size (by assumption)) (by simp)) _) | (refine Below.via' ?_ (by assumption)) | (refine Below.alloc ?_ (by first | omega | (simp; done) | (simp; omega) | exact Below.size (by assumption) | exact Nat.le_trans (Below.size (by assumption)) (by simp)) _) | (refine Below.via ?_ (by assumption) (by first | omega | (simp; done) | (simp; omega) | exact Below.size (by assumption) | exact Nat.le_trans (Below.size (by assumption)) (by simp))))))) hin5.out).mono ?_
  rintro e w6 ⟨rfl, hb6⟩
  go_wp2
  go_ret2
  exact retN_yes hv.out rfl (by repeat (first | exact Below.refl _ _ | assumption | refine Below.drew ?_ | refine below_drewN ?_ _ | refine Below.alloc' ?_ _ | (refine Below.setCell ?_ (by first | omega | (simp; done) | (simp; omega) | exact Below.size (by assumption) | exact Nat.le_trans (Below.size (by assumption)) (by simp)) _) | (refine Below.via' ?_ (by assumption)) | (refine Below.alloc ?_ (by first | omega | (simp; done) | (simp; omega) | exact Below.size (by assumption) | exact Nat.le_trans (Below.size (by assumption)) (by simp)) _) | (refine Below.via ?_ (by assumption) (by first | omega | (simp; done) | (simp; omega) | exact Below.size (by assumption) | exact Nat.le_trans (Below.size (by assumption)) (by simp)))))
end Go.Proofs.Ytpdilekfagfbiaa

namespace Go.Proofs.Ytpdilekfagfbiaa
open Go.RowKit
set_option maxRecDepth 100000

/-- A small schema, edits, weights and values for it. -/
def cmB (S : List (ByteArray × Int)) (M : List (List Int)) (W V : List Int) : Bool := smB S M && wgB S W && fitB S V
theorem cm_no1 {S : List (ByteArray × Int)} {M : List (List Int)} {W V : List Int} (h : smB S M = false) : cmB S M W V = false := by unfold cmB; rw [h]; rfl
theorem cm_no2 {S : List (ByteArray × Int)} {M : List (List Int)} {W V : List Int} (h : wgB S W = false) : cmB S M W V = false := by unfold cmB; rw [h, Bool.and_false]; rfl
theorem cm_no3 {S : List (ByteArray × Int)} {M : List (List Int)} {W V : List Int} (h : fitB S V = false) : cmB S M W V = false := by unfold cmB; rw [h, Bool.and_false]
theorem cm_yes {S : List (ByteArray × Int)} {M : List (List Int)} {W V : List Int} (h1 : smB S M = true) (h2 : wgB S W = true) (h3 : fitB S V = true) : cmB S M W V = true := by unfold cmB; rw [h1, h2, h3]; rfl
theorem cm_get {S : List (ByteArray × Int)} {M : List (List Int)} {W V : List Int} (h : cmB S M W V = true) : smB S M = true ∧ wgB S W = true ∧ fitB S V = true := by
  unfold cmB at h
  rw [Bool.and_eq_true, Bool.and_eq_true] at h
  exact ⟨h.1.1, h.1.2, h.2⟩
set_option maxHeartbeats 1000000 in
theorem iInput_any (x y z u : Option Addr) (c1 c2 c3 c4 : Nat) (S : List (ByteArray × Int)) (Q : List PR) (W V : List Int) (w : World) (hS : SIn w x c1 S) (hQ : EIn w y Q) (hW : IIn w z W) (hV : IIn w u V) :
    Calls Try.prog 91 #[.slice x S.length c1, .slice y Q.length c2, .slice z W.length c3, .slice u V.length c4] w fun e w' => e = .returned (.bool (cmB S (eM Q) W V)) ∧ Below w.heap.size w w' := by
  have hSh := Lib.hid hS
  have hQh := Lib.hid hQ
  have hWh := Lib.hid hW
  have hVh := Lib.hid hV
  have hm := hS.1
  clear hS hQ hW hV
  go_enter Try.func91, Try.ntmps91
  go_wp2_with fail
  refine (eSmall_any _ _ _ _ S Q _ (hSh.out.below (by exact (by repeat (first | exact Below.refl _ _ | assumption | refine Below.drew ?_ | refine below_drewN ?_ _ | refine Below.alloc' ?_ _ | (refine Below.setCell ?_ (by first | omega | (simp; done) | (simp; omega) | exact Below.size (by assumption) | exact Nat.le_trans (Below.size (by assumption)) (by simp)) _) | (refine Below.via' ?_ (by assumption)) | (refine Below.alloc ?_ (by first | omega | (simp; done) | (simp; omega) | exact Below.size (by assumption) | exact Nat.le_trans (Below.size (by assumption)) (by simp)) _) | (refine Below.via ?_ (by assumption) (by first | omega | (simp; done) | (simp; omega) | exact Below.size (by assumption) | exact Nat.le_trans (Below.size (by assumption)) (by simp))))))) (hQh.out.below (by exact (by repeat (first | exact Below.refl _ _ | assumption | refine Below.drew ?_ | refine below_drewN ?_ _ | refine Below.alloc' ?_ _ | (refine Below.setCell ?_ (by first | omega | (simp; done) | (simp; omega) | exact Below.size (by assumption) | exact Nat.le_trans (Below.size (by assumption)) (by simp)) _) | (refine Below.via' ?_ (by assumption)) | (refine Below.alloc ?_ (by first | omega | (simp; done) | (simp; omega) | exact Below.size (by assumption) | exact Nat.le_trans (Below.size (by assumption)) (by simp)) _) | (refine Below.via ?_ (by assumption) (by first | omega | (simp; done) | (simp; omega) | exact Below.size (by assumption) | exact Nat.le_trans (Below.size (by assumption)) (by simp)))))))).mono ?_
  rintro e w1 ⟨rfl, hb1⟩
  cases he : smB S (eM Q)
  · have hv := Lib.hid (cm_no1 (W := W) (V := V) he)
    go_wp2
    go_ret
    exact ⟨ret_bool hv.out.symm, (by repeat (first | exact Below.refl _ _ | assumption | refine Below.drew ?_ | refine below_drewN ?_ _ | refine Below.alloc' ?_ _ | (refine Below.setCell ?_ (by first | omega | (simp; done) | (simp; omega) | exact Below.size (by assumption) | exact Nat.le_trans (Below.size (by assumption)) (by simp)) _) | (refine Below.via' ?_ (by assumption)) | (refine Below.alloc ?_ (by first | omega | (simp; done) | (simp; omega) | exact Below.size (by assumption) | exact Nat.le_trans (Below.size (by assumption)) (by simp)) _) | (refine Below.via ?_ (by assumption) (by first | omega | (simp; done) | (simp; omega) | exact Below.size (by assumption) | exact Nat.le_trans (Below.size (by assumption)) (by simp)))))⟩
  have hsmh := Lib.hid he
  have hsh := Lib.hid (el_get (sm_get he).1).1
  clear he
  go_wp2_with fail
  refine (iWeights_any _ _ _ _ S W _ (hWh.out.below (by exact (by repeat (first | exact Below.refl _ _ | assumption | refine Below.drew ?_ | refine below_drewN ?_ _ | refine Below.alloc' ?_ _ | (refine Below.setCell ?_ (by first | omega | (simp; done) | (simp; omega) | exact Below.size (by assumption) | exact Nat.le_trans (Below.size (by assumption)) (by simp)) _) | (refine Below.via' ?_ (by assumption)) | (refine Below.alloc ?_ (by first | omega | (simp; done) | (simp; omega) | exact Below.size (by assumption) | exact Nat.le_trans (Below.size (by assumption)) (by simp)) _) | (refine Below.via ?_ (by assumption) (by first | omega | (simp; done) | (simp; omega) | exact Below.size (by assumption) | exact Nat.le_trans (Below.size (by assumption)) (by simp)))))))).mono ?_
  rintro e w2 ⟨rfl, hb2⟩
  cases hg : wgB S W
  · have hv := Lib.hid (cm_no2 (M := eM Q) (V := V) hg)
    go_wp2
    go_ret
    exact ⟨ret_bool hv.out.symm, (by repeat (first | exact Below.refl _ _ | assumption | refine Below.drew ?_ | refine below_drewN ?_ _ | refine Below.alloc' ?_ _ | (refine Below.setCell ?_ (by first | omega | (simp; done) | (simp; omega) | exact Below.size (by assumption) | exact Nat.le_trans (Below.size (by assumption)) (by simp)) _) | (refine Below.via' ?_ (by assumption)) | (refine Below.alloc ?_ (by first | omega | (simp; done) | (simp; omega) | exact Below.size (by assumption) | exact Nat.le_trans (Below.size (by assumption)) (by simp)) _) | (refine Below.via ?_ (by assumption) (by first | omega | (simp; done) | (simp; omega) | exact Below.size (by assumption) | exact Nat.le_trans (Below.size (by assumption)) (by simp)))))⟩
  have hgh := Lib.hid hg
  clear hg
  go_wp2_with fail
  refine (sFits_any _ _ _ _ S V _ hsh.out hm (hSh.out.rd.below (by exact (by repeat (first | exact Below.refl _ _ | assumption | refine Below.drew ?_ | refine below_drewN ?_ _ | refine Below.alloc' ?_ _ | (refine Below.setCell ?_ (by first | omega | (simp; done) | (simp; omega) | exact Below.size (by assumption) | exact Nat.le_trans (Below.size (by assumption)) (by simp)) _) | (refine Below.via' ?_ (by assumption)) | (refine Below.alloc ?_ (by first | omega | (simp; done) | (simp; omega) | exact Below.size (by assumption) | exact Nat.le_trans (Below.size (by assumption)) (by simp)) _) | (refine Below.via ?_ (by assumption) (by first | omega | (simp; done) | (simp; omega) | exact Below.size (by assumption) | exact Nat.le_trans (Below.size (by assumption)) (by simp))))))) (hVh.out.below (by exact (by repeat (first | exact Below.refl _ _ | assumption | refine Below.drew ?_ | refine below_drewN ?_ _ | refine Below.alloc' ?_ _ | (refine Below.setCell ?_ (by first | omega | (simp; done) | (simp; omega) | exact Below.size (by assumption) | exact Nat.le_trans (Below.size (by assumption)) (by simp)) _) | (refine Below.via' ?_ (by assumption)) | (refine Below.alloc ?_ (by first | omega | (simp; done) | (simp; omega) | exact Below.size (by assumption) | exact Nat.le_trans (Below.size (by assumption)) (by simp)) _) | (refine Below.via ?_ (by assumption) (by first | omega | (simp; done) | (simp; omega) | exact Below.size (by assumption) | exact Nat.le_trans (Below.size (by assumption)) (by simp)))))))).mono ?_
  rintro e w3 ⟨rfl, hb3⟩
  have hv : Hid (cmB S (eM Q) W V = fitB S V) := by unfold Hid cmB; rw [hsmh.out, hgh.out]; rfl
  go_wp2
  go_ret
  exact ⟨ret_bool hv.out.symm, (by repeat (first | exact Below.refl _ _ | assumption | refine Below.drew ?_ | refine below_drewN ?_ _ | refine Below.alloc' ?_ _ | (refine Below.setCell ?_ (by first | omega | (simp; done) | (simp; omega) | exact Below.size (by assumption) | exact Nat.le_trans (Below.size (by assumption)) (by simp)) _) | (refine Below.via' ?_ (by assumption)) | (refine Below.alloc ?_ (by first | omega | (simp; done) | (simp; omega) | exact Below.size (by assumption) | exact Nat.le_trans (Below.size (by assumption)) (by simp)) _) | (refine Below.via ?_ (by assumption) (by first | omega | (simp; done) | (simp; omega) | exact Below.size (by assumption) | exact Nat.le_trans (Below.size (by assumption)) (by simp)))))⟩
set_option maxHeartbeats 1000000 in
theorem canBeMended_any (x y z u : Option Addr) (c1 c2 c3 c4 : Nat) (S : List (ByteArray × Int)) (Q : List PR) (W V : List Int) (w : World) (hS : SIn w x c1 S) (hQ : EIn w y Q) (hW : IIn w z W) (hV : IIn w u V) :
    Calls Try.prog 94 #[.slice x S.length c1, .slice y Q.length c2, .slice z W.length c3, .slice u V.length c4] w fun e w' => e = .returned (.bool (cmB S (eM Q) W V)) ∧ Below w.heap.size w w' := by
  have hSh := Lib.hid hS
  have hQh := Lib.hid hQ
  have hWh := Lib.hid hW
  have hVh := Lib.hid hV
  have hm := hS.1
  clear hS hQ hW hV
  go_enter Try.func94, Try.ntmps94
  go_wp2_with fail
  refine (isSmall_any _ _ _ _ (hSh.out.below (by exact (by repeat (first | exact Below.refl _ _ | assumption | refine Below.drew ?_ | refine below_drewN ?_ _ | refine Below.alloc' ?_ _ | (refine Below.setCell ?_ (by first | omega | (simp; done) | (simp; omega) | exact Below.size (by assumption) | exact Nat.le_trans (Below.size (by assumption)) (by simp)) _) | (refine Below.via' ?_ (by assumption)) | (refine Below.alloc ?_ (by first | omega | (simp; done) | (simp; omega) | exact Below.size (by assumption) | exact Nat.le_trans (Below.size (by assumption)) (by simp)) _) | (refine Below.via ?_ (by assumption) (by first | omega | (simp; done) | (simp; omega) | exact Below.size (by assumption) | exact Nat.le_trans (Below.size (by assumption)) (by simp)))))))).mono ?_
  rintro e w0 ⟨rfl, hb0⟩
  cases hs : smS S
  · have hv := Lib.hid (cm_no1 (W := W) (V := V) (sm_no3 (M := eM Q) hs))
    go_wp2
    go_ret
    exact ⟨ret_bool hv.out.symm, (by repeat (first | exact Below.refl _ _ | assumption | refine Below.drew ?_ | refine below_drewN ?_ _ | refine Below.alloc' ?_ _ | (refine Below.setCell ?_ (by first | omega | (simp; done) | (simp; omega) | exact Below.size (by assumption) | exact Nat.le_trans (Below.size (by assumption)) (by simp)) _) | (refine Below.via' ?_ (by assumption)) | (refine Below.alloc ?_ (by first | omega | (simp; done) | (simp; omega) | exact Below.size (by assumption) | exact Nat.le_trans (Below.size (by assumption)) (by simp)) _) | (refine Below.via ?_ (by assumption) (by first | omega | (simp; done) | (simp; omega) | exact Below.size (by assumption) | exact Nat.le_trans (Below.size (by assumption)) (by simp)))))⟩
  have hsh := Lib.hid (smS_get hs).1
  have hcn := Lib.hid (smS_get hs).2
  clear hs
  go_wp2_with fail
  refine (areEditsFor_any _ _ _ _ S Q _ hsh.out hm (hSh.out.rd.below (by exact (by repeat (first | exact Below.refl _ _ | assumption | refine Below.drew ?_ | refine below_drewN ?_ _ | refine Below.alloc' ?_ _ | (refine Below.setCell ?_ (by first | omega | (simp; done) | (simp; omega) | exact Below.size (by assumption) | exact Nat.le_trans (Below.size (by assumption)) (by simp)) _) | (refine Below.via' ?_ (by assumption)) | (refine Below.alloc ?_ (by first | omega | (simp; done) | (simp; omega) | exact Below.size (by assumption) | exact Nat.le_trans (Below.size (by assumption)) (by simp)) _) | (refine Below.via ?_ (by assumption) (by first | omega | (simp; done) | (simp; omega) | exact Below.size (by assumption) | exact Nat.le_trans (Below.size (by assumption)) (by simp))))))) (hQh.out.below (by exact (by repeat (first | exact Below.refl _ _ | assumption | refine Below.drew ?_ | refine below_drewN ?_ _ | refine Below.alloc' ?_ _ | (refine Below.setCell ?_ (by first | omega | (simp; done) | (simp; omega) | exact Below.size (by assumption) | exact Nat.le_trans (Below.size (by assumption)) (by simp)) _) | (refine Below.via' ?_ (by assumption)) | (refine Below.alloc ?_ (by first | omega | (simp; done) | (simp; omega) | exact Below.size (by assumption) | exact Nat.le_trans (Below.size (by assumption)) (by simp)) _) | (refine Below.via ?_ (by assumption) (by first | omega | (simp; done) | (simp; omega) | exact Below.size (by assumption) | exact Nat.le_trans (Below.size (by assumption)) (by simp)))))))).mono ?_
  rintro e w1 ⟨rfl, hb1⟩
  cases he : elB S (eM Q)
  · have hv := Lib.hid (cm_no1 (W := W) (V := V) (sm_no1 he))
    go_wp2
    go_ret
    exact ⟨ret_bool hv.out.symm, (by repeat (first | exact Below.refl _ _ | assumption | refine Below.drew ?_ | refine below_drewN ?_ _ | refine Below.alloc' ?_ _ | (refine Below.setCell ?_ (by first | omega | (simp; done) | (simp; omega) | exact Below.size (by assumption) | exact Nat.le_trans (Below.size (by assumption)) (by simp)) _) | (refine Below.via' ?_ (by assumption)) | (refine Below.alloc ?_ (by first | omega | (simp; done) | (simp; omega) | exact Below.size (by assumption) | exact Nat.le_trans (Below.size (by assumption)) (by simp)) _) | (refine Below.via ?_ (by assumption) (by first | omega | (simp; done) | (simp; omega) | exact Below.size (by assumption) | exact Nat.le_trans (Below.size (by assumption)) (by simp)))))⟩
  have hsmh := Lib.hid (sm_yes he hcn.out)
  clear he
  go_wp2_with fail
  refine (areWeights_any _ _ _ _ S W _ hm (hWh.out.below (by exact (by repeat (first | exact Below.refl _ _ | assumption | refine Below.drew ?_ | refine below_drewN ?_ _ | refine Below.alloc' ?_ _ | (refine Below.setCell ?_ (by first | omega | (simp; done) | (simp; omega) | exact Below.size (by assumption) | exact Nat.le_trans (Below.size (by assumption)) (by simp)) _) | (refine Below.via' ?_ (by assumption)) | (refine Below.alloc ?_ (by first | omega | (simp; done) | (simp; omega) | exact Below.size (by assumption) | exact Nat.le_trans (Below.size (by assumption)) (by simp)) _) | (refine Below.via ?_ (by assumption) (by first | omega | (simp; done) | (simp; omega) | exact Below.size (by assumption) | exact Nat.le_trans (Below.size (by assumption)) (by simp)))))))).mono ?_
  rintro e w2 ⟨rfl, hb2⟩
  cases hg : wgB S W
  · have hv := Lib.hid (cm_no2 (M := eM Q) (V := V) hg)
    go_wp2
    go_ret
    exact ⟨ret_bool hv.out.symm, (by repeat (first | exact Below.refl _ _ | assumption | refine Below.drew ?_ | refine below_drewN ?_ _ | refine Below.alloc' ?_ _ | (refine Below.setCell ?_ (by first | omega | (simp; done) | (simp; omega) | exact Below.size (by assumption) | exact Nat.le_trans (Below.size (by assumption)) (by simp)) _) | (refine Below.via' ?_ (by assumption)) | (refine Below.alloc ?_ (by first | omega | (simp; done) | (simp; omega) | exact Below.size (by assumption) | exact Nat.le_trans (Below.size (by assumption)) (by simp)) _) | (refine Below.via ?_ (by assumption) (by first | omega | (simp; done) | (simp; omega) | exact Below.size (by assumption) | exact Nat.le_trans (Below.size (by assumption)) (by simp)))))⟩
  have hgh := Lib.hid hg
  clear hg
  go_wp2_with fail
  refine (areValues_any _ _ _ _ S V _ hsh.out hm (hSh.out.rd.below (by exact (by repeat (first | exact Below.refl _ _ | assumption | refine Below.drew ?_ | refine below_drewN ?_ _ | refine Below.alloc' ?_ _ | (refine Below.setCell ?_ (by first | omega | (simp; done) | (simp; omega) | exact Below.size (by assumption) | exact Nat.le_trans (Below.size (by assumption)) (by simp)) _) | (refine Below.via' ?_ (by assumption)) | (refine Below.alloc ?_ (by first | omega | (simp; done) | (simp; omega) | exact Below.size (by assumption) | exact Nat.le_trans (Below.size (by assumption)) (by simp)) _) | (refine Below.via ?_ (by assumption) (by first | omega | (simp; done) | (simp; omega) | exact Below.size (by assumption) | exact Nat.le_trans (Below.size (by assumption)) (by simp))))))) (hVh.out.below (by exact (by repeat (first | exact Below.refl _ _ | assumption | refine Below.drew ?_ | refine below_drewN ?_ _ | refine Below.alloc' ?_ _ | (refine Below.setCell ?_ (by first | omega | (simp; done) | (simp; omega) | exact Below.size (by assumption) | exact Nat.le_trans (Below.size (by assumption)) (by simp)) _) | (refine Below.via' ?_ (by assumption)) | (refine Below.alloc ?_ (by first | omega | (simp; done) | (simp; omega) | exact Below.size (by assumption) | exact Nat.le_trans (Below.size (by assumption)) (by simp)) _) | (refine Below.via ?_ (by assumption) (by first | omega | (simp; done) | (simp; omega) | exact Below.size (by assumption) | exact Nat.le_trans (Below.size (by assumption)) (by simp)))))))).mono ?_
  rintro e w3 ⟨rfl, hb3⟩
  have hv : Hid (cmB S (eM Q) W V = fitB S V) := by unfold Hid cmB; rw [hsmh.out, hgh.out]; rfl
  go_wp2
  go_ret
  exact ⟨ret_bool hv.out.symm, (by repeat (first | exact Below.refl _ _ | assumption | refine Below.drew ?_ | refine below_drewN ?_ _ | refine Below.alloc' ?_ _ | (refine Below.setCell ?_ (by first | omega | (simp; done) | (simp; omega) | exact Below.size (by assumption) | exact Nat.le_trans (Below.size (by assumption)) (by simp)) _) | (refine Below.via' ?_ (by assumption)) | (refine Below.alloc ?_ (by first | omega | (simp; done) | (simp; omega) | exact Below.size (by assumption) | exact Nat.le_trans (Below.size (by assumption)) (by simp)) _) | (refine Below.via ?_ (by assumption) (by first | omega | (simp; done) | (simp; omega) | exact Below.size (by assumption) | exact Nat.le_trans (Below.size (by assumption)) (by simp)))))⟩

theorem retN_at {n m : Int} {b d : Bool} {w w' : World} (hd : d = b) (hn : n = nIf b m) (h : Below w.heap.size w w') : Ending.returned (.tuple #[.int .i64 n, .bool d]) = .returned (.tuple #[.int .i64 (nIf b m), .bool b]) ∧ Below w.heap.size w w' := ⟨by rw [hd, hn], h⟩
/-- The best donor among the first records. -/
def ndS (M : List (List Int)) (W V : List Int) (o : Option (Nat × Int)) (i : Nat) (X : List Int) : Option (Nat × Int) :=
  if faB M X = true then o else match o with
    | none => some (i, swZ W (dvL V X))
    | some (j, b) => if swZ W (dvL V X) < b then some (i, swZ W (dvL V X)) else some (j, b)
def ndUp (M : List (List Int)) (W V : List Int) (D : List (List Int)) : Nat → Option (Nat × Int)
  | 0 => none
  | i + 1 => match D[i]? with
    | none => ndUp M W V D i
    | some X => ndS M W V (ndUp M W V D i) i X
theorem nd_step {M : List (List Int)} {W V : List Int} {D : List (List Int)} {i : Nat} {X : List Int} (h : D[i]? = some X) : ndUp M W V D (i + 1) = ndS M W V (ndUp M W V D i) i X := by
  show (match D[i]? with | none => ndUp M W V D i | some X => ndS M W V (ndUp M W V D i) i X) = _
  rw [h]
theorem ndS_fails {M : List (List Int)} {W V X : List Int} {o : Option (Nat × Int)} {i : Nat} (h : faB M X = true) : ndS M W V o i X = o := if_pos h
theorem ndS_first {M : List (List Int)} {W V X : List Int} {i : Nat} (h : faB M X = false) : ndS M W V none i X = some (i, swZ W (dvL V X)) := if_neg (by rw [h]; exact Bool.false_ne_true)
theorem ndS_less {M : List (List Int)} {W V X : List Int} {i j : Nat} {b : Int} (h : faB M X = false) (k : swZ W (dvL V X) < b) : ndS M W V (some (j, b)) i X = some (i, swZ W (dvL V X)) := by
  unfold ndS
  rw [if_neg (by rw [h]; exact Bool.false_ne_true)]
  exact if_pos k
theorem ndS_keep {M : List (List Int)} {W V X : List Int} {i j : Nat} {b : Int} (h : faB M X = false) (k : ¬ swZ W (dvL V X) < b) : ndS M W V (some (j, b)) i X = some (j, b) := by
  unfold ndS
  rw [if_neg (by rw [h]; exact Bool.false_ne_true)]
  exact if_neg k
theorem dvB_symm (A B : List Int) (i : Nat) : dvB A B i = dvB B A i := by
  unfold dvB
  congr 1
  exact decide_eq_decide.2 ⟨Eq.symm, Eq.symm⟩
theorem dvL_symm {A B : List Int} (h : A.length = B.length) : dvL A B = dvL B A := by
  unfold dvL
  rw [h]
  congr 1
  funext i
  exact dvB_symm A B i
/-- What the best donor's place, cost and presence look like. -/
def ndI (o : Option (Nat × Int)) : Int := match o with | some (j, _) => (j : Int) | none => 0
def ndJ (o : Option (Nat × Int)) : Int := match o with | some (j, _) => (j : Int) | none => -1
def ndC (o : Option (Nat × Int)) : Int := match o with | some (_, b) => b | none => 0
theorem nd_lt (M : List (List Int)) (W V : List Int) (D : List (List Int)) : ∀ n : Nat, ∀ j b, ndUp M W V D n = some (j, b) → j < n
  | 0, j, b, h => by cases h
  | n + 1, j, b, h => by
    have ih := nd_lt M W V D n
    have e : ndUp M W V D (n + 1) = match D[n]? with | none => ndUp M W V D n | some X => ndS M W V (ndUp M W V D n) n X := rfl
    rw [e] at h
    cases hD : D[n]? with
    | none => rw [hD] at h; have := ih j b h; omega
    | some X =>
      rw [hD] at h
      change ndS M W V (ndUp M W V D n) n X = some (j, b) at h
      cases hf : faB M X
      · cases ho : ndUp M W V D n with
        | none => rw [ho, ndS_first hf] at h; cases h; omega
        | some q =>
          obtain ⟨j0, b0⟩ := q
          rw [ho] at h
          by_cases hk : swZ W (dvL V X) < b0
          · rw [ndS_less hf hk] at h; cases h; omega
          · rw [ndS_keep hf hk] at h; cases h; have := ih j b ho; omega
      · rw [ndS_fails hf] at h; have := ih j b h; omega
/-- The arguments, and the answer. -/
def ndG (S : List (ByteArray × Int)) (M : List (List Int)) (W : List Int) (R : List RV) (V : List Int) : Bool := cmB S M W V && dokB S R
def ndO (M : List (List Int)) (W : List Int) (R : List RV) (V : List Int) : Option (Nat × Int) := ndUp M W V (dV R) (dV R).length
def neB (S : List (ByteArray × Int)) (M : List (List Int)) (W : List Int) (R : List RV) (V : List Int) : Bool := ndG S M W R V && (ndO M W R V).isSome
theorem nd_no1 {S : List (ByteArray × Int)} {M : List (List Int)} {W : List Int} {R : List RV} {V : List Int} (h : cmB S M W V = false) : neB S M W R V = false := by unfold neB ndG; rw [h]; rfl
theorem nd_no2 {S : List (ByteArray × Int)} {M : List (List Int)} {W : List Int} {R : List RV} {V : List Int} (h : dokB S R = false) : neB S M W R V = false := by unfold neB ndG; rw [h, Bool.and_false]; rfl
theorem nd_yes {S : List (ByteArray × Int)} {M : List (List Int)} {W : List Int} {R : List RV} {V : List Int} (h1 : cmB S M W V = true) (h2 : dokB S R = true) : neB S M W R V = (ndO M W R V).isSome := by unfold neB ndG; rw [h1, h2]; rfl
set_option maxHeartbeats 2000000 in
theorem iND_x (x y z t u : Option Addr) (c1 c2 c3 c4 c5 : Nat) (S : List (ByteArray × Int)) (Q : List PR) (W : List Int) (P : List PR) (V : List Int) (w : World) (hS : SIn w x c1 S) (hQ : EIn w y Q) (hW : IIn w z W) (hP : DIn w t P) (hV : IIn w u V) :
    Calls Try.prog 51 #[.slice x S.length c1, .slice y Q.length c2, .slice z W.length c3, .slice t P.length c4, .slice u V.length c5] w fun e w' => e = .returned (.tuple #[.int .i64 (nIf (neB S (eM Q) W (pM P) V) (ndI (ndO (eM Q) W (pM P) V))), .bool (neB S (eM Q) W (pM P) V)]) ∧ Below w.heap.size w w' := by
  have hSh := Lib.hid hS
  have hQh := Lib.hid hQ
  have hWh := Lib.hid hW
  have hPh := Lib.hid hP
  have hVh := Lib.hid hV
  have hm := hS.1
  have hel := Lib.hid (eM_len Q)
  have hpl := Lib.hid (pM_len P)
  clear hS hQ hW hP hV
  go_enter Try.func51, Try.ntmps51
  go_wp2_with fail
  refine (canBeMended_any _ _ _ _ _ _ _ _ S Q W V _ (hSh.out.below (by exact (by repeat (first | exact Below.refl _ _ | assumption | refine Below.drew ?_ | refine below_drewN ?_ _ | refine Below.alloc' ?_ _ | (refine Below.setCell ?_ (by first | omega | (simp; done) | (simp; omega) | exact Below.size (by assumption) | exact Nat.le_trans (Below.size (by assumption)) (by simp)) _) | (refine Below.via' ?_ (by assumption)) | (refine Below.alloc ?_ (by first | omega | (simp; done) | (simp; omega) | exact Below.size (by assumption) | exact Nat.le_trans (Below.size (by assumption)) (by simp)) _) | (refine Below.via ?_ (by assumption) (by first | omega | (simp; done) | (simp; omega) | exact Below.size (by assumption) | exact Nat.le_trans (Below.size (by assumption)) (by simp))))))) (hQh.out.below (by exact (by repeat (first | exact Below.refl _ _ | assumption | refine Below.drew ?_ | refine below_drewN ?_ _ | refine Below.alloc' ?_ _ | (refine Below.setCell ?_ (by first | omega | (simp; done) | (simp; omega) | exact Below.size (by assumption) | exact Nat.le_trans (Below.size (by assumption)) (by simp)) _) | (refine Below.via' ?_ (by assumption)) | (refine Below.alloc ?_ (by first | omega | (simp; done) | (simp; omega) | exact Below.size (by assumption) | exact Nat.le_trans (Below.size (by assumption)) (by simp)) _) | (refine Below.via ?_ (by assumption) (by first | omega | (simp; done) | (simp; omega) | exact Below.size (by assumption) | exact Nat.le_trans (Below.size (by assumption)) (by simp))))))) (hWh.out.below (by exact (by repeat (first | exact Below.refl _ _ | assumption | refine Below.drew ?_ | refine below_drewN ?_ _ | refine Below.alloc' ?_ _ | (refine Below.setCell ?_ (by first | omega | (simp; done) | (simp; omega) | exact Below.size (by assumption) | exact Nat.le_trans (Below.size (by assumption)) (by simp)) _) | (refine Below.via' ?_ (by assumption)) | (refine Below.alloc ?_ (by first | omega | (simp; done) | (simp; omega) | exact Below.size (by assumption) | exact Nat.le_trans (Below.size (by assumption)) (by simp)) _) | (refine Below.via ?_ (by assumption) (by first | omega | (simp; done) | (simp; omega) | exact Below.size (by assumption) | exact Nat.le_trans (Below.size (by assumption)) (by simp))))))) (hVh.out.below (by exact (by repeat (first | exact Below.refl _ _ | assumption | refine Below.drew ?_ | refine below_drewN ?_ _ | refine Below.alloc' ?_ _ | (refine Below.setCell ?_ (by first | omega | (simp; done) | (simp; omega) | exact Below.size (by assumption) | exact Nat.le_trans (Below.size (by assumption)) (by simp)) _) | (refine Below.via' ?_ (by assumption)) | (refine Below.alloc ?_ (by first | omega | (simp; done) | (simp; omega) | exact Below.size (by assumption) | exact Nat.le_trans (Below.size (by assumption)) (by simp)) _) | (refine Below.via ?_ (by assumption) (by first | omega | (simp; done) | (simp; omega) | exact Below.size (by assumption) | exact Nat.le_trans (Below.size (by assumption)) (by simp)))))))).mono ?_
  rintro e w1 ⟨rfl, hb1⟩
  cases he : cmB S (eM Q) W V
  · have hv := Lib.hid (nd_no1 (R := pM P) he)
    go_wp2
    go_ret2
    exact retN_no hv.out (by repeat (first | exact Below.refl _ _ | assumption | refine Below.drew ?_ | refine below_drewN ?_ _ | refine Below.alloc' ?_ _ | (refine Below.setCell ?_ (by first | omega | (simp; done) | (simp; omega) | exact Below.size (by assumption) | exact Nat.le_trans (Below.size (by assumption)) (by simp)) _) | (refine Below.via' ?_ (by assumption)) | (refine Below.alloc ?_ (by first | omega | (simp; done) | (simp; omega) | exact Below.size (by assumption) | exact Nat.le_trans (Below.size (by assumption)) (by simp)) _) | (refine Below.via ?_ (by assumption) (by first | omega | (simp; done) | (simp; omega) | exact Below.size (by assumption) | exact Nat.le_trans (Below.size (by assumption)) (by simp)))))
  have hcm := Lib.hid he
  obtain ⟨k1, k2, k3⟩ := cm_get he
  obtain ⟨g1, g2, g3⟩ := el_get (sm_get k1).1
  have hsh := Lib.hid g1
  have hl40 : Q.length ≤ 40 := by have := hel.out; omega
  have hedh := Lib.hid g3
  have hwr := Lib.hid (wg_get k2).2
  have hlw := Lib.hid (wg_get k2).1
  have hlv := Lib.hid (fit_len k3)
  have hl6 := (schB_len g1).2
  clear he g1 g2 g3 k1 k2 k3
  go_wp2_with fail
  refine (areDataFor_any _ _ _ _ S P _ hsh.out hm (hSh.out.rd.below (by exact (by repeat (first | exact Below.refl _ _ | assumption | refine Below.drew ?_ | refine below_drewN ?_ _ | refine Below.alloc' ?_ _ | (refine Below.setCell ?_ (by first | omega | (simp; done) | (simp; omega) | exact Below.size (by assumption) | exact Nat.le_trans (Below.size (by assumption)) (by simp)) _) | (refine Below.via' ?_ (by assumption)) | (refine Below.alloc ?_ (by first | omega | (simp; done) | (simp; omega) | exact Below.size (by assumption) | exact Nat.le_trans (Below.size (by assumption)) (by simp)) _) | (refine Below.via ?_ (by assumption) (by first | omega | (simp; done) | (simp; omega) | exact Below.size (by assumption) | exact Nat.le_trans (Below.size (by assumption)) (by simp))))))) (hPh.out.below (by exact (by repeat (first | exact Below.refl _ _ | assumption | refine Below.drew ?_ | refine below_drewN ?_ _ | refine Below.alloc' ?_ _ | (refine Below.setCell ?_ (by first | omega | (simp; done) | (simp; omega) | exact Below.size (by assumption) | exact Nat.le_trans (Below.size (by assumption)) (by simp)) _) | (refine Below.via' ?_ (by assumption)) | (refine Below.alloc ?_ (by first | omega | (simp; done) | (simp; omega) | exact Below.size (by assumption) | exact Nat.le_trans (Below.size (by assumption)) (by simp)) _) | (refine Below.via ?_ (by assumption) (by first | omega | (simp; done) | (simp; omega) | exact Below.size (by assumption) | exact Nat.le_trans (Below.size (by assumption)) (by simp)))))))).mono ?_
  rintro e w2 ⟨rfl, hb2⟩
  cases hf : dokB S (pM P)
  · have hv := Lib.hid (nd_no2 (M := eM Q) (W := W) (V := V) hf)
    go_wp2
    go_ret2
    exact retN_no hv.out (by repeat (first | exact Below.refl _ _ | assumption | refine Below.drew ?_ | refine below_drewN ?_ _ | refine Below.alloc' ?_ _ | (refine Below.setCell ?_ (by first | omega | (simp; done) | (simp; omega) | exact Below.size (by assumption) | exact Nat.le_trans (Below.size (by assumption)) (by simp)) _) | (refine Below.via' ?_ (by assumption)) | (refine Below.alloc ?_ (by first | omega | (simp; done) | (simp; omega) | exact Below.size (by assumption) | exact Nat.le_trans (Below.size (by assumption)) (by simp)) _) | (refine Below.via ?_ (by assumption) (by first | omega | (simp; done) | (simp; omega) | exact Below.size (by assumption) | exact Nat.le_trans (Below.size (by assumption)) (by simp)))))
  have hfh := Lib.hid hf
  have hp40 : P.length ≤ 40 := by have := dokB_len hf; have := hpl.out; omega
  clear hf
  have hv := Lib.hid (nd_yes hcm.out hfh.out)
  have B2 : Below w.heap.size w w2 := (by repeat (first | exact Below.refl _ _ | assumption | refine Below.drew ?_ | refine below_drewN ?_ _ | refine Below.alloc' ?_ _ | (refine Below.setCell ?_ (by first | omega | (simp; done) | (simp; omega) | exact Below.size (by assumption) | exact Nat.le_trans (Below.size (by assumption)) (by simp)) _) | (refine Below.via' ?_ (by assumption)) | (refine Below.alloc ?_ (by first | omega | (simp; done) | (simp; omega) | exact Below.size (by assumption) | exact Nat.le_trans (Below.size (by assumption)) (by simp)) _) | (refine Below.via ?_ (by assumption) (by first | omega | (simp; done) | (simp; omega) | exact Below.size (by assumption) | exact Nat.le_trans (Below.size (by assumption)) (by simp)))))
  have hs2' := B2.size
  go_wp2
  clear hb1 hb2
  go_loopw [12, 13, 14, 32] (fun a b d c wr => ∃ i : Nat, i ≤ P.length ∧ c = .int .i64 i ∧ a = .int .i64 (ndI (ndUp (eM Q) W V (dV (pM P)) i)) ∧ b = .int .i64 (ndC (ndUp (eM Q) W V (dV (pM P)) i)) ∧ d = .bool (ndUp (eM Q) W V (dV (pM P)) i).isSome ∧ Below w.heap.size w wr) (fun _ _ _ c _ => P.length - (intOf c).toNat)
  case atStart => exact ⟨0, by omega, rfl, rfl, rfl, rfl, B2⟩
  case round =>
    obtain ⟨i, hi, rfl, rfl, rfl, rfl, hBr⟩ := hrel
    by_cases hlt : i < P.length
    · obtain ⟨bl2, off2, p, rfl, hbl2, hPp, hc1, hc2, hc3⟩ := (hPh.out.below hBr).2.2.rec hlt
      have hVp := Lib.hid ((hPh.out.2.1 p (List.mem_of_getElem? hPp)).2.2.below hBr)
      have hfp := (rokB_get (dokB_mem hfh.out (List.mem_of_getElem? (pM_at hPp)))).2.2.2.2
      have hfi := Lib.hid (fun E hE => fine_of hsh.out (hedh.out E hE) hfp)
      have hlp : Hid (p.L.length = S.length) := fit_len hfp
      have hst := Lib.hid (nd_step (M := eM Q) (W := W) (V := V) (dV_at hPp))
      have hlt' : (i : Int) < (P.length : Int) := by omega
      clear hPp hfp
      cases hh : faB (eM Q) p.L
      · skip
        go_wp2_with fail
        refine (failsAny_any _ _ _ _ Q p.L _ hfi.out (hQh.out.below (by exact (by repeat (first | exact Below.refl _ _ | assumption | refine Below.drew ?_ | refine below_drewN ?_ _ | refine Below.alloc' ?_ _ | (refine Below.setCell ?_ (by first | omega | (simp; done) | (simp; omega) | exact Below.size (by assumption) | exact Nat.le_trans (Below.size (by assumption)) (by simp)) _) | (refine Below.via' ?_ (by assumption)) | (refine Below.alloc ?_ (by first | omega | (simp; done) | (simp; omega) | exact Below.size (by assumption) | exact Nat.le_trans (Below.size (by assumption)) (by simp)) _) | (refine Below.via ?_ (by assumption) (by first | omega | (simp; done) | (simp; omega) | exact Below.size (by assumption) | exact Nat.le_trans (Below.size (by assumption)) (by simp))))))) (hVp.out.below (by exact (by repeat (first | exact Below.refl _ _ | assumption | refine Below.drew ?_ | refine below_drewN ?_ _ | refine Below.alloc' ?_ _ | (refine Below.setCell ?_ (by first | omega | (simp; done) | (simp; omega) | exact Below.size (by assumption) | exact Nat.le_trans (Below.size (by assumption)) (by simp)) _) | (refine Below.via' ?_ (by assumption)) | (refine Below.alloc ?_ (by first | omega | (simp; done) | (simp; omega) | exact Below.size (by assumption) | exact Nat.le_trans (Below.size (by assumption)) (by simp)) _) | (refine Below.via ?_ (by assumption) (by first | omega | (simp; done) | (simp; omega) | exact Below.size (by assumption) | exact Nat.le_trans (Below.size (by assumption)) (by simp)))))))).mono ?_
        rintro e w3 ⟨rfl, hb3⟩
        rw [hh]
        replace hh := Lib.hid hh
        have hrb := Lib.hid ((RB.new wr p.a p.h p.x p.L.length p.c 122).below hb3)
        obtain ⟨-, -, hrc, hrs⟩ := hrb.out
        have hB3r : Below wr.heap.size wr w3 := (by repeat (first | exact Below.refl _ _ | assumption | refine Below.drew ?_ | refine below_drewN ?_ _ | refine Below.alloc' ?_ _ | (refine Below.setCell ?_ (by first | omega | (simp; done) | (simp; omega) | exact Below.size (by assumption) | exact Nat.le_trans (Below.size (by assumption)) (by simp)) _) | (refine Below.via' ?_ (by assumption)) | (refine Below.alloc ?_ (by first | omega | (simp; done) | (simp; omega) | exact Below.size (by assumption) | exact Nat.le_trans (Below.size (by assumption)) (by simp)) _) | (refine Below.via ?_ (by assumption) (by first | omega | (simp; done) | (simp; omega) | exact Below.size (by assumption) | exact Nat.le_trans (Below.size (by assumption)) (by simp)))))
        have hVp3 := Lib.hid (hVp.out.below hB3r)
        have hB3 : Below w.heap.size w w3 := hBr.trans (hB3r.mono hBr.size)
        clear hB3r hb3
        go_wp2_with fail
        refine (differing_any _ _ _ _ V p.L _ (by rw [hlv.out, hlp.out]) (by rw [hlv.out]; omega) (hVh.out.below (by exact (by repeat (first | exact Below.refl _ _ | assumption | refine Below.drew ?_ | refine below_drewN ?_ _ | refine Below.alloc' ?_ _ | (refine Below.setCell ?_ (by first | omega | (simp; done) | (simp; omega) | exact Below.size (by assumption) | exact Nat.le_trans (Below.size (by assumption)) (by simp)) _) | (refine Below.via' ?_ (by assumption)) | (refine Below.alloc ?_ (by first | omega | (simp; done) | (simp; omega) | exact Below.size (by assumption) | exact Nat.le_trans (Below.size (by assumption)) (by simp)) _) | (refine Below.via ?_ (by assumption) (by first | omega | (simp; done) | (simp; omega) | exact Below.size (by assumption) | exact Nat.le_trans (Below.size (by assumption)) (by simp))))))) hVp3.out).mono ?_
        rintro e w4 ⟨u4, rfl, ho4, hb4⟩
        obtain ⟨x4, n4, rfl, -, -⟩ := (OwR.of ho4).form
        have hdl := dvL_len V p.L
        have hin4 := Lib.hid (show IIn w4 x4 (dvL V p.L) from pk_iinW (by rw [hlv.out]; omega) (Rd.of_own ho4))
        have hB4 : Below w.heap.size w w4 := (by repeat (first | exact Below.refl _ _ | assumption | refine Below.drew ?_ | refine below_drewN ?_ _ | refine Below.alloc' ?_ _ | (refine Below.setCell ?_ (by first | omega | (simp; done) | (simp; omega) | exact Below.size (by assumption) | exact Nat.le_trans (Below.size (by assumption)) (by simp)) _) | (refine Below.via' ?_ (by assumption)) | (refine Below.alloc ?_ (by first | omega | (simp; done) | (simp; omega) | exact Below.size (by assumption) | exact Nat.le_trans (Below.size (by assumption)) (by simp)) _) | (refine Below.via ?_ (by assumption) (by first | omega | (simp; done) | (simp; omega) | exact Below.size (by assumption) | exact Nat.le_trans (Below.size (by assumption)) (by simp)))))
        clear ho4
        go_wp2_with fail
        refine (sumWeights_any _ _ _ _ W (dvL V p.L) _ hwr.out (by rw [hlv.out] at hdl; omega) (fun v hv => by have := dv_in v hv; rw [hlv.out] at this; rw [hlw.out]; exact this) (hWh.out.below (by exact (by repeat (first | exact Below.refl _ _ | assumption | refine Below.drew ?_ | refine below_drewN ?_ _ | refine Below.alloc' ?_ _ | (refine Below.setCell ?_ (by first | omega | (simp; done) | (simp; omega) | exact Below.size (by assumption) | exact Nat.le_trans (Below.size (by assumption)) (by simp)) _) | (refine Below.via' ?_ (by assumption)) | (refine Below.alloc ?_ (by first | omega | (simp; done) | (simp; omega) | exact Below.size (by assumption) | exact Nat.le_trans (Below.size (by assumption)) (by simp)) _) | (refine Below.via ?_ (by assumption) (by first | omega | (simp; done) | (simp; omega) | exact Below.size (by assumption) | exact Nat.le_trans (Below.size (by assumption)) (by simp))))))) hin4.out).mono ?_
        rintro e w5 ⟨rfl, hb5⟩
        have hB5 : Below w.heap.size w w5 := (by repeat (first | exact Below.refl _ _ | assumption | refine Below.drew ?_ | refine below_drewN ?_ _ | refine Below.alloc' ?_ _ | (refine Below.setCell ?_ (by first | omega | (simp; done) | (simp; omega) | exact Below.size (by assumption) | exact Nat.le_trans (Below.size (by assumption)) (by simp)) _) | (refine Below.via' ?_ (by assumption)) | (refine Below.alloc ?_ (by first | omega | (simp; done) | (simp; omega) | exact Below.size (by assumption) | exact Nat.le_trans (Below.size (by assumption)) (by simp)) _) | (refine Below.via ?_ (by assumption) (by first | omega | (simp; done) | (simp; omega) | exact Below.size (by assumption) | exact Nat.le_trans (Below.size (by assumption)) (by simp)))))
        cases ho : ndUp (eM Q) W V (dV (pM P)) i with
        | none =>
          have hnx : Hid (ndUp (eM Q) W V (dV (pM P)) (i + 1) = some (i, swZ W (dvL V p.L))) := by unfold Hid; rw [hst.out, ho, ndS_first hh.out]
          replace ho := Lib.hid ho
          dsimp only [ndI, ndC, Option.isSome]
          go_wp2
          first
            | (go_roundw
               case rel => exact ⟨i + 1, by omega, by go_num, by rw [hnx.out]; rfl, by rw [hnx.out]; rfl, by rw [hnx.out]; rfl, (by repeat (first | exact Below.refl _ _ | assumption | refine Below.drew ?_ | refine below_drewN ?_ _ | refine Below.alloc' ?_ _ | (refine Below.setCell ?_ (by first | omega | (simp; done) | (simp; omega) | exact Below.size (by assumption) | exact Nat.le_trans (Below.size (by assumption)) (by simp)) _) | (refine Below.via' ?_ (by assumption)) | (refine Below.alloc ?_ (by first | omega | (simp; done) | (simp; omega) | exact Below.size (by assumption) | exact Nat.le_trans (Below.size (by assumption)) (by simp)) _) | (refine Below.via ?_ (by assumption) (by first | omega | (simp; done) | (simp; omega) | exact Below.size (by assumption) | exact Nat.le_trans (Below.size (by assumption)) (by simp)))))⟩
               case measure => simp [intOf]; omega)
            | (go_region
               all_goals
                 go_wp2
                 go_roundw
                 case rel => exact ⟨i + 1, by omega, by go_num, by rw [hnx.out]; rfl, by rw [hnx.out]; rfl, by rw [hnx.out]; rfl, (by repeat (first | exact Below.refl _ _ | assumption | refine Below.drew ?_ | refine below_drewN ?_ _ | refine Below.alloc' ?_ _ | (refine Below.setCell ?_ (by first | omega | (simp; done) | (simp; omega) | exact Below.size (by assumption) | exact Nat.le_trans (Below.size (by assumption)) (by simp)) _) | (refine Below.via' ?_ (by assumption)) | (refine Below.alloc ?_ (by first | omega | (simp; done) | (simp; omega) | exact Below.size (by assumption) | exact Nat.le_trans (Below.size (by assumption)) (by simp)) _) | (refine Below.via ?_ (by assumption) (by first | omega | (simp; done) | (simp; omega) | exact Below.size (by assumption) | exact Nat.le_trans (Below.size (by assumption)) (by simp)))))⟩
                 case measure => simp [intOf]; omega)
        | some q =>
          obtain ⟨j, b⟩ := q
          have hjl := nd_lt _ _ _ _ _ j b ho
          by_cases hk : swZ W (dvL V p.L) < b
          · have hnx : Hid (ndUp (eM Q) W V (dV (pM P)) (i + 1) = some (i, swZ W (dvL V p.L))) := by unfold Hid; rw [hst.out, ho, ndS_less hh.out hk]
            replace ho := Lib.hid ho
            dsimp only [ndI, ndC, Option.isSome]
            go_wp2
            first
              | (go_roundw
                 case rel => exact ⟨i + 1, by omega, by go_num, by rw [hnx.out]; rfl, by rw [hnx.out]; rfl, by rw [hnx.out]; rfl, (by repeat (first | exact Below.refl _ _ | assumption | refine Below.drew ?_ | refine below_drewN ?_ _ | refine Below.alloc' ?_ _ | (refine Below.setCell ?_ (by first | omega | (simp; done) | (simp; omega) | exact Below.size (by assumption) | exact Nat.le_trans (Below.size (by assumption)) (by simp)) _) | (refine Below.via' ?_ (by assumption)) | (refine Below.alloc ?_ (by first | omega | (simp; done) | (simp; omega) | exact Below.size (by assumption) | exact Nat.le_trans (Below.size (by assumption)) (by simp)) _) | (refine Below.via ?_ (by assumption) (by first | omega | (simp; done) | (simp; omega) | exact Below.size (by assumption) | exact Nat.le_trans (Below.size (by assumption)) (by simp)))))⟩
                 case measure => simp [intOf]; omega)
              | (go_region
                 all_goals
                   go_wp2
                   go_roundw
                   case rel => exact ⟨i + 1, by omega, by go_num, by rw [hnx.out]; rfl, by rw [hnx.out]; rfl, by rw [hnx.out]; rfl, (by repeat (first | exact Below.refl _ _ | assumption | refine Below.drew ?_ | refine below_drewN ?_ _ | refine Below.alloc' ?_ _ | (refine Below.setCell ?_ (by first | omega | (simp; done) | (simp; omega) | exact Below.size (by assumption) | exact Nat.le_trans (Below.size (by assumption)) (by simp)) _) | (refine Below.via' ?_ (by assumption)) | (refine Below.alloc ?_ (by first | omega | (simp; done) | (simp; omega) | exact Below.size (by assumption) | exact Nat.le_trans (Below.size (by assumption)) (by simp)) _) | (refine Below.via ?_ (by assumption) (by first | omega | (simp; done) | (simp; omega) | exact Below.size (by assumption) | exact Nat.le_trans (Below.size (by assumption)) (by simp)))))⟩
                   case measure => simp [intOf]; omega)
          · have hnx : Hid (ndUp (eM Q) W V (dV (pM P)) (i + 1) = some (j, b)) := by unfold Hid; rw [hst.out, ho, ndS_keep hh.out hk]
            replace ho := Lib.hid ho
            dsimp only [ndI, ndC, Option.isSome]
            go_wp2
            first
              | (go_roundw
                 case rel => exact ⟨i + 1, by omega, by go_num, by rw [hnx.out]; rfl, by rw [hnx.out]; rfl, by rw [hnx.out]; rfl, (by repeat (first | exact Below.refl _ _ | assumption | refine Below.drew ?_ | refine below_drewN ?_ _ | refine Below.alloc' ?_ _ | (refine Below.setCell ?_ (by first | omega | (simp; done) | (simp; omega) | exact Below.size (by assumption) | exact Nat.le_trans (Below.size (by assumption)) (by simp)) _) | (refine Below.via' ?_ (by assumption)) | (refine Below.alloc ?_ (by first | omega | (simp; done) | (simp; omega) | exact Below.size (by assumption) | exact Nat.le_trans (Below.size (by assumption)) (by simp)) _) | (refine Below.via ?_ (by assumption) (by first | omega | (simp; done) | (simp; omega) | exact Below.size (by assumption) | exact Nat.le_trans (Below.size (by assumption)) (by simp)))))⟩
                 case measure => simp [intOf]; omega)
              | (go_region
                 all_goals
                   go_wp2
                   go_roundw
                   case rel => exact ⟨i + 1, by omega, by go_num, by rw [hnx.out]; rfl, by rw [hnx.out]; rfl, by rw [hnx.out]; rfl, (by repeat (first | exact Below.refl _ _ | assumption | refine Below.drew ?_ | refine below_drewN ?_ _ | refine Below.alloc' ?_ _ | (refine Below.setCell ?_ (by first | omega | (simp; done) | (simp; omega) | exact Below.size (by assumption) | exact Nat.le_trans (Below.size (by assumption)) (by simp)) _) | (refine Below.via' ?_ (by assumption)) | (refine Below.alloc ?_ (by first | omega | (simp; done) | (simp; omega) | exact Below.size (by assumption) | exact Nat.le_trans (Below.size (by assumption)) (by simp)) _) | (refine Below.via ?_ (by assumption) (by first | omega | (simp; done) | (simp; omega) | exact Below.size (by assumption) | exact Nat.le_trans (Below.size (by assumption)) (by simp)))))⟩
                   case measure => simp [intOf]; omega)
      · have hnx : Hid (ndUp (eM Q) W V (dV (pM P)) (i + 1) = ndUp (eM Q) W V (dV (pM P)) i) := by unfold Hid; rw [hst.out, ndS_fails hh]
        go_wp2_with fail
        refine (failsAny_any _ _ _ _ Q p.L _ hfi.out (hQh.out.below (by exact (by repeat (first | exact Below.refl _ _ | assumption | refine Below.drew ?_ | refine below_drewN ?_ _ | refine Below.alloc' ?_ _ | (refine Below.setCell ?_ (by first | omega | (simp; done) | (simp; omega) | exact Below.size (by assumption) | exact Nat.le_trans (Below.size (by assumption)) (by simp)) _) | (refine Below.via' ?_ (by assumption)) | (refine Below.alloc ?_ (by first | omega | (simp; done) | (simp; omega) | exact Below.size (by assumption) | exact Nat.le_trans (Below.size (by assumption)) (by simp)) _) | (refine Below.via ?_ (by assumption) (by first | omega | (simp; done) | (simp; omega) | exact Below.size (by assumption) | exact Nat.le_trans (Below.size (by assumption)) (by simp))))))) (hVp.out.below (by exact (by repeat (first | exact Below.refl _ _ | assumption | refine Below.drew ?_ | refine below_drewN ?_ _ | refine Below.alloc' ?_ _ | (refine Below.setCell ?_ (by first | omega | (simp; done) | (simp; omega) | exact Below.size (by assumption) | exact Nat.le_trans (Below.size (by assumption)) (by simp)) _) | (refine Below.via' ?_ (by assumption)) | (refine Below.alloc ?_ (by first | omega | (simp; done) | (simp; omega) | exact Below.size (by assumption) | exact Nat.le_trans (Below.size (by assumption)) (by simp)) _) | (refine Below.via ?_ (by assumption) (by first | omega | (simp; done) | (simp; omega) | exact Below.size (by assumption) | exact Nat.le_trans (Below.size (by assumption)) (by simp)))))))).mono ?_
        rintro e w3 ⟨rfl, hb3⟩
        rw [hh]
        go_wp2
        go_roundw
        case rel => exact ⟨i + 1, by omega, by go_num, by rw [hnx.out], by rw [hnx.out], by rw [hnx.out], (by repeat (first | exact Below.refl _ _ | assumption | refine Below.drew ?_ | refine below_drewN ?_ _ | refine Below.alloc' ?_ _ | (refine Below.setCell ?_ (by first | omega | (simp; done) | (simp; omega) | exact Below.size (by assumption) | exact Nat.le_trans (Below.size (by assumption)) (by simp)) _) | (refine Below.via' ?_ (by assumption)) | (refine Below.alloc ?_ (by first | omega | (simp; done) | (simp; omega) | exact Below.size (by assumption) | exact Nat.le_trans (Below.size (by assumption)) (by simp)) _) | (refine Below.via ?_ (by assumption) (by first | omega | (simp; done) | (simp; omega) | exact Below.size (by assumption) | exact Nat.le_trans (Below.size (by assumption)) (by simp)))))⟩
        case measure => simp [intOf]; omega
    · have hij : i = P.length := by omega
      subst hij
      have hfin := Lib.hid (show ndUp (eM Q) W V (dV (pM P)) P.length = ndO (eM Q) W (pM P) V by unfold ndO; rw [dV_len, hpl.out])
      have hv2 : Hid ((ndUp (eM Q) W V (dV (pM P)) P.length).isSome = neB S (eM Q) W (pM P) V) := by unfold Hid; rw [hv.out, hfin.out]
      have hn2 : Hid (ndI (ndUp (eM Q) W V (dV (pM P)) P.length) = nIf (neB S (eM Q) W (pM P) V) (ndI (ndO (eM Q) W (pM P) V))) := by
        unfold Hid
        rw [hfin.out, hv.out]
        unfold nIf
        cases ndO (eM Q) W (pM P) V with
        | none => rfl
        | some q => rfl
      go_wp2
      go_ret2
      exact retN_at hv2.out hn2.out (by repeat (first | exact Below.refl _ _ | assumption | refine Below.drew ?_ | refine below_drewN ?_ _ | refine Below.alloc' ?_ _ | (refine Below.setCell ?_ (by first | omega | (simp; done) | (simp; omega) | exact Below.size (by assumption) | exact Nat.le_trans (Below.size (by assumption)) (by simp)) _) | (refine Below.via' ?_ (by assumption)) | (refine Below.alloc ?_ (by first | omega | (simp; done) | (simp; omega) | exact Below.size (by assumption) | exact Nat.le_trans (Below.size (by assumption)) (by simp)) _) | (refine Below.via ?_ (by assumption) (by first | omega | (simp; done) | (simp; omega) | exact Below.size (by assumption) | exact Nat.le_trans (Below.size (by assumption)) (by simp)))))
set_option maxHeartbeats 2000000 in
theorem sND_x (x y z t u : Option Addr) (c1 c2 c3 c4 c5 : Nat) (S : List (ByteArray × Int)) (Q : List PR) (W : List Int) (P : List PR) (V : List Int) (w : World) (hS : SIn w x c1 S) (hQ : EIn w y Q) (hW : IIn w z W) (hP : DIn w t P) (hV : IIn w u V) :
    Calls Try.prog 50 #[.slice x S.length c1, .slice y Q.length c2, .slice z W.length c3, .slice t P.length c4, .slice u V.length c5] w fun e w' => e = .returned (.tuple #[.int .i64 (nIf (neB S (eM Q) W (pM P) V) (ndI (ndO (eM Q) W (pM P) V))), .bool (neB S (eM Q) W (pM P) V)]) ∧ Below w.heap.size w w' := by
  have hSh := Lib.hid hS
  have hQh := Lib.hid hQ
  have hWh := Lib.hid hW
  have hPh := Lib.hid hP
  have hVh := Lib.hid hV
  have hm := hS.1
  have hel := Lib.hid (eM_len Q)
  have hpl := Lib.hid (pM_len P)
  clear hS hQ hW hP hV
  go_enter Try.func50, Try.ntmps50
  go_wp2_with fail
  refine (iInput_any _ _ _ _ _ _ _ _ S Q W V _ (hSh.out.below (by exact (by repeat (first | exact Below.refl _ _ | assumption | refine Below.drew ?_ | refine below_drewN ?_ _ | refine Below.alloc' ?_ _ | (refine Below.setCell ?_ (by first | omega | (simp; done) | (simp; omega) | exact Below.size (by assumption) | exact Nat.le_trans (Below.size (by assumption)) (by simp)) _) | (refine Below.via' ?_ (by assumption)) | (refine Below.alloc ?_ (by first | omega | (simp; done) | (simp; omega) | exact Below.size (by assumption) | exact Nat.le_trans (Below.size (by assumption)) (by simp)) _) | (refine Below.via ?_ (by assumption) (by first | omega | (simp; done) | (simp; omega) | exact Below.size (by assumption) | exact Nat.le_trans (Below.size (by assumption)) (by simp))))))) (hQh.out.below (by exact (by repeat (first | exact Below.refl _ _ | assumption | refine Below.drew ?_ | refine below_drewN ?_ _ | refine Below.alloc' ?_ _ | (refine Below.setCell ?_ (by first | omega | (simp; done) | (simp; omega) | exact Below.size (by assumption) | exact Nat.le_trans (Below.size (by assumption)) (by simp)) _) | (refine Below.via' ?_ (by assumption)) | (refine Below.alloc ?_ (by first | omega | (simp; done) | (simp; omega) | exact Below.size (by assumption) | exact Nat.le_trans (Below.size (by assumption)) (by simp)) _) | (refine Below.via ?_ (by assumption) (by first | omega | (simp; done) | (simp; omega) | exact Below.size (by assumption) | exact Nat.le_trans (Below.size (by assumption)) (by simp))))))) (hWh.out.below (by exact (by repeat (first | exact Below.refl _ _ | assumption | refine Below.drew ?_ | refine below_drewN ?_ _ | refine Below.alloc' ?_ _ | (refine Below.setCell ?_ (by first | omega | (simp; done) | (simp; omega) | exact Below.size (by assumption) | exact Nat.le_trans (Below.size (by assumption)) (by simp)) _) | (refine Below.via' ?_ (by assumption)) | (refine Below.alloc ?_ (by first | omega | (simp; done) | (simp; omega) | exact Below.size (by assumption) | exact Nat.le_trans (Below.size (by assumption)) (by simp)) _) | (refine Below.via ?_ (by assumption) (by first | omega | (simp; done) | (simp; omega) | exact Below.size (by assumption) | exact Nat.le_trans (Below.size (by assumption)) (by simp))))))) (hVh.out.below (by exact (by repeat (first | exact Below.refl _ _ | assumption | refine Below.drew ?_ | refine below_drewN ?_ _ | refine Below.alloc' ?_ _ | (refine Below.setCell ?_ (by first | omega | (simp; done) | (simp; omega) | exact Below.size (by assumption) | exact Nat.le_trans (Below.size (by assumption)) (by simp)) _) | (refine Below.via' ?_ (by assumption)) | (refine Below.alloc ?_ (by first | omega | (simp; done) | (simp; omega) | exact Below.size (by assumption) | exact Nat.le_trans (Below.size (by assumption)) (by simp)) _) | (refine Below.via ?_ (by assumption) (by first | omega | (simp; done) | (simp; omega) | exact Below.size (by assumption) | exact Nat.le_trans (Below.size (by assumption)) (by simp)))))))).mono ?_
  rintro e w1 ⟨rfl, hb1⟩
  cases he : cmB S (eM Q) W V
  · have hv := Lib.hid (nd_no1 (R := pM P) he)
    go_wp2
    go_ret2
    exact retN_no hv.out (by repeat (first | exact Below.refl _ _ | assumption | refine Below.drew ?_ | refine below_drewN ?_ _ | refine Below.alloc' ?_ _ | (refine Below.setCell ?_ (by first | omega | (simp; done) | (simp; omega) | exact Below.size (by assumption) | exact Nat.le_trans (Below.size (by assumption)) (by simp)) _) | (refine Below.via' ?_ (by assumption)) | (refine Below.alloc ?_ (by first | omega | (simp; done) | (simp; omega) | exact Below.size (by assumption) | exact Nat.le_trans (Below.size (by assumption)) (by simp)) _) | (refine Below.via ?_ (by assumption) (by first | omega | (simp; done) | (simp; omega) | exact Below.size (by assumption) | exact Nat.le_trans (Below.size (by assumption)) (by simp)))))
  have hcm := Lib.hid he
  obtain ⟨k1, k2, k3⟩ := cm_get he
  obtain ⟨g1, g2, g3⟩ := el_get (sm_get k1).1
  have hsh := Lib.hid g1
  have hl40 : Q.length ≤ 40 := by have := hel.out; omega
  have hedh := Lib.hid g3
  have hwr := Lib.hid (wg_get k2).2
  have hlw := Lib.hid (wg_get k2).1
  have hlv := Lib.hid (fit_len k3)
  have hl6 := (schB_len g1).2
  clear he g1 g2 g3 k1 k2 k3
  go_wp2_with fail
  refine (dGood_any _ _ _ _ S P _ hsh.out hm (hSh.out.rd.below (by exact (by repeat (first | exact Below.refl _ _ | assumption | refine Below.drew ?_ | refine below_drewN ?_ _ | refine Below.alloc' ?_ _ | (refine Below.setCell ?_ (by first | omega | (simp; done) | (simp; omega) | exact Below.size (by assumption) | exact Nat.le_trans (Below.size (by assumption)) (by simp)) _) | (refine Below.via' ?_ (by assumption)) | (refine Below.alloc ?_ (by first | omega | (simp; done) | (simp; omega) | exact Below.size (by assumption) | exact Nat.le_trans (Below.size (by assumption)) (by simp)) _) | (refine Below.via ?_ (by assumption) (by first | omega | (simp; done) | (simp; omega) | exact Below.size (by assumption) | exact Nat.le_trans (Below.size (by assumption)) (by simp))))))) (hPh.out.below (by exact (by repeat (first | exact Below.refl _ _ | assumption | refine Below.drew ?_ | refine below_drewN ?_ _ | refine Below.alloc' ?_ _ | (refine Below.setCell ?_ (by first | omega | (simp; done) | (simp; omega) | exact Below.size (by assumption) | exact Nat.le_trans (Below.size (by assumption)) (by simp)) _) | (refine Below.via' ?_ (by assumption)) | (refine Below.alloc ?_ (by first | omega | (simp; done) | (simp; omega) | exact Below.size (by assumption) | exact Nat.le_trans (Below.size (by assumption)) (by simp)) _) | (refine Below.via ?_ (by assumption) (by first | omega | (simp; done) | (simp; omega) | exact Below.size (by assumption) | exact Nat.le_trans (Below.size (by assumption)) (by simp)))))))).mono ?_
  rintro e w2 ⟨rfl, hb2⟩
  cases hf : dokB S (pM P)
  · have hv := Lib.hid (nd_no2 (M := eM Q) (W := W) (V := V) hf)
    go_wp2
    go_ret2
    exact retN_no hv.out (by repeat (first | exact Below.refl _ _ | assumption | refine Below.drew ?_ | refine below_drewN ?_ _ | refine Below.alloc' ?_ _ | (refine Below.setCell ?_ (by first | omega | (simp; done) | (simp; omega) | exact Below.size (by assumption) | exact Nat.le_trans (Below.size (by assumption)) (by simp)) _) | (refine Below.via' ?_ (by assumption)) | (refine Below.alloc ?_ (by first | omega | (simp; done) | (simp; omega) | exact Below.size (by assumption) | exact Nat.le_trans (Below.size (by assumption)) (by simp)) _) | (refine Below.via ?_ (by assumption) (by first | omega | (simp; done) | (simp; omega) | exact Below.size (by assumption) | exact Nat.le_trans (Below.size (by assumption)) (by simp)))))
  have hfh := Lib.hid hf
  have hp40 : P.length ≤ 40 := by have := dokB_len hf; have := hpl.out; omega
  clear hf
  have hv := Lib.hid (nd_yes hcm.out hfh.out)
  have B2 : Below w.heap.size w w2 := (by repeat (first | exact Below.refl _ _ | assumption | refine Below.drew ?_ | refine below_drewN ?_ _ | refine Below.alloc' ?_ _ | (refine Below.setCell ?_ (by first | omega | (simp; done) | (simp; omega) | exact Below.size (by assumption) | exact Nat.le_trans (Below.size (by assumption)) (by simp)) _) | (refine Below.via' ?_ (by assumption)) | (refine Below.alloc ?_ (by first | omega | (simp; done) | (simp; omega) | exact Below.size (by assumption) | exact Nat.le_trans (Below.size (by assumption)) (by simp)) _) | (refine Below.via ?_ (by assumption) (by first | omega | (simp; done) | (simp; omega) | exact Below.size (by assumption) | exact Nat.le_trans (Below.size (by assumption)) (by simp)))))
  have hs2' := B2.size
  go_wp2
  clear hb1 hb2
  go_loopw [12, 13, 31] (fun a b c wr => ∃ i : Nat, i ≤ P.length ∧ c = .int .i64 i ∧ a = .int .i64 (ndJ (ndUp (eM Q) W V (dV (pM P)) i)) ∧ b = .int .i64 (ndC (ndUp (eM Q) W V (dV (pM P)) i)) ∧ Below w.heap.size w wr) (fun _ _ c _ => P.length - (intOf c).toNat)
  case atStart => exact ⟨0, by omega, rfl, rfl, rfl, B2⟩
  case round =>
    obtain ⟨i, hi, rfl, rfl, rfl, hBr⟩ := hrel
    by_cases hlt : i < P.length
    · obtain ⟨bl2, off2, p, rfl, hbl2, hPp, hc1, hc2, hc3⟩ := (hPh.out.below hBr).2.2.rec hlt
      have hVp := Lib.hid ((hPh.out.2.1 p (List.mem_of_getElem? hPp)).2.2.below hBr)
      have hfp := (rokB_get (dokB_mem hfh.out (List.mem_of_getElem? (pM_at hPp)))).2.2.2.2
      have hfi := Lib.hid (fun E hE => fine_of hsh.out (hedh.out E hE) hfp)
      have hlp : Hid (p.L.length = S.length) := fit_len hfp
      have hst := Lib.hid (nd_step (M := eM Q) (W := W) (V := V) (dV_at hPp))
      have hlt' : (i : Int) < (P.length : Int) := by omega
      clear hPp hfp
      have hfn := fe_none (M := eM Q) (V := p.L)
      cases hh : faB (eM Q) p.L
      · have hz0 := hfn.2 hh
        have hz : ¬ (0 : Int) < ((feL (eM Q) p.L).length : Int) := by omega
        clear hfn hz0
        go_wp2_with fail
        refine (eFailed_any _ _ _ _ Q p.L _ hl40 hfi.out (hQh.out.below (by exact (by repeat (first | exact Below.refl _ _ | assumption | refine Below.drew ?_ | refine below_drewN ?_ _ | refine Below.alloc' ?_ _ | (refine Below.setCell ?_ (by first | omega | (simp; done) | (simp; omega) | exact Below.size (by assumption) | exact Nat.le_trans (Below.size (by assumption)) (by simp)) _) | (refine Below.via' ?_ (by assumption)) | (refine Below.alloc ?_ (by first | omega | (simp; done) | (simp; omega) | exact Below.size (by assumption) | exact Nat.le_trans (Below.size (by assumption)) (by simp)) _) | (refine Below.via ?_ (by assumption) (by first | omega | (simp; done) | (simp; omega) | exact Below.size (by assumption) | exact Nat.le_trans (Below.size (by assumption)) (by simp))))))) (hVp.out.below (by exact (by repeat (first | exact Below.refl _ _ | assumption | refine Below.drew ?_ | refine below_drewN ?_ _ | refine Below.alloc' ?_ _ | (refine Below.setCell ?_ (by first | omega | (simp; done) | (simp; omega) | exact Below.size (by assumption) | exact Nat.le_trans (Below.size (by assumption)) (by simp)) _) | (refine Below.via' ?_ (by assumption)) | (refine Below.alloc ?_ (by first | omega | (simp; done) | (simp; omega) | exact Below.size (by assumption) | exact Nat.le_trans (Below.size (by assumption)) (by simp)) _) | (refine Below.via ?_ (by assumption) (by first | omega | (simp; done) | (simp; omega) | exact Below.size (by assumption) | exact Nat.le_trans (Below.size (by assumption)) (by simp)))))))).mono ?_
        rintro e w3 ⟨u3, rfl, ho3, hb3⟩
        obtain ⟨x3, n3, rfl, -, -⟩ := (OwR.of ho3).form
        clear ho3
        replace hh := Lib.hid hh
        have hrb := Lib.hid ((RB.new wr p.a p.h p.x p.L.length p.c 122).below hb3)
        obtain ⟨-, -, hrc, hrs⟩ := hrb.out
        have hB3r : Below wr.heap.size wr w3 := (by repeat (first | exact Below.refl _ _ | assumption | refine Below.drew ?_ | refine below_drewN ?_ _ | refine Below.alloc' ?_ _ | (refine Below.setCell ?_ (by first | omega | (simp; done) | (simp; omega) | exact Below.size (by assumption) | exact Nat.le_trans (Below.size (by assumption)) (by simp)) _) | (refine Below.via' ?_ (by assumption)) | (refine Below.alloc ?_ (by first | omega | (simp; done) | (simp; omega) | exact Below.size (by assumption) | exact Nat.le_trans (Below.size (by assumption)) (by simp)) _) | (refine Below.via ?_ (by assumption) (by first | omega | (simp; done) | (simp; omega) | exact Below.size (by assumption) | exact Nat.le_trans (Below.size (by assumption)) (by simp)))))
        have hVp3 := Lib.hid (hVp.out.below hB3r)
        have hB3 : Below w.heap.size w w3 := hBr.trans (hB3r.mono hBr.size)
        clear hB3r hb3
        go_wp2_with fail
        refine (iChanged_any _ _ _ _ _ _ W p.L V _ hwr.out (by rw [hlv.out, hlp.out]) (by rw [hlp.out, hlw.out]) (by rw [hlp.out]; omega) (hWh.out.below (by exact (by repeat (first | exact Below.refl _ _ | assumption | refine Below.drew ?_ | refine below_drewN ?_ _ | refine Below.alloc' ?_ _ | (refine Below.setCell ?_ (by first | omega | (simp; done) | (simp; omega) | exact Below.size (by assumption) | exact Nat.le_trans (Below.size (by assumption)) (by simp)) _) | (refine Below.via' ?_ (by assumption)) | (refine Below.alloc ?_ (by first | omega | (simp; done) | (simp; omega) | exact Below.size (by assumption) | exact Nat.le_trans (Below.size (by assumption)) (by simp)) _) | (refine Below.via ?_ (by assumption) (by first | omega | (simp; done) | (simp; omega) | exact Below.size (by assumption) | exact Nat.le_trans (Below.size (by assumption)) (by simp))))))) hVp3.out (hVh.out.below (by exact (by repeat (first | exact Below.refl _ _ | assumption | refine Below.drew ?_ | refine below_drewN ?_ _ | refine Below.alloc' ?_ _ | (refine Below.setCell ?_ (by first | omega | (simp; done) | (simp; omega) | exact Below.size (by assumption) | exact Nat.le_trans (Below.size (by assumption)) (by simp)) _) | (refine Below.via' ?_ (by assumption)) | (refine Below.alloc ?_ (by first | omega | (simp; done) | (simp; omega) | exact Below.size (by assumption) | exact Nat.le_trans (Below.size (by assumption)) (by simp)) _) | (refine Below.via ?_ (by assumption) (by first | omega | (simp; done) | (simp; omega) | exact Below.size (by assumption) | exact Nat.le_trans (Below.size (by assumption)) (by simp)))))))).mono ?_
        rintro e w5 ⟨rfl, hb5⟩
        have hsy := Lib.hid (dvL_symm (A := p.L) (B := V) (by rw [hlv.out, hlp.out]))
        rw [hsy.out]
        have hB5 : Below w.heap.size w w5 := (by repeat (first | exact Below.refl _ _ | assumption | refine Below.drew ?_ | refine below_drewN ?_ _ | refine Below.alloc' ?_ _ | (refine Below.setCell ?_ (by first | omega | (simp; done) | (simp; omega) | exact Below.size (by assumption) | exact Nat.le_trans (Below.size (by assumption)) (by simp)) _) | (refine Below.via' ?_ (by assumption)) | (refine Below.alloc ?_ (by first | omega | (simp; done) | (simp; omega) | exact Below.size (by assumption) | exact Nat.le_trans (Below.size (by assumption)) (by simp)) _) | (refine Below.via ?_ (by assumption) (by first | omega | (simp; done) | (simp; omega) | exact Below.size (by assumption) | exact Nat.le_trans (Below.size (by assumption)) (by simp)))))
        cases ho : ndUp (eM Q) W V (dV (pM P)) i with
        | none =>
          have hnx : Hid (ndUp (eM Q) W V (dV (pM P)) (i + 1) = some (i, swZ W (dvL V p.L))) := by unfold Hid; rw [hst.out, ho, ndS_first hh.out]
          replace ho := Lib.hid ho
          dsimp only [ndJ, ndC, Option.isSome]
          go_wp2
          first
            | (go_roundw
               case rel => exact ⟨i + 1, by omega, by go_num, by rw [hnx.out]; rfl, by rw [hnx.out]; rfl, (by repeat (first | exact Below.refl _ _ | assumption | refine Below.drew ?_ | refine below_drewN ?_ _ | refine Below.alloc' ?_ _ | (refine Below.setCell ?_ (by first | omega | (simp; done) | (simp; omega) | exact Below.size (by assumption) | exact Nat.le_trans (Below.size (by assumption)) (by simp)) _) | (refine Below.via' ?_ (by assumption)) | (refine Below.alloc ?_ (by first | omega | (simp; done) | (simp; omega) | exact Below.size (by assumption) | exact Nat.le_trans (Below.size (by assumption)) (by simp)) _) | (refine Below.via ?_ (by assumption) (by first | omega | (simp; done) | (simp; omega) | exact Below.size (by assumption) | exact Nat.le_trans (Below.size (by assumption)) (by simp)))))⟩
               case measure => simp [intOf]; omega)
            | (go_region
               all_goals
                 go_wp2
                 go_roundw
                 case rel => exact ⟨i + 1, by omega, by go_num, by rw [hnx.out]; rfl, by rw [hnx.out]; rfl, (by repeat (first | exact Below.refl _ _ | assumption | refine Below.drew ?_ | refine below_drewN ?_ _ | refine Below.alloc' ?_ _ | (refine Below.setCell ?_ (by first | omega | (simp; done) | (simp; omega) | exact Below.size (by assumption) | exact Nat.le_trans (Below.size (by assumption)) (by simp)) _) | (refine Below.via' ?_ (by assumption)) | (refine Below.alloc ?_ (by first | omega | (simp; done) | (simp; omega) | exact Below.size (by assumption) | exact Nat.le_trans (Below.size (by assumption)) (by simp)) _) | (refine Below.via ?_ (by assumption) (by first | omega | (simp; done) | (simp; omega) | exact Below.size (by assumption) | exact Nat.le_trans (Below.size (by assumption)) (by simp)))))⟩
                 case measure => simp [intOf]; omega)
        | some q =>
          obtain ⟨j, b⟩ := q
          have hjl := nd_lt _ _ _ _ _ j b ho
          by_cases hk : swZ W (dvL V p.L) < b
          · have hnx : Hid (ndUp (eM Q) W V (dV (pM P)) (i + 1) = some (i, swZ W (dvL V p.L))) := by unfold Hid; rw [hst.out, ho, ndS_less hh.out hk]
            replace ho := Lib.hid ho
            dsimp only [ndJ, ndC, Option.isSome]
            go_wp2
            first
              | (go_roundw
                 case rel => exact ⟨i + 1, by omega, by go_num, by rw [hnx.out]; rfl, by rw [hnx.out]; rfl, (by repeat (first | exact Below.refl _ _ | assumption | refine Below.drew ?_ | refine below_drewN ?_ _ | refine Below.alloc' ?_ _ | (refine Below.setCell ?_ (by first | omega | (simp; done) | (simp; omega) | exact Below.size (by assumption) | exact Nat.le_trans (Below.size (by assumption)) (by simp)) _) | (refine Below.via' ?_ (by assumption)) | (refine Below.alloc ?_ (by first | omega | (simp; done) | (simp; omega) | exact Below.size (by assumption) | exact Nat.le_trans (Below.size (by assumption)) (by simp)) _) | (refine Below.via ?_ (by assumption) (by first | omega | (simp; done) | (simp; omega) | exact Below.size (by assumption) | exact Nat.le_trans (Below.size (by assumption)) (by simp)))))⟩
                 case measure => simp [intOf]; omega)
              | (go_region
                 all_goals
                   go_wp2
                   go_roundw
                   case rel => exact ⟨i + 1, by omega, by go_num, by rw [hnx.out]; rfl, by rw [hnx.out]; rfl, (by repeat (first | exact Below.refl _ _ | assumption | refine Below.drew ?_ | refine below_drewN ?_ _ | refine Below.alloc' ?_ _ | (refine Below.setCell ?_ (by first | omega | (simp; done) | (simp; omega) | exact Below.size (by assumption) | exact Nat.le_trans (Below.size (by assumption)) (by simp)) _) | (refine Below.via' ?_ (by assumption)) | (refine Below.alloc ?_ (by first | omega | (simp; done) | (simp; omega) | exact Below.size (by assumption) | exact Nat.le_trans (Below.size (by assumption)) (by simp)) _) | (refine Below.via ?_ (by assumption) (by first | omega | (simp; done) | (simp; omega) | exact Below.size (by assumption) | exact Nat.le_trans (Below.size (by assumption)) (by simp)))))⟩
                   case measure => simp [intOf]; omega)
          · have hnx : Hid (ndUp (eM Q) W V (dV (pM P)) (i + 1) = some (j, b)) := by unfold Hid; rw [hst.out, ho, ndS_keep hh.out hk]
            replace ho := Lib.hid ho
            dsimp only [ndJ, ndC, Option.isSome]
            go_wp2
            first
              | (go_roundw
                 case rel => exact ⟨i + 1, by omega, by go_num, by rw [hnx.out]; rfl, by rw [hnx.out]; rfl, (by repeat (first | exact Below.refl _ _ | assumption | refine Below.drew ?_ | refine below_drewN ?_ _ | refine Below.alloc' ?_ _ | (refine Below.setCell ?_ (by first | omega | (simp; done) | (simp; omega) | exact Below.size (by assumption) | exact Nat.le_trans (Below.size (by assumption)) (by simp)) _) | (refine Below.via' ?_ (by assumption)) | (refine Below.alloc ?_ (by first | omega | (simp; done) | (simp; omega) | exact Below.size (by assumption) | exact Nat.le_trans (Below.size (by assumption)) (by simp)) _) | (refine Below.via ?_ (by assumption) (by first | omega | (simp; done) | (simp; omega) | exact Below.size (by assumption) | exact Nat.le_trans (Below.size (by assumption)) (by simp)))))⟩
                 case measure => simp [intOf]; omega)
              | (go_region
                 all_goals
                   go_wp2
                   go_roundw
                   case rel => exact ⟨i + 1, by omega, by go_num, by rw [hnx.out]; rfl, by rw [hnx.out]; rfl, (by repeat (first | exact Below.refl _ _ | assumption | refine Below.drew ?_ | refine below_drewN ?_ _ | refine Below.alloc' ?_ _ | (refine Below.setCell ?_ (by first | omega | (simp; done) | (simp; omega) | exact Below.size (by assumption) | exact Nat.le_trans (Below.size (by assumption)) (by simp)) _) | (refine Below.via' ?_ (by assumption)) | (refine Below.alloc ?_ (by first | omega | (simp; done) | (simp; omega) | exact Below.size (by assumption) | exact Nat.le_trans (Below.size (by assumption)) (by simp)) _) | (refine Below.via ?_ (by assumption) (by first | omega | (simp; done) | (simp; omega) | exact Below.size (by assumption) | exact Nat.le_trans (Below.size (by assumption)) (by simp)))))⟩
                   case measure => simp [intOf]; omega)
      · have hnx : Hid (ndUp (eM Q) W V (dV (pM P)) (i + 1) = ndUp (eM Q) W V (dV (pM P)) i) := by unfold Hid; rw [hst.out, ndS_fails hh]
        have hz : (0 : Int) < ((feL (eM Q) p.L).length : Int) := by
          rcases Nat.eq_zero_or_pos (feL (eM Q) p.L).length with h0 | h0
          · rw [hfn.1 h0] at hh; cases hh
          · omega
        clear hfn
        go_wp2_with fail
        refine (eFailed_any _ _ _ _ Q p.L _ hl40 hfi.out (hQh.out.below (by exact (by repeat (first | exact Below.refl _ _ | assumption | refine Below.drew ?_ | refine below_drewN ?_ _ | refine Below.alloc' ?_ _ | (refine Below.setCell ?_ (by first | omega | (simp; done) | (simp; omega) | exact Below.size (by assumption) | exact Nat.le_trans (Below.size (by assumption)) (by simp)) _) | (refine Below.via' ?_ (by assumption)) | (refine Below.alloc ?_ (by first | omega | (simp; done) | (simp; omega) | exact Below.size (by assumption) | exact Nat.le_trans (Below.size (by assumption)) (by simp)) _) | (refine Below.via ?_ (by assumption) (by first | omega | (simp; done) | (simp; omega) | exact Below.size (by assumption) | exact Nat.le_trans (Below.size (by assumption)) (by simp))))))) (hVp.out.below (by exact (by repeat (first | exact Below.refl _ _ | assumption | refine Below.drew ?_ | refine below_drewN ?_ _ | refine Below.alloc' ?_ _ | (refine Below.setCell ?_ (by first | omega | (simp; done) | (simp; omega) | exact Below.size (by assumption) | exact Nat.le_trans (Below.size (by assumption)) (by simp)) _) | (refine Below.via' ?_ (by assumption)) | (refine Below.alloc ?_ (by first | omega | (simp; done) | (simp; omega) | exact Below.size (by assumption) | exact Nat.le_trans (Below.size (by assumption)) (by simp)) _) | (refine Below.via ?_ (by assumption) (by first | omega | (simp; done) | (simp; omega) | exact Below.size (by assumption) | exact Nat.le_trans (Below.size (by assumption)) (by simp)))))))).mono ?_
        rintro e w3 ⟨u3, rfl, ho3, hb3⟩
        obtain ⟨x3, n3, rfl, -, -⟩ := (OwR.of ho3).form
        go_wp2
        go_roundw
        case rel => exact ⟨i + 1, by omega, by go_num, by rw [hnx.out], by rw [hnx.out], (by repeat (first | exact Below.refl _ _ | assumption | refine Below.drew ?_ | refine below_drewN ?_ _ | refine Below.alloc' ?_ _ | (refine Below.setCell ?_ (by first | omega | (simp; done) | (simp; omega) | exact Below.size (by assumption) | exact Nat.le_trans (Below.size (by assumption)) (by simp)) _) | (refine Below.via' ?_ (by assumption)) | (refine Below.alloc ?_ (by first | omega | (simp; done) | (simp; omega) | exact Below.size (by assumption) | exact Nat.le_trans (Below.size (by assumption)) (by simp)) _) | (refine Below.via ?_ (by assumption) (by first | omega | (simp; done) | (simp; omega) | exact Below.size (by assumption) | exact Nat.le_trans (Below.size (by assumption)) (by simp)))))⟩
        case measure => simp [intOf]; omega
    · have hij : i = P.length := by omega
      subst hij
      have hfin := Lib.hid (show ndUp (eM Q) W V (dV (pM P)) P.length = ndO (eM Q) W (pM P) V by unfold ndO; rw [dV_len, hpl.out])
      cases ho : ndUp (eM Q) W V (dV (pM P)) P.length with
      | none =>
        have hb : Hid (neB S (eM Q) W (pM P) V = false) := by unfold Hid; rw [hv.out, ← hfin.out, ho]; rfl
        replace ho := Lib.hid ho
        dsimp only [ndJ]
        go_wp2
        go_ret2
        exact retN_no hb.out (by repeat (first | exact Below.refl _ _ | assumption | refine Below.drew ?_ | refine below_drewN ?_ _ | refine Below.alloc' ?_ _ | (refine Below.setCell ?_ (by first | omega | (simp; done) | (simp; omega) | exact Below.size (by assumption) | exact Nat.le_trans (Below.size (by assumption)) (by simp)) _) | (refine Below.via' ?_ (by assumption)) | (refine Below.alloc ?_ (by first | omega | (simp; done) | (simp; omega) | exact Below.size (by assumption) | exact Nat.le_trans (Below.size (by assumption)) (by simp)) _) | (refine Below.via ?_ (by assumption) (by first | omega | (simp; done) | (simp; omega) | exact Below.size (by assumption) | exact Nat.le_trans (Below.size (by assumption)) (by simp)))))
      | some q =>
        obtain ⟨j, b⟩ := q
        have hb : Hid (neB S (eM Q) W (pM P) V = true) := by unfold Hid; rw [hv.out, ← hfin.out, ho]; rfl
        have hn : Hid ((j : Int) = ndI (ndO (eM Q) W (pM P) V)) := by unfold Hid; rw [← hfin.out, ho]; rfl
        have hj0 : ¬ (j : Int) < 0 := by omega
        replace ho := Lib.hid ho
        dsimp only [ndJ]
        go_wp2
        go_ret2
        exact retN_yes hb.out hn.out (by repeat (first | exact Below.refl _ _ | assumption | refine Below.drew ?_ | refine below_drewN ?_ _ | refine Below.alloc' ?_ _ | (refine Below.setCell ?_ (by first | omega | (simp; done) | (simp; omega) | exact Below.size (by assumption) | exact Nat.le_trans (Below.size (by assumption)) (by simp)) _) | (refine Below.via' ?_ (by assumption)) | (refine Below.alloc ?_ (by first | omega | (simp; done) | (simp; omega) | exact Below.size (by assumption) | exact Nat.le_trans (Below.size (by assumption)) (by simp)) _) | (refine Below.via ?_ (by assumption) (by first | omega | (simp; done) | (simp; omega) | exact Below.size (by assumption) | exact Nat.le_trans (Below.size (by assumption)) (by simp)))))
theorem sND_m (x y z t u : Option Addr) (c1 c2 c3 c4 c5 : Nat) (S : List (ByteArray × Int)) (Q : List PR) (W : List Int) (P : List PR) (V : List Int) (w : World) (hS : SIn w x c1 S) (hQ : EIn w y Q) (hW : IIn w z W) (hP : DIn w t P) (hV : IIn w u V) (M : List (List Int)) (hM : eM Q = M) (R : List RV) (hR : pM P = R) :
    Calls Try.prog 50 #[.slice x S.length c1, .slice y Q.length c2, .slice z W.length c3, .slice t P.length c4, .slice u V.length c5] w fun e w' => e = .returned (.tuple #[.int .i64 (nIf (neB S M W R V) (ndI (ndO M W R V))), .bool (neB S M W R V)]) ∧ Below w.heap.size w w' := by subst hM; subst hR; exact sND_x x y z t u c1 c2 c3 c4 c5 S Q W P V w hS hQ hW hP hV
theorem iND_m (x y z t u : Option Addr) (c1 c2 c3 c4 c5 : Nat) (S : List (ByteArray × Int)) (Q : List PR) (W : List Int) (P : List PR) (V : List Int) (w : World) (hS : SIn w x c1 S) (hQ : EIn w y Q) (hW : IIn w z W) (hP : DIn w t P) (hV : IIn w u V) (M : List (List Int)) (hM : eM Q = M) (R : List RV) (hR : pM P = R) :
    Calls Try.prog 51 #[.slice x S.length c1, .slice y Q.length c2, .slice z W.length c3, .slice t P.length c4, .slice u V.length c5] w fun e w' => e = .returned (.tuple #[.int .i64 (nIf (neB S M W R V) (ndI (ndO M W R V))), .bool (neB S M W R V)]) ∧ Below w.heap.size w w' := by subst hM; subst hR; exact iND_x x y z t u c1 c2 c3 c4 c5 S Q W P V w hS hQ hW hP hV
end Go.Proofs.Ytpdilekfagfbiaa

namespace Go.Proofs.Ytpdilekfagfbiaa
open Go.ChangeShapes Go.RowKit
section
variable {H : Type} {enc : TypeId × Value → H} {P : Program} {w : World} {base : Nat} {spare : Nat → Bool} {held : Bool}
theorem trodAll_five {t t' t'' t3 t4 : TypeId} {args : Array Value} {ds : List (DataW H)} {ps : List MemPlace} (h : DataW.TrodAll enc P w base spare held [t, t', t'', t3, t4] args.toList ds ps) :
    ∃ v v' v'' v3 v4 d d' d'' d3 d4 p p' p'' p3 p4, args = #[v, v', v'', v3, v4] ∧ ds = [d, d', d'', d3, d4] ∧ ps = p ++ p' ++ p'' ++ p3 ++ p4 ∧ DataW.Trod enc P w base spare held t v d p ∧ DataW.Trod enc P w base spare held t' v' d' p' ∧ DataW.Trod enc P w base spare held t'' v'' d'' p'' ∧ DataW.Trod enc P w base spare held t3 v3 d3 p3 ∧ DataW.Trod enc P w base spare held t4 v4 d4 p4 := by
  obtain ⟨v, vs, d, ds', p, q, hargs, rfl, rfl, hd, hrest⟩ := trodAll_cons h
  obtain ⟨v', vs', d', ds'', p', q', rfl, rfl, rfl, hd', hrest'⟩ := trodAll_cons hrest
  obtain ⟨v'', vs'', d'', ds''', p'', q'', rfl, rfl, rfl, hd'', hrest''⟩ := trodAll_cons hrest'
  obtain ⟨v3, vs3, d3, ds3, p3, q3, rfl, rfl, rfl, hd3, hrest3⟩ := trodAll_cons hrest''
  obtain ⟨v4, vs4, d4, ds4, p4, q4, rfl, rfl, rfl, hd4, hrest4⟩ := trodAll_cons hrest3
  obtain ⟨rfl, rfl, rfl⟩ := trodAll_nil hrest4
  exact ⟨v, v', v'', v3, v4, d, d', d'', d3, d4, p, p', p'', p3, p4, by cases args; simp_all, rfl, by simp, hd, hd', hd'', hd3, hd4⟩
end
end Go.Proofs.Ytpdilekfagfbiaa
