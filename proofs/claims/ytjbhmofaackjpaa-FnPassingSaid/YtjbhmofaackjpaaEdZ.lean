/-
  The walks of chapter 5: FailureCounts; the program's and the model's.
-/
import Derived.Test.YtjbhmofaackjpaaEdY
namespace Go.Proofs.Ytjbhmofaackjpaa
open Go.RowKit
set_option maxRecDepth 100000

/-- The values of records; a schema, edits and data for it. -/
def dV (R : List RV) : List (List Int) := R.map fun q => q.2.2
theorem dV_len (R : List RV) : (dV R).length = R.length := by unfold dV; simp
theorem dV_at {P : List PR} {i : Nat} {q : PR} (h : P[i]? = some q) : (dV (pM P))[i]? = some q.L := by unfold dV; rw [List.getElem?_map, pM_at h]; rfl
def sldB (S : List (ByteArray × Int)) (M : List (List Int)) (R : List RV) : Bool := elB S M && dokB S R
theorem sld_no1 {S : List (ByteArray × Int)} {M : List (List Int)} {R : List RV} (h : elB S M = false) : sldB S M R = false := by unfold sldB; rw [h]; rfl
theorem sld_no2 {S : List (ByteArray × Int)} {M : List (List Int)} {R : List RV} (h : dokB S R = false) : sldB S M R = false := by unfold sldB; rw [h, Bool.and_false]
theorem sld_yes {S : List (ByteArray × Int)} {M : List (List Int)} {R : List RV} (h : elB S M = true) (k : dokB S R = true) : sldB S M R = true := by unfold sldB; rw [h, k]; rfl
theorem iC_setE (L : List Int) (j : Nat) (v : Int) : iC (L.set j v) = (iC L).set j (.int .i64 v) := by unfold iC; rw [List.map_set]
theorem take_le_len {L : List (List Int)} {i : Nat} : (L.take i).length ≤ i := by rw [List.length_take]; omega

set_option maxHeartbeats 2000000 in
theorem iFC_x (x y z : Option Addr) (c1 c2 c3 : Nat) (S : List (ByteArray × Int)) (Q P : List PR) (w : World) (hS : SIn w x c1 S) (hQ : EIn w y Q) (hP : DIn w z P) :
    Calls Try.prog 13 #[.slice x S.length c1, .slice y Q.length c2, .slice z P.length c3] w (RetLB (eIf (sldB S (eM Q) (pM P)) (fcL (eM Q) (dV (pM P)))) (sldB S (eM Q) (pM P)) w) := by
  obtain ⟨i0, hii, hz0, hz1, hz2⟩ := info_parts Try.infoInt
  have hSh := Lib.hid hS
  have hQh := Lib.hid hQ
  have hPh := Lib.hid hP
  have hm := hS.1
  have hel := Lib.hid (eM_len Q)
  have hpl := Lib.hid (pM_len P)
  clear hS hQ hP
  go_enter Try.func13, Try.ntmps13
  go_wp2_with fail
  refine (isSch_x _ _ _ _ (hSh.out.below (by exact (by repeat (first | exact Below.refl _ _ | assumption | refine Below.drew ?_ | refine below_drewN ?_ _ | refine Below.alloc' ?_ _ | (refine Below.setCell ?_ (by first | omega | (simp; done) | (simp; omega) | exact Below.size (by assumption) | exact Nat.le_trans (Below.size (by assumption)) (by simp)) _) | (refine Below.via' ?_ (by assumption)) | (refine Below.alloc ?_ (by first | omega | (simp; done) | (simp; omega) | exact Below.size (by assumption) | exact Nat.le_trans (Below.size (by assumption)) (by simp)) _) | (refine Below.via ?_ (by assumption) (by first | omega | (simp; done) | (simp; omega) | exact Below.size (by assumption) | exact Nat.le_trans (Below.size (by assumption)) (by simp)))))))).mono ?_
  rintro e w1 ⟨rfl, hb1⟩
  cases hs : schB S
  · have hv := Lib.hid (sld_no1 (R := pM P) (el_no1 (M := eM Q) hs))
    go_wp2
    go_ret2
    exact retLB_no hv.out (by repeat (first | exact Below.refl _ _ | assumption | refine Below.drew ?_ | refine below_drewN ?_ _ | refine Below.alloc' ?_ _ | (refine Below.setCell ?_ (by first | omega | (simp; done) | (simp; omega) | exact Below.size (by assumption) | exact Nat.le_trans (Below.size (by assumption)) (by simp)) _) | (refine Below.via' ?_ (by assumption)) | (refine Below.alloc ?_ (by first | omega | (simp; done) | (simp; omega) | exact Below.size (by assumption) | exact Nat.le_trans (Below.size (by assumption)) (by simp)) _) | (refine Below.via ?_ (by assumption) (by first | omega | (simp; done) | (simp; omega) | exact Below.size (by assumption) | exact Nat.le_trans (Below.size (by assumption)) (by simp)))))
  have hsh := Lib.hid hs
  clear hs
  go_wp2_with fail
  refine (areEditsFor_any _ _ _ _ S Q _ hsh.out hm (hSh.out.rd.below (by exact (by repeat (first | exact Below.refl _ _ | assumption | refine Below.drew ?_ | refine below_drewN ?_ _ | refine Below.alloc' ?_ _ | (refine Below.setCell ?_ (by first | omega | (simp; done) | (simp; omega) | exact Below.size (by assumption) | exact Nat.le_trans (Below.size (by assumption)) (by simp)) _) | (refine Below.via' ?_ (by assumption)) | (refine Below.alloc ?_ (by first | omega | (simp; done) | (simp; omega) | exact Below.size (by assumption) | exact Nat.le_trans (Below.size (by assumption)) (by simp)) _) | (refine Below.via ?_ (by assumption) (by first | omega | (simp; done) | (simp; omega) | exact Below.size (by assumption) | exact Nat.le_trans (Below.size (by assumption)) (by simp))))))) (hQh.out.below (by exact (by repeat (first | exact Below.refl _ _ | assumption | refine Below.drew ?_ | refine below_drewN ?_ _ | refine Below.alloc' ?_ _ | (refine Below.setCell ?_ (by first | omega | (simp; done) | (simp; omega) | exact Below.size (by assumption) | exact Nat.le_trans (Below.size (by assumption)) (by simp)) _) | (refine Below.via' ?_ (by assumption)) | (refine Below.alloc ?_ (by first | omega | (simp; done) | (simp; omega) | exact Below.size (by assumption) | exact Nat.le_trans (Below.size (by assumption)) (by simp)) _) | (refine Below.via ?_ (by assumption) (by first | omega | (simp; done) | (simp; omega) | exact Below.size (by assumption) | exact Nat.le_trans (Below.size (by assumption)) (by simp)))))))).mono ?_
  rintro e w2 ⟨rfl, hb2⟩
  cases he : elB S (eM Q)
  · have hv := Lib.hid (sld_no1 (R := pM P) he)
    go_wp2
    go_ret2
    exact retLB_no hv.out (by repeat (first | exact Below.refl _ _ | assumption | refine Below.drew ?_ | refine below_drewN ?_ _ | refine Below.alloc' ?_ _ | (refine Below.setCell ?_ (by first | omega | (simp; done) | (simp; omega) | exact Below.size (by assumption) | exact Nat.le_trans (Below.size (by assumption)) (by simp)) _) | (refine Below.via' ?_ (by assumption)) | (refine Below.alloc ?_ (by first | omega | (simp; done) | (simp; omega) | exact Below.size (by assumption) | exact Nat.le_trans (Below.size (by assumption)) (by simp)) _) | (refine Below.via ?_ (by assumption) (by first | omega | (simp; done) | (simp; omega) | exact Below.size (by assumption) | exact Nat.le_trans (Below.size (by assumption)) (by simp)))))
  have heh := Lib.hid he
  obtain ⟨-, g2, g3⟩ := el_get he
  have hl40 : Q.length ≤ 40 := by have := hel.out; omega
  have hedh := Lib.hid g3
  clear he g2 g3
  go_wp2_with fail
  refine (areDataFor_any _ _ _ _ S P _ hsh.out hm (hSh.out.rd.below (by exact (by repeat (first | exact Below.refl _ _ | assumption | refine Below.drew ?_ | refine below_drewN ?_ _ | refine Below.alloc' ?_ _ | (refine Below.setCell ?_ (by first | omega | (simp; done) | (simp; omega) | exact Below.size (by assumption) | exact Nat.le_trans (Below.size (by assumption)) (by simp)) _) | (refine Below.via' ?_ (by assumption)) | (refine Below.alloc ?_ (by first | omega | (simp; done) | (simp; omega) | exact Below.size (by assumption) | exact Nat.le_trans (Below.size (by assumption)) (by simp)) _) | (refine Below.via ?_ (by assumption) (by first | omega | (simp; done) | (simp; omega) | exact Below.size (by assumption) | exact Nat.le_trans (Below.size (by assumption)) (by simp))))))) (hPh.out.below (by exact (by repeat (first | exact Below.refl _ _ | assumption | refine Below.drew ?_ | refine below_drewN ?_ _ | refine Below.alloc' ?_ _ | (refine Below.setCell ?_ (by first | omega | (simp; done) | (simp; omega) | exact Below.size (by assumption) | exact Nat.le_trans (Below.size (by assumption)) (by simp)) _) | (refine Below.via' ?_ (by assumption)) | (refine Below.alloc ?_ (by first | omega | (simp; done) | (simp; omega) | exact Below.size (by assumption) | exact Nat.le_trans (Below.size (by assumption)) (by simp)) _) | (refine Below.via ?_ (by assumption) (by first | omega | (simp; done) | (simp; omega) | exact Below.size (by assumption) | exact Nat.le_trans (Below.size (by assumption)) (by simp)))))))).mono ?_
  rintro e w3 ⟨rfl, hb3⟩
  cases hf : dokB S (pM P)
  · have hv := Lib.hid (sld_no2 (M := eM Q) hf)
    go_wp2
    go_ret2
    exact retLB_no hv.out (by repeat (first | exact Below.refl _ _ | assumption | refine Below.drew ?_ | refine below_drewN ?_ _ | refine Below.alloc' ?_ _ | (refine Below.setCell ?_ (by first | omega | (simp; done) | (simp; omega) | exact Below.size (by assumption) | exact Nat.le_trans (Below.size (by assumption)) (by simp)) _) | (refine Below.via' ?_ (by assumption)) | (refine Below.alloc ?_ (by first | omega | (simp; done) | (simp; omega) | exact Below.size (by assumption) | exact Nat.le_trans (Below.size (by assumption)) (by simp)) _) | (refine Below.via ?_ (by assumption) (by first | omega | (simp; done) | (simp; omega) | exact Below.size (by assumption) | exact Nat.le_trans (Below.size (by assumption)) (by simp)))))
  have hfh := Lib.hid hf
  have hp40 : P.length ≤ 40 := by have := dokB_len hf; have := hpl.out; omega
  clear hf
  have hv := Lib.hid (sld_yes heh.out hfh.out)
  have B3 : Below w.heap.size w w3 := (by repeat (first | exact Below.refl _ _ | assumption | refine Below.drew ?_ | refine below_drewN ?_ _ | refine Below.alloc' ?_ _ | (refine Below.setCell ?_ (by first | omega | (simp; done) | (simp; omega) | exact Below.size (by assumption) | exact Nat.le_trans (Below.size (by assumption)) (by simp)) _) | (refine Below.via' ?_ (by assumption)) | (refine Below.alloc ?_ (by first | omega | (simp; done) | (simp; omega) | exact Below.size (by assumption) | exact Nat.le_trans (Below.size (by assumption)) (by simp)) _) | (refine Below.via ?_ (by assumption) (by first | omega | (simp; done) | (simp; omega) | exact Below.size (by assumption) | exact Nat.le_trans (Below.size (by assumption)) (by simp)))))
  have hs3' := B3.size
  have hbb : i0.bytes * Q.length ≤ 281474976710656 := by rw [hz2]; omega
  have hmm : Q.length ≤ maxLen := by unfold maxLen; omega
  clear hb1 hb2 hb3
  go_wp2_with (at_make; go_loud (refine wpList_make_full _ rfl _ _ 28 rfl w3.heap.size 3 i0 (.int .i64 0) 1 Try.underlying28 hii hz0 hz1 .i64 .i64 _ _ Q.length rfl rfl rfl rfl hbb hmm (Nat.le_refl _) (fun w4 hown hgrow => ?_)))
  have hb4 : Below w.heap.size w w4 := B3.grown hgrow hs3' (by intro k hk; cases hk)
  have hs4 := (own_lt hown).2
  rw [made_zE] at hown
  clear hgrow hii hz0 hz1 hz2 hbb hmm
  have hown0 : Hid (w4.ownsRow w3.heap.size 3 1 (.slice (some ⟨w3.heap.size, 0, none⟩) Q.length Q.length) Q.length (iC (fcA (eM Q) (dV (pM P)) 0 0))) := by rw [fcA_start, hel.out]; exact hown
  clear hown
  go_loopw [33] (fun c wr => ∃ i : Nat, i ≤ Q.length ∧ c = .int .i64 i ∧ wr.ownsRow w3.heap.size 3 1 (.slice (some ⟨w3.heap.size, 0, none⟩) Q.length Q.length) Q.length (iC (fcA (eM Q) (dV (pM P)) i 0)) ∧ Below w.heap.size w wr) (fun c _ => Q.length - (intOf c).toNat)
  case atStart => exact ⟨0, by omega, rfl, hown0.out, hb4⟩
  case round =>
    clear hown0 hb4 hs4
    obtain ⟨i, hi, rfl, hown, hBr⟩ := hrel
    obtain ⟨wo, rfl⟩ : ∃ q : World, q = wr := ⟨_, rfl⟩
    have hownh := Lib.hid hown
    have hs4 := (own_lt hown).2
    clear hown
    by_cases hlt : i < Q.length
    · obtain ⟨bl, off, q, rfl, hbl, hQq, hc0⟩ := (hQh.out.below hBr).2.2.ed hlt
      have hE := Lib.hid ((hQh.out.2.1 q (List.mem_of_getElem? hQq)).below hBr)
      have hqe := Lib.hid (eM_at hQq)
      have hqm := Lib.hid (hQh.out.2.1 q (List.mem_of_getElem? hQq))
      have hlt' : (i : Int) < (Q.length : Int) := by omega
      have hi0 : (0 : Int) ≤ (i : Int) := by omega
      have hq0 := Lib.hid (QB.new wo q.x q.L.length q.c 61)
      clear hQq
      go_wp2
      go_loopw [40] (fun c wx => ∃ k : Nat, k ≤ P.length ∧ c = .int .i64 k ∧ wx.ownsRow w3.heap.size 3 1 (.slice (some ⟨w3.heap.size, 0, none⟩) Q.length Q.length) Q.length (iC (fcA (eM Q) (dV (pM P)) i k)) ∧ QB wx wo.heap.size q.x q.L.length q.c ∧ Below w.heap.size w wx) (fun c _ => P.length - (intOf c).toNat)
      case atStart => exact ⟨0, by omega, rfl, hownh.out.alloc _, hq0.out, (by repeat (first | exact Below.refl _ _ | assumption | refine Below.drew ?_ | refine below_drewN ?_ _ | refine Below.alloc' ?_ _ | (refine Below.setCell ?_ (by first | omega | (simp; done) | (simp; omega) | exact Below.size (by assumption) | exact Nat.le_trans (Below.size (by assumption)) (by simp)) _) | (refine Below.via' ?_ (by assumption)) | (refine Below.alloc ?_ (by first | omega | (simp; done) | (simp; omega) | exact Below.size (by assumption) | exact Nat.le_trans (Below.size (by assumption)) (by simp)) _) | (refine Below.via ?_ (by assumption) (by first | omega | (simp; done) | (simp; omega) | exact Below.size (by assumption) | exact Nat.le_trans (Below.size (by assumption)) (by simp)))))⟩
      case round =>
        clear hownh hq0
        obtain ⟨k, hk, rfl, hown, hq, hBx⟩ := hrel
        have hownh := Lib.hid hown
        have hqh := Lib.hid hq
        have hs5 := (own_lt hown).2
        clear hown
        by_cases hlk : k < P.length
        · obtain ⟨bl2, off2, p, rfl, hbl2, hPp, hc1, hc2, hc3⟩ := (hPh.out.below hBx).2.2.rec hlk
          have hV := Lib.hid ((hPh.out.2.1 p (List.mem_of_getElem? hPp)).2.2.below hBx)
          have hE2 := Lib.hid (hqm.out.below hBx)
          have hpe := Lib.hid (dV_at hPp)
          have hfi := Lib.hid (fine_of hsh.out (hedh.out _ (List.mem_of_getElem? hqe.out)) (rokB_get (dokB_mem hfh.out (List.mem_of_getElem? (pM_at hPp)))).2.2.2.2)
          have hlk' : (k : Int) < (P.length : Int) := by omega
          have htk := Lib.hid (take_snoc hpe.out)
          obtain ⟨n0, n1⟩ := fcZ_bd q.L ((dV (pM P)).take k)
          have n2 := take_le_len (L := dV (pM P)) (i := k)
          clear hPp
          obtain ⟨ka, kb, kc⟩ := hqh.out
          cases hh : fsB q.L p.L
          · have hsel : Hid (fcA (eM Q) (dV (pM P)) i k = fcA (eM Q) (dV (pM P)) i (k + 1)) := fcA_keep hqe.out (by rw [htk.out, fcZ_no hh])
            go_wp2_with fail
            refine (failsEdit_any _ _ _ _ q.L p.L _ hfi.out (hE2.out.below (by exact (by repeat (first | exact Below.refl _ _ | assumption | refine Below.drew ?_ | refine below_drewN ?_ _ | refine Below.alloc' ?_ _ | (refine Below.setCell ?_ (by first | omega | (simp; done) | (simp; omega) | exact Below.size (by assumption) | exact Nat.le_trans (Below.size (by assumption)) (by simp)) _) | (refine Below.via' ?_ (by assumption)) | (refine Below.alloc ?_ (by first | omega | (simp; done) | (simp; omega) | exact Below.size (by assumption) | exact Nat.le_trans (Below.size (by assumption)) (by simp)) _) | (refine Below.via ?_ (by assumption) (by first | omega | (simp; done) | (simp; omega) | exact Below.size (by assumption) | exact Nat.le_trans (Below.size (by assumption)) (by simp))))))) (hV.out.below (by exact (by repeat (first | exact Below.refl _ _ | assumption | refine Below.drew ?_ | refine below_drewN ?_ _ | refine Below.alloc' ?_ _ | (refine Below.setCell ?_ (by first | omega | (simp; done) | (simp; omega) | exact Below.size (by assumption) | exact Nat.le_trans (Below.size (by assumption)) (by simp)) _) | (refine Below.via' ?_ (by assumption)) | (refine Below.alloc ?_ (by first | omega | (simp; done) | (simp; omega) | exact Below.size (by assumption) | exact Nat.le_trans (Below.size (by assumption)) (by simp)) _) | (refine Below.via ?_ (by assumption) (by first | omega | (simp; done) | (simp; omega) | exact Below.size (by assumption) | exact Nat.le_trans (Below.size (by assumption)) (by simp)))))))).mono ?_
            rintro e w6 ⟨rfl, hb6⟩
            rw [hh]
            have hbw : Below wr.heap.size wr w6 := (by repeat (first | exact Below.refl _ _ | assumption | refine Below.drew ?_ | refine below_drewN ?_ _ | refine Below.alloc' ?_ _ | (refine Below.setCell ?_ (by first | omega | (simp; done) | (simp; omega) | exact Below.size (by assumption) | exact Nat.le_trans (Below.size (by assumption)) (by simp)) _) | (refine Below.via' ?_ (by assumption)) | (refine Below.alloc ?_ (by first | omega | (simp; done) | (simp; omega) | exact Below.size (by assumption) | exact Nat.le_trans (Below.size (by assumption)) (by simp)) _) | (refine Below.via ?_ (by assumption) (by first | omega | (simp; done) | (simp; omega) | exact Below.size (by assumption) | exact Nat.le_trans (Below.size (by assumption)) (by simp)))))
            go_wp2
            go_roundw
            case rel => exact ⟨k + 1, by omega, by go_num, by rw [← hsel.out]; exact own_below hownh.out hbw, hqh.out.below hbw, hBx.trans (hbw.mono hBx.size)⟩
            case measure => simp [intOf]; omega
          · have hsel : Hid ((fcA (eM Q) (dV (pM P)) i k).set i (fcZ q.L ((dV (pM P)).take k) + 1) = fcA (eM Q) (dV (pM P)) i (k + 1)) := fcA_set hqe.out (by rw [htk.out, fcZ_yes hh])
            go_wp2_with fail
            refine (failsEdit_any _ _ _ _ q.L p.L _ hfi.out (hE2.out.below (by exact (by repeat (first | exact Below.refl _ _ | assumption | refine Below.drew ?_ | refine below_drewN ?_ _ | refine Below.alloc' ?_ _ | (refine Below.setCell ?_ (by first | omega | (simp; done) | (simp; omega) | exact Below.size (by assumption) | exact Nat.le_trans (Below.size (by assumption)) (by simp)) _) | (refine Below.via' ?_ (by assumption)) | (refine Below.alloc ?_ (by first | omega | (simp; done) | (simp; omega) | exact Below.size (by assumption) | exact Nat.le_trans (Below.size (by assumption)) (by simp)) _) | (refine Below.via ?_ (by assumption) (by first | omega | (simp; done) | (simp; omega) | exact Below.size (by assumption) | exact Nat.le_trans (Below.size (by assumption)) (by simp))))))) (hV.out.below (by exact (by repeat (first | exact Below.refl _ _ | assumption | refine Below.drew ?_ | refine below_drewN ?_ _ | refine Below.alloc' ?_ _ | (refine Below.setCell ?_ (by first | omega | (simp; done) | (simp; omega) | exact Below.size (by assumption) | exact Nat.le_trans (Below.size (by assumption)) (by simp)) _) | (refine Below.via' ?_ (by assumption)) | (refine Below.alloc ?_ (by first | omega | (simp; done) | (simp; omega) | exact Below.size (by assumption) | exact Nat.le_trans (Below.size (by assumption)) (by simp)) _) | (refine Below.via ?_ (by assumption) (by first | omega | (simp; done) | (simp; omega) | exact Below.size (by assumption) | exact Nat.le_trans (Below.size (by assumption)) (by simp)))))))).mono ?_
            rintro e w6 ⟨rfl, hb6⟩
            rw [hh]
            have hbw : Below wr.heap.size wr w6 := (by repeat (first | exact Below.refl _ _ | assumption | refine Below.drew ?_ | refine below_drewN ?_ _ | refine Below.alloc' ?_ _ | (refine Below.setCell ?_ (by first | omega | (simp; done) | (simp; omega) | exact Below.size (by assumption) | exact Nat.le_trans (Below.size (by assumption)) (by simp)) _) | (refine Below.via' ?_ (by assumption)) | (refine Below.alloc ?_ (by first | omega | (simp; done) | (simp; omega) | exact Below.size (by assumption) | exact Nat.le_trans (Below.size (by assumption)) (by simp)) _) | (refine Below.via ?_ (by assumption) (by first | omega | (simp; done) | (simp; omega) | exact Below.size (by assumption) | exact Nat.le_trans (Below.size (by assumption)) (by simp)))))
            have ho6 := own_below hownh.out hbw
            obtain ⟨u0, hu0, k0⟩ := own_cell ho6 (j := i) (by omega)
            obtain rfl : u0 = .int .i64 (fcZ q.L ((dV (pM P)).take k)) := Option.some.inj (hu0.symm.trans (iC_at (fcA_at hqe.out)))
            have k2 := ho6.frozenAt i
            have k4 := (own_lt ho6).2
            have hq6 := Lib.hid (hqh.out.below hbw)
            have hBx6 := hBx.trans (hbw.mono hBx.size)
            have hst := Lib.hid (ho6.stored i (.int .i64 (fcZ q.L ((dV (pM P)).take k) + 1)))
            have hw4 : w3.heap.size < wo.heap.size := hs4
            clear hu0 ho6 ka kb kc hb6
            go_wp2
            go_roundw
            case rel => exact ⟨k + 1, by omega, by go_num, by rw [← hsel.out, iC_setE]; exact hst.out.1, hq6.out.grown hst.out.2 (fun e => by injection e with e; omega), (by repeat (first | exact Below.refl _ _ | assumption | refine Below.drew ?_ | refine below_drewN ?_ _ | refine Below.alloc' ?_ _ | (refine Below.setCell ?_ (by first | omega | (simp; done) | (simp; omega) | exact Below.size (by assumption) | exact Nat.le_trans (Below.size (by assumption)) (by simp)) _) | (refine Below.via' ?_ (by assumption)) | (refine Below.alloc ?_ (by first | omega | (simp; done) | (simp; omega) | exact Below.size (by assumption) | exact Nat.le_trans (Below.size (by assumption)) (by simp)) _) | (refine Below.via ?_ (by assumption) (by first | omega | (simp; done) | (simp; omega) | exact Below.size (by assumption) | exact Nat.le_trans (Below.size (by assumption)) (by simp)))))⟩
            case measure => simp [intOf]; omega
        · have hij : k = P.length := by omega
          subst hij
          have hnx : Hid (fcA (eM Q) (dV (pM P)) i P.length = fcA (eM Q) (dV (pM P)) (i + 1) 0) := by have h0 := fcA_next (D := dV (pM P)) hqe.out; rw [dV_len, hpl.out] at h0; exact h0
          go_wp2
          go_roundw
          case rel => exact ⟨i + 1, by omega, by go_num, by rw [← hnx.out]; exact hownh.out, hBx⟩
          case measure => simp [intOf]; omega
    · have hij : i = Q.length := by omega
      subst hij
      have hfin := Lib.hid (show fcA (eM Q) (dV (pM P)) Q.length 0 = fcL (eM Q) (dV (pM P)) by rw [← hel.out]; exact fcA_end _ _)
      go_wp2
      go_ret2
      exact retLB_yes hv.out (by rw [← hfin.out]; exact own_eq (own_more hownh.out hs3') (by rw [fcA_len, hel.out]) rfl) hBr

set_option maxHeartbeats 2000000 in
theorem sFC_x (x y z : Option Addr) (c1 c2 c3 : Nat) (S : List (ByteArray × Int)) (Q P : List PR) (w : World) (hS : SIn w x c1 S) (hQ : EIn w y Q) (hP : DIn w z P) :
    Calls Try.prog 14 #[.slice x S.length c1, .slice y Q.length c2, .slice z P.length c3] w (RetLB (eIf (sldB S (eM Q) (pM P)) (fcL (eM Q) (dV (pM P)))) (sldB S (eM Q) (pM P)) w) := by
  obtain ⟨i0, hii, hz0, hz1, hz2⟩ := info_parts Try.infoInt
  have hSh := Lib.hid hS
  have hQh := Lib.hid hQ
  have hPh := Lib.hid hP
  have hm := hS.1
  have hel := Lib.hid (eM_len Q)
  have hpl := Lib.hid (pM_len P)
  clear hS hQ hP
  go_enter Try.func14, Try.ntmps14
  go_wp2_with fail
  refine (eList_any _ _ _ _ S Q _ (hSh.out.below (by exact (by repeat (first | exact Below.refl _ _ | assumption | refine Below.drew ?_ | refine below_drewN ?_ _ | refine Below.alloc' ?_ _ | (refine Below.setCell ?_ (by first | omega | (simp; done) | (simp; omega) | exact Below.size (by assumption) | exact Nat.le_trans (Below.size (by assumption)) (by simp)) _) | (refine Below.via' ?_ (by assumption)) | (refine Below.alloc ?_ (by first | omega | (simp; done) | (simp; omega) | exact Below.size (by assumption) | exact Nat.le_trans (Below.size (by assumption)) (by simp)) _) | (refine Below.via ?_ (by assumption) (by first | omega | (simp; done) | (simp; omega) | exact Below.size (by assumption) | exact Nat.le_trans (Below.size (by assumption)) (by simp))))))) (hQh.out.below (by exact (by repeat (first | exact Below.refl _ _ | assumption | refine Below.drew ?_ | refine below_drewN ?_ _ | refine Below.alloc' ?_ _ | (refine Below.setCell ?_ (by first | omega | (simp; done) | (simp; omega) | exact Below.size (by assumption) | exact Nat.le_trans (Below.size (by assumption)) (by simp)) _) | (refine Below.via' ?_ (by assumption)) | (refine Below.alloc ?_ (by first | omega | (simp; done) | (simp; omega) | exact Below.size (by assumption) | exact Nat.le_trans (Below.size (by assumption)) (by simp)) _) | (refine Below.via ?_ (by assumption) (by first | omega | (simp; done) | (simp; omega) | exact Below.size (by assumption) | exact Nat.le_trans (Below.size (by assumption)) (by simp)))))))).mono ?_
  rintro e w2 ⟨rfl, hb2⟩
  cases he : elB S (eM Q)
  · have hv := Lib.hid (sld_no1 (R := pM P) he)
    go_wp2
    go_ret2
    exact retLB_no hv.out (by repeat (first | exact Below.refl _ _ | assumption | refine Below.drew ?_ | refine below_drewN ?_ _ | refine Below.alloc' ?_ _ | (refine Below.setCell ?_ (by first | omega | (simp; done) | (simp; omega) | exact Below.size (by assumption) | exact Nat.le_trans (Below.size (by assumption)) (by simp)) _) | (refine Below.via' ?_ (by assumption)) | (refine Below.alloc ?_ (by first | omega | (simp; done) | (simp; omega) | exact Below.size (by assumption) | exact Nat.le_trans (Below.size (by assumption)) (by simp)) _) | (refine Below.via ?_ (by assumption) (by first | omega | (simp; done) | (simp; omega) | exact Below.size (by assumption) | exact Nat.le_trans (Below.size (by assumption)) (by simp)))))
  have heh := Lib.hid he
  obtain ⟨g1, g2, g3⟩ := el_get he
  have hsh := Lib.hid g1
  have hl40 : Q.length ≤ 40 := by have := hel.out; omega
  have hedh := Lib.hid g3
  clear he g1 g2 g3
  go_wp2_with fail
  refine (dGood_any _ _ _ _ S P _ hsh.out hm (hSh.out.rd.below (by exact (by repeat (first | exact Below.refl _ _ | assumption | refine Below.drew ?_ | refine below_drewN ?_ _ | refine Below.alloc' ?_ _ | (refine Below.setCell ?_ (by first | omega | (simp; done) | (simp; omega) | exact Below.size (by assumption) | exact Nat.le_trans (Below.size (by assumption)) (by simp)) _) | (refine Below.via' ?_ (by assumption)) | (refine Below.alloc ?_ (by first | omega | (simp; done) | (simp; omega) | exact Below.size (by assumption) | exact Nat.le_trans (Below.size (by assumption)) (by simp)) _) | (refine Below.via ?_ (by assumption) (by first | omega | (simp; done) | (simp; omega) | exact Below.size (by assumption) | exact Nat.le_trans (Below.size (by assumption)) (by simp))))))) (hPh.out.below (by exact (by repeat (first | exact Below.refl _ _ | assumption | refine Below.drew ?_ | refine below_drewN ?_ _ | refine Below.alloc' ?_ _ | (refine Below.setCell ?_ (by first | omega | (simp; done) | (simp; omega) | exact Below.size (by assumption) | exact Nat.le_trans (Below.size (by assumption)) (by simp)) _) | (refine Below.via' ?_ (by assumption)) | (refine Below.alloc ?_ (by first | omega | (simp; done) | (simp; omega) | exact Below.size (by assumption) | exact Nat.le_trans (Below.size (by assumption)) (by simp)) _) | (refine Below.via ?_ (by assumption) (by first | omega | (simp; done) | (simp; omega) | exact Below.size (by assumption) | exact Nat.le_trans (Below.size (by assumption)) (by simp)))))))).mono ?_
  rintro e w3 ⟨rfl, hb3⟩
  cases hf : dokB S (pM P)
  · have hv := Lib.hid (sld_no2 (M := eM Q) hf)
    go_wp2
    go_ret2
    exact retLB_no hv.out (by repeat (first | exact Below.refl _ _ | assumption | refine Below.drew ?_ | refine below_drewN ?_ _ | refine Below.alloc' ?_ _ | (refine Below.setCell ?_ (by first | omega | (simp; done) | (simp; omega) | exact Below.size (by assumption) | exact Nat.le_trans (Below.size (by assumption)) (by simp)) _) | (refine Below.via' ?_ (by assumption)) | (refine Below.alloc ?_ (by first | omega | (simp; done) | (simp; omega) | exact Below.size (by assumption) | exact Nat.le_trans (Below.size (by assumption)) (by simp)) _) | (refine Below.via ?_ (by assumption) (by first | omega | (simp; done) | (simp; omega) | exact Below.size (by assumption) | exact Nat.le_trans (Below.size (by assumption)) (by simp)))))
  have hfh := Lib.hid hf
  have hp40 : P.length ≤ 40 := by have := dokB_len hf; have := hpl.out; omega
  clear hf
  have hv := Lib.hid (sld_yes heh.out hfh.out)
  have B3 : Below w.heap.size w w3 := (by repeat (first | exact Below.refl _ _ | assumption | refine Below.drew ?_ | refine below_drewN ?_ _ | refine Below.alloc' ?_ _ | (refine Below.setCell ?_ (by first | omega | (simp; done) | (simp; omega) | exact Below.size (by assumption) | exact Nat.le_trans (Below.size (by assumption)) (by simp)) _) | (refine Below.via' ?_ (by assumption)) | (refine Below.alloc ?_ (by first | omega | (simp; done) | (simp; omega) | exact Below.size (by assumption) | exact Nat.le_trans (Below.size (by assumption)) (by simp)) _) | (refine Below.via ?_ (by assumption) (by first | omega | (simp; done) | (simp; omega) | exact Below.size (by assumption) | exact Nat.le_trans (Below.size (by assumption)) (by simp)))))
  have hs3' := B3.size
  have hbb : i0.bytes * Q.length ≤ 281474976710656 := by rw [hz2]; omega
  have hmm : Q.length ≤ maxLen := by unfold maxLen; omega
  clear hb2 hb3
  go_wp2_with (at_make; go_loud (refine wpList_make_full _ rfl _ _ 28 rfl w3.heap.size 3 i0 (.int .i64 0) 1 Try.underlying28 hii hz0 hz1 .i64 .i64 _ _ Q.length rfl rfl rfl rfl hbb hmm (Nat.le_refl _) (fun w4 hown hgrow => ?_)))
  have hb4 : Below w.heap.size w w4 := B3.grown hgrow hs3' (by intro k hk; cases hk)
  have hs4 := (own_lt hown).2
  rw [made_zE] at hown
  clear hgrow hii hz0 hz1 hz2 hbb hmm
  have hown0 : Hid (w4.ownsRow w3.heap.size 3 1 (.slice (some ⟨w3.heap.size, 0, none⟩) Q.length Q.length) Q.length (iC (fcL (eM Q) ((dV (pM P)).take 0)))) := by rw [List.take_zero, fcL_nil, hel.out]; exact hown
  clear hown
  go_loopw [28] (fun c wr => ∃ r : Nat, r ≤ P.length ∧ c = .int .i64 r ∧ wr.ownsRow w3.heap.size 3 1 (.slice (some ⟨w3.heap.size, 0, none⟩) Q.length Q.length) Q.length (iC (fcL (eM Q) ((dV (pM P)).take r))) ∧ Below w.heap.size w wr) (fun c _ => P.length - (intOf c).toNat)
  case atStart => exact ⟨0, by omega, rfl, hown0.out, hb4⟩
  case round =>
    clear hown0 hb4 hs4
    obtain ⟨r, hr, rfl, hown, hBr⟩ := hrel
    obtain ⟨wo, rfl⟩ : ∃ q : World, q = wr := ⟨_, rfl⟩
    have hownh := Lib.hid hown
    have hs4 := (own_lt hown).2
    clear hown
    by_cases hlk : r < P.length
    · obtain ⟨bl2, off2, p, rfl, hbl2, hPp, hc1, hc2, hc3⟩ := (hPh.out.below hBr).2.2.rec hlk
      have hV := Lib.hid ((hPh.out.2.1 p (List.mem_of_getElem? hPp)).2.2.below hBr)
      have hpe := Lib.hid (dV_at hPp)
      have hfi := Lib.hid (fun E hE => fine_of hsh.out (hedh.out E hE) (rokB_get (dokB_mem hfh.out (List.mem_of_getElem? (pM_at hPp)))).2.2.2.2)
      have hlk' : (r : Int) < (P.length : Int) := by omega
      have hfl := feL_len (eM Q) p.L
      have hfl2 : (feL (eM Q) p.L).length ≤ 40 := by have := hel.out; omega
      clear hPp hfl
      go_wp2_with fail
      refine (eFailed_any _ _ _ _ Q p.L _ hl40 hfi.out (hQh.out.below (by exact (by repeat (first | exact Below.refl _ _ | assumption | refine Below.drew ?_ | refine below_drewN ?_ _ | refine Below.alloc' ?_ _ | (refine Below.setCell ?_ (by first | omega | (simp; done) | (simp; omega) | exact Below.size (by assumption) | exact Nat.le_trans (Below.size (by assumption)) (by simp)) _) | (refine Below.via' ?_ (by assumption)) | (refine Below.alloc ?_ (by first | omega | (simp; done) | (simp; omega) | exact Below.size (by assumption) | exact Nat.le_trans (Below.size (by assumption)) (by simp)) _) | (refine Below.via ?_ (by assumption) (by first | omega | (simp; done) | (simp; omega) | exact Below.size (by assumption) | exact Nat.le_trans (Below.size (by assumption)) (by simp))))))) (hV.out.below (by exact (by repeat (first | exact Below.refl _ _ | assumption | refine Below.drew ?_ | refine below_drewN ?_ _ | refine Below.alloc' ?_ _ | (refine Below.setCell ?_ (by first | omega | (simp; done) | (simp; omega) | exact Below.size (by assumption) | exact Nat.le_trans (Below.size (by assumption)) (by simp)) _) | (refine Below.via' ?_ (by assumption)) | (refine Below.alloc ?_ (by first | omega | (simp; done) | (simp; omega) | exact Below.size (by assumption) | exact Nat.le_trans (Below.size (by assumption)) (by simp)) _) | (refine Below.via ?_ (by assumption) (by first | omega | (simp; done) | (simp; omega) | exact Below.size (by assumption) | exact Nat.le_trans (Below.size (by assumption)) (by simp)))))))).mono ?_
      rintro e w5 ⟨u5, rfl, ho5, hb5⟩
      have hbw : Below wo.heap.size wo w5 := (by repeat (first | exact Below.refl _ _ | assumption | refine Below.drew ?_ | refine below_drewN ?_ _ | refine Below.alloc' ?_ _ | (refine Below.setCell ?_ (by first | omega | (simp; done) | (simp; omega) | exact Below.size (by assumption) | exact Nat.le_trans (Below.size (by assumption)) (by simp)) _) | (refine Below.via' ?_ (by assumption)) | (refine Below.alloc ?_ (by first | omega | (simp; done) | (simp; omega) | exact Below.size (by assumption) | exact Nat.le_trans (Below.size (by assumption)) (by simp)) _) | (refine Below.via ?_ (by assumption) (by first | omega | (simp; done) | (simp; omega) | exact Below.size (by assumption) | exact Nat.le_trans (Below.size (by assumption)) (by simp)))))
      obtain ⟨x5, n5, rfl, hn5, -⟩ := (OwR.of ho5).form
      have hF := Lib.hid (OwR.of ho5)
      have hz5 : wo.heap.size + 1 ≤ (wo.alloc (.cells #[.int .i64 p.a, .int .i64 p.h, .slice p.x p.L.length p.c] 40)).heap.size := by simp
      have hz5h := Lib.hid hz5
      clear ho5 hz5
      have ho5 := Lib.hid (own_below hownh.out hbw)
      have hBx5 := hBr.trans (hbw.mono hBr.size)
      have hst5 := Lib.hid (show w5.ownsRow w3.heap.size 3 1 (.slice (some ⟨w3.heap.size, 0, none⟩) Q.length Q.length) Q.length (iC (fcB (eM Q) (dV (pM P)) r p.L 0)) by rw [fcB_zero]; exact ho5.out)
      clear ho5
      go_wp2
      go_loopw [37] (fun c wx => ∃ t : Nat, t ≤ (feL (eM Q) p.L).length ∧ c = .int .i64 t ∧ wx.ownsRow w3.heap.size 3 1 (.slice (some ⟨w3.heap.size, 0, none⟩) Q.length Q.length) Q.length (iC (fcB (eM Q) (dV (pM P)) r p.L t)) ∧ Rd wx x5 (iC (feL (eM Q) p.L)) ∧ Below w.heap.size w wx) (fun c _ => (feL (eM Q) p.L).length - (intOf c).toNat)
      case atStart => exact ⟨0, by omega, rfl, hst5.out, hF.out.rd, hBx5⟩
      case round =>
        clear hst5 hbw hBx5 hb5
        obtain ⟨t, ht, rfl, hown, hrd, hBx⟩ := hrel
        have hownh := Lib.hid hown
        have hrdh := Lib.hid hrd
        have hs6 := (own_lt hown).2
        clear hown
        by_cases hlt : t < (feL (eM Q) p.L).length
        · obtain ⟨bl3, off3, v, hx5, hbl3, hFt, hc4⟩ := hrd.int hlt
          obtain ⟨j, rfl, hjl, -⟩ := pkUp_mem (List.mem_of_getElem? hFt)
          have hjQ : j < Q.length := by have := hel.out; omega
          obtain ⟨E, hE⟩ : ∃ E, (eM Q)[j]? = some E := ⟨_, List.getElem?_eq_getElem hjl⟩
          obtain ⟨s1, s2⟩ := fcB_step (D := dV (pM P)) (r := r) hE hFt
          obtain ⟨n0, n1⟩ := fcZ_bd E ((dV (pM P)).take r)
          have n2 := take_le_len (L := dV (pM P)) (i := r)
          obtain ⟨u0, hu0, k0⟩ := own_cell hownh.out (j := j) (by omega)
          obtain rfl : u0 = .int .i64 (fcZ E ((dV (pM P)).take r)) := Option.some.inj (hu0.symm.trans (iC_at s1))
          have k2 := hownh.out.frozenAt j
          have hst := Lib.hid (hownh.out.stored j (.int .i64 (fcZ E ((dV (pM P)).take r) + 1)))
          have hne := Lib.hid (show ∀ b off, x5 = some ⟨b, off, none⟩ → some b ≠ (Value.slice (some ⟨w3.heap.size, 0, none⟩) Q.length Q.length).ownBlock by
            intro b off hx e
            have := (hF.out.2 b (by rw [hx]; rfl)).1
            have := hz5h.out
            have e2 : some b = some w3.heap.size := e
            injection e2 with e2
            omega)
          have hlt' : (t : Int) < ((feL (eM Q) p.L).length : Int) := by omega
          have ht0 : (0 : Int) ≤ (t : Int) := by omega
          have hj' : (j : Int) < (Q.length : Int) := by omega
          have hj0 : (0 : Int) ≤ (j : Int) := by omega
          have s2h := Lib.hid s2
          have hx5h := Lib.hid hx5
          clear hu0 s1 s2 hE hFt hrd hjl hx5
          rw [hx5h.out]
          go_wp2
          go_roundw
          case rel => exact ⟨t + 1, by omega, by go_num, by rw [← s2h.out, iC_setE]; exact hst.out.1, (by first | exact hrdh.out.keep hst.out.2 hne.out | (rw [← hx5h.out]; exact hrdh.out.keep hst.out.2 hne.out)), (by repeat (first | exact Below.refl _ _ | assumption | refine Below.drew ?_ | refine below_drewN ?_ _ | refine Below.alloc' ?_ _ | (refine Below.setCell ?_ (by first | omega | (simp; done) | (simp; omega) | exact Below.size (by assumption) | exact Nat.le_trans (Below.size (by assumption)) (by simp)) _) | (refine Below.via' ?_ (by assumption)) | (refine Below.alloc ?_ (by first | omega | (simp; done) | (simp; omega) | exact Below.size (by assumption) | exact Nat.le_trans (Below.size (by assumption)) (by simp)) _) | (refine Below.via ?_ (by assumption) (by first | omega | (simp; done) | (simp; omega) | exact Below.size (by assumption) | exact Nat.le_trans (Below.size (by assumption)) (by simp)))))⟩
          case measure => simp [intOf]; omega
        · have hij : t = (feL (eM Q) p.L).length := by omega
          subst hij
          have hnx : Hid (fcB (eM Q) (dV (pM P)) r p.L (feL (eM Q) p.L).length = fcL (eM Q) ((dV (pM P)).take (r + 1))) := fcB_full hpe.out
          clear hrd
          go_wp2
          go_roundw
          case rel => exact ⟨r + 1, by omega, by go_num, by rw [← hnx.out]; exact hownh.out, hBx⟩
          case measure => simp [intOf]; omega
    · have hij : r = P.length := by omega
      subst hij
      have hfin := Lib.hid (show fcL (eM Q) ((dV (pM P)).take P.length) = fcL (eM Q) (dV (pM P)) by rw [← hpl.out, ← dV_len, List.take_length])
      go_wp2
      go_ret2
      exact retLB_yes hv.out (by rw [← hfin.out]; exact own_eq (own_more hownh.out hs3') (by rw [fcL_len, hel.out]) rfl) hBr
theorem sFC_m (x y z : Option Addr) (c1 c2 c3 : Nat) (S : List (ByteArray × Int)) (Q P : List PR) (w : World) (hS : SIn w x c1 S) (hQ : EIn w y Q) (hP : DIn w z P) (M : List (List Int)) (hM : eM Q = M) (R : List RV) (hR : pM P = R) :
    Calls Try.prog 14 #[.slice x S.length c1, .slice y Q.length c2, .slice z P.length c3] w (RetLB (eIf (sldB S M R) (fcL M (dV R))) (sldB S M R) w) := by subst hM hR; exact sFC_x x y z c1 c2 c3 S Q P w hS hQ hP
theorem iFC_m (x y z : Option Addr) (c1 c2 c3 : Nat) (S : List (ByteArray × Int)) (Q P : List PR) (w : World) (hS : SIn w x c1 S) (hQ : EIn w y Q) (hP : DIn w z P) (M : List (List Int)) (hM : eM Q = M) (R : List RV) (hR : pM P = R) :
    Calls Try.prog 13 #[.slice x S.length c1, .slice y Q.length c2, .slice z P.length c3] w (RetLB (eIf (sldB S M R) (fcL M (dV R))) (sldB S M R) w) := by subst hM hR; exact iFC_x x y z c1 c2 c3 S Q P w hS hQ hP
theorem sld_len {S : List (ByteArray × Int)} {M : List (List Int)} {R : List RV} (h : sldB S M R = true) : M.length ≤ 40 := by
  unfold sldB at h
  rw [Bool.and_eq_true] at h
  exact (el_get h.1).2.1
end Go.Proofs.Ytjbhmofaackjpaa
