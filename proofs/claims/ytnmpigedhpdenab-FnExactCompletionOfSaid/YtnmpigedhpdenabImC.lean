/-
  The walks of chapter 6: completions; the model's search, and the program's helpers.
-/
import Derived.Test.YtnmpigedhpdenabImN
import Derived.Test.YtnmpigedhpdenabImT
namespace Go.Proofs.Ytnmpigedhpdenab
open Go.RowKit Go.Shelf
set_option maxRecDepth 100000

theorem fit_at {S : List (ByteArray × Int)} {V : List Int} (hV : fitB S V = true) {F : List Int} (hF : rsB S F = true) {v : Int} (hv : v ∈ F) : ∃ n : Nat, v = (n : Int) ∧ n < S.length ∧ n < V.length := by
  have h := rs_bd hF v hv
  have h2 := fit_len hV
  exact ⟨v.toNat, by omega, by omega, by omega⟩
/-- What the model's search hands back. -/
def EcP (S : List (ByteArray × Int)) (M : List (List Int)) (F V : List Int) (w : World) (e : Ending) (w' : World) : Prop :=
  ∃ u, e = .returned (.tuple #[u, .bool (coN S M F V).isSome]) ∧ w'.ownsRow w.heap.size 3 1 u (coL S M F V).length (iC (coL S M F V)) ∧ Below w.heap.size w w'
set_option maxHeartbeats 8000000 in
theorem eComplete_any (x y f z : Option Addr) (c1 c2 c3 c4 : Nat) (S : List (ByteArray × Int)) (Q : List PR) (F V : List Int) (w : World) (hg : cgG S (eM Q) F V = true) (hS : SIn w x c1 S) (hQ : EIn w y Q) (hF : IIn w f F) (hV : IIn w z V) :
    Calls Try.prog 136 #[.slice x S.length c1, .slice y Q.length c2, .slice f F.length c3, .slice z V.length c4] w (EcP S (eM Q) F V w) := by
  obtain ⟨g1, g2, g3⟩ := cg_get hg
  obtain ⟨e1, e2, e3⟩ := el_get (sm_get g1).1
  have hSh := Lib.hid hS
  have hQh := Lib.hid hQ
  have hFh := Lib.hid hF
  have hVh := Lib.hid hV
  have hm := hS.1
  have hFl := hF.1
  have hsh := Lib.hid e1
  have hedh := Lib.hid e3
  have hq40 : Q.length ≤ 40 := by rw [eM_len] at e2; exact e2
  obtain ⟨n1, n2⟩ := cn_all e1
  obtain ⟨N, hN⟩ : ∃ N : Nat, cnZ S = (N : Int) := ⟨(cnZ S).toNat, by omega⟩
  have hN2 : N ≤ 262144 := by omega
  have hNh := Lib.hid hN
  have hcn : Hid (coN S (eM Q) F V = ftN (coP S (eM Q) F V) N) := by unfold Hid coN; rw [show (cnZ S).toNat = N by omega]
  have hat := Lib.hid (fun v (hv : v ∈ F) => fit_at g3 g2 hv)
  have hvl := Lib.hid (fit_len g3)
  clear hS hQ hF hV hg g1 g2 g3 e1 e2 e3 n1 n2 hN
  go_enter Try.func136, Try.ntmps136
  go_wp2
  go_loopw [10] (fun c wr => ∃ i : Nat, i ≤ N ∧ c = .int .i64 i ∧ Hid (ftN (coP S (eM Q) F V) i = none) ∧ Below w.heap.size w wr) (fun c _ => N - (intOf c).toNat)
  case atStart => exact ⟨0, by omega, by first | rfl | go_num, rfl, Below.refl _ _⟩
  case round =>
    obtain ⟨i, hi, rfl, hnone, hBr⟩ := hrel
    have hNN := hNh.out
    go_wp2_with fail
    refine (sCount_any _ _ S _ hsh.out hm (hSh.out.rd.below hBr)).mono ?_
    rintro e w2 ⟨rfl, hb2⟩
    rw [hNN]
    have hB2 : Below w.heap.size w w2 := (by repeat (first | exact Below.refl _ _ | assumption | refine Below.drew ?_ | refine below_drewN ?_ _ | refine Below.alloc' ?_ _ | (refine Below.setCell ?_ (by first | omega | (simp; done) | (simp; omega) | exact Below.size (by assumption) | exact Nat.le_trans (Below.size (by assumption)) (by simp)) _) | (refine Below.via' ?_ (by assumption)) | (refine Below.alloc ?_ (by first | omega | (simp; done) | (simp; omega) | exact Below.size (by assumption) | exact Nat.le_trans (Below.size (by assumption)) (by simp)) _) | (refine Below.via ?_ (by assumption) (by first | omega | (simp; done) | (simp; omega) | exact Below.size (by assumption) | exact Nat.le_trans (Below.size (by assumption)) (by simp)))))
    clear hNN
    by_cases hlt : i < N
    · have hlt' : (i : Int) < (N : Int) := by omega
      go_wp2_with fail
      refine (sAt_any _ _ S i _ hsh.out (by omega) (by omega) hm (hSh.out.rd.below hB2)).mono ?_
      rintro e w3 ⟨u3, rfl, ho3, hb3⟩
      obtain ⟨x3, n3, rfl, -, -⟩ := (OwR.of ho3).form
      have hin := Lib.hid (atL_iin hsh.out (show (0 : Int) ≤ (i : Int) by omega) (Rd.of_own ho3))
      have hB3 : Below w.heap.size w w3 := (by repeat (first | exact Below.refl _ _ | assumption | refine Below.drew ?_ | refine below_drewN ?_ _ | refine Below.alloc' ?_ _ | (refine Below.setCell ?_ (by first | omega | (simp; done) | (simp; omega) | exact Below.size (by assumption) | exact Nat.le_trans (Below.size (by assumption)) (by simp)) _) | (refine Below.via' ?_ (by assumption)) | (refine Below.alloc ?_ (by first | omega | (simp; done) | (simp; omega) | exact Below.size (by assumption) | exact Nat.le_trans (Below.size (by assumption)) (by simp)) _) | (refine Below.via ?_ (by assumption) (by first | omega | (simp; done) | (simp; omega) | exact Below.size (by assumption) | exact Nat.le_trans (Below.size (by assumption)) (by simp)))))
      have own3 := Lib.hid (own_more ho3 hB2.size)
      clear ho3
      go_wp2_with fail
      refine (eFailed_any _ _ _ _ Q (atL S i) _ hq40 (fun E hE => fine_of hsh.out (hedh.out E hE) (at_fitE hsh.out (by omega))) (hQh.out.below hB3) hin.out).mono ?_
      rintro e w4 ⟨u4, rfl, ho4, hb4⟩
      obtain ⟨x4, n4, rfl, -, -⟩ := (OwR.of ho4).form
      have own4 := Lib.hid (own_below own3.out hb4)
      have hin4 := Lib.hid (hin.out.below hb4)
      have hB4 : Below w.heap.size w w4 := (by repeat (first | exact Below.refl _ _ | assumption | refine Below.drew ?_ | refine below_drewN ?_ _ | refine Below.alloc' ?_ _ | (refine Below.setCell ?_ (by first | omega | (simp; done) | (simp; omega) | exact Below.size (by assumption) | exact Nat.le_trans (Below.size (by assumption)) (by simp)) _) | (refine Below.via' ?_ (by assumption)) | (refine Below.alloc ?_ (by first | omega | (simp; done) | (simp; omega) | exact Below.size (by assumption) | exact Nat.le_trans (Below.size (by assumption)) (by simp)) _) | (refine Below.via ?_ (by assumption) (by first | omega | (simp; done) | (simp; omega) | exact Below.size (by assumption) | exact Nat.le_trans (Below.size (by assumption)) (by simp)))))
      have hal := Lib.hid (atL_len S (i : Int))
      clear ho4 hb3 hb4 hin hB3 hB2 hb2 own3
      obtain ⟨b0, hb0⟩ : ∃ b0 : Bool, b0 = !faB (eM Q) (atL S i) := ⟨_, rfl⟩
      have hz : (((feL (eM Q) (atL S i)).length : Int) == 0) = b0 := by
        rw [hb0]
        cases hfa : faB (eM Q) (atL S i)
        · have := fe_none.2 hfa
          show _ = true
          rw [beq_iff_eq]
          omega
        · show _ = false
          rw [beq_eq_false_iff_ne]
          intro h
          have := fe_none.1 (show (feL (eM Q) (atL S i)).length = 0 by omega)
          rw [hfa] at this
          cases this
      replace hb0 := Lib.hid hb0
      go_wp2
      go_loopw [12, 31] (fun fv c wr2 => ∃ j : Nat, j ≤ F.length ∧ c = .int .i64 j ∧ fv = .bool (b0 && agB (F.take j) V (atL S i)) ∧ Below w4.heap.size w4 wr2) (fun _ c _ => F.length - (intOf c).toNat)
      case atStart => exact ⟨0, by omega, by first | rfl | go_num, by rw [ag_zero, Bool.and_true], Below.refl _ _⟩
      case round =>
        obtain ⟨j, hj, rfl, rfl, hBj⟩ := hrel
        have hBw : Below w.heap.size w wr := hB4.trans (hBj.mono hB4.size)
        by_cases hjl : j < F.length
        · obtain ⟨bl, off, v, rfl, hbl, hFj, hc0⟩ := (hFh.out.below hBw).2.2.int hjl
          obtain ⟨vn, rfl, hv1, hv2⟩ := hat.out v (List.mem_of_getElem? hFj)
          have hsn := Lib.hid (ag_snoc (V := V) (x := atL S i) hFj)
          obtain ⟨bl2, off2, a, rfl, hbl2, hVj, hc1⟩ := (hVh.out.below hBw).2.2.int (i := vn) hv2
          obtain ⟨bl3, off3, d, rfl, hbl3, hXj, hc2⟩ := (hin4.out.below hBj).2.2.int (i := vn) (by rw [hal.out]; exact hv1)
          have hjl' : (j : Int) < (F.length : Int) := by omega
          have hj0 : (0 : Int) ≤ (j : Int) := by omega
          have hvn0 : (0 : Int) ≤ (vn : Int) := by omega
          have hvV : (vn : Int) < (V.length : Int) := by omega
          have hvX : (vn : Int) < ((atL S i).length : Int) := by rw [hal.out]; omega
          have hstep : Hid ((b0 && agB (F.take (j + 1)) V (atL S i)) = ((b0 && agB (F.take j) V (atL S i)) && (d == a))) := by
            unfold Hid
            rw [hsn.out, Int.toNat_natCast, hXj, hVj, Bool.and_assoc]
            congr 2
            rw [Bool.eq_iff_iff]
            simp
          replace hFj := Lib.hid hFj
          replace hVj := Lib.hid hVj
          replace hXj := Lib.hid hXj
          cases hcur : (b0 && agB (F.take j) V (atL S i))
          · rw [hcur] at hstep
            go_wp2
            go_region
            all_goals
              go_wp2
              go_roundw
              case rel => exact ⟨j + 1, by omega, by go_num, by rw [hstep.out]; rfl, (by repeat (first | exact Below.refl _ _ | assumption | refine Below.drew ?_ | refine below_drewN ?_ _ | refine Below.alloc' ?_ _ | (refine Below.setCell ?_ (by first | omega | (simp; done) | (simp; omega) | exact Below.size (by assumption) | exact Nat.le_trans (Below.size (by assumption)) (by simp)) _) | (refine Below.via' ?_ (by assumption)) | (refine Below.alloc ?_ (by first | omega | (simp; done) | (simp; omega) | exact Below.size (by assumption) | exact Nat.le_trans (Below.size (by assumption)) (by simp)) _) | (refine Below.via ?_ (by assumption) (by first | omega | (simp; done) | (simp; omega) | exact Below.size (by assumption) | exact Nat.le_trans (Below.size (by assumption)) (by simp)))))⟩
              case measure => simp [intOf]; omega
          · rw [hcur] at hstep
            go_wp2
            go_region
            all_goals
              go_wp2
              go_roundw
              case rel => exact ⟨j + 1, by omega, by go_num, by rw [hstep.out]; rfl, (by repeat (first | exact Below.refl _ _ | assumption | refine Below.drew ?_ | refine below_drewN ?_ _ | refine Below.alloc' ?_ _ | (refine Below.setCell ?_ (by first | omega | (simp; done) | (simp; omega) | exact Below.size (by assumption) | exact Nat.le_trans (Below.size (by assumption)) (by simp)) _) | (refine Below.via' ?_ (by assumption)) | (refine Below.alloc ?_ (by first | omega | (simp; done) | (simp; omega) | exact Below.size (by assumption) | exact Nat.le_trans (Below.size (by assumption)) (by simp)) _) | (refine Below.via ?_ (by assumption) (by first | omega | (simp; done) | (simp; omega) | exact Below.size (by assumption) | exact Nat.le_trans (Below.size (by assumption)) (by simp)))))⟩
              case measure => simp [intOf]; omega
        · have hij : j = F.length := by omega
          subst hij
          have hco : Hid ((b0 && agB (F.take F.length) V (atL S i)) = coP S (eM Q) F V i) := by unfold Hid; rw [List.take_length, coP_eq, hb0.out]
          have own5 := Lib.hid (own_below own4.out hBj)
          cases hcur : (b0 && agB (F.take F.length) V (atL S i))
          · rw [hcur] at hco
            have hn2 := Lib.hid (ft_next hnone.out hco.out.symm)
            go_wp2
            go_roundw
            case rel => exact ⟨i + 1, by omega, by go_num, hn2.out, hBw⟩
            case measure => simp [intOf]; omega
          · rw [hcur] at hco
            have hf := Lib.hid (hcn.out.trans (ft_found hlt hnone.out hco.out.symm))
            have hL := Lib.hid (co_some hf.out)
            go_wp2
            go_ret2
            refine ⟨.slice x3 (atL S i).length n3, ?_, ?_, hBw⟩
            · rw [hf.out]; rfl
            · rw [hL.out]; exact own5.out
    · have hij : i = N := by omega
      subst hij
      have hf := Lib.hid (hcn.out.trans hnone.out)
      have hL := Lib.hid (co_none hf.out)
      go_wp2
      go_ret2
      refine ⟨.slice none 0 0, ?_, ?_, hB2⟩
      · rw [hf.out]; rfl
      · rw [hL.out]; exact World.ownsRow_nil _ _ _ _
set_option maxHeartbeats 1000000 in
theorem sKC_x (x y f z : Option Addr) (c1 c2 c3 c4 : Nat) (S : List (ByteArray × Int)) (Q : List PR) (F V : List Int) (w : World) (hS : SIn w x c1 S) (hQ : EIn w y Q) (hF : IIn w f F) (hV : IIn w z V) :
    Calls Try.prog 60 #[.slice x S.length c1, .slice y Q.length c2, .slice f F.length c3, .slice z V.length c4] w fun e w' => e = .returned (.tuple #[.bool (ccB S (eM Q) F V), .bool (cgG S (eM Q) F V)]) ∧ Below w.heap.size w w' := by
  have hSh := Lib.hid hS
  have hQh := Lib.hid hQ
  have hFh := Lib.hid hF
  have hVh := Lib.hid hV
  clear hS hQ hF hV
  go_enter Try.func60, Try.ntmps60
  go_wp2_with fail
  refine (eAsked_any _ _ _ _ _ _ _ _ S Q F V _ (hSh.out.below (by exact (by repeat (first | exact Below.refl _ _ | assumption | refine Below.drew ?_ | refine below_drewN ?_ _ | refine Below.alloc' ?_ _ | (refine Below.setCell ?_ (by first | omega | (simp; done) | (simp; omega) | exact Below.size (by assumption) | exact Nat.le_trans (Below.size (by assumption)) (by simp)) _) | (refine Below.via' ?_ (by assumption)) | (refine Below.alloc ?_ (by first | omega | (simp; done) | (simp; omega) | exact Below.size (by assumption) | exact Nat.le_trans (Below.size (by assumption)) (by simp)) _) | (refine Below.via ?_ (by assumption) (by first | omega | (simp; done) | (simp; omega) | exact Below.size (by assumption) | exact Nat.le_trans (Below.size (by assumption)) (by simp))))))) (hQh.out.below (by exact (by repeat (first | exact Below.refl _ _ | assumption | refine Below.drew ?_ | refine below_drewN ?_ _ | refine Below.alloc' ?_ _ | (refine Below.setCell ?_ (by first | omega | (simp; done) | (simp; omega) | exact Below.size (by assumption) | exact Nat.le_trans (Below.size (by assumption)) (by simp)) _) | (refine Below.via' ?_ (by assumption)) | (refine Below.alloc ?_ (by first | omega | (simp; done) | (simp; omega) | exact Below.size (by assumption) | exact Nat.le_trans (Below.size (by assumption)) (by simp)) _) | (refine Below.via ?_ (by assumption) (by first | omega | (simp; done) | (simp; omega) | exact Below.size (by assumption) | exact Nat.le_trans (Below.size (by assumption)) (by simp))))))) (hFh.out.below (by exact (by repeat (first | exact Below.refl _ _ | assumption | refine Below.drew ?_ | refine below_drewN ?_ _ | refine Below.alloc' ?_ _ | (refine Below.setCell ?_ (by first | omega | (simp; done) | (simp; omega) | exact Below.size (by assumption) | exact Nat.le_trans (Below.size (by assumption)) (by simp)) _) | (refine Below.via' ?_ (by assumption)) | (refine Below.alloc ?_ (by first | omega | (simp; done) | (simp; omega) | exact Below.size (by assumption) | exact Nat.le_trans (Below.size (by assumption)) (by simp)) _) | (refine Below.via ?_ (by assumption) (by first | omega | (simp; done) | (simp; omega) | exact Below.size (by assumption) | exact Nat.le_trans (Below.size (by assumption)) (by simp))))))) (hVh.out.below (by exact (by repeat (first | exact Below.refl _ _ | assumption | refine Below.drew ?_ | refine below_drewN ?_ _ | refine Below.alloc' ?_ _ | (refine Below.setCell ?_ (by first | omega | (simp; done) | (simp; omega) | exact Below.size (by assumption) | exact Nat.le_trans (Below.size (by assumption)) (by simp)) _) | (refine Below.via' ?_ (by assumption)) | (refine Below.alloc ?_ (by first | omega | (simp; done) | (simp; omega) | exact Below.size (by assumption) | exact Nat.le_trans (Below.size (by assumption)) (by simp)) _) | (refine Below.via ?_ (by assumption) (by first | omega | (simp; done) | (simp; omega) | exact Below.size (by assumption) | exact Nat.le_trans (Below.size (by assumption)) (by simp)))))))).mono ?_
  rintro e w1 ⟨rfl, hb1⟩
  cases hg : cgG S (eM Q) F V
  · have hv := Lib.hid (cc_no hg)
    have hgh := Lib.hid hg
    go_wp2
    go_ret2
    exact ⟨ret_bbE hv.out.symm hgh.out.symm, (by repeat (first | exact Below.refl _ _ | assumption | refine Below.drew ?_ | refine below_drewN ?_ _ | refine Below.alloc' ?_ _ | (refine Below.setCell ?_ (by first | omega | (simp; done) | (simp; omega) | exact Below.size (by assumption) | exact Nat.le_trans (Below.size (by assumption)) (by simp)) _) | (refine Below.via' ?_ (by assumption)) | (refine Below.alloc ?_ (by first | omega | (simp; done) | (simp; omega) | exact Below.size (by assumption) | exact Nat.le_trans (Below.size (by assumption)) (by simp)) _) | (refine Below.via ?_ (by assumption) (by first | omega | (simp; done) | (simp; omega) | exact Below.size (by assumption) | exact Nat.le_trans (Below.size (by assumption)) (by simp)))))⟩
  have hv := Lib.hid (cc_ok hg)
  have hgh := Lib.hid hg
  clear hg
  go_wp2_with fail
  refine (eComplete_any _ _ _ _ _ _ _ _ S Q F V _ hgh.out (hSh.out.below (by exact (by repeat (first | exact Below.refl _ _ | assumption | refine Below.drew ?_ | refine below_drewN ?_ _ | refine Below.alloc' ?_ _ | (refine Below.setCell ?_ (by first | omega | (simp; done) | (simp; omega) | exact Below.size (by assumption) | exact Nat.le_trans (Below.size (by assumption)) (by simp)) _) | (refine Below.via' ?_ (by assumption)) | (refine Below.alloc ?_ (by first | omega | (simp; done) | (simp; omega) | exact Below.size (by assumption) | exact Nat.le_trans (Below.size (by assumption)) (by simp)) _) | (refine Below.via ?_ (by assumption) (by first | omega | (simp; done) | (simp; omega) | exact Below.size (by assumption) | exact Nat.le_trans (Below.size (by assumption)) (by simp))))))) (hQh.out.below (by exact (by repeat (first | exact Below.refl _ _ | assumption | refine Below.drew ?_ | refine below_drewN ?_ _ | refine Below.alloc' ?_ _ | (refine Below.setCell ?_ (by first | omega | (simp; done) | (simp; omega) | exact Below.size (by assumption) | exact Nat.le_trans (Below.size (by assumption)) (by simp)) _) | (refine Below.via' ?_ (by assumption)) | (refine Below.alloc ?_ (by first | omega | (simp; done) | (simp; omega) | exact Below.size (by assumption) | exact Nat.le_trans (Below.size (by assumption)) (by simp)) _) | (refine Below.via ?_ (by assumption) (by first | omega | (simp; done) | (simp; omega) | exact Below.size (by assumption) | exact Nat.le_trans (Below.size (by assumption)) (by simp))))))) (hFh.out.below (by exact (by repeat (first | exact Below.refl _ _ | assumption | refine Below.drew ?_ | refine below_drewN ?_ _ | refine Below.alloc' ?_ _ | (refine Below.setCell ?_ (by first | omega | (simp; done) | (simp; omega) | exact Below.size (by assumption) | exact Nat.le_trans (Below.size (by assumption)) (by simp)) _) | (refine Below.via' ?_ (by assumption)) | (refine Below.alloc ?_ (by first | omega | (simp; done) | (simp; omega) | exact Below.size (by assumption) | exact Nat.le_trans (Below.size (by assumption)) (by simp)) _) | (refine Below.via ?_ (by assumption) (by first | omega | (simp; done) | (simp; omega) | exact Below.size (by assumption) | exact Nat.le_trans (Below.size (by assumption)) (by simp))))))) (hVh.out.below (by exact (by repeat (first | exact Below.refl _ _ | assumption | refine Below.drew ?_ | refine below_drewN ?_ _ | refine Below.alloc' ?_ _ | (refine Below.setCell ?_ (by first | omega | (simp; done) | (simp; omega) | exact Below.size (by assumption) | exact Nat.le_trans (Below.size (by assumption)) (by simp)) _) | (refine Below.via' ?_ (by assumption)) | (refine Below.alloc ?_ (by first | omega | (simp; done) | (simp; omega) | exact Below.size (by assumption) | exact Nat.le_trans (Below.size (by assumption)) (by simp)) _) | (refine Below.via ?_ (by assumption) (by first | omega | (simp; done) | (simp; omega) | exact Below.size (by assumption) | exact Nat.le_trans (Below.size (by assumption)) (by simp)))))))).mono ?_
  rintro e w2 ⟨u, rfl, -, hb2⟩
  go_wp2
  go_ret2
  exact ⟨ret_bbE hv.out.symm hgh.out.symm, (by repeat (first | exact Below.refl _ _ | assumption | refine Below.drew ?_ | refine below_drewN ?_ _ | refine Below.alloc' ?_ _ | (refine Below.setCell ?_ (by first | omega | (simp; done) | (simp; omega) | exact Below.size (by assumption) | exact Nat.le_trans (Below.size (by assumption)) (by simp)) _) | (refine Below.via' ?_ (by assumption)) | (refine Below.alloc ?_ (by first | omega | (simp; done) | (simp; omega) | exact Below.size (by assumption) | exact Nat.le_trans (Below.size (by assumption)) (by simp)) _) | (refine Below.via ?_ (by assumption) (by first | omega | (simp; done) | (simp; omega) | exact Below.size (by assumption) | exact Nat.le_trans (Below.size (by assumption)) (by simp)))))⟩
set_option maxHeartbeats 1000000 in
theorem sCO_x (x y f z : Option Addr) (c1 c2 c3 c4 : Nat) (S : List (ByteArray × Int)) (Q : List PR) (F V : List Int) (w : World) (hS : SIn w x c1 S) (hQ : EIn w y Q) (hF : IIn w f F) (hV : IIn w z V) :
    Calls Try.prog 64 #[.slice x S.length c1, .slice y Q.length c2, .slice f F.length c3, .slice z V.length c4] w (RetLB (eIf (ccB S (eM Q) F V) (coL S (eM Q) F V)) (ccB S (eM Q) F V) w) := by
  have hSh := Lib.hid hS
  have hQh := Lib.hid hQ
  have hFh := Lib.hid hF
  have hVh := Lib.hid hV
  clear hS hQ hF hV
  go_enter Try.func64, Try.ntmps64
  go_wp2_with fail
  refine (eAsked_any _ _ _ _ _ _ _ _ S Q F V _ (hSh.out.below (by exact (by repeat (first | exact Below.refl _ _ | assumption | refine Below.drew ?_ | refine below_drewN ?_ _ | refine Below.alloc' ?_ _ | (refine Below.setCell ?_ (by first | omega | (simp; done) | (simp; omega) | exact Below.size (by assumption) | exact Nat.le_trans (Below.size (by assumption)) (by simp)) _) | (refine Below.via' ?_ (by assumption)) | (refine Below.alloc ?_ (by first | omega | (simp; done) | (simp; omega) | exact Below.size (by assumption) | exact Nat.le_trans (Below.size (by assumption)) (by simp)) _) | (refine Below.via ?_ (by assumption) (by first | omega | (simp; done) | (simp; omega) | exact Below.size (by assumption) | exact Nat.le_trans (Below.size (by assumption)) (by simp))))))) (hQh.out.below (by exact (by repeat (first | exact Below.refl _ _ | assumption | refine Below.drew ?_ | refine below_drewN ?_ _ | refine Below.alloc' ?_ _ | (refine Below.setCell ?_ (by first | omega | (simp; done) | (simp; omega) | exact Below.size (by assumption) | exact Nat.le_trans (Below.size (by assumption)) (by simp)) _) | (refine Below.via' ?_ (by assumption)) | (refine Below.alloc ?_ (by first | omega | (simp; done) | (simp; omega) | exact Below.size (by assumption) | exact Nat.le_trans (Below.size (by assumption)) (by simp)) _) | (refine Below.via ?_ (by assumption) (by first | omega | (simp; done) | (simp; omega) | exact Below.size (by assumption) | exact Nat.le_trans (Below.size (by assumption)) (by simp))))))) (hFh.out.below (by exact (by repeat (first | exact Below.refl _ _ | assumption | refine Below.drew ?_ | refine below_drewN ?_ _ | refine Below.alloc' ?_ _ | (refine Below.setCell ?_ (by first | omega | (simp; done) | (simp; omega) | exact Below.size (by assumption) | exact Nat.le_trans (Below.size (by assumption)) (by simp)) _) | (refine Below.via' ?_ (by assumption)) | (refine Below.alloc ?_ (by first | omega | (simp; done) | (simp; omega) | exact Below.size (by assumption) | exact Nat.le_trans (Below.size (by assumption)) (by simp)) _) | (refine Below.via ?_ (by assumption) (by first | omega | (simp; done) | (simp; omega) | exact Below.size (by assumption) | exact Nat.le_trans (Below.size (by assumption)) (by simp))))))) (hVh.out.below (by exact (by repeat (first | exact Below.refl _ _ | assumption | refine Below.drew ?_ | refine below_drewN ?_ _ | refine Below.alloc' ?_ _ | (refine Below.setCell ?_ (by first | omega | (simp; done) | (simp; omega) | exact Below.size (by assumption) | exact Nat.le_trans (Below.size (by assumption)) (by simp)) _) | (refine Below.via' ?_ (by assumption)) | (refine Below.alloc ?_ (by first | omega | (simp; done) | (simp; omega) | exact Below.size (by assumption) | exact Nat.le_trans (Below.size (by assumption)) (by simp)) _) | (refine Below.via ?_ (by assumption) (by first | omega | (simp; done) | (simp; omega) | exact Below.size (by assumption) | exact Nat.le_trans (Below.size (by assumption)) (by simp)))))))).mono ?_
  rintro e w1 ⟨rfl, hb1⟩
  cases hg : cgG S (eM Q) F V
  · have hv := Lib.hid (cc_no hg)
    go_wp2
    go_ret2
    exact retLB_no hv.out (by repeat (first | exact Below.refl _ _ | assumption | refine Below.drew ?_ | refine below_drewN ?_ _ | refine Below.alloc' ?_ _ | (refine Below.setCell ?_ (by first | omega | (simp; done) | (simp; omega) | exact Below.size (by assumption) | exact Nat.le_trans (Below.size (by assumption)) (by simp)) _) | (refine Below.via' ?_ (by assumption)) | (refine Below.alloc ?_ (by first | omega | (simp; done) | (simp; omega) | exact Below.size (by assumption) | exact Nat.le_trans (Below.size (by assumption)) (by simp)) _) | (refine Below.via ?_ (by assumption) (by first | omega | (simp; done) | (simp; omega) | exact Below.size (by assumption) | exact Nat.le_trans (Below.size (by assumption)) (by simp)))))
  have hv := Lib.hid (cc_ok hg)
  have hgh := Lib.hid hg
  have hB1 : Below w.heap.size w w1 := (by repeat (first | exact Below.refl _ _ | assumption | refine Below.drew ?_ | refine below_drewN ?_ _ | refine Below.alloc' ?_ _ | (refine Below.setCell ?_ (by first | omega | (simp; done) | (simp; omega) | exact Below.size (by assumption) | exact Nat.le_trans (Below.size (by assumption)) (by simp)) _) | (refine Below.via' ?_ (by assumption)) | (refine Below.alloc ?_ (by first | omega | (simp; done) | (simp; omega) | exact Below.size (by assumption) | exact Nat.le_trans (Below.size (by assumption)) (by simp)) _) | (refine Below.via ?_ (by assumption) (by first | omega | (simp; done) | (simp; omega) | exact Below.size (by assumption) | exact Nat.le_trans (Below.size (by assumption)) (by simp)))))
  clear hg
  go_wp2_with fail
  refine (eComplete_any _ _ _ _ _ _ _ _ S Q F V _ hgh.out (hSh.out.below (by exact (by repeat (first | exact Below.refl _ _ | assumption | refine Below.drew ?_ | refine below_drewN ?_ _ | refine Below.alloc' ?_ _ | (refine Below.setCell ?_ (by first | omega | (simp; done) | (simp; omega) | exact Below.size (by assumption) | exact Nat.le_trans (Below.size (by assumption)) (by simp)) _) | (refine Below.via' ?_ (by assumption)) | (refine Below.alloc ?_ (by first | omega | (simp; done) | (simp; omega) | exact Below.size (by assumption) | exact Nat.le_trans (Below.size (by assumption)) (by simp)) _) | (refine Below.via ?_ (by assumption) (by first | omega | (simp; done) | (simp; omega) | exact Below.size (by assumption) | exact Nat.le_trans (Below.size (by assumption)) (by simp))))))) (hQh.out.below (by exact (by repeat (first | exact Below.refl _ _ | assumption | refine Below.drew ?_ | refine below_drewN ?_ _ | refine Below.alloc' ?_ _ | (refine Below.setCell ?_ (by first | omega | (simp; done) | (simp; omega) | exact Below.size (by assumption) | exact Nat.le_trans (Below.size (by assumption)) (by simp)) _) | (refine Below.via' ?_ (by assumption)) | (refine Below.alloc ?_ (by first | omega | (simp; done) | (simp; omega) | exact Below.size (by assumption) | exact Nat.le_trans (Below.size (by assumption)) (by simp)) _) | (refine Below.via ?_ (by assumption) (by first | omega | (simp; done) | (simp; omega) | exact Below.size (by assumption) | exact Nat.le_trans (Below.size (by assumption)) (by simp))))))) (hFh.out.below (by exact (by repeat (first | exact Below.refl _ _ | assumption | refine Below.drew ?_ | refine below_drewN ?_ _ | refine Below.alloc' ?_ _ | (refine Below.setCell ?_ (by first | omega | (simp; done) | (simp; omega) | exact Below.size (by assumption) | exact Nat.le_trans (Below.size (by assumption)) (by simp)) _) | (refine Below.via' ?_ (by assumption)) | (refine Below.alloc ?_ (by first | omega | (simp; done) | (simp; omega) | exact Below.size (by assumption) | exact Nat.le_trans (Below.size (by assumption)) (by simp)) _) | (refine Below.via ?_ (by assumption) (by first | omega | (simp; done) | (simp; omega) | exact Below.size (by assumption) | exact Nat.le_trans (Below.size (by assumption)) (by simp))))))) (hVh.out.below (by exact (by repeat (first | exact Below.refl _ _ | assumption | refine Below.drew ?_ | refine below_drewN ?_ _ | refine Below.alloc' ?_ _ | (refine Below.setCell ?_ (by first | omega | (simp; done) | (simp; omega) | exact Below.size (by assumption) | exact Nat.le_trans (Below.size (by assumption)) (by simp)) _) | (refine Below.via' ?_ (by assumption)) | (refine Below.alloc ?_ (by first | omega | (simp; done) | (simp; omega) | exact Below.size (by assumption) | exact Nat.le_trans (Below.size (by assumption)) (by simp)) _) | (refine Below.via ?_ (by assumption) (by first | omega | (simp; done) | (simp; omega) | exact Below.size (by assumption) | exact Nat.le_trans (Below.size (by assumption)) (by simp)))))))).mono ?_
  rintro e w2 ⟨u, rfl, ho2, hb2⟩
  have own2 := Lib.hid (own_more ho2 hB1.size)
  have hB2 : Below w.heap.size w w2 := (by repeat (first | exact Below.refl _ _ | assumption | refine Below.drew ?_ | refine below_drewN ?_ _ | refine Below.alloc' ?_ _ | (refine Below.setCell ?_ (by first | omega | (simp; done) | (simp; omega) | exact Below.size (by assumption) | exact Nat.le_trans (Below.size (by assumption)) (by simp)) _) | (refine Below.via' ?_ (by assumption)) | (refine Below.alloc ?_ (by first | omega | (simp; done) | (simp; omega) | exact Below.size (by assumption) | exact Nat.le_trans (Below.size (by assumption)) (by simp)) _) | (refine Below.via ?_ (by assumption) (by first | omega | (simp; done) | (simp; omega) | exact Below.size (by assumption) | exact Nat.le_trans (Below.size (by assumption)) (by simp)))))
  have hL : Hid (eIf (ccB S (eM Q) F V) (coL S (eM Q) F V) = coL S (eM Q) F V) := by
    unfold Hid
    cases h : coN S (eM Q) F V with
    | none => rw [co_none h]; unfold eIf; split <;> rfl
    | some k => exact eIf_t (by rw [hv.out, h]; rfl)
  clear ho2 hb1 hb2
  go_wp2
  go_ret2
  refine retLB_dec hv.out.symm ?_ hB2
  rw [hL.out]
  exact own2.out

/-- Do the values at a variable differ? -/
def dfB (x V : List Int) (n : Nat) : Bool := !decide (x[n]? = V[n]?)
set_option maxHeartbeats 1000000 in
theorem differs_any (BP BV : Nat) (xp xv : Option Addr) (cp cv : Nat) (X V : List Int) (n : Nat) (w : World) (hp : Boxed w BP 23 (.slice xp X.length cp)) (hv : Boxed w BV 23 (.slice xv V.length cv)) (hX : IIn w xp X) (hV : IIn w xv V) (h1 : n < X.length) (h2 : n < V.length) :
    Calls Try.prog 181 #[.int .i64 n, .pointer (some ⟨BP, 0, none⟩), .pointer (some ⟨BV, 0, none⟩)] w fun e w' => e = .returned (.bool (dfB X V n)) ∧ Below w.heap.size w w' := by
  obtain ⟨bl, off, a, rfl, hbl, hXn, hc0⟩ := hX.2.2.int h1
  obtain ⟨bl2, off2, d, rfl, hbl2, hVn, hc1⟩ := hV.2.2.int h2
  have p1 := hp.cell
  have p2 := hv.cell
  have hl1 := hX.1
  have hl2 := hV.1
  have q1 : (n : Int) < (X.length : Int) := by omega
  have q2 : (n : Int) < (V.length : Int) := by omega
  have q3 : (0 : Int) ≤ (n : Int) := by omega
  have hd : Hid ((a != d) = dfB X V n) := by
    unfold Hid dfB
    rw [hXn, hVn, Bool.eq_iff_iff]
    simp
  clear hp hv hX hV hXn hVn
  go_enter Try.func181, Try.ntmps181
  go_wp2
  first | go_quiet (fail) | go_region | fail
  all_goals
    go_wp2
    go_ret
    exact ⟨ret_bool hd.out, (by repeat (first | exact Below.refl _ _ | assumption | refine Below.drew ?_ | refine below_drewN ?_ _ | refine Below.alloc' ?_ _ | (refine Below.setCell ?_ (by first | omega | (simp; done) | (simp; omega) | exact Below.size (by assumption) | exact Nat.le_trans (Below.size (by assumption)) (by simp)) _) | (refine Below.via' ?_ (by assumption)) | (refine Below.alloc ?_ (by first | omega | (simp; done) | (simp; omega) | exact Below.size (by assumption) | exact Nat.le_trans (Below.size (by assumption)) (by simp)) _) | (refine Below.via ?_ (by assumption) (by first | omega | (simp; done) | (simp; omega) | exact Below.size (by assumption) | exact Nat.le_trans (Below.size (by assumption)) (by simp)))))⟩
set_option maxHeartbeats 2000000 in
theorem indexFunc_any (BP BV : Nat) (xp xv f : Option Addr) (cp cv cf : Nat) (X V F : List Int) (w : World) (hp : Boxed w BP 23 (.slice xp X.length cp)) (hv : Boxed w BV 23 (.slice xv V.length cv)) (hX : IIn w xp X) (hV : IIn w xv V) (hF : IIn w f F)
    (hat : ∀ v ∈ F, ∃ n : Nat, v = (n : Int) ∧ n < X.length ∧ n < V.length) :
    Calls Try.prog 199 #[.slice f F.length cf, .func (.func 181) #[] #[.pointer (some ⟨BP, 0, none⟩), .pointer (some ⟨BV, 0, none⟩)]] w fun e w' => (∃ r : Int, e = .returned (.int .i64 r) ∧ decide (0 ≤ r) = !agB F V X) ∧ Below w.heap.size w w' := by
  have hph := Lib.hid hp
  have hvh := Lib.hid hv
  have hXh := Lib.hid hX
  have hVh := Lib.hid hV
  have hFh := Lib.hid hF
  have hath := Lib.hid hat
  have hFl := hF.1
  clear hp hv hX hV hF hat
  go_enter Try.func199, Try.ntmps199
  go_wp2
  go_loopw [8] (fun c wr => ∃ i : Nat, i ≤ F.length ∧ c = .int .i64 i ∧ Hid (∀ j, j < i → ∃ v, F[j]? = some v ∧ X[v.toNat]? = V[v.toNat]?) ∧ Below w.heap.size w wr) (fun c _ => F.length - (intOf c).toNat)
  case atStart => exact ⟨0, by omega, rfl, (fun j hj => absurd hj (by omega)), Below.refl _ _⟩
  case round =>
    obtain ⟨i, hi, rfl, hall, hBr⟩ := hrel
    by_cases hlt : i < F.length
    · obtain ⟨bl, off, v, rfl, hbl, hFi, hc0⟩ := (hFh.out.below hBr).2.2.int hlt
      obtain ⟨n, rfl, h1, h2⟩ := hath.out v (List.mem_of_getElem? hFi)
      have hFih := Lib.hid hFi
      have hlt' : (i : Int) < (F.length : Int) := by omega
      have hi0 : (0 : Int) ≤ (i : Int) := by omega
      clear hFi
      cases hd : dfB X V n
      · have hdh : Hid (X[n]? = V[n]?) := by unfold Hid; unfold dfB at hd; simpa using hd
        go_wp2_with fail
        refine (differs_any BP BV _ _ _ _ X V n _ (boxed_below hph.out hBr) (boxed_below hvh.out hBr) (hXh.out.below hBr) (hVh.out.below hBr) h1 h2).mono ?_
        rintro e w2 ⟨rfl, hb2⟩
        rw [hd]
        go_wp2
        go_roundw
        case rel =>
          refine ⟨i + 1, by omega, by go_num, fun j hj => ?_, (by repeat (first | exact Below.refl _ _ | assumption | refine Below.drew ?_ | refine below_drewN ?_ _ | refine Below.alloc' ?_ _ | (refine Below.setCell ?_ (by first | omega | (simp; done) | (simp; omega) | exact Below.size (by assumption) | exact Nat.le_trans (Below.size (by assumption)) (by simp)) _) | (refine Below.via' ?_ (by assumption)) | (refine Below.alloc ?_ (by first | omega | (simp; done) | (simp; omega) | exact Below.size (by assumption) | exact Nat.le_trans (Below.size (by assumption)) (by simp)) _) | (refine Below.via ?_ (by assumption) (by first | omega | (simp; done) | (simp; omega) | exact Below.size (by assumption) | exact Nat.le_trans (Below.size (by assumption)) (by simp)))))⟩
          rcases Nat.lt_or_ge j i with hj2 | hj2
          · exact hall.out j hj2
          · obtain rfl : j = i := by omega
            exact ⟨_, hFih.out, by rw [Int.toNat_natCast]; exact hdh.out⟩
        case measure => simp [intOf]; omega
      · have hag := Lib.hid (ag_hit (V := V) (x := X) hFih.out (by unfold dfB at hd; rw [Int.toNat_natCast]; simpa using hd))
        go_wp2_with fail
        refine (differs_any BP BV _ _ _ _ X V n _ (boxed_below hph.out hBr) (boxed_below hvh.out hBr) (hXh.out.below hBr) (hVh.out.below hBr) h1 h2).mono ?_
        rintro e w2 ⟨rfl, hb2⟩
        rw [hd]
        go_wp2
        go_ret
        exact ⟨⟨(i : Int), rfl, by rw [hag.out]; simp⟩, (by repeat (first | exact Below.refl _ _ | assumption | refine Below.drew ?_ | refine below_drewN ?_ _ | refine Below.alloc' ?_ _ | (refine Below.setCell ?_ (by first | omega | (simp; done) | (simp; omega) | exact Below.size (by assumption) | exact Nat.le_trans (Below.size (by assumption)) (by simp)) _) | (refine Below.via' ?_ (by assumption)) | (refine Below.alloc ?_ (by first | omega | (simp; done) | (simp; omega) | exact Below.size (by assumption) | exact Nat.le_trans (Below.size (by assumption)) (by simp)) _) | (refine Below.via ?_ (by assumption) (by first | omega | (simp; done) | (simp; omega) | exact Below.size (by assumption) | exact Nat.le_trans (Below.size (by assumption)) (by simp)))))⟩
    · have hij : i = F.length := by omega
      subst hij
      have hag := Lib.hid (ag_all hall.out)
      clear hall
      go_wp2
      go_ret
      exact ⟨⟨-1, rfl, by rw [hag.out]; rfl⟩, hBr⟩
theorem containsFunc_any (BP BV : Nat) (xp xv f : Option Addr) (cp cv cf : Nat) (X V F : List Int) (w : World) (hp : Boxed w BP 23 (.slice xp X.length cp)) (hv : Boxed w BV 23 (.slice xv V.length cv)) (hX : IIn w xp X) (hV : IIn w xv V) (hF : IIn w f F)
    (hat : ∀ v ∈ F, ∃ n : Nat, v = (n : Int) ∧ n < X.length ∧ n < V.length) :
    Calls Try.prog 182 #[.slice f F.length cf, .func (.func 181) #[] #[.pointer (some ⟨BP, 0, none⟩), .pointer (some ⟨BV, 0, none⟩)]] w fun e w' => e = .returned (.bool (!agB F V X)) ∧ Below w.heap.size w w' := by
  have hc := Lib.hid (indexFunc_any BP BV xp xv f cp cv cf X V F w hp hv hX hV hF hat)
  clear hp hv hX hV hF hat
  go_enter Try.func182, Try.ntmps182
  go_wp2_with fail
  refine hc.out.mono ?_
  rintro e w2 ⟨⟨r, rfl, hr⟩, hb2⟩
  have hrh := Lib.hid hr
  clear hr hc
  by_cases h : 0 ≤ r
  · have hv := Lib.hid (hrh.out.symm.trans (decide_eq_true h))
    go_wp2
    go_ret
    exact ⟨ret_bool (by first | exact hv.out.symm | (rw [hv.out]; simp [h])), (by repeat (first | exact Below.refl _ _ | assumption | refine Below.drew ?_ | refine below_drewN ?_ _ | refine Below.alloc' ?_ _ | (refine Below.setCell ?_ (by first | omega | (simp; done) | (simp; omega) | exact Below.size (by assumption) | exact Nat.le_trans (Below.size (by assumption)) (by simp)) _) | (refine Below.via' ?_ (by assumption)) | (refine Below.alloc ?_ (by first | omega | (simp; done) | (simp; omega) | exact Below.size (by assumption) | exact Nat.le_trans (Below.size (by assumption)) (by simp)) _) | (refine Below.via ?_ (by assumption) (by first | omega | (simp; done) | (simp; omega) | exact Below.size (by assumption) | exact Nat.le_trans (Below.size (by assumption)) (by simp)))))⟩
  · have hv := Lib.hid (hrh.out.symm.trans (decide_eq_false h))
    go_wp2
    go_ret
    exact ⟨ret_bool (by first | exact hv.out.symm | (rw [hv.out]; simp [h])), (by repeat (first | exact Below.refl _ _ | assumption | refine Below.drew ?_ | refine below_drewN ?_ _ | refine Below.alloc' ?_ _ | (refine Below.setCell ?_ (by first | omega | (simp; done) | (simp; omega) | exact Below.size (by assumption) | exact Nat.le_trans (Below.size (by assumption)) (by simp)) _) | (refine Below.via' ?_ (by assumption)) | (refine Below.alloc ?_ (by first | omega | (simp; done) | (simp; omega) | exact Below.size (by assumption) | exact Nat.le_trans (Below.size (by assumption)) (by simp)) _) | (refine Below.via ?_ (by assumption) (by first | omega | (simp; done) | (simp; omega) | exact Below.size (by assumption) | exact Nat.le_trans (Below.size (by assumption)) (by simp)))))⟩
end Go.Proofs.Ytnmpigedhpdenab
