/-
  The walks of chapter 5: FirstPassing; the model's.
-/
import Derived.Test.YtfaobfgckfjnjaaEdP
namespace Go.Proofs.Ytfaobfgckfjnjaa
open Go.RowKit
set_option maxRecDepth 100000

/-- The first list of values, among the first n, that passes. -/
def fpN (S : List (ByteArray × Int)) (M : List (List Int)) : Nat → List Int
  | 0 => []
  | k + 1 => if cpN S M k = 0 ∧ faB M (atL S k) = false then atL S k else fpN S M k
section
variable {S : List (ByteArray × Int)} {M : List (List Int)} {k : Nat}
theorem fp_hit (h : faB M (atL S k) = false) (h0 : cpN S M k = 0) : fpN S M (k + 1) = atL S k := if_pos ⟨h0, h⟩
theorem fp_no (h : faB M (atL S k) = true) : fpN S M (k + 1) = fpN S M k := if_neg (by rw [h]; simp)
theorem fp_old (h0 : ¬ cpN S M k = 0) : fpN S M (k + 1) = fpN S M k := if_neg (fun h => h0 h.1)
theorem cp_up : cpN S M k ≤ cpN S M (k + 1) := by
  cases h : faB M (atL S k)
  · rw [cpN_yes h]; omega
  · rw [cpN_no h]; exact Nat.le_refl _
theorem fp_nil : ∀ {k : Nat}, cpN S M k = 0 → fpN S M k = []
  | 0, _ => rfl
  | k + 1, h => by
    have h1 := cp_up (S := S) (M := M) (k := k)
    have h2 : cpN S M k = 0 := by omega
    cases hf : faB M (atL S k)
    · rw [cpN_yes hf] at h; omega
    · rw [fp_no hf]; exact fp_nil h2
theorem fp_stay (h0 : 0 < cpN S M k) : ∀ d, fpN S M (k + d) = fpN S M k ∧ 0 < cpN S M (k + d)
  | 0 => ⟨rfl, h0⟩
  | d + 1 => by
    obtain ⟨a, b⟩ := fp_stay h0 d
    have h1 := cp_up (S := S) (M := M) (k := k + d)
    exact ⟨(fp_old (k := k + d) (by omega)).trans a, by show 0 < cpN S M (k + d + 1); omega⟩
theorem fp_found {N : Nat} (hk : k < N) (h : faB M (atL S k) = false) (h0 : cpN S M k = 0) : fpN S M N = atL S k ∧ 0 < cpN S M N := by
  obtain ⟨d, rfl⟩ : ∃ d, N = k + 1 + d := ⟨N - (k + 1), by omega⟩
  obtain ⟨a, b⟩ := fp_stay (S := S) (M := M) (k := k + 1) (by rw [cpN_yes h]; omega) d
  exact ⟨a.trans (fp_hit h h0), b⟩
theorem fp_len : ∀ k : Nat, (fpN S M k).length ≤ S.length
  | 0 => Nat.zero_le _
  | k + 1 => by
    unfold fpN
    by_cases h : cpN S M k = 0 ∧ faB M (atL S k) = false
    · rw [if_pos h, atL_len]; exact Nat.le_refl _
    · rw [if_neg h]; exact fp_len k
end
def fpB (S : List (ByteArray × Int)) (M : List (List Int)) : Bool := cpB S M && decide (0 < cpN S M (cnZ S).toNat)
def fpL (S : List (ByteArray × Int)) (M : List (List Int)) : List Int := fpN S M (cnZ S).toNat
theorem fpB_no {S : List (ByteArray × Int)} {M : List (List Int)} (h : cpB S M = false) : fpB S M = false := by unfold fpB; rw [h]; rfl
theorem fpB_zero {S : List (ByteArray × Int)} {M : List (List Int)} (h : cpN S M (cnZ S).toNat = 0) : fpB S M = false := by unfold fpB; rw [decide_eq_false (by omega), Bool.and_false]
theorem fpB_yes {S : List (ByteArray × Int)} {M : List (List Int)} (h : cpB S M = true) (k : 0 < cpN S M (cnZ S).toNat) : fpB S M = true := by unfold fpB; rw [h, decide_eq_true k]; rfl
theorem retLB_dec {L : List Int} {b d : Bool} {w w' : World} {v : Value} (hd : d = b) (ho : w'.ownsRow w.heap.size 3 1 v (eIf b L).length (iC (eIf b L))) (h : Below w.heap.size w w') : RetLB (eIf b L) b w (.returned (.tuple #[v, .bool d])) w' := by
  subst hd
  exact ⟨_, rfl, ho, h⟩
def EpRow (S : List (ByteArray × Int)) (M : List (List Int)) (w : World) (e : Ending) (w' : World) : Prop :=
  ∃ u, e = .returned (.tuple #[.int .i64 (cpN S M (cnZ S).toNat), u]) ∧ w'.ownsRow w.heap.size 3 1 u (fpN S M (cnZ S).toNat).length (iC (fpN S M (cnZ S).toNat)) ∧ Below w.heap.size w w'
set_option maxHeartbeats 2000000 in
theorem ePassing_row (x y : Option Addr) (c1 c2 : Nat) (S : List (ByteArray × Int)) (Q : List PR) (w : World) (hel : elB S (eM Q) = true) (hS : SIn w x c1 S) (hQ : EIn w y Q) :
    Calls Try.prog 90 #[.slice x S.length c1, .slice y Q.length c2] w (EpRow S (eM Q) w) := by
  have hSh := Lib.hid hS
  have hQh := Lib.hid hQ
  have hm := hS.1
  obtain ⟨g1, g2, g3⟩ := el_get hel
  have hsh := Lib.hid g1
  have hedh := Lib.hid g3
  have hq40 : Q.length ≤ 40 := by rw [eM_len] at g2; exact g2
  obtain ⟨n1, n2⟩ := cn_all g1
  obtain ⟨N, hN⟩ : ∃ N : Nat, cnZ S = (N : Int) := ⟨(cnZ S).toNat, by omega⟩
  have hN2 : N ≤ 262144 := by omega
  clear hS hQ hel g1 g2 g3
  have hNh := Lib.hid hN
  go_enter Try.func90, Try.ntmps90
  go_wp2
  clear hN
  go_loopw [6, 7, 8] (fun q u c wr => ∃ (i : Nat), i ≤ N ∧ c = .int .i64 i ∧ q = .int .i64 (cpN S (eM Q) i) ∧ wr.ownsRow w.heap.size 3 1 u (fpN S (eM Q) i).length (iC (fpN S (eM Q) i)) ∧ Below w.heap.size w wr) (fun _ _ c _ => N - (intOf c).toNat)
  case atStart => exact ⟨0, by omega, by go_num, by go_num, World.ownsRow_nil _ _ _ _, Below.refl _ _⟩
  case round =>
    obtain ⟨i, hi, rfl, rfl, hown, hBr⟩ := hrel
    have hownh := Lib.hid hown
    clear hown
    have hBs := hBr.size
    have hcl := cpN_le S (eM Q) i
    have hNN := hNh.out
    go_wp2_with fail
    refine (sCount_any _ _ S _ hsh.out hm (hSh.out.rd.below hBr)).mono ?_
    rintro e w2 ⟨rfl, hb2⟩
    rw [hNN]
    have hB2 : Below w.heap.size w w2 := (by repeat (first | exact Below.refl _ _ | assumption | refine Below.drew ?_ | refine below_drewN ?_ _ | refine Below.alloc' ?_ _ | (refine Below.setCell ?_ (by first | omega | (simp; done) | (simp; omega) | exact Below.size (by assumption) | exact Nat.le_trans (Below.size (by assumption)) (by simp)) _) | (refine Below.via' ?_ (by assumption)) | (refine Below.alloc ?_ (by first | omega | (simp; done) | (simp; omega) | exact Below.size (by assumption) | exact Nat.le_trans (Below.size (by assumption)) (by simp)) _) | (refine Below.via ?_ (by assumption) (by first | omega | (simp; done) | (simp; omega) | exact Below.size (by assumption) | exact Nat.le_trans (Below.size (by assumption)) (by simp)))))
    have own2 := Lib.hid (own_below hownh.out hb2)
    have hs2 := hb2.size
    clear hNN
    by_cases hlt : i < N
    · have hlt' : (i : Int) < (N : Int) := by omega
      go_wp2_with fail
      refine (sAt_any _ _ S i _ hsh.out (by omega) (by omega) hm (hSh.out.rd.below hB2)).mono ?_
      rintro e w3 ⟨u3, rfl, ho3, hb3⟩
      obtain ⟨x3, n3, rfl, -, -⟩ := (OwR.of ho3).form
      have hin := Lib.hid (atL_iin hsh.out (show (0 : Int) ≤ (i : Int) by omega) (Rd.of_own ho3))
      have hB3 : Below w.heap.size w w3 := (by repeat (first | exact Below.refl _ _ | assumption | refine Below.drew ?_ | refine below_drewN ?_ _ | refine Below.alloc' ?_ _ | (refine Below.setCell ?_ (by first | omega | (simp; done) | (simp; omega) | exact Below.size (by assumption) | exact Nat.le_trans (Below.size (by assumption)) (by simp)) _) | (refine Below.via' ?_ (by assumption)) | (refine Below.alloc ?_ (by first | omega | (simp; done) | (simp; omega) | exact Below.size (by assumption) | exact Nat.le_trans (Below.size (by assumption)) (by simp)) _) | (refine Below.via ?_ (by assumption) (by first | omega | (simp; done) | (simp; omega) | exact Below.size (by assumption) | exact Nat.le_trans (Below.size (by assumption)) (by simp)))))
      have own3 := Lib.hid (own_below own2.out hb3)
      have new3 := Lib.hid (own_more ho3 (show w.heap.size ≤ w2.heap.size by omega))
      clear ho3
      go_wp2_with fail
      refine (eFailed_any _ _ _ _ Q (atL S i) _ hq40 (fun E hE => fine_of hsh.out (hedh.out E hE) (at_fitE hsh.out (by omega))) (hQh.out.below hB3) hin.out).mono ?_
      rintro e w4 ⟨u4, rfl, ho4, hb4⟩
      obtain ⟨x4, n4, rfl, -, -⟩ := (OwR.of ho4).form
      have own4 := Lib.hid (own_below own3.out hb4)
      have new4 := Lib.hid (own_below new3.out hb4)
      clear ho4
      cases hfa : faB (eM Q) (atL S i)
      · have hz : (((feL (eM Q) (atL S i)).length : Int) == 0) = true := by rw [beq_iff_eq]; have := fe_none.2 hfa; omega
        have hst := Lib.hid (cpN_yes hfa)
        by_cases h0 : cpN S (eM Q) i = 0
        · have hz0 : ((cpN S (eM Q) i : Int) == 0) = true := by rw [beq_iff_eq]; omega
          have hf := Lib.hid (fp_hit hfa h0)
          replace h0 := Lib.hid h0
          go_wp2
          go_roundw
          case rel => exact ⟨i + 1, by omega, by go_num, by rw [hst.out]; go_num, by rw [hf.out]; exact new4.out, (by repeat (first | exact Below.refl _ _ | assumption | refine Below.drew ?_ | refine below_drewN ?_ _ | refine Below.alloc' ?_ _ | (refine Below.setCell ?_ (by first | omega | (simp; done) | (simp; omega) | exact Below.size (by assumption) | exact Nat.le_trans (Below.size (by assumption)) (by simp)) _) | (refine Below.via' ?_ (by assumption)) | (refine Below.alloc ?_ (by first | omega | (simp; done) | (simp; omega) | exact Below.size (by assumption) | exact Nat.le_trans (Below.size (by assumption)) (by simp)) _) | (refine Below.via ?_ (by assumption) (by first | omega | (simp; done) | (simp; omega) | exact Below.size (by assumption) | exact Nat.le_trans (Below.size (by assumption)) (by simp)))))⟩
          case measure => simp [intOf]; omega
        · have hz0 : ((cpN S (eM Q) i : Int) == 0) = false := by rw [beq_eq_false_iff_ne]; omega
          have hf := Lib.hid (fp_old (S := S) (M := eM Q) h0)
          replace h0 := Lib.hid h0
          go_wp2
          go_roundw
          case rel => exact ⟨i + 1, by omega, by go_num, by rw [hst.out]; go_num, by rw [hf.out]; exact own4.out, (by repeat (first | exact Below.refl _ _ | assumption | refine Below.drew ?_ | refine below_drewN ?_ _ | refine Below.alloc' ?_ _ | (refine Below.setCell ?_ (by first | omega | (simp; done) | (simp; omega) | exact Below.size (by assumption) | exact Nat.le_trans (Below.size (by assumption)) (by simp)) _) | (refine Below.via' ?_ (by assumption)) | (refine Below.alloc ?_ (by first | omega | (simp; done) | (simp; omega) | exact Below.size (by assumption) | exact Nat.le_trans (Below.size (by assumption)) (by simp)) _) | (refine Below.via ?_ (by assumption) (by first | omega | (simp; done) | (simp; omega) | exact Below.size (by assumption) | exact Nat.le_trans (Below.size (by assumption)) (by simp)))))⟩
          case measure => simp [intOf]; omega
      · have hz : (((feL (eM Q) (atL S i)).length : Int) == 0) = false := by
          rw [beq_eq_false_iff_ne]
          intro h
          have := fe_none.1 (show (feL (eM Q) (atL S i)).length = 0 by omega)
          rw [hfa] at this
          cases this
        have hst := Lib.hid (cpN_no hfa)
        have hf := Lib.hid (fp_no hfa)
        go_wp2
        go_roundw
        case rel => exact ⟨i + 1, by omega, by go_num, by rw [hst.out], by rw [hf.out]; exact own4.out, (by repeat (first | exact Below.refl _ _ | assumption | refine Below.drew ?_ | refine below_drewN ?_ _ | refine Below.alloc' ?_ _ | (refine Below.setCell ?_ (by first | omega | (simp; done) | (simp; omega) | exact Below.size (by assumption) | exact Nat.le_trans (Below.size (by assumption)) (by simp)) _) | (refine Below.via' ?_ (by assumption)) | (refine Below.alloc ?_ (by first | omega | (simp; done) | (simp; omega) | exact Below.size (by assumption) | exact Nat.le_trans (Below.size (by assumption)) (by simp)) _) | (refine Below.via ?_ (by assumption) (by first | omega | (simp; done) | (simp; omega) | exact Below.size (by assumption) | exact Nat.le_trans (Below.size (by assumption)) (by simp)))))⟩
        case measure => simp [intOf]; omega
    · have hij : i = N := by omega
      subst hij
      have hfin := Lib.hid (show (cnZ S).toNat = i by have := hNh.out; omega)
      go_wp2
      go_ret2
      refine ⟨u7, ?_, ?_, hB2⟩
      · rw [hfin.out]
        rfl
      · rw [hfin.out]
        exact own2.out
set_option maxHeartbeats 1000000 in
theorem sFP_x (x y : Option Addr) (c1 c2 : Nat) (S : List (ByteArray × Int)) (Q : List PR) (w : World) (hS : SIn w x c1 S) (hQ : EIn w y Q) :
    Calls Try.prog 58 #[.slice x S.length c1, .slice y Q.length c2] w (RetLB (eIf (fpB S (eM Q)) (fpL S (eM Q))) (fpB S (eM Q)) w) := by
  have hSh := Lib.hid hS
  have hQh := Lib.hid hQ
  have hm := hS.1
  clear hS hQ
  go_enter Try.func58, Try.ntmps58
  go_wp2_with fail
  refine (eList_any _ _ _ _ S Q _ (hSh.out.below (by exact (by repeat (first | exact Below.refl _ _ | assumption | refine Below.drew ?_ | refine below_drewN ?_ _ | refine Below.alloc' ?_ _ | (refine Below.setCell ?_ (by first | omega | (simp; done) | (simp; omega) | exact Below.size (by assumption) | exact Nat.le_trans (Below.size (by assumption)) (by simp)) _) | (refine Below.via' ?_ (by assumption)) | (refine Below.alloc ?_ (by first | omega | (simp; done) | (simp; omega) | exact Below.size (by assumption) | exact Nat.le_trans (Below.size (by assumption)) (by simp)) _) | (refine Below.via ?_ (by assumption) (by first | omega | (simp; done) | (simp; omega) | exact Below.size (by assumption) | exact Nat.le_trans (Below.size (by assumption)) (by simp))))))) (hQh.out.below (by exact (by repeat (first | exact Below.refl _ _ | assumption | refine Below.drew ?_ | refine below_drewN ?_ _ | refine Below.alloc' ?_ _ | (refine Below.setCell ?_ (by first | omega | (simp; done) | (simp; omega) | exact Below.size (by assumption) | exact Nat.le_trans (Below.size (by assumption)) (by simp)) _) | (refine Below.via' ?_ (by assumption)) | (refine Below.alloc ?_ (by first | omega | (simp; done) | (simp; omega) | exact Below.size (by assumption) | exact Nat.le_trans (Below.size (by assumption)) (by simp)) _) | (refine Below.via ?_ (by assumption) (by first | omega | (simp; done) | (simp; omega) | exact Below.size (by assumption) | exact Nat.le_trans (Below.size (by assumption)) (by simp)))))))).mono ?_
  rintro e w1 ⟨rfl, hb1⟩
  cases he : elB S (eM Q)
  · have hv := Lib.hid (fpB_no (cp_no1 he))
    go_wp2
    go_ret2
    exact retLB_no hv.out (by repeat (first | exact Below.refl _ _ | assumption | refine Below.drew ?_ | refine below_drewN ?_ _ | refine Below.alloc' ?_ _ | (refine Below.setCell ?_ (by first | omega | (simp; done) | (simp; omega) | exact Below.size (by assumption) | exact Nat.le_trans (Below.size (by assumption)) (by simp)) _) | (refine Below.via' ?_ (by assumption)) | (refine Below.alloc ?_ (by first | omega | (simp; done) | (simp; omega) | exact Below.size (by assumption) | exact Nat.le_trans (Below.size (by assumption)) (by simp)) _) | (refine Below.via ?_ (by assumption) (by first | omega | (simp; done) | (simp; omega) | exact Below.size (by assumption) | exact Nat.le_trans (Below.size (by assumption)) (by simp)))))
  have heh := Lib.hid he
  have hsh := Lib.hid (el_get he).1
  clear he
  go_wp2_with fail
  refine (sCount_any _ _ S _ hsh.out hm (hSh.out.rd.below (by exact (by repeat (first | exact Below.refl _ _ | assumption | refine Below.drew ?_ | refine below_drewN ?_ _ | refine Below.alloc' ?_ _ | (refine Below.setCell ?_ (by first | omega | (simp; done) | (simp; omega) | exact Below.size (by assumption) | exact Nat.le_trans (Below.size (by assumption)) (by simp)) _) | (refine Below.via' ?_ (by assumption)) | (refine Below.alloc ?_ (by first | omega | (simp; done) | (simp; omega) | exact Below.size (by assumption) | exact Nat.le_trans (Below.size (by assumption)) (by simp)) _) | (refine Below.via ?_ (by assumption) (by first | omega | (simp; done) | (simp; omega) | exact Below.size (by assumption) | exact Nat.le_trans (Below.size (by assumption)) (by simp)))))))).mono ?_
  rintro e w2 ⟨rfl, hb2⟩
  by_cases hbig : (20000 : Int) < cnZ S
  · have hv := Lib.hid (fpB_no (cp_no2 (M := eM Q) hbig))
    go_wp2
    go_ret2
    exact retLB_no hv.out (by repeat (first | exact Below.refl _ _ | assumption | refine Below.drew ?_ | refine below_drewN ?_ _ | refine Below.alloc' ?_ _ | (refine Below.setCell ?_ (by first | omega | (simp; done) | (simp; omega) | exact Below.size (by assumption) | exact Nat.le_trans (Below.size (by assumption)) (by simp)) _) | (refine Below.via' ?_ (by assumption)) | (refine Below.alloc ?_ (by first | omega | (simp; done) | (simp; omega) | exact Below.size (by assumption) | exact Nat.le_trans (Below.size (by assumption)) (by simp)) _) | (refine Below.via ?_ (by assumption) (by first | omega | (simp; done) | (simp; omega) | exact Below.size (by assumption) | exact Nat.le_trans (Below.size (by assumption)) (by simp)))))
  have hv := Lib.hid (cp_yes heh.out hbig)
  go_wp2_with fail
  refine (ePassing_row _ _ _ _ S Q _ heh.out (hSh.out.below (by exact (by repeat (first | exact Below.refl _ _ | assumption | refine Below.drew ?_ | refine below_drewN ?_ _ | refine Below.alloc' ?_ _ | (refine Below.setCell ?_ (by first | omega | (simp; done) | (simp; omega) | exact Below.size (by assumption) | exact Nat.le_trans (Below.size (by assumption)) (by simp)) _) | (refine Below.via' ?_ (by assumption)) | (refine Below.alloc ?_ (by first | omega | (simp; done) | (simp; omega) | exact Below.size (by assumption) | exact Nat.le_trans (Below.size (by assumption)) (by simp)) _) | (refine Below.via ?_ (by assumption) (by first | omega | (simp; done) | (simp; omega) | exact Below.size (by assumption) | exact Nat.le_trans (Below.size (by assumption)) (by simp))))))) (hQh.out.below (by exact (by repeat (first | exact Below.refl _ _ | assumption | refine Below.drew ?_ | refine below_drewN ?_ _ | refine Below.alloc' ?_ _ | (refine Below.setCell ?_ (by first | omega | (simp; done) | (simp; omega) | exact Below.size (by assumption) | exact Nat.le_trans (Below.size (by assumption)) (by simp)) _) | (refine Below.via' ?_ (by assumption)) | (refine Below.alloc ?_ (by first | omega | (simp; done) | (simp; omega) | exact Below.size (by assumption) | exact Nat.le_trans (Below.size (by assumption)) (by simp)) _) | (refine Below.via ?_ (by assumption) (by first | omega | (simp; done) | (simp; omega) | exact Below.size (by assumption) | exact Nat.le_trans (Below.size (by assumption)) (by simp)))))))).mono ?_
  rintro e w3 ⟨u3, rfl, ho3, hb3⟩
  have hs2 : Below w.heap.size w w2 := (by repeat (first | exact Below.refl _ _ | assumption | refine Below.drew ?_ | refine below_drewN ?_ _ | refine Below.alloc' ?_ _ | (refine Below.setCell ?_ (by first | omega | (simp; done) | (simp; omega) | exact Below.size (by assumption) | exact Nat.le_trans (Below.size (by assumption)) (by simp)) _) | (refine Below.via' ?_ (by assumption)) | (refine Below.alloc ?_ (by first | omega | (simp; done) | (simp; omega) | exact Below.size (by assumption) | exact Nat.le_trans (Below.size (by assumption)) (by simp)) _) | (refine Below.via ?_ (by assumption) (by first | omega | (simp; done) | (simp; omega) | exact Below.size (by assumption) | exact Nat.le_trans (Below.size (by assumption)) (by simp)))))
  have hB3 : Below w.heap.size w w3 := hs2.trans (hb3.mono hs2.size)
  have own3 := Lib.hid (own_more ho3 hs2.size)
  clear ho3 hb3 hs2 hb2 hb1
  by_cases hz : cpN S (eM Q) (cnZ S).toNat = 0
  · have hv2 := Lib.hid (fpB_zero hz)
    have hnil := Lib.hid (fp_nil hz)
    have hlt : ¬ (0 : Int) < (cpN S (eM Q) (cnZ S).toNat : Int) := by omega
    replace hz := Lib.hid hz
    go_wp2
    go_ret2
    refine retLB_dec (d := decide ((0 : Nat) < cpN S (eM Q) (cnZ S).toNat)) ((decide_eq_false (by omega)).trans hv2.out.symm) ?_ hB3
    rw [eIf_f hv2.out]
    have := own3.out
    rw [hnil.out] at this
    exact this
  · have hlt : (0 : Int) < (cpN S (eM Q) (cnZ S).toNat : Int) := by omega
    have hv2 := Lib.hid (fpB_yes hv.out (Nat.pos_of_ne_zero hz))
    replace hz := Lib.hid hz
    go_wp2
    go_ret2
    refine retLB_dec (d := decide ((0 : Nat) < cpN S (eM Q) (cnZ S).toNat)) ((decide_eq_true (by omega)).trans hv2.out.symm) ?_ hB3
    rw [eIf_t hv2.out]
    exact own3.out
theorem sFP_m (x y : Option Addr) (c1 c2 : Nat) (S : List (ByteArray × Int)) (Q : List PR) (w : World) (hS : SIn w x c1 S) (hQ : EIn w y Q) (M : List (List Int)) (hM : eM Q = M) :
    Calls Try.prog 58 #[.slice x S.length c1, .slice y Q.length c2] w (RetLB (eIf (fpB S M) (fpL S M)) (fpB S M) w) := by subst hM; exact sFP_x x y c1 c2 S Q w hS hQ
end Go.Proofs.Ytfaobfgckfjnjaa
