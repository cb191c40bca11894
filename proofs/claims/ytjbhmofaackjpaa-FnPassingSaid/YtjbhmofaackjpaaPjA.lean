import Derived.Test.YtjbhmofaackjpaaEdP
import Derived.Test.YtjbhmofaackjpaaEdO
namespace Go.Proofs.Ytjbhmofaackjpaa
open Go.RowKit
set_option maxRecDepth 100000

/-- The first list of values, among the first n, that passes. -/
def fpN (S : List (ByteArray × Int)) (M : List (List Int)) : Nat → List Int
  | 0 => []
  | k + 1 => if cpN S M k = 0 ∧ faB M (atL S k) = false then atL S k else fpN S M k
section
variable {S : List (ByteArray × Int)} {M : List (List Int)} {k : Nat}
theorem fp_hit (h : faB M (atL S k) = false) (h0 : cpN S M k = 0) : fpN S M (k + 1) = atL S k := if_pos ⟨h0, h⟩
theorem fp_no (h : faB M (atL S k) = true) : fpN S M (k + 1) = fpN S M k := if_neg (by rw [h]; simp)
theorem fp_old (h0 : ¬ cpN S M k = 0) : fpN S M (k + 1) = fpN S M k := if_neg (fun h => h0 h.1)
theorem cp_up : cpN S M k ≤ cpN S M (k + 1) := by
  cases h : faB M (atL S k)
  · rw [cpN_yes h]; omega
  · rw [cpN_no h]; exact Nat.le_refl _
theorem fp_nil : ∀ {k : Nat}, cpN S M k = 0 → fpN S M k = []
  | 0, _ => rfl
  | k + 1, h => by
    have h1 := cp_up (S := S) (M := M) (k := k)
    have h2 : cpN S M k = 0 := by omega
    cases hf : faB M (atL S k)
    · rw [cpN_yes hf] at h; omega
    · rw [fp_no hf]; exact fp_nil h2
theorem fp_stay (h0 : 0 < cpN S M k) : ∀ d, fpN S M (k + d) = fpN S M k ∧ 0 < cpN S M (k + d)
  | 0 => ⟨rfl, h0⟩
  | d + 1 => by
    obtain ⟨a, b⟩ := fp_stay h0 d
    have h1 := cp_up (S := S) (M := M) (k := k + d)
    exact ⟨(fp_old (k := k + d) (by omega)).trans a, by show 0 < cpN S M (k + d + 1); omega⟩
theorem fp_found {N : Nat} (hk : k < N) (h : faB M (atL S k) = false) (h0 : cpN S M k = 0) : fpN S M N = atL S k ∧ 0 < cpN S M N := by
  obtain ⟨d, rfl⟩ : ∃ d, N = k + 1 + d := ⟨N - (k + 1), by omega⟩
  obtain ⟨a, b⟩ := fp_stay (S := S) (M := M) (k := k + 1) (by rw [cpN_yes h]; omega) d
  exact ⟨a.trans (fp_hit h h0), b⟩
theorem fp_len : ∀ k : Nat, (fpN S M k).length ≤ S.length
  | 0 => Nat.zero_le _
  | k + 1 => by
    unfold fpN
    by_cases h : cpN S M k = 0 ∧ faB M (atL S k) = false
    · rw [if_pos h, atL_len]; exact Nat.le_refl _
    · rw [if_neg h]; exact fp_len k
end
def fpB (S : List (ByteArray × Int)) (M : List (List Int)) : Bool := cpB S M && decide (0 < cpN S M (cnZ S).toNat)
def fpL (S : List (ByteArray × Int)) (M : List (List Int)) : List Int := fpN S M (cnZ S).toNat
theorem fpB_no {S : List (ByteArray × Int)} {M : List (List Int)} (h : cpB S M = false) : fpB S M = false := by unfold fpB; rw [h]; rfl
theorem fpB_zero {S : List (ByteArray × Int)} {M : List (List Int)} (h : cpN S M (cnZ S).toNat = 0) : fpB S M = false := by unfold fpB; rw [decide_eq_false (by omega), Bool.and_false]
theorem fpB_yes {S : List (ByteArray × Int)} {M : List (List Int)} (h : cpB S M = true) (k : 0 < cpN S M (cnZ S).toNat) : fpB S M = true := by unfold fpB; rw [h, decide_eq_true k]; rfl
theorem retLB_dec {L : List Int} {b d : Bool} {w w' : World} {v : Value} (hd : d = b) (ho : w'.ownsRow w.heap.size 3 1 v (eIf b L).length (iC (eIf b L))) (h : Below w.heap.size w w') : RetLB (eIf b L) b w (.returned (.tuple #[v, .bool d])) w' := by
  subst hd
  exact ⟨_, rfl, ho, h⟩
def EpRow (S : List (ByteArray × Int)) (M : List (List Int)) (w : World) (e : Ending) (w' : World) : Prop :=
  ∃ u, e = .returned (.tuple #[.int .i64 (cpN S M (cnZ S).toNat), u]) ∧ w'.ownsRow w.heap.size 3 1 u (fpN S M (cnZ S).toNat).length (iC (fpN S M (cnZ S).toNat)) ∧ Below w.heap.size w w'
set_option maxHeartbeats 2000000 in
theorem ePassing_row (x y : Option Addr) (c1 c2 : Nat) (S : List (ByteArray × Int)) (Q : List PR) (w : World) (hel : elB S (eM Q) = true) (hS : SIn w x c1 S) (hQ : EIn w y Q) :
    Calls Try.prog 23 #[.slice x S.length c1, .slice y Q.length c2] w (EpRow S (eM Q) w) := by
  have hSh := Lib.hid hS
  have hQh := Lib.hid hQ
  have hm := hS.1
  obtain ⟨g1, g2, g3⟩ := el_get hel
  have hsh := Lib.hid g1
  have hedh := Lib.hid g3
  have hq40 : Q.length ≤ 40 := by rw [eM_len] at g2; exact g2
  obtain ⟨n1, n2⟩ := cn_all g1
  obtain ⟨N, hN⟩ : ∃ N : Nat, cnZ S = (N : Int) := ⟨(cnZ S).toNat, by omega⟩
  have hN2 : N ≤ 262144 := by omega
  clear hS hQ hel g1 g2 g3
  have hNh := Lib.hid hN
  go_enter Try.func23, Try.ntmps23
  go_wp2
  clear hN
  go_loopw [6, 7, 8] (fun q u c wr => ∃ (i : Nat), i ≤ N ∧ c = .int .i64 i ∧ q = .int .i64 (cpN S (eM Q) i) ∧ wr.ownsRow w.heap.size 3 1 u (fpN S (eM Q) i).length (iC (fpN S (eM Q) i)) ∧ Below w.heap.size w wr) (fun _ _ c _ => N - (intOf c).toNat)
  case atStart => exact ⟨0, by omega, by go_num, by go_num, World.ownsRow_nil _ _ _ _, Below.refl _ _⟩
  case round =>
    obtain ⟨i, hi, rfl, rfl, hown, hBr⟩ := hrel
    have hownh := Lib.hid hown
    clear hown
    have hBs := hBr.size
    have hcl := cpN_le S (eM Q) i
    have hNN := hNh.out
    go_wp2_with fail
    refine (sCount_any _ _ S _ hsh.out hm (hSh.out.rd.below hBr)).mono ?_
    rintro e w2 ⟨rfl, hb2⟩
    rw [hNN]
    have hB2 : Below w.heap.size w w2 := (by repeat (first | exact Below.refl _ _ | assumption | refine Below.drew ?_ | refine below_drewN ?_ _ | refine Below.alloc' ?_ _ | (refine Below.setCell ?_ (by first | omega | (simp; done) | (simp; omega) | exact Below.size (by assumption) | exact Nat.le_trans (Below.size (by assumption)) (by simp)) _) | (refine Below.via' ?_ (by assumption)) | (refine Below.alloc ?_ (by first | omega | (simp; done) | (simp; omega) | exact Below.size (by assumption) | exact Nat.le_trans (Below.size (by assumption)) (by simp)) _) | (refine Below.via ?_ (by assumption) (by first | omega | (simp; done) | (simp; omega) | exact Below.size (by assumption) | exact Nat.le_trans (Below.size (by assumption)) (by simp)))))
    have own2 := Lib.hid (own_below hownh.out hb2)
    have hs2 := hb2.size
    clear hNN
    by_cases hlt : i < N
    · have hlt' : (i : Int) < (N : Int) := by omega
      go_wp2_with fail
      refine (sAt_any _ _ S i _ hsh.out (by omega) (by omega) hm (hSh.out.rd.below hB2)).mono ?_
      rintro e w3 ⟨u3, rfl, ho3, hb3⟩
      obtain ⟨x3, n3, rfl, -, -⟩ := (OwR.of ho3).form
      have hin := Lib.hid (atL_iin hsh.out (show (0 : Int) ≤ (i : Int) by omega) (Rd.of_own ho3))
      have hB3 : Below w.heap.size w w3 := (by repeat (first | exact Below.refl _ _ | assumption | refine Below.drew ?_ | refine below_drewN ?_ _ | refine Below.alloc' ?_ _ | (refine Below.setCell ?_ (by first | omega | (simp; done) | (simp; omega) | exact Below.size (by assumption) | exact Nat.le_trans (Below.size (by assumption)) (by simp)) _) | (refine Below.via' ?_ (by assumption)) | (refine Below.alloc ?_ (by first | omega | (simp; done) | (simp; omega) | exact Below.size (by assumption) | exact Nat.le_trans (Below.size (by assumption)) (by simp)) _) | (refine Below.via ?_ (by assumption) (by first | omega | (simp; done) | (simp; omega) | exact Below.size (by assumption) | exact Nat.le_trans (Below.size (by assumption)) (by simp)))))
      have own3 := Lib.hid (own_below own2.out hb3)
      have new3 := Lib.hid (own_more ho3 (show w.heap.size ≤ w2.heap.size by omega))
      clear ho3
      go_wp2_with fail
      refine (eFailed_any _ _ _ _ Q (atL S i) _ hq40 (fun E hE => fine_of hsh.out (hedh.out E hE) (at_fitE hsh.out (by omega))) (hQh.out.below hB3) hin.out).mono ?_
      rintro e w4 ⟨u4, rfl, ho4, hb4⟩
      obtain ⟨x4, n4, rfl, -, -⟩ := (OwR.of ho4).form
      have own4 := Lib.hid (own_below own3.out hb4)
      have new4 := Lib.hid (own_below new3.out hb4)
      clear ho4
      cases hfa : faB (eM Q) (atL S i)
      · have hz : (((feL (eM Q) (atL S i)).length : Int) == 0) = true := by rw [beq_iff_eq]; have := fe_none.2 hfa; omega
        have hst := Lib.hid (cpN_yes hfa)
        by_cases h0 : cpN S (eM Q) i = 0
        · have hz0 : ((cpN S (eM Q) i : Int) == 0) = true := by rw [beq_iff_eq]; omega
          have hf := Lib.hid (fp_hit hfa h0)
          replace h0 := Lib.hid h0
          go_wp2
          go_roundw
          case rel => exact ⟨i + 1, by omega, by go_num, by rw [hst.out]; go_num, by rw [hf.out]; exact new4.out, (by repeat (first | exact Below.refl _ _ | assumption | refine Below.drew ?_ | refine below_drewN ?_ _ | refine Below.alloc' ?_ _ | (refine Below.setCell ?_ (by first | omega | (simp; done) | (simp; omega) | exact Below.size (by assumption) | exact Nat.le_trans (Below.size (by assumption)) (by simp)) _) | (refine Below.via' ?_ (by assumption)) | (refine Below.alloc ?_ (by first | omega | (simp; done) | (simp; omega) | exact Below.size (by assumption) | exact Nat.le_trans (Below.size (by assumption)) (by simp)) _) | (refine Below.via ?_ (by assumption) (by first | omega | (simp; done) | (simp; omega) | exact Below.size (by assumption) | exact Nat.le_trans (Below.size (by assumption)) (by simp)))))⟩
          case measure => simp [intOf]; omega
        · have hz0 : ((cpN S (eM Q) i : Int) == 0) = false := by rw [beq_eq_false_iff_ne]; omega
          have hf := Lib.hid (fp_old (S := S) (M := eM Q) h0)
          replace h0 := Lib.hid h0
          go_wp2
          go_roundw
          case rel => exact ⟨i + 1, by omega, by go_num, by rw [hst.out]; go_num, by rw [hf.out]; exact own4.out, (by repeat (first | exact Below.refl _ _ | assumption | refine Below.drew ?_ | refine below_drewN ?_ _ | refine Below.alloc' ?_ _ | (refine Below.setCell ?_ (by first | omega | (simp; done) | (simp; omega) | exact Below.size (by assumption) | exact Nat.le_trans (Below.size (by assumption)) (by simp)) _) | (refine Below.via' ?_ (by assumption)) | (refine Below.alloc ?_ (by first | omega | (simp; done) | (simp; omega) | exact Below.size (by assumption) | exact Nat.le_trans (Below.size (by assumption)) (by simp)) _) | (refine Below.via ?_ (by assumption) (by first | omega | (simp; done) | (simp; omega) | exact Below.size (by assumption) | exact Nat.le_trans (Below.size (by assumption)) (by simp)))))⟩
          case measure => simp [intOf]; omega
      · have hz : (((feL (eM Q) (atL S i)).length : Int) == 0) = false := by
          rw [beq_eq_false_iff_ne]
          intro h
          have := fe_none.1 (show (feL (eM Q) (atL S i)).length = 0 by omega)
          rw [hfa] at this
          cases this
        have hst := Lib.hid (cpN_no hfa)
        have hf := Lib.hid (fp_no hfa)
        go_wp2
        go_roundw
        case rel => exact ⟨i + 1, by omega, by go_num, by rw [hst.out], by rw [hf.out]; exact own4.out, (by repeat (first | exact Below.refl _ _ | assumption | refine Below.drew ?_ | refine below_drewN ?_ _ | refine Below.alloc' ?_ _ | (refine Below.setCell ?_ (by first | omega | (simp; done) | (simp; omega) | exact Below.size (by assumption) | exact Nat.le_trans (Below.size (by assumption)) (by simp)) _) | (refine Below.via' ?_ (by assumption)) | (refine Below.alloc ?_ (by first | omega | (simp; done) | (simp; omega) | exact Below.size (by assumption) | exact Nat.le_trans (Below.size (by assumption)) (by simp)) _) | (refine Below.via ?_ (by assumption) (by first | omega | (simp; done) | (simp; omega) | exact Below.size (by assumption) | exact Nat.le_trans (Below.size (by assumption)) (by simp)))))⟩
        case measure => simp [intOf]; omega
    · have hij : i = N := by omega
      subst hij
      have hfin := Lib.hid (show (cnZ S).toNat = i by have := hNh.out; omega)
      go_wp2
      go_ret2
      refine ⟨u7, ?_, ?_, hB2⟩
      · rw [hfin.out]
        rfl
      · rw [hfin.out]
        exact own2.out
set_option maxHeartbeats 1000000 in
theorem sFP_x (x y : Option Addr) (c1 c2 : Nat) (S : List (ByteArray × Int)) (Q : List PR) (w : World) (hS : SIn w x c1 S) (hQ : EIn w y Q) :
    Calls Try.prog 7 #[.slice x S.length c1, .slice y Q.length c2] w (RetLB (eIf (fpB S (eM Q)) (fpL S (eM Q))) (fpB S (eM Q)) w) := by
  have hSh := Lib.hid hS
  have hQh := Lib.hid hQ
  have hm := hS.1
  clear hS hQ
  go_enter Try.func7, Try.ntmps7
  go_wp2_with fail
  refine (eList_any _ _ _ _ S Q _ (hSh.out.below (by exact (by repeat (first | exact Below.refl _ _ | assumption | refine Below.drew ?_ | refine below_drewN ?_ _ | refine Below.alloc' ?_ _ | (refine Below.setCell ?_ (by first | omega | (simp; done) | (simp; omega) | exact Below.size (by assumption) | exact Nat.le_trans (Below.size (by assumption)) (by simp)) _) | (refine Below.via' ?_ (by assumption)) | (refine Below.alloc ?_ (by first | omega | (simp; done) | (simp; omega) | exact Below.size (by assumption) | exact Nat.le_trans (Below.size (by assumption)) (by simp)) _) | (refine Below.via ?_ (by assumption) (by first | omega | (simp; done) | (simp; omega) | exact Below.size (by assumption) | exact Nat.le_trans (Below.size (by assumption)) (by simp))))))) (hQh.out.below (by exact (by repeat (first | exact Below.refl _ _ | assumption | refine Below.drew ?_ | refine below_drewN ?_ _ | refine Below.alloc' ?_ _ | (refine Below.setCell ?_ (by first | omega | (simp; done) | (simp; omega) | exact Below.size (by assumption) | exact Nat.le_trans (Below.size (by assumption)) (by simp)) _) | (refine Below.via' ?_ (by assumption)) | (refine Below.alloc ?_ (by first | omega | (simp; done) | (simp; omega) | exact Below.size (by assumption) | exact Nat.le_trans (Below.size (by assumption)) (by simp)) _) | (refine Below.via ?_ (by assumption) (by first | omega | (simp; done) | (simp; omega) | exact Below.size (by assumption) | exact Nat.le_trans (Below.size (by assumption)) (by simp)))))))).mono ?_
  rintro e w1 ⟨rfl, hb1⟩
  cases he : elB S (eM Q)
  · have hv := Lib.hid (fpB_no (cp_no1 he))
    go_wp2
    go_ret2
    exact retLB_no hv.out (by repeat (first | exact Below.refl _ _ | assumption | refine Below.drew ?_ | refine below_drewN ?_ _ | refine Below.alloc' ?_ _ | (refine Below.setCell ?_ (by first | omega | (simp; done) | (simp; omega) | exact Below.size (by assumption) | exact Nat.le_trans (Below.size (by assumption)) (by simp)) _) | (refine Below.via' ?_ (by assumption)) | (refine Below.alloc ?_ (by first | omega | (simp; done) | (simp; omega) | exact Below.size (by assumption) | exact Nat.le_trans (Below.size (by assumption)) (by simp)) _) | (refine Below.via ?_ (by assumption) (by first | omega | (simp; done) | (simp; omega) | exact Below.size (by assumption) | exact Nat.le_trans (Below.size (by assumption)) (by simp)))))
  have heh := Lib.hid he
  have hsh := Lib.hid (el_get he).1
  clear he
  go_wp2_with fail
  refine (sCount_any _ _ S _ hsh.out hm (hSh.out.rd.below (by exact (by repeat (first | exact Below.refl _ _ | assumption | refine Below.drew ?_ | refine below_drewN ?_ _ | refine Below.alloc' ?_ _ | (refine Below.setCell ?_ (by first | omega | (simp; done) | (simp; omega) | exact Below.size (by assumption) | exact Nat.le_trans (Below.size (by assumption)) (by simp)) _) | (refine Below.via' ?_ (by assumption)) | (refine Below.alloc ?_ (by first | omega | (simp; done) | (simp; omega) | exact Below.size (by assumption) | exact Nat.le_trans (Below.size (by assumption)) (by simp)) _) | (refine Below.via ?_ (by assumption) (by first | omega | (simp; done) | (simp; omega) | exact Below.size (by assumption) | exact Nat.le_trans (Below.size (by assumption)) (by simp)))))))).mono ?_
  rintro e w2 ⟨rfl, hb2⟩
  by_cases hbig : (20000 : Int) < cnZ S
  · have hv := Lib.hid (fpB_no (cp_no2 (M := eM Q) hbig))
    go_wp2
    go_ret2
    exact retLB_no hv.out (by repeat (first | exact Below.refl _ _ | assumption | refine Below.drew ?_ | refine below_drewN ?_ _ | refine Below.alloc' ?_ _ | (refine Below.setCell ?_ (by first | omega | (simp; done) | (simp; omega) | exact Below.size (by assumption) | exact Nat.le_trans (Below.size (by assumption)) (by simp)) _) | (refine Below.via' ?_ (by assumption)) | (refine Below.alloc ?_ (by first | omega | (simp; done) | (simp; omega) | exact Below.size (by assumption) | exact Nat.le_trans (Below.size (by assumption)) (by simp)) _) | (refine Below.via ?_ (by assumption) (by first | omega | (simp; done) | (simp; omega) | exact Below.size (by assumption) | exact Nat.le_trans (Below.size (by assumption)) (by simp)))))
  have hv := Lib.hid (cp_yes heh.out hbig)
  go_wp2_with fail
  refine (ePassing_row _ _ _ _ S Q _ heh.out (hSh.out.below (by exact (by repeat (first | exact Below.refl _ _ | assumption | refine Below.drew ?_ | refine below_drewN ?_ _ | refine Below.alloc' ?_ _ | (refine Below.setCell ?_ (by first | omega | (simp; done) | (simp; omega) | exact Below.size (by assumption) | exact Nat.le_trans (Below.size (by assumption)) (by simp)) _) | (refine Below.via' ?_ (by assumption)) | (refine Below.alloc ?_ (by first | omega | (simp; done) | (simp; omega) | exact Below.size (by assumption) | exact Nat.le_trans (Below.size (by assumption)) (by simp)) _) | (refine Below.via ?_ (by assumption) (by first | omega | (simp; done) | (simp; omega) | exact Below.size (by assumption) | exact Nat.le_trans (Below.size (by assumption)) (by simp))))))) (hQh.out.below (by exact (by repeat (first | exact Below.refl _ _ | assumption | refine Below.drew ?_ | refine below_drewN ?_ _ | refine Below.alloc' ?_ _ | (refine Below.setCell ?_ (by first | omega | (simp; done) | (simp; omega) | exact Below.size (by assumption) | exact Nat.le_trans (Below.size (by assumption)) (by simp)) _) | (refine Below.via' ?_ (by assumption)) | (refine Below.alloc ?_ (by first | omega | (simp; done) | (simp; omega) | exact Below.size (by assumption) | exact Nat.le_trans (Below.size (by assumption)) (by simp)) _) | (refine Below.via ?_ (by assumption) (by first | omega | (simp; done) | (simp; omega) | exact Below.size (by assumption) | exact Nat.le_trans (Below.size (by assumption)) (by simp)))))))).mono ?_
  rintro e w3 ⟨u3, rfl, ho3, hb3⟩
  have hs2 : Below w.heap.size w w2 := (by repeat (first | exact Below.refl _ _ | assumption | refine Below.drew ?_ | refine below_drewN ?_ _ | refine Below.alloc' ?_ _ | (refine Below.setCell ?_ (by first | omega | (simp; done) | (simp; omega) | exact Below.size (by assumption) | exact Nat.le_trans (Below.size (by assumption)) (by simp)) _) | (refine Below.via' ?_ (by assumption)) | (refine Below.alloc ?_ (by first | omega | (simp; done) | (simp; omega) | exact Below.size (by assumption) | exact Nat.le_trans (Below.size (by assumption)) (by simp)) _) | (refine Below.via ?_ (by assumption) (by first | omega | (simp; done) | (simp; omega) | exact Below.size (by assumption) | exact Nat.le_trans (Below.size (by assumption)) (by simp)))))
  have hB3 : Below w.heap.size w w3 := hs2.trans (hb3.mono hs2.size)
  have own3 := Lib.hid (own_more ho3 hs2.size)
  clear ho3 hb3 hs2 hb2 hb1
  by_cases hz : cpN S (eM Q) (cnZ S).toNat = 0
  · have hv2 := Lib.hid (fpB_zero hz)
    have hnil := Lib.hid (fp_nil hz)
    have hlt : ¬ (0 : Int) < (cpN S (eM Q) (cnZ S).toNat : Int) := by omega
    replace hz := Lib.hid hz
    go_wp2
    go_ret2
    refine retLB_dec (d := decide ((0 : Nat) < cpN S (eM Q) (cnZ S).toNat)) ((decide_eq_false (by omega)).trans hv2.out.symm) ?_ hB3
    rw [eIf_f hv2.out]
    have := own3.out
    rw [hnil.out] at this
    exact this
  · have hlt : (0 : Int) < (cpN S (eM Q) (cnZ S).toNat : Int) := by omega
    have hv2 := Lib.hid (fpB_yes hv.out (Nat.pos_of_ne_zero hz))
    replace hz := Lib.hid hz
    go_wp2
    go_ret2
    refine retLB_dec (d := decide ((0 : Nat) < cpN S (eM Q) (cnZ S).toNat)) ((decide_eq_true (by omega)).trans hv2.out.symm) ?_ hB3
    rw [eIf_t hv2.out]
    exact own3.out
theorem sFP_m (x y : Option Addr) (c1 c2 : Nat) (S : List (ByteArray × Int)) (Q : List PR) (w : World) (hS : SIn w x c1 S) (hQ : EIn w y Q) (M : List (List Int)) (hM : eM Q = M) :
    Calls Try.prog 7 #[.slice x S.length c1, .slice y Q.length c2] w (RetLB (eIf (fpB S M) (fpL S M)) (fpB S M) w) := by subst hM; exact sFP_x x y c1 c2 S Q w hS hQ
end Go.Proofs.Ytjbhmofaackjpaa

namespace Go.Proofs.Ytjbhmofaackjpaa
open Go.RowKit Go.Shelf
set_option maxRecDepth 100000

/-- What an iterator's contract promises to a body that returns at once: it calls yield at most once, where J still holds and R x holds of the value. -/
def OneYield {β : Type} (P : Program) (gf : Nat) (lb : Array Value) (val : β → Value) (R : β → World → Prop) (Non : Prop) (w : World) : Prop :=
  ∀ (l : Nat) (J : World → Prop) (Jx : β → World → Prop) (W : World), Below w.heap.size w W → (∀ A B : World, J A → A.grownBy B none → J B) →
    (∀ x W1, J W1 → R x W1 → YieldAt Fence.wide 3 P l #[val x] W1 fun e W' => e = .returned (.bool false) ∧ Jx x W') → J W →
    CallsIn Fence.wide 4 P gf (#[.func (.yield l) #[] #[]] ++ lb) W fun e W' => (∃ v, e = .returned v) ∧ ((Non ∧ J W') ∨ ∃ x, Jx x W')

theorem range_first {β : Type} {P : Program} {g : Operand} {ps : Array Tmp} {assign body : Code} {Q : Exit → Act → World → Prop} {a : Act} {w w0 : World} {gf : Nat} {lb : Array Value}
    (hg : a.eval g = .func (.func gf) #[] lb) (eg : ∀ args w, (callFunc gf args).run P w = .ok (.enter gf args) w) (hps : ps.size = 1)
    (val : β → Value) (R : β → World → Prop) (hR : OwnFrom w.heap.size R) (Non : Prop) (hit : OneYield P gf lb val R Non w0) (hb0 : Below w0.heap.size w0 w)
    (I : Unit → World → Prop) (hI : OwnFrom w.heap.size I) (h0 : I () w) (X : β → World → Prop) (hX : OwnFrom w.heap.size X) (a₁ : β → Act)
    (hassign : ∀ (l : Nat) (x : β) (W : World) (K : Act → World → Prop), K (a₁ x) W →
      assign.wpIn (Fence.wide.inRound l) 3 P (Exit.then K (fun _ _ _ => False)) { tmps := (ps.zip #[val x]).foldl (fun t (p, v) => t.setIfInBounds p v) a.tmps, defers := [] } W)
    (hbody : ∀ (l : Nat) (x : β) (W : World), I () W → R x W → body.wpIn (Fence.wide.inRound l) 3 P (fun e _ W' => e = .ret ∧ KeepsFrom w.heap.size W W' ∧ X x W') (a₁ x) W)
    (hdone : ∀ W : World, Non → I () W → W.heap[w.heap.size]? = some (.deferred (some [])) → Q .normal { a with defers := { target := .collected w.heap.size, args := #[] } :: a.defers } W)
    (hstop : ∀ (x : β) (W : World), X x W → W.heap[w.heap.size]? = some (.deferred (some [])) → Code.ret.wpIn Fence.wide 5 P Q { a with defers := { target := .collected w.heap.size, args := #[] } :: a.defers } W) :
    (Code.rangeFunc g ps assign body).wpIn Fence.wide 5 P Q a w := by
  refine wpIn_rangeFunc ?_
  intro fn hfn
  rw [show Fence.wide.round = none from rfl]
  let r : LoopState → Option Code → Loop := fun st pe => { state := st, pending := pe, fn := fn, tmps := a.tmps, params := ps, assign := assign, body := body, defers := w.heap.size }
  let W1 := (w.alloc (.deferred (some []))).alloc (.loop (r .ready none))
  have hsz : (w.alloc (.deferred (some []))).heap.size = w.heap.size + 1 := World.size_alloc _ _
  have hL : W1.heap[w.heap.size + 1]? = some (.loop (r .ready none)) := by rw [← hsz]; exact World.alloc_heap_new _ _
  have hD : W1.heap[w.heap.size]? = some (.deferred (some [])) := (Below.heap_alloc _ _ _ (by omega)).trans (World.alloc_heap_new w _)
  have hIW : I () W1 := hI.alloc _ (hI.alloc _ h0)
  have hbW : Below w0.heap.size w0 W1 := hb0.trans (((Below.refl _ w).alloc (Nat.le_refl _) _ |>.alloc (by omega) _).mono hb0.size)
  refine ⟨w.heap.size + 1, [{ target := .collected w.heap.size, args := #[] }], W1, { target := .fn (.func gf) lb, args := #[.func (.yield (w.heap.size + 1)) #[] #[]] }, W1, gf, #[.func (.yield (w.heap.size + 1)) #[] #[]] ++ lb, W1, run_enterLoop_outer _ _ _ _ _, ?_, fun _ _ => trivial, ?_, fun _ => by omega, ?_⟩
  · simp only [resolve, hg]
    simp [go_sem]
  · simp [invoke, go_sem, eg]
  refine (hit (w.heap.size + 1) (fun W => I () W ∧ W.heap[w.heap.size + 1]? = some (.loop (r .ready none)) ∧ W.heap[w.heap.size]? = some (.deferred (some [])))
    (fun x W => X x W ∧ W.heap[w.heap.size + 1]? = some (.loop (r .done (some .ret))) ∧ W.heap[w.heap.size]? = some (.deferred (some []))) W1 hbW ?_ ?_ ⟨hIW, hL, hD⟩).mono ?_
  · rintro A B ⟨i, l, d⟩ hgr
    exact ⟨hI () A B none i hgr (by intro k hk; cases hk), (hgr.block _ (Array.getElem?_eq_some_iff.1 l).1 (by intro h; cases h)).trans l, (hgr.block _ (Array.getElem?_eq_some_iff.1 d).1 (by intro h; cases h)).trans d⟩
  · rintro x W ⟨i, l, d⟩ hr
    refine ⟨fn, _, assign, body, run_yield (args := #[val x]) l (by show 1 = ps.size; omega), roundIn_of_wpIn hfn (hassign _ x W _ ?_)⟩
    have hlt := (Array.getElem?_eq_some_iff.1 l).1
    refine ⟨_, run_beginRound l rfl, ?_⟩
    have l2 : (W.putObj (w.heap.size + 1) (.loop (r .busy none))).heap[w.heap.size + 1]? = some (.loop (r .busy none)) := World.putObj_heap_same hlt
    have d2 : (W.putObj (w.heap.size + 1) (.loop (r .busy none))).heap[w.heap.size]? = some (.deferred (some [])) := (World.putObj_heap_other (by omega)).trans d
    refine wpIn_mono (hbody _ x _ (hI.putObj _ i (by omega) l rfl) (hR.putObj _ hr (by omega) l rfl)) ?_
    rintro e a3 W3 ⟨rfl, hk, hx⟩
    have l3 := hk.same _ _ (by omega) l2 rfl
    have d3 := hk.same _ _ (Nat.le_refl _) d2 rfl
    exact ⟨_, _, run_endRound (some .ret) l3, rfl, hX.putObj _ hx (by omega) l3 rfl, World.putObj_heap_same (Array.getElem?_eq_some_iff.1 l3).1, (World.putObj_heap_other (by omega)).trans d3⟩
  · rintro e W2 ⟨⟨v, rfl⟩, ⟨hn, i, l, d⟩ | ⟨x, hx, l, d⟩⟩
    · exact ⟨none, _, run_endLoop l (by intro h; cases h), hdone _ hn (hI.putObj _ i (by omega) l rfl) ((World.putObj_heap_other (by omega)).trans d)⟩
    · exact ⟨some .ret, _, run_endLoop l (by intro h; cases h), hstop x _ (hX.putObj _ hx (by omega) l rfl) ((World.putObj_heap_other (by omega)).trans d)⟩
end Go.Proofs.Ytjbhmofaackjpaa

namespace Go.Proofs.Ytjbhmofaackjpaa
open Go.RowKit Go.Shelf
set_option maxRecDepth 100000
attribute [local go_sem] Oper.semAt_some

/-- What holds of a list of values (with its place) that is handed to the loop's body. -/
def PvR (S : List (ByteArray × Int)) (M : List (List Int)) (n₀ N : Nat) (x : Value × Nat) (W : World) : Prop :=
  (x.2 < N ∧ cpN S M x.2 = 0 ∧ faB M (atL S x.2) = false) ∧ W.ownsRow n₀ 3 1 x.1 (atL S x.2).length (iC (atL S x.2))
set_option maxHeartbeats 4000000 in
/-- The lists of values that pass, handed to a loop's body that returns at the first. -/
theorem pv_first (n : Nat) (hn : 1 ≤ n) (l B1 B2 n₀ : Nat) (x y : Option Addr) (c1 c2 : Nat) (S : List (ByteArray × Int)) (Q : List PR) (w : World) (hel : elB S (eM Q) = true) (hS : SIn w x c1 S) (hQ : EIn w y Q) (N : Nat) (hN : cnZ S = (N : Int)) (hN2 : N ≤ 262144) (J : World → Prop) (Jx : Value × Nat → World → Prop)
    (W : World) (hn₀ : n₀ ≤ W.heap.size) (hA : ∀ A B : World, J A → A.grownBy B none → J B)
    (hY : ∀ (v : Value × Nat) W1, J W1 → PvR S (eM Q) n₀ N v W1 → YieldAt Fence.wide (n - 1) Try.prog l #[v.1] W1 fun e W' => e = .returned (.bool false) ∧ Jx v W')
    (hB : Below w.heap.size w W) (h1 : Boxed W B1 24 (.slice x S.length c1)) (h2 : Boxed W B2 25 (.slice y Q.length c2)) (h0 : J W) :
    CallsIn Fence.wide n Try.prog 36 #[.func (.yield l) #[] #[], .pointer (some ⟨B1, 0, none⟩), .pointer (some ⟨B2, 0, none⟩)] W fun e W' => (∃ v, e = .returned v) ∧
      ((cpN S (eM Q) N = 0 ∧ J W') ∨ (∃ v, Jx v W')) := by
  obtain ⟨g1, g2, g3⟩ := el_get hel
  have hSh := Lib.hid hS
  have hQh := Lib.hid hQ
  have hm := hS.1
  have hsh := Lib.hid g1
  have hedh := Lib.hid g3
  have hNh := Lib.hid hN
  have hAh := Lib.hid hA
  have hYh := Lib.hid hY
  clear hS hQ hel g1 g2 g3 hN hA hY
  have hc1 := h1.cell
  refine callsIn_of_wp Try.func36 rfl trivial ?_ rfl
  simp only [Try.ntmps36, List.size_toArray, List.length_cons, List.length_nil, Nat.reduceAdd, Nat.reduceSub, Array.replicate_succ, Array.replicate_zero, List.push_toArray, List.append_toArray, List.nil_append, List.cons_append]
  gi_wp2_with fail
  refine ⟨trivial, ?_⟩
  refine (callsIn_wide.2 (countCombinations_any _ _ S _ hsh.out hm (hSh.out.rd.below hB))).mono ?_
  rintro e w1 ⟨rfl, hb1⟩
  have hN1 := hNh.out
  rw [hN1]
  clear hN1 hc1
  gi_wp2
  gi_loopw [8] (fun i wr => ∃ (k : Nat), k ≤ N ∧ i = .int .i64 k ∧ Hid (cpN S (eM Q) k = 0) ∧ J wr ∧ Below w.heap.size w wr ∧ Boxed wr B1 24 (.slice x S.length c1) ∧ Boxed wr B2 25 (.slice y Q.length c2) ∧ W.heap.size ≤ wr.heap.size)
    (fun i _ => N - (intOf i).toNat)
  case atStart => exact ⟨0, by omega, by first | rfl | go_num, rfl, hAh.out _ _ h0 (grown_belowE hb1), hB.trans (hb1.mono hB.size), (hb1.block B1 h1.lt).trans h1, (hb1.block B2 h2.lt).trans h2, hb1.size⟩
  case round =>
    clear h1 h2 h0 hb1
    obtain ⟨k, hk, rfl, hpre, hJ, hBr, b1, b2, hWr⟩ := hrel
    by_cases hlt : k < N
    · have hlt' : (k : Int) < (N : Int) := by omega
      have d1 := b1.cell
      have d2 := b2.cell
      have hNN := hNh.out
      have hkN : (k : Int) < cnZ S := by omega
      clear hNN
      gi_wp2_with fail
      refine ⟨trivial, ?_⟩
      refine (callsIn_wide.2 (combAt_any _ _ S (k : Int) _ (hSh.out.below hBr) hsh.out (by omega) hkN)).mono ?_
      rintro e w2 ⟨u2, rfl, ho2, hb2⟩
      obtain ⟨x2, n2, rfl, -, -⟩ := (OwR.of ho2).form
      have hin := Lib.hid (atL_iin hsh.out (show (0 : Int) ≤ (k : Int) by omega) (Rd.of_own ho2))
      have row2 := Lib.hid (own_more ho2 (Nat.le_trans hn₀ hWr))
      have J2 := Lib.hid (hAh.out _ _ hJ (grown_belowE hb2))
      have b12 : Boxed w2 B1 24 (.slice x S.length c1) := (hb2.block B1 b1.lt).trans b1
      have b22 : Boxed w2 B2 25 (.slice y Q.length c2) := (hb2.block B2 b2.lt).trans b2
      have hB2 : Below w.heap.size w w2 := hBr.trans (hb2.mono hBr.size)
      have hW2 : W.heap.size ≤ w2.heap.size := Nat.le_trans hWr hb2.size
      clear ho2 hb2 b1 b2 hJ hBr hWr d1 d2
      have d1 := b12.cell
      have d2 := b22.cell
      gi_wp2_with fail
      refine ⟨trivial, ?_⟩
      refine (callsIn_wide.2 (failsAny_any _ _ _ _ Q (atL S k) _ (fun E hE => fine_of hsh.out (hedh.out E hE) (at_fitE hsh.out (by omega))) (hQh.out.below hB2) hin.out)).mono ?_
      rintro e w3 ⟨rfl, hb3⟩
      have J3 := hAh.out _ _ J2.out (grown_belowE hb3)
      have row3 := Lib.hid (own_below row2.out hb3)
      have b13 : Boxed w3 B1 24 (.slice x S.length c1) := (hb3.block B1 b12.lt).trans b12
      have b23 : Boxed w3 B2 25 (.slice y Q.length c2) := (hb3.block B2 b22.lt).trans b22
      have hB3 : Below w.heap.size w w3 := hB2.trans (hb3.mono hB2.size)
      have hW3 : W.heap.size ≤ w3.heap.size := Nat.le_trans hW2 hb3.size
      clear d1 d2 b12 b22 J2 hb3 hB2 hW2 row2
      cases hfa : faB (eM Q) (atL S k)
      · obtain ⟨fn, tmps, assign, body, hy, hR⟩ := hYh.out (.slice x2 (atL S k).length n2, k) w3 J3 ⟨⟨hlt, hpre.out, hfa⟩, row3.out⟩
        try dsimp only at hy
        have hb13 := Lib.hid b13
        have hb23 := Lib.hid b23
        clear b13 b23 J3
        gi_wp2
        refine hR.mono ?_
        rintro e W3 ⟨rfl, hJx4⟩
        gi_wp2
        refine bodyPost_ret (results_none rfl _ _ _) rfl ?_
        exact ⟨⟨_, rfl⟩, .inr ⟨_, hJx4⟩⟩
      · have hst := Lib.hid (cpN_no hfa)
        have hb13 := Lib.hid b13
        have hb23 := Lib.hid b23
        have hJ3h := Lib.hid J3
        clear b13 b23 J3
        gi_wp2
        refine ⟨(fun f h => by cases h), ?_⟩
        gi_wp2
        go_roundw
        case rel => exact ⟨k + 1, by omega, by go_num, (by unfold Hid; rw [hst.out, hpre.out]), hJ3h.out, hB3, hb13.out, hb23.out, hW3⟩
        case measure => simp [intOf]; omega
    · have hij : k = N := by omega
      subst hij
      gi_wp2
      go_end0
      exact ⟨⟨_, rfl⟩, .inl ⟨hpre.out, hJ⟩⟩
theorem pv_one (B1 B2 n₀ : Nat) (x y : Option Addr) (c1 c2 : Nat) (S : List (ByteArray × Int)) (Q : List PR) (w W0 : World) (hel : elB S (eM Q) = true) (hS : SIn w x c1 S) (hQ : EIn w y Q) (N : Nat) (hN : cnZ S = (N : Int)) (hN2 : N ≤ 262144) (hB : Below w.heap.size w W0) (hn₀ : n₀ ≤ W0.heap.size)
    (h1 : Boxed W0 B1 24 (.slice x S.length c1)) (h2 : Boxed W0 B2 25 (.slice y Q.length c2)) :
    OneYield Try.prog 36 #[.pointer (some ⟨B1, 0, none⟩), .pointer (some ⟨B2, 0, none⟩)] (fun v : Value × Nat => v.1) (PvR S (eM Q) n₀ N) (cpN S (eM Q) N = 0) W0 := fun l J Jx W hW hA hY h0 =>
  pv_first 4 (by omega) l B1 B2 n₀ x y c1 c2 S Q w hel hS hQ N hN hN2 J Jx W (Nat.le_trans hn₀ hW.size) hA hY (hB.trans (hW.mono hB.size)) (boxed_below h1 hW) (boxed_below h2 hW) h0
/-- The two result variables' boxes, as they are laid at the beginning. -/
def ResB (n : Nat) (v : Value) (b : Bool) (W : World) : Prop := Boxed W n 28 v ∧ Boxed W (n + 1) 4 (.bool b)
theorem resB_new (w : World) : ResB w.heap.size (.slice none 0 0) false ((w.alloc (.cells #[.slice none 0 0] 28)).alloc (.cells #[.bool false] 4)) := by
  refine ⟨(Boxed.new w 28 _).alloc _, ?_⟩
  have := Boxed.new (w.alloc (.cells #[.slice none 0 0] 28)) 4 (.bool false)
  rwa [World.size_alloc] at this
theorem ResB.below {n : Nat} {v : Value} {b : Bool} {w W : World} (h : ResB n v b w) (hb : Below w.heap.size w W) : ResB n v b W := ⟨(hb.block _ h.1.lt).trans h.1, (hb.block _ h.2.lt).trans h.2⟩
theorem ResB.set {n : Nat} {v v0 : Value} {b b0 : Bool} {W : World} (h : ResB n v0 b0 W) : ResB n v b ((W.setCell ⟨n, 0, none⟩ v).setCell ⟨n + 1, 0, none⟩ (.bool b)) :=
  ⟨(h.1.set v).other (by omega) _, (h.2.other (by omega) v).set (.bool b)⟩
theorem resB_to {n : Nat} {v : Value} {b : Bool} {w W : World} (hb : Below w.heap.size w W) (hn : w.heap.size ≤ n) : Below w.heap.size w ((W.setCell ⟨n, 0, none⟩ v).setCell ⟨n + 1, 0, none⟩ (.bool b)) :=
  (hb.setCell (p := ⟨n, 0, none⟩) hn v).setCell (p := ⟨n + 1, 0, none⟩) (by show w.heap.size ≤ n + 1; omega) _
theorem resB_read {n : Nat} {v : Value} {b : Bool} {W : World} (h : ResB n v b W) (tmps : Array Value) (h4 : tmps[4]? = some (.pointer (some ⟨n, 0, none⟩))) (h5 : tmps[5]? = some (.pointer (some ⟨n + 1, 0, none⟩))) :
    (results Try.f6 tmps).run Try.prog W = .ok (.tuple #[v, .bool b]) W := by
  have d1 := h.1.cell
  have d2 := h.2.cell
  simp [results, Try.results6, h4, h5, loadVar, go_sem, d1, d2]
theorem ResB.put {n l : Nat} {v : Value} {b : Bool} {W : World} {o : Obj} (h : ResB n v b W) (o' : Obj) (hl : W.heap[l]? = some o) (ho : o.isCells = false) : ResB n v b (W.putObj l o') := by
  have hne : ∀ k c t z, W.heap[k]? = some (.cells c t z) → k ≠ l := by
    rintro k c t z hk rfl
    rw [hk] at hl
    cases hl
    cases ho
  exact ⟨(World.putObj_heap_other (hne _ _ _ _ h.1)).trans h.1, (World.putObj_heap_other (hne _ _ _ _ h.2)).trans h.2⟩
set_option maxHeartbeats 1000000 in
theorem iFP_no (x y : Option Addr) (c1 c2 : Nat) (S : List (ByteArray × Int)) (Q : List PR) (w : World) (hno : cpB S (eM Q) = false) (hS : SIn w x c1 S) (hQ : EIn w y Q) :
    Calls Try.prog 6 #[.slice x S.length c1, .slice y Q.length c2] w fun e w' => e = .returned (.tuple #[.slice none 0 0, .bool false]) ∧ Below w.heap.size w w' := by
  have hSh := Lib.hid hS
  have hQh := Lib.hid hQ
  have hm := hS.1
  have hnh := Lib.hid hno
  have hr := Lib.hid (resB_new w)
  clear hS hQ hno
  go_enter Try.func6, Try.ntmps6
  go_wp2_with fail
  refine (isSch_x _ _ _ _ (hSh.out.below (by exact (by repeat (first | exact Below.refl _ _ | assumption | refine Below.drew ?_ | refine below_drewN ?_ _ | refine Below.alloc' ?_ _ | (refine Below.setCell ?_ (by first | omega | (simp; done) | (simp; omega) | exact Below.size (by assumption) | exact Nat.le_trans (Below.size (by assumption)) (by simp)) _) | (refine Below.via' ?_ (by assumption)) | (refine Below.alloc ?_ (by first | omega | (simp; done) | (simp; omega) | exact Below.size (by assumption) | exact Nat.le_trans (Below.size (by assumption)) (by simp)) _) | (refine Below.via ?_ (by assumption) (by first | omega | (simp; done) | (simp; omega) | exact Below.size (by assumption) | exact Nat.le_trans (Below.size (by assumption)) (by simp)))))))).mono ?_
  rintro e w1 ⟨rfl, hb1⟩
  cases hs : schB S
  · obtain ⟨r1, r2⟩ := hr.out.below hb1
    have c1 := r1.cell
    have f1 := r1.frozen
    have c2 := r2.cell
    have f2 := r2.frozen
    have r1h := Lib.hid r1
    have r2h := Lib.hid r2
    clear r1 r2
    go_wp2
    refine bodyPost_ret (resB_read (ResB.set ⟨r1h.out, r2h.out⟩) _ rfl rfl) rfl ?_
    exact ⟨rfl, resB_to (by exact (by repeat (first | exact Below.refl _ _ | assumption | refine Below.drew ?_ | refine below_drewN ?_ _ | refine Below.alloc' ?_ _ | (refine Below.setCell ?_ (by first | omega | (simp; done) | (simp; omega) | exact Below.size (by assumption) | exact Nat.le_trans (Below.size (by assumption)) (by simp)) _) | (refine Below.via' ?_ (by assumption)) | (refine Below.alloc ?_ (by first | omega | (simp; done) | (simp; omega) | exact Below.size (by assumption) | exact Nat.le_trans (Below.size (by assumption)) (by simp)) _) | (refine Below.via ?_ (by assumption) (by first | omega | (simp; done) | (simp; omega) | exact Below.size (by assumption) | exact Nat.le_trans (Below.size (by assumption)) (by simp)))))) (Nat.le_refl _)⟩
  have hsh := Lib.hid hs
  clear hs
  have hr2 := Lib.hid (hr.out.below hb1)
  have hB1 : Below w.heap.size w w1 := (by repeat (first | exact Below.refl _ _ | assumption | refine Below.drew ?_ | refine below_drewN ?_ _ | refine Below.alloc' ?_ _ | (refine Below.setCell ?_ (by first | omega | (simp; done) | (simp; omega) | exact Below.size (by assumption) | exact Nat.le_trans (Below.size (by assumption)) (by simp)) _) | (refine Below.via' ?_ (by assumption)) | (refine Below.alloc ?_ (by first | omega | (simp; done) | (simp; omega) | exact Below.size (by assumption) | exact Nat.le_trans (Below.size (by assumption)) (by simp)) _) | (refine Below.via ?_ (by assumption) (by first | omega | (simp; done) | (simp; omega) | exact Below.size (by assumption) | exact Nat.le_trans (Below.size (by assumption)) (by simp)))))
  clear hb1
  go_wp2_with fail
  refine (areEditsFor_any _ _ _ _ S Q _ hsh.out hm (hSh.out.rd.below (by exact (by repeat (first | exact Below.refl _ _ | assumption | refine Below.drew ?_ | refine below_drewN ?_ _ | refine Below.alloc' ?_ _ | (refine Below.setCell ?_ (by first | omega | (simp; done) | (simp; omega) | exact Below.size (by assumption) | exact Nat.le_trans (Below.size (by assumption)) (by simp)) _) | (refine Below.via' ?_ (by assumption)) | (refine Below.alloc ?_ (by first | omega | (simp; done) | (simp; omega) | exact Below.size (by assumption) | exact Nat.le_trans (Below.size (by assumption)) (by simp)) _) | (refine Below.via ?_ (by assumption) (by first | omega | (simp; done) | (simp; omega) | exact Below.size (by assumption) | exact Nat.le_trans (Below.size (by assumption)) (by simp))))))) (hQh.out.below (by exact (by repeat (first | exact Below.refl _ _ | assumption | refine Below.drew ?_ | refine below_drewN ?_ _ | refine Below.alloc' ?_ _ | (refine Below.setCell ?_ (by first | omega | (simp; done) | (simp; omega) | exact Below.size (by assumption) | exact Nat.le_trans (Below.size (by assumption)) (by simp)) _) | (refine Below.via' ?_ (by assumption)) | (refine Below.alloc ?_ (by first | omega | (simp; done) | (simp; omega) | exact Below.size (by assumption) | exact Nat.le_trans (Below.size (by assumption)) (by simp)) _) | (refine Below.via ?_ (by assumption) (by first | omega | (simp; done) | (simp; omega) | exact Below.size (by assumption) | exact Nat.le_trans (Below.size (by assumption)) (by simp)))))))).mono ?_
  rintro e w2 ⟨rfl, hb2⟩
  have hr3 := Lib.hid (hr2.out.below hb2)
  have hB2 : Below w.heap.size w w2 := (by repeat (first | exact Below.refl _ _ | assumption | refine Below.drew ?_ | refine below_drewN ?_ _ | refine Below.alloc' ?_ _ | (refine Below.setCell ?_ (by first | omega | (simp; done) | (simp; omega) | exact Below.size (by assumption) | exact Nat.le_trans (Below.size (by assumption)) (by simp)) _) | (refine Below.via' ?_ (by assumption)) | (refine Below.alloc ?_ (by first | omega | (simp; done) | (simp; omega) | exact Below.size (by assumption) | exact Nat.le_trans (Below.size (by assumption)) (by simp)) _) | (refine Below.via ?_ (by assumption) (by first | omega | (simp; done) | (simp; omega) | exact Below.size (by assumption) | exact Nat.le_trans (Below.size (by assumption)) (by simp)))))
  clear hb2 hB1
  cases he : elB S (eM Q)
  · obtain ⟨r1, r2⟩ := hr3.out
    have c1 := r1.cell
    have f1 := r1.frozen
    have c2 := r2.cell
    have f2 := r2.frozen
    have r1h := Lib.hid r1
    have r2h := Lib.hid r2
    clear r1 r2
    go_wp2
    refine bodyPost_ret (resB_read (ResB.set ⟨r1h.out, r2h.out⟩) _ rfl rfl) rfl ?_
    exact ⟨rfl, resB_to hB2 (Nat.le_refl _)⟩
  have hbig : (20000 : Int) < cnZ S := by
    by_cases h : 20000 < cnZ S
    · exact h
    · have := hnh.out
      rw [cp_yes he h] at this
      cases this
  clear he
  go_wp2_with fail
  refine (countCombinations_any _ _ S _ hsh.out hm (hSh.out.rd.below hB2)).mono ?_
  rintro e w3 ⟨rfl, hb3⟩
  have hB3 : Below w.heap.size w w3 := (by repeat (first | exact Below.refl _ _ | assumption | refine Below.drew ?_ | refine below_drewN ?_ _ | refine Below.alloc' ?_ _ | (refine Below.setCell ?_ (by first | omega | (simp; done) | (simp; omega) | exact Below.size (by assumption) | exact Nat.le_trans (Below.size (by assumption)) (by simp)) _) | (refine Below.via' ?_ (by assumption)) | (refine Below.alloc ?_ (by first | omega | (simp; done) | (simp; omega) | exact Below.size (by assumption) | exact Nat.le_trans (Below.size (by assumption)) (by simp)) _) | (refine Below.via ?_ (by assumption) (by first | omega | (simp; done) | (simp; omega) | exact Below.size (by assumption) | exact Nat.le_trans (Below.size (by assumption)) (by simp)))))
  obtain ⟨r1, r2⟩ := hr3.out.below hb3
  have c1 := r1.cell
  have f1 := r1.frozen
  have c2 := r2.cell
  have f2 := r2.frozen
  have r1h := Lib.hid r1
  have r2h := Lib.hid r2
  clear r1 r2 hb3 hB2
  go_wp2
  refine bodyPost_ret (resB_read (ResB.set ⟨r1h.out, r2h.out⟩) _ rfl rfl) rfl ?_
  exact ⟨rfl, resB_to hB3 (Nat.le_refl _)⟩
theorem own_cells {X Y : World} {row : Option Nat} {n₀ e size n : Nat} {v : Value} {xs : List Value} (h : X.ownsRow n₀ e size v n xs) (hg : X.grownBy Y row) (hrow : ∀ r, row = some r → ∃ o : Obj, X.heap[r]? = some o ∧ o.isCells = false) : Y.ownsRow n₀ e size v n xs := by
  refine h.kept hg ?_
  rcases h.2 with ⟨rfl, _⟩ | ⟨g, cap, cur, rfl, _, hgb, _⟩
  · exact .inl rfl
  · refine .inr fun e' => ?_
    obtain ⟨o, ho, hc⟩ := hrow g (by simpa [Value.ownBlock] using e'.symm)
    rw [hgb] at ho
    cases ho
    cases hc
theorem pvR_own (S : List (ByteArray × Int)) (M : List (List Int)) (n₀ N : Nat) : Own (PvR S M n₀ N) := fun _ _ _ _ h hg hr => ⟨h.1, own_cells h.2 hg hr⟩
theorem resB_own {β : Type} (n : Nat) (f : β → Value) (b : Bool) : Own (fun s W => ResB n (f s) b W) := fun s A B row h hg hr =>
  ⟨boxed_own n 28 f s A B row h.1 hg hr, boxed_own (n + 1) 4 (fun _ => .bool b) s A B row h.2 hg hr⟩
theorem pvR_set {S : List (ByteArray × Int)} {M : List (List Int)} {n₀ N n : Nat} {x : Value × Nat} {W : World} {v v0 : Value} {b b0 : Bool} (h : PvR S M n₀ N x W) (r : ResB n v0 b0 W) : PvR S M n₀ N x ((W.setCell ⟨n, 0, none⟩ v).setCell ⟨n + 1, 0, none⟩ (.bool b)) := by
  have h1 := h.2.kept (grownBy_setCell' W n v) (.inr (Ne.symm (r.1.not_row (by decide) h.2)))
  have r2 := r.2.other (by omega) (B' := n) v
  exact ⟨h.1, h1.kept (grownBy_setCell' _ (n + 1) (.bool b)) (.inr (Ne.symm (r2.not_row (by decide) h1)))⟩
set_option maxHeartbeats 2000000 in
theorem iFP_yes (x y : Option Addr) (c1 c2 : Nat) (S : List (ByteArray × Int)) (Q : List PR) (w : World) (hok : cpB S (eM Q) = true) (hS : SIn w x c1 S) (hQ : EIn w y Q) :
    Calls Try.prog 6 #[.slice x S.length c1, .slice y Q.length c2] w (RetLB (eIf (fpB S (eM Q)) (fpL S (eM Q))) (fpB S (eM Q)) w) := by
  have hSh := Lib.hid hS
  have hQh := Lib.hid hQ
  have hm := hS.1
  have hel : elB S (eM Q) = true ∧ ¬ 20000 < cnZ S := by unfold cpB at hok; rw [Bool.and_eq_true, decide_eq_true_eq] at hok; exact ⟨hok.1, by omega⟩
  obtain ⟨heh, hle⟩ := hel
  replace heh := Lib.hid heh
  have hsh := Lib.hid (el_get heh.out).1
  obtain ⟨n1, n2⟩ := cn_all hsh.out
  obtain ⟨N, hN⟩ : ∃ N : Nat, cnZ S = (N : Int) := ⟨(cnZ S).toNat, by omega⟩
  have hN2 : N ≤ 262144 := by omega
  have hNh := Lib.hid hN
  have hokh := Lib.hid hok
  have hr := Lib.hid (resB_new w)
  clear hS hQ hok hN
  refine (callsIn_wide (n := 5)).1 ?_
  refine callsIn_of_wp_marks Try.func6 rfl trivial ?_ rfl
  simp only [Try.ntmps6, List.size_toArray, List.length_cons, List.length_nil, Nat.reduceAdd, Nat.reduceSub, Array.replicate_succ, Array.replicate_zero, List.push_toArray, List.append_toArray, List.nil_append, List.cons_append]
  refine wpIn_wide.2 ?_
  go_wp2_with fail
  refine (isSch_x _ _ _ _ (hSh.out.below (by exact (by repeat (first | exact Below.refl _ _ | assumption | refine Below.drew ?_ | refine below_drewN ?_ _ | refine Below.alloc' ?_ _ | (refine Below.setCell ?_ (by first | omega | (simp; done) | (simp; omega) | exact Below.size (by assumption) | exact Nat.le_trans (Below.size (by assumption)) (by simp)) _) | (refine Below.via' ?_ (by assumption)) | (refine Below.alloc ?_ (by first | omega | (simp; done) | (simp; omega) | exact Below.size (by assumption) | exact Nat.le_trans (Below.size (by assumption)) (by simp)) _) | (refine Below.via ?_ (by assumption) (by first | omega | (simp; done) | (simp; omega) | exact Below.size (by assumption) | exact Nat.le_trans (Below.size (by assumption)) (by simp)))))))).mono ?_
  rintro e w1 ⟨rfl, hb1⟩
  rw [hsh.out]
  have hr2 := Lib.hid (hr.out.below hb1)
  have hB1 : Below w.heap.size w w1 := (by repeat (first | exact Below.refl _ _ | assumption | refine Below.drew ?_ | refine below_drewN ?_ _ | refine Below.alloc' ?_ _ | (refine Below.setCell ?_ (by first | omega | (simp; done) | (simp; omega) | exact Below.size (by assumption) | exact Nat.le_trans (Below.size (by assumption)) (by simp)) _) | (refine Below.via' ?_ (by assumption)) | (refine Below.alloc ?_ (by first | omega | (simp; done) | (simp; omega) | exact Below.size (by assumption) | exact Nat.le_trans (Below.size (by assumption)) (by simp)) _) | (refine Below.via ?_ (by assumption) (by first | omega | (simp; done) | (simp; omega) | exact Below.size (by assumption) | exact Nat.le_trans (Below.size (by assumption)) (by simp)))))
  clear hb1
  go_wp2_with fail
  refine (areEditsFor_any _ _ _ _ S Q _ hsh.out hm (hSh.out.rd.below (by exact (by repeat (first | exact Below.refl _ _ | assumption | refine Below.drew ?_ | refine below_drewN ?_ _ | refine Below.alloc' ?_ _ | (refine Below.setCell ?_ (by first | omega | (simp; done) | (simp; omega) | exact Below.size (by assumption) | exact Nat.le_trans (Below.size (by assumption)) (by simp)) _) | (refine Below.via' ?_ (by assumption)) | (refine Below.alloc ?_ (by first | omega | (simp; done) | (simp; omega) | exact Below.size (by assumption) | exact Nat.le_trans (Below.size (by assumption)) (by simp)) _) | (refine Below.via ?_ (by assumption) (by first | omega | (simp; done) | (simp; omega) | exact Below.size (by assumption) | exact Nat.le_trans (Below.size (by assumption)) (by simp))))))) (hQh.out.below (by exact (by repeat (first | exact Below.refl _ _ | assumption | refine Below.drew ?_ | refine below_drewN ?_ _ | refine Below.alloc' ?_ _ | (refine Below.setCell ?_ (by first | omega | (simp; done) | (simp; omega) | exact Below.size (by assumption) | exact Nat.le_trans (Below.size (by assumption)) (by simp)) _) | (refine Below.via' ?_ (by assumption)) | (refine Below.alloc ?_ (by first | omega | (simp; done) | (simp; omega) | exact Below.size (by assumption) | exact Nat.le_trans (Below.size (by assumption)) (by simp)) _) | (refine Below.via ?_ (by assumption) (by first | omega | (simp; done) | (simp; omega) | exact Below.size (by assumption) | exact Nat.le_trans (Below.size (by assumption)) (by simp)))))))).mono ?_
  rintro e w2 ⟨rfl, hb2⟩
  rw [heh.out]
  have hr3 := Lib.hid (hr2.out.below hb2)
  have hB2 : Below w.heap.size w w2 := (by repeat (first | exact Below.refl _ _ | assumption | refine Below.drew ?_ | refine below_drewN ?_ _ | refine Below.alloc' ?_ _ | (refine Below.setCell ?_ (by first | omega | (simp; done) | (simp; omega) | exact Below.size (by assumption) | exact Nat.le_trans (Below.size (by assumption)) (by simp)) _) | (refine Below.via' ?_ (by assumption)) | (refine Below.alloc ?_ (by first | omega | (simp; done) | (simp; omega) | exact Below.size (by assumption) | exact Nat.le_trans (Below.size (by assumption)) (by simp)) _) | (refine Below.via ?_ (by assumption) (by first | omega | (simp; done) | (simp; omega) | exact Below.size (by assumption) | exact Nat.le_trans (Below.size (by assumption)) (by simp)))))
  clear hb2 hB1
  go_wp2_with fail
  refine (countCombinations_any _ _ S _ hsh.out hm (hSh.out.rd.below (by exact (by repeat (first | exact Below.refl _ _ | assumption | refine Below.drew ?_ | refine below_drewN ?_ _ | refine Below.alloc' ?_ _ | (refine Below.setCell ?_ (by first | omega | (simp; done) | (simp; omega) | exact Below.size (by assumption) | exact Nat.le_trans (Below.size (by assumption)) (by simp)) _) | (refine Below.via' ?_ (by assumption)) | (refine Below.alloc ?_ (by first | omega | (simp; done) | (simp; omega) | exact Below.size (by assumption) | exact Nat.le_trans (Below.size (by assumption)) (by simp)) _) | (refine Below.via ?_ (by assumption) (by first | omega | (simp; done) | (simp; omega) | exact Below.size (by assumption) | exact Nat.le_trans (Below.size (by assumption)) (by simp)))))))).mono ?_
  rintro e w3 ⟨rfl, hb3⟩
  have hB3 : Below w.heap.size w w3 := (by repeat (first | exact Below.refl _ _ | assumption | refine Below.drew ?_ | refine below_drewN ?_ _ | refine Below.alloc' ?_ _ | (refine Below.setCell ?_ (by first | omega | (simp; done) | (simp; omega) | exact Below.size (by assumption) | exact Nat.le_trans (Below.size (by assumption)) (by simp)) _) | (refine Below.via' ?_ (by assumption)) | (refine Below.alloc ?_ (by first | omega | (simp; done) | (simp; omega) | exact Below.size (by assumption) | exact Nat.le_trans (Below.size (by assumption)) (by simp)) _) | (refine Below.via ?_ (by assumption) (by first | omega | (simp; done) | (simp; omega) | exact Below.size (by assumption) | exact Nat.le_trans (Below.size (by assumption)) (by simp)))))
  have hr4 := Lib.hid (hr3.out.below hb3)
  clear hb3 hB2
  go_wp2_with fail
  refine (passingValues_any _ _ _ _ _ _ _).mono ?_
  rintro e w4 ⟨rfl, rfl⟩
  have bS := (Boxed.new w3 24 (.slice x S.length c1)).alloc (.cells #[.slice y Q.length c2] 25)
  have bQ := Boxed.new (w3.alloc (.cells #[.slice x S.length c1] 24)) 25 (.slice y Q.length c2)
  simp only [World.size_alloc] at bS bQ ⊢
  have hB0 : Below w.heap.size w ((w3.alloc (.cells #[.slice x S.length c1] 24)).alloc (.cells #[.slice y Q.length c2] 25)) := (by repeat (first | exact Below.refl _ _ | assumption | refine Below.drew ?_ | refine below_drewN ?_ _ | refine Below.alloc' ?_ _ | (refine Below.setCell ?_ (by first | omega | (simp; done) | (simp; omega) | exact Below.size (by assumption) | exact Nat.le_trans (Below.size (by assumption)) (by simp)) _) | (refine Below.via' ?_ (by assumption)) | (refine Below.alloc ?_ (by first | omega | (simp; done) | (simp; omega) | exact Below.size (by assumption) | exact Nat.le_trans (Below.size (by assumption)) (by simp)) _) | (refine Below.via ?_ (by assumption) (by first | omega | (simp; done) | (simp; omega) | exact Below.size (by assumption) | exact Nat.le_trans (Below.size (by assumption)) (by simp)))))
  have hr0 : ResB w.heap.size (.slice none 0 0) false ((w3.alloc (.cells #[.slice x S.length c1] 24)).alloc (.cells #[.slice y Q.length c2] 25)) := ⟨(hr4.out.1.alloc _).alloc _, (hr4.out.2.alloc _).alloc _⟩
  have hw3 := hB3.size
  obtain ⟨W0, hW0⟩ : ∃ W0, (w3.alloc (.cells #[.slice x S.length c1] 24)).alloc (.cells #[.slice y Q.length c2] 25) = W0 := ⟨_, rfl⟩
  rw [hW0] at bS bQ hB0 hr0 ⊢
  have hn0 := hB0.size
  have hD0 := hr0.2.lt
  clear hW0
  go_wp2
  refine (wpIn_wide (n := 5)).1 ?_
  refine range_first (gf := 36) (lb := #[.pointer (some ⟨w3.heap.size, 0, none⟩), .pointer (some ⟨w3.heap.size + 1, 0, none⟩)]) rfl (enters_of Try.func36 (by kernel_rfl) rfl) rfl
    (fun v : Value × Nat => v.1) (PvR S (eM Q) w.heap.size N) ((pvR_own _ _ _ _).from _) (cpN S (eM Q) N = 0)
    (pv_one w3.heap.size (w3.heap.size + 1) w.heap.size x y c1 c2 S Q w W0 heh.out hSh.out hQh.out N hNh.out hN2 hB0 hn0 bS bQ) (Below.refl _ _)
    (fun _ W => ResB w.heap.size (.slice none 0 0) false W ∧ Below w.heap.size w W) (((resB_own w.heap.size (fun _ : Unit => .slice none 0 0) false).from _).and (ownFrom_below (Nat.le_refl _) (by omega))) ⟨hr0, hB0⟩
    (fun x W => (PvR S (eM Q) w.heap.size N x W ∧ ResB w.heap.size x.1 true W) ∧ Below w.heap.size w W) ((((pvR_own _ _ _ _).from _).and ((resB_own w.heap.size (fun x : Value × Nat => x.1) true).from _)).and (ownFrom_below (Nat.le_refl _) (by omega)))
    (fun z => { tmps := #[.slice x S.length c1, .slice y Q.length c2, undef, undef, .pointer (some ⟨w.heap.size, 0, none⟩), .pointer (some ⟨w.heap.size + 1, 0, none⟩), z.1, .slice x S.length c1, .bool true, .bool false, .bool false, .slice x S.length c1, .slice y Q.length c2, .bool true, .bool false, .bool false, .bool false, .slice x S.length c1, .int .i64 (cnZ S), .bool (decide ((20000 : Int) < cnZ S)), .bool (decide ((20000 : Int) < cnZ S)), .slice x S.length c1, .slice y Q.length c2, .func (.func 36) #[] #[.pointer (some ⟨w3.heap.size, 0, none⟩), .pointer (some ⟨w3.heap.size + 1, 0, none⟩)], z.1, undef], defers := [] })
    ?assign ?body ?done ?stop
  case assign =>
    rintro l z W K hK
    gi_wp2
    exact hK
  case body =>
    rintro l ⟨v, k⟩ W ⟨r, hB⟩ hp
    obtain ⟨x2, n2, hx, -, -⟩ := (OwR.of hp.2).form
    dsimp only at hx
    subst hx
    have c1 := r.1.cell
    have f1 := r.1.frozen
    have c2 := r.2.cell
    have f2 := r.2.frozen
    have rh := Lib.hid r
    have ph := Lib.hid hp
    clear r hp
    gi_wp2
    exact ⟨((KeepsOthers.setCell _ _ _).from _).trans ((KeepsOthers.setCell _ _ _).from _), ⟨pvR_set ph.out rh.out, rh.out.set⟩, resB_to hB (Nat.le_refl _)⟩
  case done =>
    rintro W hz ⟨r, hB⟩ hK
    have hzh := Lib.hid hz
    have c1 := r.1.cell
    have f1 := r.1.frozen
    have c2 := r.2.cell
    have f2 := r.2.frozen
    have rh := Lib.hid r
    have hKh := Lib.hid hK
    clear r hz hK
    have hv := Lib.hid (fpB_zero (M := eM Q) (show cpN S (eM Q) (cnZ S).toNat = 0 by rw [show (cnZ S).toNat = N by have := hNh.out; omega]; exact hzh.out))
    go_wp2
    have hD : ((W.setCell ⟨w.heap.size, 0, none⟩ (.slice none 0 0)).setCell ⟨w.heap.size + 1, 0, none⟩ (.bool false)).heap[W0.heap.size]? = some (.deferred (some [])) :=
      (Below.heap_setCell _ _ _ _ (by show W0.heap.size ≠ w.heap.size + 1; omega)).trans ((Below.heap_setCell _ _ _ _ (by show W0.heap.size ≠ w.heap.size; omega)).trans hKh.out)
    have hfin : ResB w.heap.size (.slice none 0 0) false ((W.setCell ⟨w.heap.size, 0, none⟩ (.slice none 0 0)).setCell ⟨w.heap.size + 1, 0, none⟩ (.bool false)) := rh.out.set
    have hBf := resB_to (v := .slice none 0 0) (b := false) hB (Nat.le_refl w.heap.size)
    refine ⟨by simp, .inl ⟨_, _, rfl, run_takeDeferred hD, ?_⟩⟩
    refine ⟨_, resB_read (hfin.put _ hD rfl) _ rfl rfl, retLB_no hv.out (hBf.trans (belowK_b (w := w) (Nat.le_refl _) _ W0.heap.size _ _ (by omega) hD rfl rfl))⟩
  case stop =>
    rintro ⟨v, k⟩ W ⟨⟨hp, r⟩, hB⟩ hK
    obtain ⟨⟨p1, p2, p3⟩, p4⟩ := hp
    dsimp only at p1 p2 p3 p4 r
    obtain ⟨f1, f2⟩ := fp_found p1 p3 p2
    rw [show N = (cnZ S).toNat by have := hNh.out; omega] at f1 f2
    have hv := Lib.hid (fpB_yes hokh.out f2)
    have hrow := Lib.hid (ownsRow_putObj p4 (.deferred none) hK rfl)
    have hf1 := Lib.hid (show fpL S (eM Q) = atL S k from f1)
    clear p1 p2 p3 p4 f1 f2
    gi_wp2
    refine ⟨by simp, .inl ⟨_, _, rfl, run_takeDeferred hK, ?_⟩⟩
    refine ⟨_, resB_read (r.put _ hK rfl) _ rfl rfl, retLB_yes hv.out (by rw [hf1.out]; exact hrow.out) (hB.trans (belowK_b (w := w) (Nat.le_refl _) _ W0.heap.size _ _ (by omega) hK rfl rfl))⟩
theorem iFP_x (x y : Option Addr) (c1 c2 : Nat) (S : List (ByteArray × Int)) (Q : List PR) (w : World) (hS : SIn w x c1 S) (hQ : EIn w y Q) :
    Calls Try.prog 6 #[.slice x S.length c1, .slice y Q.length c2] w (RetLB (eIf (fpB S (eM Q)) (fpL S (eM Q))) (fpB S (eM Q)) w) := by
  cases h : cpB S (eM Q)
  · refine (iFP_no x y c1 c2 S Q w h hS hQ).mono ?_
    rintro e w' ⟨rfl, hb⟩
    exact retLB_no (fpB_no h) hb
  · exact iFP_yes x y c1 c2 S Q w h hS hQ
theorem iFP_m (x y : Option Addr) (c1 c2 : Nat) (S : List (ByteArray × Int)) (Q : List PR) (w : World) (hS : SIn w x c1 S) (hQ : EIn w y Q) (M : List (List Int)) (hM : eM Q = M) :
    Calls Try.prog 6 #[.slice x S.length c1, .slice y Q.length c2] w (RetLB (eIf (fpB S M) (fpL S M)) (fpB S M) w) := by subst hM; exact iFP_x x y c1 c2 S Q w hS hQ
end Go.Proofs.Ytjbhmofaackjpaa
