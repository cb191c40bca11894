/-
  The walks of chapter 3: the order of records; the program's and the model's.
-/
import Derived.Test.YtdakmdjcmjpogaaRecK
import Derived.Test.YtdakmdjcmjpogaaRecO
namespace Go.Proofs.Ytdakmdjcmjpogaa
open Go.RowKit
set_option maxRecDepth 100000

theorem lx_end {A B : List Int} {i : Nat} (h1 : i ≤ A.length) (h2 : i ≤ B.length) (h3 : ¬ (i < A.length ∧ i < B.length)) : lxZ (A.drop i) (B.drop i) = sgnZ ((A.length : Int) - (B.length : Int)) := by
  unfold sgnZ
  by_cases hA : i < A.length
  · rw [lx_long hA (by omega), if_neg (by omega), if_pos (by omega)]
  · by_cases hB : i < B.length
    · rw [lx_short (by omega) hB, if_pos (by omega)]
    · rw [lx_same (by omega) (by omega), if_neg (by omega), if_neg (by omega)]

set_option maxHeartbeats 2000000 in
theorem l1Less_any (x y : Option Addr) (n m c1 c2 : Nat) (A B : List Int) (w : World) (hn : A.length = n) (hm : B.length = m) (hn2 : n ≤ 1048576) (hm2 : m ≤ 1048576) (hA : Rd w x (iC A)) (hB : Rd w y (iC B)) :
    Calls Try.prog 122 #[.slice x n c1, .slice y m c2] w fun e w' => e = .returned (.int .i64 (lxZ A B)) ∧ Below w.heap.size w w' := by
  have hAh := Lib.hid hA
  have hBh := Lib.hid hB
  clear hA hB
  replace hn := Lib.hid hn
  replace hm := Lib.hid hm
  go_enter Try.func122, Try.ntmps122
  go_wp2
  go_loopw [5] (fun c wr => ∃ i : Nat, i ≤ n ∧ i ≤ m ∧ c = .int .i64 i ∧ Hid (lxZ (A.drop i) (B.drop i) = lxZ A B) ∧ Below w.heap.size w wr) (fun c _ => n - (intOf c).toNat)
  case atStart => exact ⟨0, by omega, by omega, rfl, rfl, Below.refl _ _⟩
  case round =>
    obtain ⟨i, hi, hi2, rfl, hv, hb⟩ := hrel
    by_cases hlt : i < n
    · by_cases hlt2 : i < m
      · obtain ⟨bl, off, a, rfl, hbl, hAi, hc0⟩ := (hAh.out.below hb).int (i := i) (by rw [hn.out]; exact hlt)
        obtain ⟨bl2, off2, b, rfl, hbl2, hBi, hc1⟩ := (hBh.out.below hb).int (i := i) (by rw [hm.out]; exact hlt2)
        have hlt' : (i : Int) < (n : Int) := by omega
        have hlt2' : (i : Int) < (m : Int) := by omega
        have hi0 : (0 : Int) ≤ (i : Int) := by omega
        have hst := Lib.hid (lx_step hAi hBi)
        clear hAi hBi
        by_cases h0 : a = b
        · have hr : Hid (lxZ (A.drop (i + 1)) (B.drop (i + 1)) = lxZ A B) := by unfold Hid; rw [← hv.out, hst.out, if_neg (by omega), if_neg (by omega)]
          have q1 : (a == b) = true := by rw [beq_iff_eq]; exact h0
          have q2 : (a != b) = false := by show (!(a == b)) = false; rw [q1]; rfl
          replace h0 := Lib.hid h0
          go_wp2
          go_quiet (fail)
          go_wp2
          go_roundw
          case rel => exact ⟨i + 1, by omega, by omega, by go_num, hr, (by repeat (first | exact Below.refl _ _ | assumption | refine Below.drew ?_ | refine below_drewN ?_ _ | refine Below.alloc' ?_ _ | (refine Below.setCell ?_ (by first | omega | (simp; done) | (simp; omega) | exact Below.size (by assumption) | exact Nat.le_trans (Below.size (by assumption)) (by simp)) _) | (refine Below.via' ?_ (by assumption)) | (refine Below.alloc ?_ (by first | omega | (simp; done) | (simp; omega) | exact Below.size (by assumption) | exact Nat.le_trans (Below.size (by assumption)) (by simp)) _) | (refine Below.via ?_ (by assumption) (by first | omega | (simp; done) | (simp; omega) | exact Below.size (by assumption) | exact Nat.le_trans (Below.size (by assumption)) (by simp)))))⟩
          case measure => simp [intOf]; omega
        · have q1 : (a == b) = false := by rw [beq_eq_false_iff_ne]; exact h0
          have q2 : (a != b) = true := by show (!(a == b)) = true; rw [q1]; rfl
          by_cases h1 : a < b
          · have hr : Hid (lxZ A B = -1) := by unfold Hid; rw [← hv.out, hst.out, if_pos h1]
            go_wp2
            go_quiet (fail)
            go_wp2
            go_quiet (fail)
            go_wp2
            go_ret
            exact ⟨ret_int hr.out.symm, (by repeat (first | exact Below.refl _ _ | assumption | refine Below.drew ?_ | refine below_drewN ?_ _ | refine Below.alloc' ?_ _ | (refine Below.setCell ?_ (by first | omega | (simp; done) | (simp; omega) | exact Below.size (by assumption) | exact Nat.le_trans (Below.size (by assumption)) (by simp)) _) | (refine Below.via' ?_ (by assumption)) | (refine Below.alloc ?_ (by first | omega | (simp; done) | (simp; omega) | exact Below.size (by assumption) | exact Nat.le_trans (Below.size (by assumption)) (by simp)) _) | (refine Below.via ?_ (by assumption) (by first | omega | (simp; done) | (simp; omega) | exact Below.size (by assumption) | exact Nat.le_trans (Below.size (by assumption)) (by simp)))))⟩
          · have hr : Hid (lxZ A B = 1) := by unfold Hid; rw [← hv.out, hst.out, if_neg h1, if_pos (by omega)]
            go_wp2
            go_quiet (fail)
            go_wp2
            go_quiet (fail)
            go_wp2
            go_ret
            exact ⟨ret_int hr.out.symm, (by repeat (first | exact Below.refl _ _ | assumption | refine Below.drew ?_ | refine below_drewN ?_ _ | refine Below.alloc' ?_ _ | (refine Below.setCell ?_ (by first | omega | (simp; done) | (simp; omega) | exact Below.size (by assumption) | exact Nat.le_trans (Below.size (by assumption)) (by simp)) _) | (refine Below.via' ?_ (by assumption)) | (refine Below.alloc ?_ (by first | omega | (simp; done) | (simp; omega) | exact Below.size (by assumption) | exact Nat.le_trans (Below.size (by assumption)) (by simp)) _) | (refine Below.via ?_ (by assumption) (by first | omega | (simp; done) | (simp; omega) | exact Below.size (by assumption) | exact Nat.le_trans (Below.size (by assumption)) (by simp)))))⟩
      · have hr : Hid (lxZ A B = sgnZ ((n : Int) - (m : Int))) := by unfold Hid; rw [← hv.out, lx_end (by rw [hn.out]; omega) (by rw [hm.out]; omega) (by rw [hm.out]; omega), hn.out, hm.out]
        have hlt' : (i : Int) < (n : Int) := by omega
        have hlt2' : ¬ (i : Int) < (m : Int) := by omega
        have q1 : IntKind.i64.wrap ((n : Int) - (m : Int)) = (n : Int) - (m : Int) := IntWalk.i64_in _ (by omega)
        go_wp2_with (go_at_call 128; refine (l1Sign_any _ _).mono ?_; rintro e w1 ⟨rfl, rfl⟩)
        go_ret
        exact ⟨ret_int hr.out.symm, (by repeat (first | exact Below.refl _ _ | assumption | refine Below.drew ?_ | refine below_drewN ?_ _ | refine Below.alloc' ?_ _ | (refine Below.setCell ?_ (by first | omega | (simp; done) | (simp; omega) | exact Below.size (by assumption) | exact Nat.le_trans (Below.size (by assumption)) (by simp)) _) | (refine Below.via' ?_ (by assumption)) | (refine Below.alloc ?_ (by first | omega | (simp; done) | (simp; omega) | exact Below.size (by assumption) | exact Nat.le_trans (Below.size (by assumption)) (by simp)) _) | (refine Below.via ?_ (by assumption) (by first | omega | (simp; done) | (simp; omega) | exact Below.size (by assumption) | exact Nat.le_trans (Below.size (by assumption)) (by simp)))))⟩
    · have hr : Hid (lxZ A B = sgnZ ((n : Int) - (m : Int))) := by unfold Hid; rw [← hv.out, lx_end (by rw [hn.out]; omega) (by rw [hm.out]; omega) (by rw [hn.out]; omega), hn.out, hm.out]
      have hlt' : ¬ (i : Int) < (n : Int) := by omega
      have q1 : IntKind.i64.wrap ((n : Int) - (m : Int)) = (n : Int) - (m : Int) := IntWalk.i64_in _ (by omega)
      go_wp2_with (go_at_call 128; refine (l1Sign_any _ _).mono ?_; rintro e w1 ⟨rfl, rfl⟩)
      go_ret
      exact ⟨ret_int hr.out.symm, (by repeat (first | exact Below.refl _ _ | assumption | refine Below.drew ?_ | refine below_drewN ?_ _ | refine Below.alloc' ?_ _ | (refine Below.setCell ?_ (by first | omega | (simp; done) | (simp; omega) | exact Below.size (by assumption) | exact Nat.le_trans (Below.size (by assumption)) (by simp)) _) | (refine Below.via' ?_ (by assumption)) | (refine Below.alloc ?_ (by first | omega | (simp; done) | (simp; omega) | exact Below.size (by assumption) | exact Nat.le_trans (Below.size (by assumption)) (by simp)) _) | (refine Below.via ?_ (by assumption) (by first | omega | (simp; done) | (simp; omega) | exact Below.size (by assumption) | exact Nat.le_trans (Below.size (by assumption)) (by simp)))))⟩

theorem Rd.lit2 (w : World) (t : TypeId) (a b : Int) : Rd (w.alloc (.cells #[.int .i64 a, .int .i64 b] t)) (some ⟨w.heap.size, 0, none⟩) (iC [a, b]) := by
  refine Or.inr ⟨w.heap.size, 0, rfl, by simp, fun j u hj => ?_⟩
  rw [show iC [a, b] = [.int .i64 a, .int .i64 b] from rfl] at hj
  rw [Nat.zero_add, World.cell?_alloc_at _ _ _ _ rfl, ← hj, ← Array.getElem?_toList]
theorem Rd.lit3 (w : World) (t : TypeId) (a b c : Int) : Rd (w.alloc (.cells #[.int .i64 a, .int .i64 b, .int .i64 c] t)) (some ⟨w.heap.size, 0, none⟩) (iC [a, b, c]) := by
  refine Or.inr ⟨w.heap.size, 0, rfl, by simp, fun j u hj => ?_⟩
  rw [show iC [a, b, c] = [.int .i64 a, .int .i64 b, .int .i64 c] from rfl] at hj
  rw [Nat.zero_add, World.cell?_alloc_at _ _ _ _ rfl, ← hj, ← Array.getElem?_toList]

set_option maxHeartbeats 2000000 in
theorem rCompare_any (x y : Option Addr) (c1 c2 : Nat) (a h b k : Int) (A B : List Int) (w : World) (hA : A.length ≤ 1048576) (hB : B.length ≤ 1048576) (hx : Rd w x (iC A)) (hy : Rd w y (iC B)) :
    Calls Try.prog 92 #[.agg #[.int .i64 a, .int .i64 h, .slice x A.length c1], .agg #[.int .i64 b, .int .i64 k, .slice y B.length c2]] w fun e w' => e = .returned (.int .i64 (rcZ (a, h, A) (b, k, B))) ∧ Below w.heap.size w w' := by
  have hAh := Lib.hid hx
  have hBh := Lib.hid hy
  clear hx hy
  have hv := rcZ_two (a, h, A) (b, k, B)
  simp only at hv
  obtain ⟨z, hz⟩ : ∃ z, z = lxZ [a, h] [b, k] := ⟨_, rfl⟩
  rw [← hz] at hv
  replace hz := Lib.hid hz
  have hp := Lib.hid ((RB.new w a h x A.length c1 36).below ((Below.refl _ _).alloc (Nat.le_refl _) (.cells #[.int .i64 b, .int .i64 k, .slice y B.length c2] 36)))
  have hq := Lib.hid (show RB ((w.alloc (.cells #[.int .i64 a, .int .i64 h, .slice x A.length c1] 36)).alloc (.cells #[.int .i64 b, .int .i64 k, .slice y B.length c2] 36)) (w.heap.size + 1) b k y B.length c2 from by simpa using RB.new (w.alloc (.cells #[.int .i64 a, .int .i64 h, .slice x A.length c1] 36)) b k y B.length c2 36)
  have hs := Lib.hid (show Rd ((((w.alloc (.cells #[.int .i64 a, .int .i64 h, .slice x A.length c1] 36)).alloc (.cells #[.int .i64 b, .int .i64 k, .slice y B.length c2] 36)).alloc (.cells #[.int .i64 a, .int .i64 h] 3)).alloc (.cells #[.int .i64 b, .int .i64 k] 3)) (some ⟨w.heap.size + 1 + 1, 0, none⟩) (iC [a, h]) from by simpa using (Rd.lit2 ((w.alloc (.cells #[.int .i64 a, .int .i64 h, .slice x A.length c1] 36)).alloc (.cells #[.int .i64 b, .int .i64 k, .slice y B.length c2] 36)) 3 a h).alloc (.cells #[.int .i64 b, .int .i64 k] 3))
  have ht := Lib.hid (show Rd ((((w.alloc (.cells #[.int .i64 a, .int .i64 h, .slice x A.length c1] 36)).alloc (.cells #[.int .i64 b, .int .i64 k, .slice y B.length c2] 36)).alloc (.cells #[.int .i64 a, .int .i64 h] 3)).alloc (.cells #[.int .i64 b, .int .i64 k] 3)) (some ⟨w.heap.size + 1 + 1 + 1, 0, none⟩) (iC [b, k]) from by simpa using (Rd.lit2 (((w.alloc (.cells #[.int .i64 a, .int .i64 h, .slice x A.length c1] 36)).alloc (.cells #[.int .i64 b, .int .i64 k, .slice y B.length c2] 36)).alloc (.cells #[.int .i64 a, .int .i64 h] 3)) 3 b k))
  by_cases h0 : z = 0
  · rw [if_pos h0] at hv
    have q1 : (z == 0) = true := by rw [beq_iff_eq]; exact h0
    have q2 : (z != 0) = false := by show (!(z == 0)) = false; rw [q1]; rfl
    replace hv := Lib.hid hv
    replace h0 := Lib.hid h0
    go_enter Try.func92, Try.ntmps92
    go_wp2_with fail
    refine (l1Less_any _ _ 2 2 _ _ [a, h] [b, k] _ rfl rfl (by omega) (by omega) hs.out ht.out).mono ?_
    rintro e w1 ⟨rfl, hb1⟩
    rw [← hz.out]
    obtain ⟨pa, pb, pc, -⟩ := hp.out.below (Below.via' (by repeat (first | exact Below.refl _ _ | assumption | refine Below.drew ?_ | refine below_drewN ?_ _ | refine Below.alloc' ?_ _ | (refine Below.setCell ?_ (by first | omega | (simp; done) | (simp; omega) | exact Below.size (by assumption) | exact Nat.le_trans (Below.size (by assumption)) (by simp)) _) | (refine Below.via' ?_ (by assumption)) | (refine Below.alloc ?_ (by first | omega | (simp; done) | (simp; omega) | exact Below.size (by assumption) | exact Nat.le_trans (Below.size (by assumption)) (by simp)) _) | (refine Below.via ?_ (by assumption) (by first | omega | (simp; done) | (simp; omega) | exact Below.size (by assumption) | exact Nat.le_trans (Below.size (by assumption)) (by simp))))) hb1)
    obtain ⟨qa, qb, qc, -⟩ := hq.out.below (Below.via' (by repeat (first | exact Below.refl _ _ | assumption | refine Below.drew ?_ | refine below_drewN ?_ _ | refine Below.alloc' ?_ _ | (refine Below.setCell ?_ (by first | omega | (simp; done) | (simp; omega) | exact Below.size (by assumption) | exact Nat.le_trans (Below.size (by assumption)) (by simp)) _) | (refine Below.via' ?_ (by assumption)) | (refine Below.alloc ?_ (by first | omega | (simp; done) | (simp; omega) | exact Below.size (by assumption) | exact Nat.le_trans (Below.size (by assumption)) (by simp)) _) | (refine Below.via ?_ (by assumption) (by first | omega | (simp; done) | (simp; omega) | exact Below.size (by assumption) | exact Nat.le_trans (Below.size (by assumption)) (by simp))))) hb1)
    go_wp2_with fail
    refine (l1Less_any _ _ _ _ _ _ A B _ rfl rfl hA hB (hAh.out.below (by exact (by repeat (first | exact Below.refl _ _ | assumption | refine Below.drew ?_ | refine below_drewN ?_ _ | refine Below.alloc' ?_ _ | (refine Below.setCell ?_ (by first | omega | (simp; done) | (simp; omega) | exact Below.size (by assumption) | exact Nat.le_trans (Below.size (by assumption)) (by simp)) _) | (refine Below.via' ?_ (by assumption)) | (refine Below.alloc ?_ (by first | omega | (simp; done) | (simp; omega) | exact Below.size (by assumption) | exact Nat.le_trans (Below.size (by assumption)) (by simp)) _) | (refine Below.via ?_ (by assumption) (by first | omega | (simp; done) | (simp; omega) | exact Below.size (by assumption) | exact Nat.le_trans (Below.size (by assumption)) (by simp))))))) (hBh.out.below (by exact (by repeat (first | exact Below.refl _ _ | assumption | refine Below.drew ?_ | refine below_drewN ?_ _ | refine Below.alloc' ?_ _ | (refine Below.setCell ?_ (by first | omega | (simp; done) | (simp; omega) | exact Below.size (by assumption) | exact Nat.le_trans (Below.size (by assumption)) (by simp)) _) | (refine Below.via' ?_ (by assumption)) | (refine Below.alloc ?_ (by first | omega | (simp; done) | (simp; omega) | exact Below.size (by assumption) | exact Nat.le_trans (Below.size (by assumption)) (by simp)) _) | (refine Below.via ?_ (by assumption) (by first | omega | (simp; done) | (simp; omega) | exact Below.size (by assumption) | exact Nat.le_trans (Below.size (by assumption)) (by simp)))))))).mono ?_
    rintro e w2 ⟨rfl, hb2⟩
    go_wp2
    go_ret
    exact ⟨ret_int hv.out, (by repeat (first | exact Below.refl _ _ | assumption | refine Below.drew ?_ | refine below_drewN ?_ _ | refine Below.alloc' ?_ _ | (refine Below.setCell ?_ (by first | omega | (simp; done) | (simp; omega) | exact Below.size (by assumption) | exact Nat.le_trans (Below.size (by assumption)) (by simp)) _) | (refine Below.via' ?_ (by assumption)) | (refine Below.alloc ?_ (by first | omega | (simp; done) | (simp; omega) | exact Below.size (by assumption) | exact Nat.le_trans (Below.size (by assumption)) (by simp)) _) | (refine Below.via ?_ (by assumption) (by first | omega | (simp; done) | (simp; omega) | exact Below.size (by assumption) | exact Nat.le_trans (Below.size (by assumption)) (by simp)))))⟩
  · rw [if_neg h0] at hv
    have q1 : (z == 0) = false := by rw [beq_eq_false_iff_ne]; exact h0
    have q2 : (z != 0) = true := by show (!(z == 0)) = true; rw [q1]; rfl
    replace hv := Lib.hid hv
    go_enter Try.func92, Try.ntmps92
    go_wp2_with fail
    refine (l1Less_any _ _ 2 2 _ _ [a, h] [b, k] _ rfl rfl (by omega) (by omega) hs.out ht.out).mono ?_
    rintro e w1 ⟨rfl, hb1⟩
    rw [← hz.out]
    go_wp2
    go_ret
    exact ⟨ret_int hv.out, (by repeat (first | exact Below.refl _ _ | assumption | refine Below.drew ?_ | refine below_drewN ?_ _ | refine Below.alloc' ?_ _ | (refine Below.setCell ?_ (by first | omega | (simp; done) | (simp; omega) | exact Below.size (by assumption) | exact Nat.le_trans (Below.size (by assumption)) (by simp)) _) | (refine Below.via' ?_ (by assumption)) | (refine Below.alloc ?_ (by first | omega | (simp; done) | (simp; omega) | exact Below.size (by assumption) | exact Nat.le_trans (Below.size (by assumption)) (by simp)) _) | (refine Below.via ?_ (by assumption) (by first | omega | (simp; done) | (simp; omega) | exact Below.size (by assumption) | exact Nat.le_trans (Below.size (by assumption)) (by simp)))))⟩

theorem sCR_x (x y : Option Addr) (c1 c2 : Nat) (a h b k : Int) (A B : List Int) (w : World) (hA : A.length ≤ 1048576) (hB : B.length ≤ 1048576) (hx : Rd w x (iC A)) (hy : Rd w y (iC B)) :
    Calls Try.prog 38 #[.agg #[.int .i64 a, .int .i64 h, .slice x A.length c1], .agg #[.int .i64 b, .int .i64 k, .slice y B.length c2]] w fun e w' => e = .returned (.int .i64 (rcZ (a, h, A) (b, k, B))) ∧ Below w.heap.size w w' := by
  have hAh := Lib.hid hx
  have hBh := Lib.hid hy
  clear hx hy
  go_enter Try.func38, Try.ntmps38
  go_wp2_with fail
  refine (rCompare_any _ _ _ _ a h b k A B _ hA hB (hAh.out.below (by exact (by repeat (first | exact Below.refl _ _ | assumption | refine Below.drew ?_ | refine below_drewN ?_ _ | refine Below.alloc' ?_ _ | (refine Below.setCell ?_ (by first | omega | (simp; done) | (simp; omega) | exact Below.size (by assumption) | exact Nat.le_trans (Below.size (by assumption)) (by simp)) _) | (refine Below.via' ?_ (by assumption)) | (refine Below.alloc ?_ (by first | omega | (simp; done) | (simp; omega) | exact Below.size (by assumption) | exact Nat.le_trans (Below.size (by assumption)) (by simp)) _) | (refine Below.via ?_ (by assumption) (by first | omega | (simp; done) | (simp; omega) | exact Below.size (by assumption) | exact Nat.le_trans (Below.size (by assumption)) (by simp))))))) (hBh.out.below (by exact (by repeat (first | exact Below.refl _ _ | assumption | refine Below.drew ?_ | refine below_drewN ?_ _ | refine Below.alloc' ?_ _ | (refine Below.setCell ?_ (by first | omega | (simp; done) | (simp; omega) | exact Below.size (by assumption) | exact Nat.le_trans (Below.size (by assumption)) (by simp)) _) | (refine Below.via' ?_ (by assumption)) | (refine Below.alloc ?_ (by first | omega | (simp; done) | (simp; omega) | exact Below.size (by assumption) | exact Nat.le_trans (Below.size (by assumption)) (by simp)) _) | (refine Below.via ?_ (by assumption) (by first | omega | (simp; done) | (simp; omega) | exact Below.size (by assumption) | exact Nat.le_trans (Below.size (by assumption)) (by simp)))))))).mono ?_
  rintro e w2 ⟨rfl, hb2⟩
  go_wp2
  go_ret
  exact ⟨rfl, (by repeat (first | exact Below.refl _ _ | assumption | refine Below.drew ?_ | refine below_drewN ?_ _ | refine Below.alloc' ?_ _ | (refine Below.setCell ?_ (by first | omega | (simp; done) | (simp; omega) | exact Below.size (by assumption) | exact Nat.le_trans (Below.size (by assumption)) (by simp)) _) | (refine Below.via' ?_ (by assumption)) | (refine Below.alloc ?_ (by first | omega | (simp; done) | (simp; omega) | exact Below.size (by assumption) | exact Nat.le_trans (Below.size (by assumption)) (by simp)) _) | (refine Below.via ?_ (by assumption) (by first | omega | (simp; done) | (simp; omega) | exact Below.size (by assumption) | exact Nat.le_trans (Below.size (by assumption)) (by simp)))))⟩

theorem drawn2 (w : World) (o p : Obj) : w.drawn ≤ ((w.alloc o).alloc p).drew.drawn := Nat.le_succ _
theorem drawn_alloc {n : Nat} {w : World} {o : Obj} (h : n ≤ w.drawn) : n ≤ (w.alloc o).drawn := h
/-- What was there is as it was, and no less was drawn. -/
def BD (w w' : World) : Prop := Below w.heap.size w w' ∧ w.drawn ≤ w'.drawn
set_option maxHeartbeats 4000000 in
theorem iCR_x (x y : Option Addr) (c1 c2 : Nat) (a h b k : Int) (A B : List Int) (w : World) (hA : A.length ≤ 9223372036854775807) (hx : Rd w x (iC A)) (hy : Rd w y (iC B)) :
    Calls Try.prog 39 #[.agg #[.int .i64 a, .int .i64 h, .slice x A.length c1], .agg #[.int .i64 b, .int .i64 k, .slice y B.length c2]] w fun e w' => e = .returned (.int .i64 (rcZ (a, h, A) (b, k, B))) ∧ BD w w' := by
  have hAh := Lib.hid hx
  have hBh := Lib.hid hy
  clear hx hy
  have hv := Lib.hid (rcZ_or (a, h, A) (b, k, B))
  simp only at hv
  have hp := Lib.hid ((RB.new w a h x A.length c1 36).below ((Below.refl _ _).alloc (Nat.le_refl _) (.cells #[.int .i64 b, .int .i64 k, .slice y B.length c2] 36)))
  have hq := Lib.hid (show RB ((w.alloc (.cells #[.int .i64 a, .int .i64 h, .slice x A.length c1] 36)).alloc (.cells #[.int .i64 b, .int .i64 k, .slice y B.length c2] 36)) (w.heap.size + 1) b k y B.length c2 from by simpa using RB.new (w.alloc (.cells #[.int .i64 a, .int .i64 h, .slice x A.length c1] 36)) b k y B.length c2 36)
  obtain ⟨pa, pb, pc, pd⟩ := hp.out
  obtain ⟨qa, qb, qc, qd⟩ := hq.out
  have hl3 := Lib.hid (show Rd ((((w.alloc (.cells #[.int .i64 a, .int .i64 h, .slice x A.length c1] 36)).alloc (.cells #[.int .i64 b, .int .i64 k, .slice y B.length c2] 36)).drew).alloc (.cells #[.int .i64 (cmZ a b), .int .i64 (cmZ h k), .int .i64 (lxZ A B)] 3)) (some ⟨w.heap.size + 1 + 1, 0, none⟩) (iC [cmZ a b, cmZ h k, lxZ A B]) from by simpa using Rd.lit3 (((w.alloc (.cells #[.int .i64 a, .int .i64 h, .slice x A.length c1] 36)).alloc (.cells #[.int .i64 b, .int .i64 k, .slice y B.length c2] 36)).drew) 3 (cmZ a b) (cmZ h k) (lxZ A B))
  go_enter Try.func39, Try.ntmps39
  go_wp2_with fail
  go_region_held3 (fun w' => Below w.heap.size w w' ∧ w.drawn ≤ w'.drawn ∧ w'.cell? ⟨w.heap.size, 0, none⟩ = some (.int .i64 a) ∧ w'.cell? ⟨w.heap.size, 1, none⟩ = some (.int .i64 h) ∧ w'.cell? ⟨w.heap.size, 2, none⟩ = some (.slice x A.length c1) ∧ w'.cell? ⟨w.heap.size + 1, 0, none⟩ = some (.int .i64 b) ∧ w'.cell? ⟨w.heap.size + 1, 1, none⟩ = some (.int .i64 k) ∧ w'.cell? ⟨w.heap.size + 1, 2, none⟩ = some (.slice y B.length c2) ∧ w.heap.size + 1 < w'.heap.size) (first | (refine ⟨(by repeat (first | exact Below.refl _ _ | assumption | refine Below.drew ?_ | refine below_drewN ?_ _ | refine Below.alloc' ?_ _ | (refine Below.setCell ?_ (by first | omega | (simp; done) | (simp; omega) | exact Below.size (by assumption) | exact Nat.le_trans (Below.size (by assumption)) (by simp)) _) | (refine Below.via' ?_ (by assumption)) | (refine Below.alloc ?_ (by first | omega | (simp; done) | (simp; omega) | exact Below.size (by assumption) | exact Nat.le_trans (Below.size (by assumption)) (by simp)) _) | (refine Below.via ?_ (by assumption) (by first | omega | (simp; done) | (simp; omega) | exact Below.size (by assumption) | exact Nat.le_trans (Below.size (by assumption)) (by simp))))), ?_, ?_, ?_, ?_, ?_, ?_, ?_, ?_⟩ <;> first | assumption | exact drawn2 _ _ _ | (apply drawn_alloc; assumption) | (go_keep; done) | (simp; omega)))
    (first
    | (go_at_call 94; refine (cmpInt_any _ _ _).mono ?_; rintro e w3 ⟨rfl, rfl⟩)
    | (go_at_call 95; refine (sliceCmp_any _ _ _ _ A B _ (hAh.out.below (by exact (by repeat (first | exact Below.refl _ _ | assumption | refine Below.drew ?_ | refine below_drewN ?_ _ | refine Below.alloc' ?_ _ | (refine Below.setCell ?_ (by first | omega | (simp; done) | (simp; omega) | exact Below.size (by assumption) | exact Nat.le_trans (Below.size (by assumption)) (by simp)) _) | (refine Below.via' ?_ (by assumption)) | (refine Below.alloc ?_ (by first | omega | (simp; done) | (simp; omega) | exact Below.size (by assumption) | exact Nat.le_trans (Below.size (by assumption)) (by simp)) _) | (refine Below.via ?_ (by assumption) (by first | omega | (simp; done) | (simp; omega) | exact Below.size (by assumption) | exact Nat.le_trans (Below.size (by assumption)) (by simp))))))) (hBh.out.below (by exact (by repeat (first | exact Below.refl _ _ | assumption | refine Below.drew ?_ | refine below_drewN ?_ _ | refine Below.alloc' ?_ _ | (refine Below.setCell ?_ (by first | omega | (simp; done) | (simp; omega) | exact Below.size (by assumption) | exact Nat.le_trans (Below.size (by assumption)) (by simp)) _) | (refine Below.via' ?_ (by assumption)) | (refine Below.alloc ?_ (by first | omega | (simp; done) | (simp; omega) | exact Below.size (by assumption) | exact Nat.le_trans (Below.size (by assumption)) (by simp)) _) | (refine Below.via ?_ (by assumption) (by first | omega | (simp; done) | (simp; omega) | exact Below.size (by assumption) | exact Nat.le_trans (Below.size (by assumption)) (by simp))))))) hA).mono ?_; rintro e w3 ⟨rfl, rfl⟩)
    | (go_at_call 93; refine (cmpOr_any _ 3 3 [cmZ a b, cmZ h k, lxZ A B] _ rfl hl3.out (by omega)).mono ?_; rintro e w3 ⟨rfl, rfl⟩))
  all_goals
    rename_i hH
    obtain ⟨hH1, hH2, -⟩ := hH
    go_wp2
    go_ret
    exact ⟨ret_int hv.out, ⟨hH1, hH2⟩⟩
end Go.Proofs.Ytdakmdjcmjpogaa
