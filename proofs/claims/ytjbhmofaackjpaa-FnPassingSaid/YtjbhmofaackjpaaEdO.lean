/-
  The walks of chapter 5: CountPassing; the program's: a range over the lists of values that pass.
-/
import Derived.Test.YtjbhmofaackjpaaEdP
namespace Go.Proofs.Ytjbhmofaackjpaa
open Go.RowKit Go.Shelf
set_option maxRecDepth 100000
attribute [local go_sem] Oper.semAt_some

def Kp2 (n₀ B1 B2 : Nat) (A B : World) : Prop := Below n₀ A B ∧ B.heap[B1]? = A.heap[B1]? ∧ B.heap[B2]? = A.heap[B2]?
theorem grown_belowE {w w' : World} (hb : Below w.heap.size w w') : w.grownBy w' none := ⟨hb.os, hb.tape, hb.output, hb.size, fun k hk _ => hb.block k hk⟩
set_option maxHeartbeats 4000000 in
/-- The lists of values that pass, handed to a loop's body one after the other. -/
theorem pv_in (n : Nat) (hn : 1 ≤ n) (l B1 B2 n₀ : Nat) (x y : Option Addr) (c1 c2 : Nat) (S : List (ByteArray × Int)) (Q : List PR) (w : World) (hel : elB S (eM Q) = true) (hS : SIn w x c1 S) (hQ : EIn w y Q) (hn₀ : w.heap.size ≤ n₀) (N : Nat) (hN : cnZ S = (N : Int)) (hN2 : N ≤ 262144) (J Jx : List Value → World → Prop)
    (W : World) (hA : AbidesFrom W.heap.size J)
    (hY : ∀ pre v W1, J pre W1 → pre.length < 262145 → YieldAt Fence.wide (n - 1) Try.prog l #[v] W1 fun e W' =>
      (e = .returned (.bool true) ∧ J (pre ++ [v]) W' ∧ Kp2 n₀ B1 B2 W1 W') ∨ (e = .returned (.bool false) ∧ Jx (pre ++ [v]) W'))
    (hB : Below w.heap.size w W) (h1 : Boxed W B1 24 (.slice x S.length c1)) (h2 : Boxed W B2 25 (.slice y Q.length c2)) (h0 : J [] W) :
    CallsIn Fence.wide n Try.prog 36 #[.func (.yield l) #[] #[], .pointer (some ⟨B1, 0, none⟩), .pointer (some ⟨B2, 0, none⟩)] W fun e W' => (∃ v, e = .returned v) ∧
      ((∃ ys : List Value, ys.length = cpN S (eM Q) N ∧ J ys W') ∨ (∃ pre : List Value, True ∧ Jx pre W')) := by
  obtain ⟨g1, g2, g3⟩ := el_get hel
  have hSh := Lib.hid hS
  have hQh := Lib.hid hQ
  have hm := hS.1
  have hsh := Lib.hid g1
  have hedh := Lib.hid g3
  have hNh := Lib.hid hN
  have hAh := Lib.hid hA
  have hYh := Lib.hid hY
  clear hS hQ hel g1 g2 g3 hN hA hY
  have hc1 := h1.cell
  refine callsIn_of_wp Try.func36 rfl trivial ?_ rfl
  simp only [Try.ntmps36, List.size_toArray, List.length_cons, List.length_nil, Nat.reduceAdd, Nat.reduceSub, Array.replicate_succ, Array.replicate_zero, List.push_toArray, List.append_toArray, List.nil_append, List.cons_append]
  gi_wp2_with fail
  refine ⟨trivial, ?_⟩
  refine (callsIn_wide.2 (countCombinations_any _ _ S _ hsh.out hm (hSh.out.rd.below hB))).mono ?_
  rintro e w1 ⟨rfl, hb1⟩
  have hN1 := hNh.out
  rw [hN1]
  clear hN1 hc1
  gi_wp2
  gi_loopw [8] (fun i wr => ∃ (k : Nat) (pre : List Value), k ≤ N ∧ i = .int .i64 k ∧ Hid (pre.length = cpN S (eM Q) k) ∧ J pre wr ∧ Below w.heap.size w wr ∧ Boxed wr B1 24 (.slice x S.length c1) ∧ Boxed wr B2 25 (.slice y Q.length c2) ∧ W.heap.size ≤ wr.heap.size)
    (fun i _ => N - (intOf i).toNat)
  case atStart => exact ⟨0, [], by omega, by first | rfl | go_num, rfl, hAh.out _ _ _ none h0 (grown_belowE hb1) (by intro r hr; cases hr), hB.trans (hb1.mono hB.size), (hb1.block B1 h1.lt).trans h1, (hb1.block B2 h2.lt).trans h2, hb1.size⟩
  case round =>
    clear h1 h2 h0 hb1
    obtain ⟨k, pre, hk, rfl, hpre, hJ, hBr, b1, b2, hWr⟩ := hrel
    have hcl := cpN_le S (eM Q) k
    by_cases hlt : k < N
    · have hlt' : (k : Int) < (N : Int) := by omega
      have d1 := b1.cell
      have d2 := b2.cell
      have hNN := hNh.out
      have hkN : (k : Int) < cnZ S := by omega
      clear hNN
      gi_wp2_with fail
      refine ⟨trivial, ?_⟩
      refine (callsIn_wide.2 (combAt_any _ _ S (k : Int) _ (hSh.out.below hBr) hsh.out (by omega) hkN)).mono ?_
      rintro e w2 ⟨u2, rfl, ho2, hb2⟩
      obtain ⟨x2, n2, rfl, -, -⟩ := (OwR.of ho2).form
      have hin := Lib.hid (atL_iin hsh.out (show (0 : Int) ≤ (k : Int) by omega) (Rd.of_own ho2))
      have J2 := Lib.hid (hAh.out _ _ _ none hJ (grown_belowE hb2) (by intro r hr; cases hr))
      have b12 : Boxed w2 B1 24 (.slice x S.length c1) := (hb2.block B1 b1.lt).trans b1
      have b22 : Boxed w2 B2 25 (.slice y Q.length c2) := (hb2.block B2 b2.lt).trans b2
      have hB2 : Below w.heap.size w w2 := hBr.trans (hb2.mono hBr.size)
      have hW2 : W.heap.size ≤ w2.heap.size := Nat.le_trans hWr hb2.size
      clear ho2 hb2 b1 b2 hJ hBr hWr d1 d2
      have d1 := b12.cell
      have d2 := b22.cell
      gi_wp2_with fail
      refine ⟨trivial, ?_⟩
      refine (callsIn_wide.2 (failsAny_any _ _ _ _ Q (atL S k) _ (fun E hE => fine_of hsh.out (hedh.out E hE) (at_fitE hsh.out (by omega))) (hQh.out.below hB2) hin.out)).mono ?_
      rintro e w3 ⟨rfl, hb3⟩
      have J3 := hAh.out _ _ _ none J2.out (grown_belowE hb3) (by intro r hr; cases hr)
      have b13 : Boxed w3 B1 24 (.slice x S.length c1) := (hb3.block B1 b12.lt).trans b12
      have b23 : Boxed w3 B2 25 (.slice y Q.length c2) := (hb3.block B2 b22.lt).trans b22
      have hB3 : Below w.heap.size w w3 := hB2.trans (hb3.mono hB2.size)
      have hW3 : W.heap.size ≤ w3.heap.size := Nat.le_trans hW2 hb3.size
      clear d1 d2 b12 b22 J2 hb3 hB2 hW2
      cases hfa : faB (eM Q) (atL S k)
      · have hst := Lib.hid (cpN_yes hfa)
        obtain ⟨fn, tmps, assign, body, hy, hR⟩ := hYh.out pre (.slice x2 (atL S k).length n2) w3 J3 (by have := hpre.out; omega)
        try dsimp only at hy
        have hb13 := Lib.hid b13
        have hb23 := Lib.hid b23
        clear b13 b23 J3
        gi_wp2
        refine hR.mono ?_
        rintro e W3 (⟨rfl, hJ4, hk4⟩ | ⟨rfl, hJx4⟩)
        · gi_wp2
          go_roundw
          case rel => exact ⟨k + 1, pre ++ [.slice x2 (atL S k).length n2], by omega, by go_num, (by unfold Hid; rw [List.length_append, hst.out, hpre.out]; rfl), hJ4, hB3.trans (hk4.1.mono hn₀), hk4.2.1.trans hb13.out, hk4.2.2.trans hb23.out, Nat.le_trans hW3 hk4.1.size⟩
          case measure => simp [intOf]; omega
        · gi_wp2
          refine bodyPost_ret (results_none rfl _ _ _) rfl ?_
          exact ⟨⟨_, rfl⟩, .inr ⟨_, trivial, hJx4⟩⟩
      · have hst := Lib.hid (cpN_no hfa)
        have hb13 := Lib.hid b13
        have hb23 := Lib.hid b23
        have hJ3h := Lib.hid J3
        clear b13 b23 J3
        gi_wp2
        refine ⟨(fun f h => by cases h), ?_⟩
        gi_wp2
        go_roundw
        case rel => exact ⟨k + 1, pre, by omega, by go_num, (by unfold Hid; rw [hst.out, hpre.out]), hJ3h.out, hB3, hb13.out, hb23.out, hW3⟩
        case measure => simp [intOf]; omega
    · have hij : k = N := by omega
      subst hij
      gi_wp2
      go_end0
      exact ⟨⟨_, rfl⟩, .inl ⟨pre, hpre.out, hJ⟩⟩

theorem pv_stops (B1 B2 n₀ : Nat) (x y : Option Addr) (c1 c2 : Nat) (S : List (ByteArray × Int)) (Q : List PR) (w W0 : World) (hel : elB S (eM Q) = true) (hS : SIn w x c1 S) (hQ : EIn w y Q) (hn₀ : w.heap.size ≤ n₀) (N : Nat) (hN : cnZ S = (N : Int)) (hN2 : N ≤ 262144) (hB : Below w.heap.size w W0)
    (h1 : Boxed W0 B1 24 (.slice x S.length c1)) (h2 : Boxed W0 B2 25 (.slice y Q.length c2)) :
    SeqStopsK Fence.wide 4 Try.prog 36 #[.pointer (some ⟨B1, 0, none⟩), .pointer (some ⟨B2, 0, none⟩)] (fun v : Value => #[v]) (Kp2 n₀ B1 B2) (fun ys => ys.length = cpN S (eM Q) N) (fun _ => True) 262145 W0 := fun l J Jx W hW hA _ hY h0 =>
  pv_in 4 (by omega) l B1 B2 n₀ x y c1 c2 S Q w hel hS hQ hn₀ N hN hN2 J Jx W hA hY (hB.trans (hW.mono hB.size)) (boxed_below h1 hW) (boxed_below h2 hW) h0
theorem passingValues_any (x y : Option Addr) (l1 l2 c1 c2 : Nat) (w : World) :
    Calls Try.prog 20 #[.slice x l1 c1, .slice y l2 c2] w fun e w' => e = .returned (.func (.func 36) #[] #[.pointer (some ⟨w.heap.size, 0, none⟩), .pointer (some ⟨w.heap.size + 1, 0, none⟩)]) ∧ w' = (w.alloc (.cells #[.slice x l1 c1] 24)).alloc (.cells #[.slice y l2 c2] 25) := by
  go_enter Try.func20, Try.ntmps20
  go_wp2
  go_ret
  exact ⟨rfl, rfl⟩
set_option maxHeartbeats 2000000 in
theorem iCP_no (x y : Option Addr) (c1 c2 : Nat) (S : List (ByteArray × Int)) (Q : List PR) (w : World) (hno : cpB S (eM Q) = false) (hS : SIn w x c1 S) (hQ : EIn w y Q) :
    Calls Try.prog 8 #[.slice x S.length c1, .slice y Q.length c2] w fun e w' => e = .returned (.tuple #[.int .i64 0, .bool false]) ∧ Below w.heap.size w w' := by
  have hSh := Lib.hid hS
  have hQh := Lib.hid hQ
  have hm := hS.1
  have hnh := Lib.hid hno
  clear hS hQ hno
  go_enter Try.func8, Try.ntmps8
  go_wp2_with fail
  refine (isSch_x _ _ _ _ (hSh.out.below (by exact (by repeat (first | exact Below.refl _ _ | assumption | refine Below.drew ?_ | refine below_drewN ?_ _ | refine Below.alloc' ?_ _ | (refine Below.setCell ?_ (by first | omega | (simp; done) | (simp; omega) | exact Below.size (by assumption) | exact Nat.le_trans (Below.size (by assumption)) (by simp)) _) | (refine Below.via' ?_ (by assumption)) | (refine Below.alloc ?_ (by first | omega | (simp; done) | (simp; omega) | exact Below.size (by assumption) | exact Nat.le_trans (Below.size (by assumption)) (by simp)) _) | (refine Below.via ?_ (by assumption) (by first | omega | (simp; done) | (simp; omega) | exact Below.size (by assumption) | exact Nat.le_trans (Below.size (by assumption)) (by simp)))))))).mono ?_
  rintro e w1 ⟨rfl, hb1⟩
  cases hs : schB S
  · go_wp2
    go_ret2
    exact ⟨rfl, (by repeat (first | exact Below.refl _ _ | assumption | refine Below.drew ?_ | refine below_drewN ?_ _ | refine Below.alloc' ?_ _ | (refine Below.setCell ?_ (by first | omega | (simp; done) | (simp; omega) | exact Below.size (by assumption) | exact Nat.le_trans (Below.size (by assumption)) (by simp)) _) | (refine Below.via' ?_ (by assumption)) | (refine Below.alloc ?_ (by first | omega | (simp; done) | (simp; omega) | exact Below.size (by assumption) | exact Nat.le_trans (Below.size (by assumption)) (by simp)) _) | (refine Below.via ?_ (by assumption) (by first | omega | (simp; done) | (simp; omega) | exact Below.size (by assumption) | exact Nat.le_trans (Below.size (by assumption)) (by simp)))))⟩
  have hsh := Lib.hid hs
  clear hs
  go_wp2_with fail
  refine (areEditsFor_any _ _ _ _ S Q _ hsh.out hm (hSh.out.rd.below (by exact (by repeat (first | exact Below.refl _ _ | assumption | refine Below.drew ?_ | refine below_drewN ?_ _ | refine Below.alloc' ?_ _ | (refine Below.setCell ?_ (by first | omega | (simp; done) | (simp; omega) | exact Below.size (by assumption) | exact Nat.le_trans (Below.size (by assumption)) (by simp)) _) | (refine Below.via' ?_ (by assumption)) | (refine Below.alloc ?_ (by first | omega | (simp; done) | (simp; omega) | exact Below.size (by assumption) | exact Nat.le_trans (Below.size (by assumption)) (by simp)) _) | (refine Below.via ?_ (by assumption) (by first | omega | (simp; done) | (simp; omega) | exact Below.size (by assumption) | exact Nat.le_trans (Below.size (by assumption)) (by simp))))))) (hQh.out.below (by exact (by repeat (first | exact Below.refl _ _ | assumption | refine Below.drew ?_ | refine below_drewN ?_ _ | refine Below.alloc' ?_ _ | (refine Below.setCell ?_ (by first | omega | (simp; done) | (simp; omega) | exact Below.size (by assumption) | exact Nat.le_trans (Below.size (by assumption)) (by simp)) _) | (refine Below.via' ?_ (by assumption)) | (refine Below.alloc ?_ (by first | omega | (simp; done) | (simp; omega) | exact Below.size (by assumption) | exact Nat.le_trans (Below.size (by assumption)) (by simp)) _) | (refine Below.via ?_ (by assumption) (by first | omega | (simp; done) | (simp; omega) | exact Below.size (by assumption) | exact Nat.le_trans (Below.size (by assumption)) (by simp)))))))).mono ?_
  rintro e w2 ⟨rfl, hb2⟩
  cases he : elB S (eM Q)
  · go_wp2
    go_ret2
    exact ⟨rfl, (by repeat (first | exact Below.refl _ _ | assumption | refine Below.drew ?_ | refine below_drewN ?_ _ | refine Below.alloc' ?_ _ | (refine Below.setCell ?_ (by first | omega | (simp; done) | (simp; omega) | exact Below.size (by assumption) | exact Nat.le_trans (Below.size (by assumption)) (by simp)) _) | (refine Below.via' ?_ (by assumption)) | (refine Below.alloc ?_ (by first | omega | (simp; done) | (simp; omega) | exact Below.size (by assumption) | exact Nat.le_trans (Below.size (by assumption)) (by simp)) _) | (refine Below.via ?_ (by assumption) (by first | omega | (simp; done) | (simp; omega) | exact Below.size (by assumption) | exact Nat.le_trans (Below.size (by assumption)) (by simp)))))⟩
  have hbig : (20000 : Int) < cnZ S := by
    by_cases h : 20000 < cnZ S
    · exact h
    · have := hnh.out
      rw [cp_yes he h] at this
      cases this
  clear he
  go_wp2_with fail
  refine (countCombinations_any _ _ S _ hsh.out hm (hSh.out.rd.below (by exact (by repeat (first | exact Below.refl _ _ | assumption | refine Below.drew ?_ | refine below_drewN ?_ _ | refine Below.alloc' ?_ _ | (refine Below.setCell ?_ (by first | omega | (simp; done) | (simp; omega) | exact Below.size (by assumption) | exact Nat.le_trans (Below.size (by assumption)) (by simp)) _) | (refine Below.via' ?_ (by assumption)) | (refine Below.alloc ?_ (by first | omega | (simp; done) | (simp; omega) | exact Below.size (by assumption) | exact Nat.le_trans (Below.size (by assumption)) (by simp)) _) | (refine Below.via ?_ (by assumption) (by first | omega | (simp; done) | (simp; omega) | exact Below.size (by assumption) | exact Nat.le_trans (Below.size (by assumption)) (by simp)))))))).mono ?_
  rintro e w3 ⟨rfl, hb3⟩
  go_wp2
  go_ret2
  exact ⟨rfl, (by repeat (first | exact Below.refl _ _ | assumption | refine Below.drew ?_ | refine below_drewN ?_ _ | refine Below.alloc' ?_ _ | (refine Below.setCell ?_ (by first | omega | (simp; done) | (simp; omega) | exact Below.size (by assumption) | exact Nat.le_trans (Below.size (by assumption)) (by simp)) _) | (refine Below.via' ?_ (by assumption)) | (refine Below.alloc ?_ (by first | omega | (simp; done) | (simp; omega) | exact Below.size (by assumption) | exact Nat.le_trans (Below.size (by assumption)) (by simp)) _) | (refine Below.via ?_ (by assumption) (by first | omega | (simp; done) | (simp; omega) | exact Below.size (by assumption) | exact Nat.le_trans (Below.size (by assumption)) (by simp)))))⟩
set_option maxHeartbeats 2000000 in
theorem iCP_yes (x y : Option Addr) (c1 c2 : Nat) (S : List (ByteArray × Int)) (Q : List PR) (w : World) (hok : cpB S (eM Q) = true) (hS : SIn w x c1 S) (hQ : EIn w y Q) :
    Calls Try.prog 8 #[.slice x S.length c1, .slice y Q.length c2] w fun e w' => e = .returned (.tuple #[.int .i64 (cpN S (eM Q) (cnZ S).toNat), .bool true]) ∧ Below w.heap.size w w' := by
  have hSh := Lib.hid hS
  have hQh := Lib.hid hQ
  have hm := hS.1
  have hel : elB S (eM Q) = true ∧ ¬ 20000 < cnZ S := by unfold cpB at hok; rw [Bool.and_eq_true, decide_eq_true_eq] at hok; exact ⟨hok.1, by omega⟩
  obtain ⟨heh, hle⟩ := hel
  replace heh := Lib.hid heh
  have hsh := Lib.hid (el_get heh.out).1
  obtain ⟨n1, n2⟩ := cn_all hsh.out
  obtain ⟨N, hN⟩ : ∃ N : Nat, cnZ S = (N : Int) := ⟨(cnZ S).toNat, by omega⟩
  have hN2 : N ≤ 262144 := by omega
  have hNh := Lib.hid hN
  clear hS hQ hok hN
  refine (callsIn_wide (n := 5)).1 ?_
  refine callsIn_of_wp_marks Try.func8 rfl trivial ?_ rfl
  simp only [Try.ntmps8, List.size_toArray, List.length_cons, List.length_nil, Nat.reduceAdd, Nat.reduceSub, Array.replicate_succ, Array.replicate_zero, List.push_toArray, List.append_toArray, List.nil_append, List.cons_append]
  refine wpIn_wide.2 ?_
  go_wp2_with fail
  refine (isSch_x _ _ _ _ (hSh.out.below (by exact (by repeat (first | exact Below.refl _ _ | assumption | refine Below.drew ?_ | refine below_drewN ?_ _ | refine Below.alloc' ?_ _ | (refine Below.setCell ?_ (by first | omega | (simp; done) | (simp; omega) | exact Below.size (by assumption) | exact Nat.le_trans (Below.size (by assumption)) (by simp)) _) | (refine Below.via' ?_ (by assumption)) | (refine Below.alloc ?_ (by first | omega | (simp; done) | (simp; omega) | exact Below.size (by assumption) | exact Nat.le_trans (Below.size (by assumption)) (by simp)) _) | (refine Below.via ?_ (by assumption) (by first | omega | (simp; done) | (simp; omega) | exact Below.size (by assumption) | exact Nat.le_trans (Below.size (by assumption)) (by simp)))))))).mono ?_
  rintro e w1 ⟨rfl, hb1⟩
  rw [hsh.out]
  go_wp2_with fail
  refine (areEditsFor_any _ _ _ _ S Q _ hsh.out hm (hSh.out.rd.below (by exact (by repeat (first | exact Below.refl _ _ | assumption | refine Below.drew ?_ | refine below_drewN ?_ _ | refine Below.alloc' ?_ _ | (refine Below.setCell ?_ (by first | omega | (simp; done) | (simp; omega) | exact Below.size (by assumption) | exact Nat.le_trans (Below.size (by assumption)) (by simp)) _) | (refine Below.via' ?_ (by assumption)) | (refine Below.alloc ?_ (by first | omega | (simp; done) | (simp; omega) | exact Below.size (by assumption) | exact Nat.le_trans (Below.size (by assumption)) (by simp)) _) | (refine Below.via ?_ (by assumption) (by first | omega | (simp; done) | (simp; omega) | exact Below.size (by assumption) | exact Nat.le_trans (Below.size (by assumption)) (by simp))))))) (hQh.out.below (by exact (by repeat (first | exact Below.refl _ _ | assumption | refine Below.drew ?_ | refine below_drewN ?_ _ | refine Below.alloc' ?_ _ | (refine Below.setCell ?_ (by first | omega | (simp; done) | (simp; omega) | exact Below.size (by assumption) | exact Nat.le_trans (Below.size (by assumption)) (by simp)) _) | (refine Below.via' ?_ (by assumption)) | (refine Below.alloc ?_ (by first | omega | (simp; done) | (simp; omega) | exact Below.size (by assumption) | exact Nat.le_trans (Below.size (by assumption)) (by simp)) _) | (refine Below.via ?_ (by assumption) (by first | omega | (simp; done) | (simp; omega) | exact Below.size (by assumption) | exact Nat.le_trans (Below.size (by assumption)) (by simp)))))))).mono ?_
  rintro e w2 ⟨rfl, hb2⟩
  rw [heh.out]
  go_wp2_with fail
  refine (countCombinations_any _ _ S _ hsh.out hm (hSh.out.rd.below (by exact (by repeat (first | exact Below.refl _ _ | assumption | refine Below.drew ?_ | refine below_drewN ?_ _ | refine Below.alloc' ?_ _ | (refine Below.setCell ?_ (by first | omega | (simp; done) | (simp; omega) | exact Below.size (by assumption) | exact Nat.le_trans (Below.size (by assumption)) (by simp)) _) | (refine Below.via' ?_ (by assumption)) | (refine Below.alloc ?_ (by first | omega | (simp; done) | (simp; omega) | exact Below.size (by assumption) | exact Nat.le_trans (Below.size (by assumption)) (by simp)) _) | (refine Below.via ?_ (by assumption) (by first | omega | (simp; done) | (simp; omega) | exact Below.size (by assumption) | exact Nat.le_trans (Below.size (by assumption)) (by simp)))))))).mono ?_
  rintro e w3 ⟨rfl, hb3⟩
  have hB3 : Below w.heap.size w w3 := (by repeat (first | exact Below.refl _ _ | assumption | refine Below.drew ?_ | refine below_drewN ?_ _ | refine Below.alloc' ?_ _ | (refine Below.setCell ?_ (by first | omega | (simp; done) | (simp; omega) | exact Below.size (by assumption) | exact Nat.le_trans (Below.size (by assumption)) (by simp)) _) | (refine Below.via' ?_ (by assumption)) | (refine Below.alloc ?_ (by first | omega | (simp; done) | (simp; omega) | exact Below.size (by assumption) | exact Nat.le_trans (Below.size (by assumption)) (by simp)) _) | (refine Below.via ?_ (by assumption) (by first | omega | (simp; done) | (simp; omega) | exact Below.size (by assumption) | exact Nat.le_trans (Below.size (by assumption)) (by simp)))))
  clear hb1 hb2 hb3
  go_wp2_with fail
  refine (passingValues_any _ _ _ _ _ _ _).mono ?_
  rintro e w4 ⟨rfl, rfl⟩
  have bC := ((Boxed.new w3 3 (.int .i64 0)).alloc (.cells #[.slice x S.length c1] 24)).alloc (.cells #[.slice y Q.length c2] 25)
  have bS := (Boxed.new (w3.alloc (.cells #[.int .i64 0] 3)) 24 (.slice x S.length c1)).alloc (.cells #[.slice y Q.length c2] 25)
  have bQ := Boxed.new ((w3.alloc (.cells #[.int .i64 0] 3)).alloc (.cells #[.slice x S.length c1] 24)) 25 (.slice y Q.length c2)
  simp only [World.size_alloc] at bS bQ ⊢
  have hB0 : Below w.heap.size w (((w3.alloc (.cells #[.int .i64 0] 3)).alloc (.cells #[.slice x S.length c1] 24)).alloc (.cells #[.slice y Q.length c2] 25)) := (by repeat (first | exact Below.refl _ _ | assumption | refine Below.drew ?_ | refine below_drewN ?_ _ | refine Below.alloc' ?_ _ | (refine Below.setCell ?_ (by first | omega | (simp; done) | (simp; omega) | exact Below.size (by assumption) | exact Nat.le_trans (Below.size (by assumption)) (by simp)) _) | (refine Below.via' ?_ (by assumption)) | (refine Below.alloc ?_ (by first | omega | (simp; done) | (simp; omega) | exact Below.size (by assumption) | exact Nat.le_trans (Below.size (by assumption)) (by simp)) _) | (refine Below.via ?_ (by assumption) (by first | omega | (simp; done) | (simp; omega) | exact Below.size (by assumption) | exact Nat.le_trans (Below.size (by assumption)) (by simp)))))
  have hsz : (((w3.alloc (.cells #[.int .i64 0] 3)).alloc (.cells #[.slice x S.length c1] 24)).alloc (.cells #[.slice y Q.length c2] 25)).heap.size = w3.heap.size + 3 := by simp
  have hw3 := hB3.size
  obtain ⟨W0, hW0⟩ : ∃ W0, ((w3.alloc (.cells #[.int .i64 0] 3)).alloc (.cells #[.slice x S.length c1] 24)).alloc (.cells #[.slice y Q.length c2] 25) = W0 := ⟨_, rfl⟩
  rw [hW0] at bC bS bQ hB0 hsz ⊢
  clear hW0
  go_wp2
  refine (wpIn_wide (n := 5)).1 ?_
  refine wpIn_rangeFunc_ownH (F := Fence.wide) (n := 5) rfl (by omega) (gf := 36) (lb := #[.pointer (some ⟨w3.heap.size + 1, 0, none⟩), .pointer (some ⟨w3.heap.size + 1 + 1, 0, none⟩)]) rfl trivial (enters_of Try.func36 (by kernel_rfl) rfl)
    (pv_stops (w3.heap.size + 1) (w3.heap.size + 1 + 1) w3.heap.size x y c1 c2 S Q w W0 heh.out hSh.out hQh.out hw3 N hNh.out hN2 hB0 bS bQ)
    (fun h k => ⟨h.1.trans k.1, k.2.1.trans h.2.1, k.2.2.trans h.2.2⟩) (fun W l o o' hl hlo hc hw => ⟨belowK_b (w := w3) (Nat.le_refl _) W l o o' (by omega) hlo hc hw, World.putObj_heap_other (by intro e; omega), World.putObj_heap_other (by intro e; omega)⟩) (Below.refl _ _) (fun _ => rfl)
    (fun pre W => (((Boxed W w3.heap.size 3 (.int .i64 (pre.length : Int))) ∧ Boxed W (w3.heap.size + 1) 24 (.slice x S.length c1)) ∧ Boxed W (w3.heap.size + 1 + 1) 25 (.slice y Q.length c2)) ∧ Below w.heap.size w W)
    (fun _ _ _ => False)
    (OwnFrom.and (OwnFrom.and (OwnFrom.and (Own.from (boxed_own _ _ _) _) (Own.from (boxed_own _ _ _) _)) (Own.from (boxed_own _ _ _) _)) (ownFrom_below (Nat.le_refl _) (by omega)))
    (fun _ _ _ _ _ hs _ _ => hs)
    ⟨⟨⟨bC, bS⟩, bQ⟩, hB0⟩
    (fun z a' _ => a' = { tmps := #[.slice x S.length c1, .slice y Q.length c2, undef, undef, .int .i64 0, .bool false, .pointer (some ⟨w3.heap.size, 0, none⟩), .slice x S.length c1, .bool true, .bool false, .bool false, .slice x S.length c1, .slice y Q.length c2, .bool true, .bool false, .bool false, .bool false, .slice x S.length c1, .int .i64 (cnZ S), .bool (decide ((20000 : Int) < cnZ S)), .bool (decide ((20000 : Int) < cnZ S)), .slice x S.length c1, .slice y Q.length c2, .func (.func 36) #[] #[.pointer (some ⟨w3.heap.size + 1, 0, none⟩), .pointer (some ⟨w3.heap.size + 1 + 1, 0, none⟩)], z, undef, undef, undef], defers := [] })
    (fun z a' _ X Y row hs hg hr => hs)
    ?assign ?body ?done ?stop
  case assign =>
    rintro l pre z W K ⟨⟨⟨b1, b2⟩, b3⟩, hB1⟩ hK
    gi_wp2
    exact hK _ _ (KeepsFrom.refl _ W) ⟨Below.refl _ _, rfl, rfl⟩ ⟨⟨⟨b1, b2⟩, b3⟩, hB1⟩ (by first | rfl | simp)
  case body =>
    rintro l pre z a' W hl ⟨r, hr⟩ ⟨⟨⟨b1, b2⟩, b3⟩, hB1⟩ rfl hlt
    have d1 := b1.cell
    have f1 := b1.frozen
    clear hl hr
    have hp2 := Lib.hid hlt
    gi_wp2
    refine ⟨(KeepsOthers.setCell _ _ _).from _, ⟨(Below.refl _ _).setCell (p := ⟨w3.heap.size, 0, none⟩) (Nat.le_refl _) _, Below.heap_setCell _ _ _ _ (by show w3.heap.size + 1 ≠ w3.heap.size; omega), Below.heap_setCell _ _ _ _ (by show w3.heap.size + 1 + 1 ≠ w3.heap.size; omega)⟩, ⟨⟨⟨?_, b2.other (by omega) _⟩, b3.other (by omega) _⟩, hB1.setCell (p := ⟨w3.heap.size, 0, none⟩) hw3 _⟩⟩
    have h0 := b1.set (.int .i64 ((pre.length : Int) + 1))
    rw [show (((pre ++ [z]).length : Nat) : Int) = (pre.length : Int) + 1 by rw [List.length_append]; rfl]
    exact h0
  case done =>
    rintro D ys W hD hys ⟨⟨⟨b1, b2⟩, b3⟩, hB1⟩ hK
    have d1 := b1.cell
    have hfin := Lib.hid (show (cnZ S).toNat = N by have := hNh.out; omega)
    have hysh := Lib.hid hys
    clear b1 b2 b3
    go_wp2
    refine ⟨by simp, .inl ⟨_, _, rfl, run_takeDeferred hK, ?_⟩⟩
    refine ⟨.tuple #[.int .i64 (cpN S (eM Q) N), .bool true], by simp [results, Try.results8, go_sem], ?_, ?_⟩
    · rw [hfin.out]
    · exact hB1.trans (belowK_b (w := w) (Nat.le_refl _) W D _ _ (by omega) hK rfl rfl)
  case stop =>
    rintro D c pre W _ _ h _
    exact h.elim
theorem iCP_x (x y : Option Addr) (c1 c2 : Nat) (S : List (ByteArray × Int)) (Q : List PR) (w : World) (hS : SIn w x c1 S) (hQ : EIn w y Q) :
    Calls Try.prog 8 #[.slice x S.length c1, .slice y Q.length c2] w fun e w' => e = .returned (.tuple #[.int .i64 (nIf (cpB S (eM Q)) (cpN S (eM Q) (cnZ S).toNat)), .bool (cpB S (eM Q))]) ∧ Below w.heap.size w w' := by
  cases h : cpB S (eM Q)
  · refine (iCP_no x y c1 c2 S Q w h hS hQ).mono ?_
    rintro e w' ⟨rfl, hb⟩
    rw [nIf_f rfl]
    exact ⟨rfl, hb⟩
  · refine (iCP_yes x y c1 c2 S Q w h hS hQ).mono ?_
    rintro e w' ⟨rfl, hb⟩
    rw [nIf_t rfl]
    exact ⟨rfl, hb⟩
set_option maxHeartbeats 1000000 in
theorem sCP_x (x y : Option Addr) (c1 c2 : Nat) (S : List (ByteArray × Int)) (Q : List PR) (w : World) (hS : SIn w x c1 S) (hQ : EIn w y Q) :
    Calls Try.prog 9 #[.slice x S.length c1, .slice y Q.length c2] w fun e w' => e = .returned (.tuple #[.int .i64 (nIf (cpB S (eM Q)) (cpN S (eM Q) (cnZ S).toNat)), .bool (cpB S (eM Q))]) ∧ Below w.heap.size w w' := by
  have hSh := Lib.hid hS
  have hQh := Lib.hid hQ
  have hm := hS.1
  clear hS hQ
  go_enter Try.func9, Try.ntmps9
  go_wp2_with fail
  refine (eList_any _ _ _ _ S Q _ (hSh.out.below (by exact (by repeat (first | exact Below.refl _ _ | assumption | refine Below.drew ?_ | refine below_drewN ?_ _ | refine Below.alloc' ?_ _ | (refine Below.setCell ?_ (by first | omega | (simp; done) | (simp; omega) | exact Below.size (by assumption) | exact Nat.le_trans (Below.size (by assumption)) (by simp)) _) | (refine Below.via' ?_ (by assumption)) | (refine Below.alloc ?_ (by first | omega | (simp; done) | (simp; omega) | exact Below.size (by assumption) | exact Nat.le_trans (Below.size (by assumption)) (by simp)) _) | (refine Below.via ?_ (by assumption) (by first | omega | (simp; done) | (simp; omega) | exact Below.size (by assumption) | exact Nat.le_trans (Below.size (by assumption)) (by simp))))))) (hQh.out.below (by exact (by repeat (first | exact Below.refl _ _ | assumption | refine Below.drew ?_ | refine below_drewN ?_ _ | refine Below.alloc' ?_ _ | (refine Below.setCell ?_ (by first | omega | (simp; done) | (simp; omega) | exact Below.size (by assumption) | exact Nat.le_trans (Below.size (by assumption)) (by simp)) _) | (refine Below.via' ?_ (by assumption)) | (refine Below.alloc ?_ (by first | omega | (simp; done) | (simp; omega) | exact Below.size (by assumption) | exact Nat.le_trans (Below.size (by assumption)) (by simp)) _) | (refine Below.via ?_ (by assumption) (by first | omega | (simp; done) | (simp; omega) | exact Below.size (by assumption) | exact Nat.le_trans (Below.size (by assumption)) (by simp)))))))).mono ?_
  rintro e w1 ⟨rfl, hb1⟩
  cases he : elB S (eM Q)
  · have hv := Lib.hid (cp_no1 he)
    go_wp2
    go_ret2
    exact retN_no hv.out (by repeat (first | exact Below.refl _ _ | assumption | refine Below.drew ?_ | refine below_drewN ?_ _ | refine Below.alloc' ?_ _ | (refine Below.setCell ?_ (by first | omega | (simp; done) | (simp; omega) | exact Below.size (by assumption) | exact Nat.le_trans (Below.size (by assumption)) (by simp)) _) | (refine Below.via' ?_ (by assumption)) | (refine Below.alloc ?_ (by first | omega | (simp; done) | (simp; omega) | exact Below.size (by assumption) | exact Nat.le_trans (Below.size (by assumption)) (by simp)) _) | (refine Below.via ?_ (by assumption) (by first | omega | (simp; done) | (simp; omega) | exact Below.size (by assumption) | exact Nat.le_trans (Below.size (by assumption)) (by simp)))))
  have heh := Lib.hid he
  have hsh := Lib.hid (el_get he).1
  clear he
  go_wp2_with fail
  refine (sCount_any _ _ S _ hsh.out hm (hSh.out.rd.below (by exact (by repeat (first | exact Below.refl _ _ | assumption | refine Below.drew ?_ | refine below_drewN ?_ _ | refine Below.alloc' ?_ _ | (refine Below.setCell ?_ (by first | omega | (simp; done) | (simp; omega) | exact Below.size (by assumption) | exact Nat.le_trans (Below.size (by assumption)) (by simp)) _) | (refine Below.via' ?_ (by assumption)) | (refine Below.alloc ?_ (by first | omega | (simp; done) | (simp; omega) | exact Below.size (by assumption) | exact Nat.le_trans (Below.size (by assumption)) (by simp)) _) | (refine Below.via ?_ (by assumption) (by first | omega | (simp; done) | (simp; omega) | exact Below.size (by assumption) | exact Nat.le_trans (Below.size (by assumption)) (by simp)))))))).mono ?_
  rintro e w2 ⟨rfl, hb2⟩
  by_cases hbig : (20000 : Int) < cnZ S
  · have hv := Lib.hid (cp_no2 (M := eM Q) hbig)
    go_wp2
    go_ret2
    exact retN_no hv.out (by repeat (first | exact Below.refl _ _ | assumption | refine Below.drew ?_ | refine below_drewN ?_ _ | refine Below.alloc' ?_ _ | (refine Below.setCell ?_ (by first | omega | (simp; done) | (simp; omega) | exact Below.size (by assumption) | exact Nat.le_trans (Below.size (by assumption)) (by simp)) _) | (refine Below.via' ?_ (by assumption)) | (refine Below.alloc ?_ (by first | omega | (simp; done) | (simp; omega) | exact Below.size (by assumption) | exact Nat.le_trans (Below.size (by assumption)) (by simp)) _) | (refine Below.via ?_ (by assumption) (by first | omega | (simp; done) | (simp; omega) | exact Below.size (by assumption) | exact Nat.le_trans (Below.size (by assumption)) (by simp)))))
  have hv := Lib.hid (cp_yes heh.out hbig)
  go_wp2_with fail
  refine (ePassing_any _ _ _ _ S Q _ heh.out (hSh.out.below (by exact (by repeat (first | exact Below.refl _ _ | assumption | refine Below.drew ?_ | refine below_drewN ?_ _ | refine Below.alloc' ?_ _ | (refine Below.setCell ?_ (by first | omega | (simp; done) | (simp; omega) | exact Below.size (by assumption) | exact Nat.le_trans (Below.size (by assumption)) (by simp)) _) | (refine Below.via' ?_ (by assumption)) | (refine Below.alloc ?_ (by first | omega | (simp; done) | (simp; omega) | exact Below.size (by assumption) | exact Nat.le_trans (Below.size (by assumption)) (by simp)) _) | (refine Below.via ?_ (by assumption) (by first | omega | (simp; done) | (simp; omega) | exact Below.size (by assumption) | exact Nat.le_trans (Below.size (by assumption)) (by simp))))))) (hQh.out.below (by exact (by repeat (first | exact Below.refl _ _ | assumption | refine Below.drew ?_ | refine below_drewN ?_ _ | refine Below.alloc' ?_ _ | (refine Below.setCell ?_ (by first | omega | (simp; done) | (simp; omega) | exact Below.size (by assumption) | exact Nat.le_trans (Below.size (by assumption)) (by simp)) _) | (refine Below.via' ?_ (by assumption)) | (refine Below.alloc ?_ (by first | omega | (simp; done) | (simp; omega) | exact Below.size (by assumption) | exact Nat.le_trans (Below.size (by assumption)) (by simp)) _) | (refine Below.via ?_ (by assumption) (by first | omega | (simp; done) | (simp; omega) | exact Below.size (by assumption) | exact Nat.le_trans (Below.size (by assumption)) (by simp)))))))).mono ?_
  rintro e w3 ⟨u3, rfl, hb3⟩
  go_wp2
  go_ret2
  exact retN_yes hv.out rfl (by repeat (first | exact Below.refl _ _ | assumption | refine Below.drew ?_ | refine below_drewN ?_ _ | refine Below.alloc' ?_ _ | (refine Below.setCell ?_ (by first | omega | (simp; done) | (simp; omega) | exact Below.size (by assumption) | exact Nat.le_trans (Below.size (by assumption)) (by simp)) _) | (refine Below.via' ?_ (by assumption)) | (refine Below.alloc ?_ (by first | omega | (simp; done) | (simp; omega) | exact Below.size (by assumption) | exact Nat.le_trans (Below.size (by assumption)) (by simp)) _) | (refine Below.via ?_ (by assumption) (by first | omega | (simp; done) | (simp; omega) | exact Below.size (by assumption) | exact Nat.le_trans (Below.size (by assumption)) (by simp)))))
theorem sCP_m (x y : Option Addr) (c1 c2 : Nat) (S : List (ByteArray × Int)) (Q : List PR) (w : World) (hS : SIn w x c1 S) (hQ : EIn w y Q) (M : List (List Int)) (hM : eM Q = M) :
    Calls Try.prog 9 #[.slice x S.length c1, .slice y Q.length c2] w fun e w' => e = .returned (.tuple #[.int .i64 (nIf (cpB S M) (cpN S M (cnZ S).toNat)), .bool (cpB S M)]) ∧ Below w.heap.size w w' := by subst hM; exact sCP_x x y c1 c2 S Q w hS hQ
theorem iCP_m (x y : Option Addr) (c1 c2 : Nat) (S : List (ByteArray × Int)) (Q : List PR) (w : World) (hS : SIn w x c1 S) (hQ : EIn w y Q) (M : List (List Int)) (hM : eM Q = M) :
    Calls Try.prog 8 #[.slice x S.length c1, .slice y Q.length c2] w fun e w' => e = .returned (.tuple #[.int .i64 (nIf (cpB S M) (cpN S M (cnZ S).toNat)), .bool (cpB S M)]) ∧ Below w.heap.size w w' := by subst hM; exact iCP_x x y c1 c2 S Q w hS hQ
end Go.Proofs.Ytjbhmofaackjpaa
