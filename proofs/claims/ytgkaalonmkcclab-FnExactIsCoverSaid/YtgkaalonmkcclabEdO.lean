/-
  The walks of chapter 5: CountPassing; the program's: a range over the lists of values that pass.
-/
import Derived.Test.YtgkaalonmkcclabEdP
namespace Go.Proofs.Ytgkaalonmkcclab
open Go.RowKit Go.Shelf
set_option maxRecDepth 100000
attribute [local go_sem] Oper.semAt_some

def Kp2 (n₀ B1 B2 : Nat) (A B : World) : Prop := Below n₀ A B ∧ B.heap[B1]? = A.heap[B1]? ∧ B.heap[B2]? = A.heap[B2]?
theorem grown_belowE {w w' : World} (hb : Below w.heap.size w w') : w.grownBy w' none := ⟨hb.os, hb.tape, hb.output, hb.size, fun k hk _ => hb.block k hk⟩
set_option maxHeartbeats 4000000 in
/-- The lists of values that pass, handed to a loop's body one after the other. -/
theorem pv_in (n : Nat) (hn : 1 ≤ n) (l B1 B2 n₀ : Nat) (x y : Option Addr) (c1 c2 : Nat) (S : List (ByteArray × Int)) (Q : List PR) (w : World) (hel : elB S (eM Q) = true) (hS : SIn w x c1 S) (hQ : EIn w y Q) (hn₀ : w.heap.size ≤ n₀) (N : Nat) (hN : cnZ S = (N : Int)) (hN2 : N ≤ 262144) (J Jx : List Value → World → Prop)
    (W : World) (hA : AbidesFrom W.heap.size J)
    (hY : ∀ pre v W1, J pre W1 → pre.length < 262145 → YieldAt Fence.wide (n - 1) Try.prog l #[v] W1 fun e W' =>
      (e = .returned (.bool true) ∧ J (pre ++ [v]) W' ∧ Kp2 n₀ B1 B2 W1 W') ∨ (e = .returned (.bool false) ∧ Jx (pre ++ [v]) W'))
    (hB : Below w.heap.size w W) (h1 : Boxed W B1 29 (.slice x S.length c1)) (h2 : Boxed W B2 31 (.slice y Q.length c2)) (h0 : J [] W) :
    CallsIn Fence.wide n Try.prog 176 #[.func (.yield l) #[] #[], .pointer (some ⟨B1, 0, none⟩), .pointer (some ⟨B2, 0, none⟩)] W fun e W' => (∃ v, e = .returned v) ∧
      ((∃ ys : List Value, ys.length = cpN S (eM Q) N ∧ J ys W') ∨ (∃ pre : List Value, True ∧ Jx pre W')) := by
  obtain ⟨g1, g2, g3⟩ := el_get hel
  have hSh := Lib.hid hS
  have hQh := Lib.hid hQ
  have hm := hS.1
  have hsh := Lib.hid g1
  have hedh := Lib.hid g3
  have hNh := Lib.hid hN
  have hAh := Lib.hid hA
  have hYh := Lib.hid hY
  clear hS hQ hel g1 g2 g3 hN hA hY
  have hc1 := h1.cell
  refine callsIn_of_wp Try.func176 rfl trivial ?_ rfl
  simp only [Try.ntmps176, List.size_toArray, List.length_cons, List.length_nil, Nat.reduceAdd, Nat.reduceSub, Array.replicate_succ, Array.replicate_zero, List.push_toArray, List.append_toArray, List.nil_append, List.cons_append]
  gi_wp2_with fail
  refine ⟨trivial, ?_⟩
  refine (callsIn_wide.2 (countCombinations_any _ _ S _ hsh.out hm (hSh.out.rd.below hB))).mono ?_
  rintro e w1 ⟨rfl, hb1⟩
  have hN1 := hNh.out
  rw [hN1]
  clear hN1 hc1
  gi_wp2
  gi_loopw [8] (fun i wr => ∃ (k : Nat) (pre : List Value), k ≤ N ∧ i = .int .i64 k ∧ Hid (pre.length = cpN S (eM Q) k) ∧ J pre wr ∧ Below w.heap.size w wr ∧ Boxed wr B1 29 (.slice x S.length c1) ∧ Boxed wr B2 31 (.slice y Q.length c2) ∧ W.heap.size ≤ wr.heap.size)
    (fun i _ => N - (intOf i).toNat)
  case atStart => exact ⟨0, [], by omega, by first | rfl | go_num, rfl, hAh.out _ _ _ none h0 (grown_belowE hb1) (by intro r hr; cases hr), hB.trans (hb1.mono hB.size), (hb1.block B1 h1.lt).trans h1, (hb1.block B2 h2.lt).trans h2, hb1.size⟩
  case round =>
    clear h1 h2 h0 hb1
    obtain ⟨k, pre, hk, rfl, hpre, hJ, hBr, b1, b2, hWr⟩ := hrel
    have hcl := cpN_le S (eM Q) k
    by_cases hlt : k < N
    · have hlt' : (k : Int) < (N : Int) := by omega
      have d1 := b1.cell
      have d2 := b2.cell
      have hNN := hNh.out
      have hkN : (k : Int) < cnZ S := by omega
      clear hNN
      gi_wp2_with fail
      refine ⟨trivial, ?_⟩
      refine (callsIn_wide.2 (combAt_any _ _ S (k : Int) _ (hSh.out.below hBr) hsh.out (by omega) hkN)).mono ?_
      rintro e w2 ⟨u2, rfl, ho2, hb2⟩
      obtain ⟨x2, n2, rfl, -, -⟩ := (OwR.of ho2).form
      have hin := Lib.hid (atL_iin hsh.out (show (0 : Int) ≤ (k : Int) by omega) (Rd.of_own ho2))
      have J2 := Lib.hid (hAh.out _ _ _ none hJ (grown_belowE hb2) (by intro r hr; cases hr))
      have b12 : Boxed w2 B1 29 (.slice x S.length c1) := (hb2.block B1 b1.lt).trans b1
      have b22 : Boxed w2 B2 31 (.slice y Q.length c2) := (hb2.block B2 b2.lt).trans b2
      have hB2 : Below w.heap.size w w2 := hBr.trans (hb2.mono hBr.size)
      have hW2 : W.heap.size ≤ w2.heap.size := Nat.le_trans hWr hb2.size
      clear ho2 hb2 b1 b2 hJ hBr hWr d1 d2
      have d1 := b12.cell
      have d2 := b22.cell
      gi_wp2_with fail
      refine ⟨trivial, ?_⟩
      refine (callsIn_wide.2 (failsAny_any _ _ _ _ Q (atL S k) _ (fun E hE => fine_of hsh.out (hedh.out E hE) (at_fitE hsh.out (by omega))) (hQh.out.below hB2) hin.out)).mono ?_
      rintro e w3 ⟨rfl, hb3⟩
      have J3 := hAh.out _ _ _ none J2.out (grown_belowE hb3) (by intro r hr; cases hr)
      have b13 : Boxed w3 B1 29 (.slice x S.length c1) := (hb3.block B1 b12.lt).trans b12
      have b23 : Boxed w3 B2 31 (.slice y Q.length c2) := (hb3.block B2 b22.lt).trans b22
      have hB3 : Below w.heap.size w w3 := hB2.trans (hb3.mono hB2.size)
      have hW3 : W.heap.size ≤ w3.heap.size := Nat.le_trans hW2 hb3.size
      clear d1 d2 b12 b22 J2 hb3 hB2 hW2
      cases hfa : faB (eM Q) (atL S k)
      · have hst := Lib.hid (cpN_yes hfa)
        obtain ⟨fn, tmps, assign, body, hy, hR⟩ := hYh.out pre (.slice x2 (atL S k).length n2) w3 J3 (by have := hpre.out; omega)
        try dsimp only at hy
        have hb13 := Lib.hid b13
        have hb23 := Lib.hid b23
        clear b13 b23 J3
        gi_wp2
        refine hR.mono ?_
        rintro e W3 (⟨rfl, hJ4, hk4⟩ | ⟨rfl, hJx4⟩)
        · gi_wp2
          go_roundw
          case rel => exact ⟨k + 1, pre ++ [.slice x2 (atL S k).length n2], by omega, by go_num, (by unfold Hid; rw [List.length_append, hst.out, hpre.out]; rfl), hJ4, hB3.trans (hk4.1.mono hn₀), hk4.2.1.trans hb13.out, hk4.2.2.trans hb23.out, Nat.le_trans hW3 hk4.1.size⟩
          case measure => simp [intOf]; omega
        · gi_wp2
          refine bodyPost_ret (results_none rfl _ _ _) rfl ?_
          exact ⟨⟨_, rfl⟩, .inr ⟨_, trivial, hJx4⟩⟩
      · have hst := Lib.hid (cpN_no hfa)
        have hb13 := Lib.hid b13
        have hb23 := Lib.hid b23
        have hJ3h := Lib.hid J3
        clear b13 b23 J3
        gi_wp2
        refine ⟨(fun f h => by cases h), ?_⟩
        gi_wp2
        go_roundw
        case rel => exact ⟨k + 1, pre, by omega, by go_num, (by unfold Hid; rw [hst.out, hpre.out]), hJ3h.out, hB3, hb13.out, hb23.out, hW3⟩
        case measure => simp [intOf]; omega
    · have hij : k = N := by omega
      subst hij
      gi_wp2
      go_end0
      exact ⟨⟨_, rfl⟩, .inl ⟨pre, hpre.out, hJ⟩⟩

theorem pv_stops (B1 B2 n₀ : Nat) (x y : Option Addr) (c1 c2 : Nat) (S : List (ByteArray × Int)) (Q : List PR) (w W0 : World) (hel : elB S (eM Q) = true) (hS : SIn w x c1 S) (hQ : EIn w y Q) (hn₀ : w.heap.size ≤ n₀) (N : Nat) (hN : cnZ S = (N : Int)) (hN2 : N ≤ 262144) (hB : Below w.heap.size w W0)
    (h1 : Boxed W0 B1 29 (.slice x S.length c1)) (h2 : Boxed W0 B2 31 (.slice y Q.length c2)) :
    SeqStopsK Fence.wide 4 Try.prog 176 #[.pointer (some ⟨B1, 0, none⟩), .pointer (some ⟨B2, 0, none⟩)] (fun v : Value => #[v]) (Kp2 n₀ B1 B2) (fun ys => ys.length = cpN S (eM Q) N) (fun _ => True) 262145 W0 := fun l J Jx W hW hA _ hY h0 =>
  pv_in 4 (by omega) l B1 B2 n₀ x y c1 c2 S Q w hel hS hQ hn₀ N hN hN2 J Jx W hA hY (hB.trans (hW.mono hB.size)) (boxed_below h1 hW) (boxed_below h2 hW) h0
theorem passingValues_any (x y : Option Addr) (l1 l2 c1 c2 : Nat) (w : World) :
    Calls Try.prog 163 #[.slice x l1 c1, .slice y l2 c2] w fun e w' => e = .returned (.func (.func 176) #[] #[.pointer (some ⟨w.heap.size, 0, none⟩), .pointer (some ⟨w.heap.size + 1, 0, none⟩)]) ∧ w' = (w.alloc (.cells #[.slice x l1 c1] 29)).alloc (.cells #[.slice y l2 c2] 31) := by
  go_enter Try.func163, Try.ntmps163
  go_wp2
  go_ret
  exact ⟨rfl, rfl⟩
end Go.Proofs.Ytgkaalonmkcclab
