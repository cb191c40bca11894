import Derived.Test.YtgkaalonmkcclabEdB
import Derived.Test.YtgkaalonmkcclabImA
import Derived.Test.YtgkaalonmkcclabImM
import Derived.Maps.AppendAt
import Derived.Deep.RegionHeld3
namespace Go.Proofs.Ytgkaalonmkcclab
open Go.RowKit Go.Shelf
set_option maxRecDepth 100000
attribute [local go_sem] Oper.semAt_some

/-- What holds of a list of values (with its place) that is handed to the loop's body. -/
def PvR (S : List (ByteArray × Int)) (M : List (List Int)) (n₀ N : Nat) (x : Value × Nat) (W : World) : Prop :=
  (x.2 < N ∧ cpN S M x.2 = 0 ∧ faB M (atL S x.2) = false) ∧ W.ownsRow n₀ 3 1 x.1 (atL S x.2).length (iC (atL S x.2))
set_option maxHeartbeats 4000000 in
/-- The lists of values that pass, handed to a loop's body that returns at the first. -/
theorem pv_first (n : Nat) (hn : 1 ≤ n) (l B1 B2 n₀ : Nat) (x y : Option Addr) (c1 c2 : Nat) (S : List (ByteArray × Int)) (Q : List PR) (w : World) (hel : elB S (eM Q) = true) (hS : SIn w x c1 S) (hQ : EIn w y Q) (N : Nat) (hN : cnZ S = (N : Int)) (hN2 : N ≤ 262144) (J : World → Prop) (Jx : Value × Nat → World → Prop)
    (W : World) (hn₀ : n₀ ≤ W.heap.size) (hA : ∀ A B : World, J A → A.grownBy B none → J B)
    (hY : ∀ (v : Value × Nat) W1, J W1 → PvR S (eM Q) n₀ N v W1 → YieldAt Fence.wide (n - 1) Try.prog l #[v.1] W1 fun e W' => e = .returned (.bool false) ∧ Jx v W')
    (hB : Below w.heap.size w W) (h1 : Boxed W B1 29 (.slice x S.length c1)) (h2 : Boxed W B2 31 (.slice y Q.length c2)) (h0 : J W) :
    CallsIn Fence.wide n Try.prog 176 #[.func (.yield l) #[] #[], .pointer (some ⟨B1, 0, none⟩), .pointer (some ⟨B2, 0, none⟩)] W fun e W' => (∃ v, e = .returned v) ∧
      ((cpN S (eM Q) N = 0 ∧ J W') ∨ (∃ v, Jx v W')) := by
  obtain ⟨g1, g2, g3⟩ := el_get hel
  have hSh := Lib.hid hS
  have hQh := Lib.hid hQ
  have hm := hS.1
  have hsh := Lib.hid g1
  have hedh := Lib.hid g3
  have hNh := Lib.hid hN
  have hAh := Lib.hid hA
  have hYh := Lib.hid hY
  clear hS hQ hel g1 g2 g3 hN hA hY
  have hc1 := h1.cell
  refine callsIn_of_wp Try.func176 rfl trivial ?_ rfl
  simp only [Try.ntmps176, List.size_toArray, List.length_cons, List.length_nil, Nat.reduceAdd, Nat.reduceSub, Array.replicate_succ, Array.replicate_zero, List.push_toArray, List.append_toArray, List.nil_append, List.cons_append]
  gi_wp2_with fail
  refine ⟨trivial, ?_⟩
  refine (callsIn_wide.2 (countCombinations_any _ _ S _ hsh.out hm (hSh.out.rd.below hB))).mono ?_
  rintro e w1 ⟨rfl, hb1⟩
  have hN1 := hNh.out
  rw [hN1]
  clear hN1 hc1
  gi_wp2
  gi_loopw [8] (fun i wr => ∃ (k : Nat), k ≤ N ∧ i = .int .i64 k ∧ Hid (cpN S (eM Q) k = 0) ∧ J wr ∧ Below w.heap.size w wr ∧ Boxed wr B1 29 (.slice x S.length c1) ∧ Boxed wr B2 31 (.slice y Q.length c2) ∧ W.heap.size ≤ wr.heap.size)
    (fun i _ => N - (intOf i).toNat)
  case atStart => exact ⟨0, by omega, by first | rfl | go_num, rfl, hAh.out _ _ h0 (grown_belowE hb1), hB.trans (hb1.mono hB.size), (hb1.block B1 h1.lt).trans h1, (hb1.block B2 h2.lt).trans h2, hb1.size⟩
  case round =>
    clear h1 h2 h0 hb1
    obtain ⟨k, hk, rfl, hpre, hJ, hBr, b1, b2, hWr⟩ := hrel
    by_cases hlt : k < N
    · have hlt' : (k : Int) < (N : Int) := by omega
      have d1 := b1.cell
      have d2 := b2.cell
      have hNN := hNh.out
      have hkN : (k : Int) < cnZ S := by omega
      clear hNN
      gi_wp2_with fail
      refine ⟨trivial, ?_⟩
      refine (callsIn_wide.2 (combAt_any _ _ S (k : Int) _ (hSh.out.below hBr) hsh.out (by omega) hkN)).mono ?_
      rintro e w2 ⟨u2, rfl, ho2, hb2⟩
      obtain ⟨x2, n2, rfl, -, -⟩ := (OwR.of ho2).form
      have hin := Lib.hid (atL_iin hsh.out (show (0 : Int) ≤ (k : Int) by omega) (Rd.of_own ho2))
      have row2 := Lib.hid (own_more ho2 (Nat.le_trans hn₀ hWr))
      have J2 := Lib.hid (hAh.out _ _ hJ (grown_belowE hb2))
      have b12 : Boxed w2 B1 29 (.slice x S.length c1) := (hb2.block B1 b1.lt).trans b1
      have b22 : Boxed w2 B2 31 (.slice y Q.length c2) := (hb2.block B2 b2.lt).trans b2
      have hB2 : Below w.heap.size w w2 := hBr.trans (hb2.mono hBr.size)
      have hW2 : W.heap.size ≤ w2.heap.size := Nat.le_trans hWr hb2.size
      clear ho2 hb2 b1 b2 hJ hBr hWr d1 d2
      have d1 := b12.cell
      have d2 := b22.cell
      gi_wp2_with fail
      refine ⟨trivial, ?_⟩
      refine (callsIn_wide.2 (failsAny_any _ _ _ _ Q (atL S k) _ (fun E hE => fine_of hsh.out (hedh.out E hE) (at_fitE hsh.out (by omega))) (hQh.out.below hB2) hin.out)).mono ?_
      rintro e w3 ⟨rfl, hb3⟩
      have J3 := hAh.out _ _ J2.out (grown_belowE hb3)
      have row3 := Lib.hid (own_below row2.out hb3)
      have b13 : Boxed w3 B1 29 (.slice x S.length c1) := (hb3.block B1 b12.lt).trans b12
      have b23 : Boxed w3 B2 31 (.slice y Q.length c2) := (hb3.block B2 b22.lt).trans b22
      have hB3 : Below w.heap.size w w3 := hB2.trans (hb3.mono hB2.size)
      have hW3 : W.heap.size ≤ w3.heap.size := Nat.le_trans hW2 hb3.size
      clear d1 d2 b12 b22 J2 hb3 hB2 hW2 row2
      cases hfa : faB (eM Q) (atL S k)
      · obtain ⟨fn, tmps, assign, body, hy, hR⟩ := hYh.out (.slice x2 (atL S k).length n2, k) w3 J3 ⟨⟨hlt, hpre.out, hfa⟩, row3.out⟩
        try dsimp only at hy
        have hb13 := Lib.hid b13
        have hb23 := Lib.hid b23
        clear b13 b23 J3
        gi_wp2
        refine hR.mono ?_
        rintro e W3 ⟨rfl, hJx4⟩
        gi_wp2
        refine bodyPost_ret (results_none rfl _ _ _) rfl ?_
        exact ⟨⟨_, rfl⟩, .inr ⟨_, hJx4⟩⟩
      · have hst := Lib.hid (cpN_no hfa)
        have hb13 := Lib.hid b13
        have hb23 := Lib.hid b23
        have hJ3h := Lib.hid J3
        clear b13 b23 J3
        gi_wp2
        refine ⟨(fun f h => by cases h), ?_⟩
        gi_wp2
        go_roundw
        case rel => exact ⟨k + 1, by omega, by go_num, (by unfold Hid; rw [hst.out, hpre.out]), hJ3h.out, hB3, hb13.out, hb23.out, hW3⟩
        case measure => simp [intOf]; omega
    · have hij : k = N := by omega
      subst hij
      gi_wp2
      go_end0
      exact ⟨⟨_, rfl⟩, .inl ⟨hpre.out, hJ⟩⟩
theorem pv_one (B1 B2 n₀ : Nat) (x y : Option Addr) (c1 c2 : Nat) (S : List (ByteArray × Int)) (Q : List PR) (w W0 : World) (hel : elB S (eM Q) = true) (hS : SIn w x c1 S) (hQ : EIn w y Q) (N : Nat) (hN : cnZ S = (N : Int)) (hN2 : N ≤ 262144) (hB : Below w.heap.size w W0) (hn₀ : n₀ ≤ W0.heap.size)
    (h1 : Boxed W0 B1 29 (.slice x S.length c1)) (h2 : Boxed W0 B2 31 (.slice y Q.length c2)) :
    OneYield Try.prog 176 #[.pointer (some ⟨B1, 0, none⟩), .pointer (some ⟨B2, 0, none⟩)] (fun v : Value × Nat => v.1) (PvR S (eM Q) n₀ N) (cpN S (eM Q) N = 0) W0 := fun l J Jx W hW hA hY h0 =>
  pv_first 4 (by omega) l B1 B2 n₀ x y c1 c2 S Q w hel hS hQ N hN hN2 J Jx W (Nat.le_trans hn₀ hW.size) hA hY (hB.trans (hW.mono hB.size)) (boxed_below h1 hW) (boxed_below h2 hW) h0
/-- The two result variables' boxes, as they are laid at the beginning. -/
def ResB (n : Nat) (v : Value) (b : Bool) (W : World) : Prop := Boxed W n 24 v ∧ Boxed W (n + 1) 4 (.bool b)
theorem resB_new (w : World) : ResB w.heap.size (.slice none 0 0) false ((w.alloc (.cells #[.slice none 0 0] 24)).alloc (.cells #[.bool false] 4)) := by
  refine ⟨(Boxed.new w 24 _).alloc _, ?_⟩
  have := Boxed.new (w.alloc (.cells #[.slice none 0 0] 24)) 4 (.bool false)
  rwa [World.size_alloc] at this
theorem ResB.below {n : Nat} {v : Value} {b : Bool} {w W : World} (h : ResB n v b w) (hb : Below w.heap.size w W) : ResB n v b W := ⟨(hb.block _ h.1.lt).trans h.1, (hb.block _ h.2.lt).trans h.2⟩
theorem ResB.set {n : Nat} {v v0 : Value} {b b0 : Bool} {W : World} (h : ResB n v0 b0 W) : ResB n v b ((W.setCell ⟨n, 0, none⟩ v).setCell ⟨n + 1, 0, none⟩ (.bool b)) :=
  ⟨(h.1.set v).other (by omega) _, (h.2.other (by omega) v).set (.bool b)⟩
theorem resB_to {n : Nat} {v : Value} {b : Bool} {w W : World} (hb : Below w.heap.size w W) (hn : w.heap.size ≤ n) : Below w.heap.size w ((W.setCell ⟨n, 0, none⟩ v).setCell ⟨n + 1, 0, none⟩ (.bool b)) :=
  (hb.setCell (p := ⟨n, 0, none⟩) hn v).setCell (p := ⟨n + 1, 0, none⟩) (by show w.heap.size ≤ n + 1; omega) _
theorem ResB.put {n l : Nat} {v : Value} {b : Bool} {W : World} {o : Obj} (h : ResB n v b W) (o' : Obj) (hl : W.heap[l]? = some o) (ho : o.isCells = false) : ResB n v b (W.putObj l o') := by
  have hne : ∀ k c t z, W.heap[k]? = some (.cells c t z) → k ≠ l := by
    rintro k c t z hk rfl
    rw [hk] at hl
    cases hl
    cases ho
  exact ⟨(World.putObj_heap_other (hne _ _ _ _ h.1)).trans h.1, (World.putObj_heap_other (hne _ _ _ _ h.2)).trans h.2⟩
theorem own_cells {X Y : World} {row : Option Nat} {n₀ e size n : Nat} {v : Value} {xs : List Value} (h : X.ownsRow n₀ e size v n xs) (hg : X.grownBy Y row) (hrow : ∀ r, row = some r → ∃ o : Obj, X.heap[r]? = some o ∧ o.isCells = false) : Y.ownsRow n₀ e size v n xs := by
  refine h.kept hg ?_
  rcases h.2 with ⟨rfl, _⟩ | ⟨g, cap, cur, rfl, _, hgb, _⟩
  · exact .inl rfl
  · refine .inr fun e' => ?_
    obtain ⟨o, ho, hc⟩ := hrow g (by simpa [Value.ownBlock] using e'.symm)
    rw [hgb] at ho
    cases ho
    cases hc
theorem pvR_own (S : List (ByteArray × Int)) (M : List (List Int)) (n₀ N : Nat) : Own (PvR S M n₀ N) := fun _ _ _ _ h hg hr => ⟨h.1, own_cells h.2 hg hr⟩
theorem resB_own {β : Type} (n : Nat) (f : β → Value) (b : Bool) : Own (fun s W => ResB n (f s) b W) := fun s A B row h hg hr =>
  ⟨boxed_own n 24 f s A B row h.1 hg hr, boxed_own (n + 1) 4 (fun _ => .bool b) s A B row h.2 hg hr⟩
theorem pvR_set {S : List (ByteArray × Int)} {M : List (List Int)} {n₀ N n : Nat} {x : Value × Nat} {W : World} {v v0 : Value} {b b0 : Bool} (h : PvR S M n₀ N x W) (r : ResB n v0 b0 W) : PvR S M n₀ N x ((W.setCell ⟨n, 0, none⟩ v).setCell ⟨n + 1, 0, none⟩ (.bool b)) := by
  have h1 := h.2.kept (grownBy_setCell' W n v) (.inr (Ne.symm (r.1.not_row (by decide) h.2)))
  have r2 := r.2.other (by omega) (B' := n) v
  exact ⟨h.1, h1.kept (grownBy_setCell' _ (n + 1) (.bool b)) (.inr (Ne.symm (r2.not_row (by decide) h1)))⟩
end Go.Proofs.Ytgkaalonmkcclab

namespace Go.Proofs.Ytgkaalonmkcclab
open Go.RowKit Go.Shelf
set_option maxRecDepth 100000
attribute [local go_sem] Oper.semAt_some

/-- The lists of values that pass, at the first k places. -/
def psL (S : List (ByteArray × Int)) (M : List (List Int)) (k : Nat) : List (List Int) := (psN S M k).map fun i : Nat => atL S (i : Int)
theorem psL_yes {S : List (ByteArray × Int)} {M : List (List Int)} {k : Nat} (h : faB M (atL S k) = false) : psL S M (k + 1) = psL S M k ++ [atL S k] := by unfold psL; rw [psN_yes h, List.map_append]; rfl
theorem psL_no {S : List (ByteArray × Int)} {M : List (List Int)} {k : Nat} (h : faB M (atL S k) = true) : psL S M (k + 1) = psL S M k := by unfold psL; rw [psN_no h]
theorem psL_len (S : List (ByteArray × Int)) (M : List (List Int)) (k : Nat) : (psL S M k).length ≤ k := by unfold psL; rw [List.length_map, psN_len]; exact cpN_le S M k
/-- What is handed to a round: the next list of values that passes, in a row of its own. -/
def PsR (S : List (ByteArray × Int)) (M : List (List Int)) (nb N : Nat) (pre : List PR) (q : PR) (W : World) : Prop :=
  (∃ k : Nat, k < N ∧ faB M (atL S k) = false ∧ eM pre = psL S M k ∧ q.L = atL S k) ∧ W.ownsRow nb 3 1 q.v q.L.length (iC q.L)
set_option maxHeartbeats 4000000 in
theorem pv_rows (n : Nat) (hn : 1 ≤ n) (B1 B2 n₀ nb : Nat) (x y : Option Addr) (c1 c2 : Nat) (S : List (ByteArray × Int)) (Q : List PR) (w W0 : World) (hel : elB S (eM Q) = true) (hS : SIn w x c1 S) (hQ : EIn w y Q) (hn₀ : w.heap.size ≤ n₀) (N : Nat) (hN : cnZ S = (N : Int)) (hN2 : N ≤ 262144) (hB0 : Below w.heap.size w W0) (hnb0 : nb ≤ W0.heap.size)
    (h1z : Boxed W0 B1 29 (.slice x S.length c1)) (h2z : Boxed W0 B2 31 (.slice y Q.length c2)) :
    RowSeq n Try.prog 176 #[.pointer (some ⟨B1, 0, none⟩), .pointer (some ⟨B2, 0, none⟩)] (fun q : PR => q.v) (Kp2 n₀ B1 B2) (PsR S (eM Q) nb N) (fun ys => eM ys = psL S (eM Q) N) W0 := by
  intro l J Jx W hW hA _ hY h0
  have hB := hB0.trans (hW.mono hB0.size)
  have hnb := Nat.le_trans hnb0 hW.size
  have h1 := boxed_below h1z hW
  have h2 := boxed_below h2z hW
  clear h1z h2z hB0 hnb0 hW
  obtain ⟨g1, g2, g3⟩ := el_get hel
  have hSh := Lib.hid hS
  have hQh := Lib.hid hQ
  have hm := hS.1
  have hsh := Lib.hid g1
  have hedh := Lib.hid g3
  have hNh := Lib.hid hN
  have hAh := Lib.hid hA
  have hYh := Lib.hid hY
  clear hS hQ hel g1 g2 g3 hN hA hY
  have hc1 := h1.cell
  refine callsIn_of_wp Try.func176 rfl trivial ?_ rfl
  simp only [Try.ntmps176, List.size_toArray, List.length_cons, List.length_nil, Nat.reduceAdd, Nat.reduceSub, Array.replicate_succ, Array.replicate_zero, List.push_toArray, List.append_toArray, List.nil_append, List.cons_append]
  gi_wp2_with fail
  refine ⟨trivial, ?_⟩
  refine (callsIn_wide.2 (countCombinations_any _ _ S _ hsh.out hm (hSh.out.rd.below hB))).mono ?_
  rintro e w1 ⟨rfl, hb1⟩
  have hN1 := hNh.out
  rw [hN1]
  clear hN1 hc1
  gi_wp2
  gi_loopw [8] (fun i wr => ∃ (k : Nat) (pre : List PR), k ≤ N ∧ i = .int .i64 k ∧ Hid (eM pre = psL S (eM Q) k) ∧ J pre wr ∧ Below w.heap.size w wr ∧ Boxed wr B1 29 (.slice x S.length c1) ∧ Boxed wr B2 31 (.slice y Q.length c2) ∧ W.heap.size ≤ wr.heap.size)
    (fun i _ => N - (intOf i).toNat)
  case atStart => exact ⟨0, [], by omega, by first | rfl | go_num, rfl, hAh.out _ _ _ none h0 (grown_belowE hb1) (by intro r hr; cases hr), hB.trans (hb1.mono hB.size), (hb1.block B1 h1.lt).trans h1, (hb1.block B2 h2.lt).trans h2, hb1.size⟩
  case round =>
    clear h1 h2 h0 hb1
    obtain ⟨k, pre, hk, rfl, hpre, hJ, hBr, b1, b2, hWr⟩ := hrel
    by_cases hlt : k < N
    · have hlt' : (k : Int) < (N : Int) := by omega
      have d1 := b1.cell
      have d2 := b2.cell
      have hNN := hNh.out
      have hkN : (k : Int) < cnZ S := by omega
      clear hNN
      gi_wp2_with fail
      refine ⟨trivial, ?_⟩
      refine (callsIn_wide.2 (combAt_any _ _ S (k : Int) _ (hSh.out.below hBr) hsh.out (by omega) hkN)).mono ?_
      rintro e w2 ⟨u2, rfl, ho2, hb2⟩
      obtain ⟨x2, n2, rfl, -, -⟩ := (OwR.of ho2).form
      have hin := Lib.hid (atL_iin hsh.out (show (0 : Int) ≤ (k : Int) by omega) (Rd.of_own ho2))
      have row2 := Lib.hid (own_more ho2 (Nat.le_trans hnb hWr))
      have J2 := Lib.hid (hAh.out _ _ _ none hJ (grown_belowE hb2) (by intro r hr; cases hr))
      have b12 : Boxed w2 B1 29 (.slice x S.length c1) := (hb2.block B1 b1.lt).trans b1
      have b22 : Boxed w2 B2 31 (.slice y Q.length c2) := (hb2.block B2 b2.lt).trans b2
      have hB2 : Below w.heap.size w w2 := hBr.trans (hb2.mono hBr.size)
      have hW2 : W.heap.size ≤ w2.heap.size := Nat.le_trans hWr hb2.size
      clear ho2 hb2 b1 b2 hJ hBr hWr d1 d2
      have d1 := b12.cell
      have d2 := b22.cell
      gi_wp2_with fail
      refine ⟨trivial, ?_⟩
      refine (callsIn_wide.2 (failsAny_any _ _ _ _ Q (atL S k) _ (fun E hE => fine_of hsh.out (hedh.out E hE) (at_fitE hsh.out (by omega))) (hQh.out.below hB2) hin.out)).mono ?_
      rintro e w3 ⟨rfl, hb3⟩
      have J3 := hAh.out _ _ _ none J2.out (grown_belowE hb3) (by intro r hr; cases hr)
      have row3 := Lib.hid (own_below row2.out hb3)
      have b13 : Boxed w3 B1 29 (.slice x S.length c1) := (hb3.block B1 b12.lt).trans b12
      have b23 : Boxed w3 B2 31 (.slice y Q.length c2) := (hb3.block B2 b22.lt).trans b22
      have hB3 : Below w.heap.size w w3 := hB2.trans (hb3.mono hB2.size)
      have hW3 : W.heap.size ≤ w3.heap.size := Nat.le_trans hW2 hb3.size
      clear d1 d2 b12 b22 J2 hb3 hB2 hW2 row2
      cases hfa : faB (eM Q) (atL S k)
      · have hst := Lib.hid (psL_yes hfa)
        obtain ⟨fn, tmps, assign, body, hy, hR⟩ := hYh.out pre ⟨0, 0, x2, n2, atL S k⟩ w3 J3 ⟨⟨k, hlt, hfa, hpre.out, rfl⟩, row3.out⟩
        try dsimp only [PR.v] at hy
        have hb13 := Lib.hid b13
        have hb23 := Lib.hid b23
        clear b13 b23 J3
        gi_wp2
        refine hR.mono ?_
        rintro e W3 ⟨-, ⟨rfl, hJ4, hk4⟩ | ⟨rfl, hJx4⟩⟩
        · gi_wp2
          go_roundw
          case rel => exact ⟨k + 1, pre ++ [⟨0, 0, x2, n2, atL S k⟩], by omega, by go_num, (by unfold Hid; rw [eM_app, hst.out, hpre.out]; rfl), hJ4, hB3.trans (hk4.1.mono hn₀), hk4.2.1.trans hb13.out, hk4.2.2.trans hb23.out, Nat.le_trans hW3 hk4.1.size⟩
          case measure => simp [intOf]; omega
        · gi_wp2
          refine bodyPost_ret (results_none rfl _ _ _) rfl ?_
          exact ⟨⟨_, rfl⟩, .inr ⟨_, hJx4⟩⟩
      · have hst := Lib.hid (psL_no hfa)
        have hb13 := Lib.hid b13
        have hb23 := Lib.hid b23
        have hJ3h := Lib.hid J3
        clear b13 b23 J3
        gi_wp2
        refine ⟨(fun f h => by cases h), ?_⟩
        gi_wp2
        go_roundw
        case rel => exact ⟨k + 1, pre, by omega, by go_num, (by unfold Hid; rw [hst.out, hpre.out]), hJ3h.out, hB3, hb13.out, hb23.out, hW3⟩
        case measure => simp [intOf]; omega
    · have hij : k = N := by omega
      subst hij
      gi_wp2
      go_end0
      exact ⟨⟨_, rfl⟩, .inl ⟨pre, hpre.out, hJ⟩⟩
theorem rows_apart {W : World} {n1 n2 e1 e2 s1 s2 k1 k2 : Nat} {u v : Value} {xs ys : List Value} (h1 : W.ownsRow n1 e1 s1 u k1 xs) (h2 : W.ownsRow n2 e2 s2 v k2 ys) (hne : e1 ≠ e2) : u.ownBlock = none ∨ u.ownBlock ≠ v.ownBlock := by
  rcases h1.2 with ⟨rfl, _⟩ | ⟨g, cap, cur, rfl, _, hgb, _⟩
  · exact .inl rfl
  · refine .inr fun e' => ?_
    rcases h2.2 with ⟨rfl, _⟩ | ⟨g2, cap2, cur2, rfl, _, hgb2, _⟩
    · simp [Value.ownBlock] at e'
    · obtain rfl : g = g2 := by simpa [Value.ownBlock] using e'
      rw [hgb] at hgb2
      cases hgb2
      exact hne rfl
theorem row_appended {W w1 : World} {n1 n₀ B t e e2 s s2 k k2 : Nat} {u v v' : Value} {ys xs : List Value} {tmp : Obj} (hin : W.ownsRow n1 e2 s2 u k2 ys) (hrow : W.ownsRow n₀ e s v k xs) (hne : e2 ≠ e) (hbox : Boxed w1 B t v) (hte : t ≠ e2)
    (hgrow : (W.alloc tmp).grownBy w1 v.ownBlock) : (w1.setCell ⟨B, 0, none⟩ v').ownsRow n1 e2 s2 u k2 ys := by
  have h1 : w1.ownsRow n1 e2 s2 u k2 ys := (hin.alloc tmp).kept hgrow (rows_apart hin hrow hne)
  exact h1.kept (grownBy_setCell' w1 B v') (.inr (Ne.symm (hbox.not_row hte h1)))
theorem Try.infoRow : (Try.prog.info? 24).map (fun i => (i.zero, i.size, i.bytes)) = some (some (.slice none 0 0), 1, 24) := by kernel_rfl
/-- What is collected: rows, each a list of values that passes. -/
def PsPost (S : List (ByteArray × Int)) (M : List (List Int)) (N : Nat) (W : World) (e : Ending) (W' : World) : Prop :=
  ∃ (v : Value) (T : List PR), e = .returned v ∧ W'.ownsRow W.heap.size 24 1 v T.length (eC T) ∧ (∀ q ∈ T, W'.ownsRow W.heap.size 3 1 q.v q.L.length (iC q.L)) ∧ eM T = psL S M N ∧ Below W.heap.size W W'
theorem eC_snoc (T : List PR) (q : PR) : eC (T ++ [q]) = eC T ++ [q.v] := by unfold eC; rw [List.map_append]; rfl
set_option maxHeartbeats 4000000 in
theorem appendSeq_any (B1 B2 : Nat) (x y : Option Addr) (c1 c2 : Nat) (S : List (ByteArray × Int)) (Q : List PR) (w W : World) (hel : elB S (eM Q) = true) (hS : SIn w x c1 S) (hQ : EIn w y Q) (N : Nat) (hN : cnZ S = (N : Int)) (hN2 : N ≤ 262144) (hB : Below w.heap.size w W)
    (h1 : Boxed W B1 29 (.slice x S.length c1)) (h2 : Boxed W B2 31 (.slice y Q.length c2)) :
    Calls Try.prog 175 #[.slice none 0 0, .func (.func 176) #[] #[.pointer (some ⟨B1, 0, none⟩), .pointer (some ⟨B2, 0, none⟩)]] W (PsPost S (eM Q) N W) := by
  obtain ⟨i0, hi, hz0, hz1, hz2⟩ := info_parts Try.infoRow
  have hlt1 := h1.lt
  have hlt2 := h2.lt
  have hwW := hB.size
  have b1 := h1.alloc (.cells #[.slice none 0 0] 144)
  have b2 := h2.alloc (.cells #[.slice none 0 0] 144)
  have bO := Boxed.new W 144 (.slice none 0 0)
  have hb0 : Below W.heap.size W (W.alloc (.cells #[.slice none 0 0] 144)) := (Below.refl _ _).alloc (Nat.le_refl _) _
  have hBW : Below w.heap.size w (W.alloc (.cells #[.slice none 0 0] 144)) := hB.trans (hb0.mono hwW)
  have hit := pv_rows 4 (by omega) B1 B2 W.heap.size W.heap.size x y c1 c2 S Q w _ hel hS hQ hwW N hN hN2 hBW (by simp) b1 b2
  have hith := Lib.hid hit
  clear hit hS hQ hel hN h1 h2 b1 b2
  refine (callsIn_wide (n := 5)).1 ?_
  refine callsIn_of_wp_marks Try.func175 rfl trivial ?_ rfl
  simp only [Try.ntmps175, List.size_toArray, List.length_cons, List.length_nil, Nat.reduceAdd, Nat.reduceSub, Array.replicate_succ, Array.replicate_zero, List.push_toArray, List.append_toArray, List.nil_append, List.cons_append]
  refine wpIn_wide.2 ?_
  go_wp2
  refine (wpIn_wide (n := 5)).1 ?_
  refine range_rows (by omega) (gf := 176) (lb := #[.pointer (some ⟨B1, 0, none⟩), .pointer (some ⟨B2, 0, none⟩)]) rfl (enters_of Try.func176 (by kernel_rfl) rfl) rfl
    (fun q : PR => q.v) (Kp2 W.heap.size B1 B2) (PsR S (eM Q) W.heap.size N) (fun ys => eM ys = psL S (eM Q) N) hith.out (Below.refl _ _)
    (fun _ _ _ h k => ⟨h.1.trans k.1, k.2.1.trans h.2.1, k.2.2.trans h.2.2⟩) (fun _ X l o o' hl hlo hc hw => ⟨belowK_b (w := W.alloc (.cells #[.slice none 0 0] 144)) (by simp) X l o o' hl hlo hc hw, World.putObj_heap_other (by intro e; simp at hl; omega), World.putObj_heap_other (by intro e; simp at hl; omega)⟩)
    (fun pre X => ((∃ v, Boxed X W.heap.size 144 v ∧ X.ownsRow W.heap.size 24 1 v pre.length (eC pre) ∧ True) ∧ (∀ q ∈ pre, X.ownsRow W.heap.size 3 1 q.v q.L.length (iC q.L))) ∧ Below W.heap.size W X)
    (fun _ _ => False)
    (OwnFrom.and (OwnFrom.and (Own.from (holdsRow_own W.heap.size W.heap.size 144 24 1 (fun pre : List PR => pre.length) (fun pre => eC pre) (fun _ _ => True)) _) (Own.from (fun s A B row hs hg hr => fun q hq => own_cells (hs q hq) hg hr) _)) (ownFrom_below (Nat.le_refl _) (by simp)))
    (fun _ _ _ _ hs _ _ => hs)
    ⟨⟨⟨_, bO, World.ownsRow_nil _ _ _ _, trivial⟩, fun q hq => by cases hq⟩, hb0⟩
    (fun pre q a' X => (a' = { tmps := #[.slice none 0 0, .func (.func 176) #[] #[.pointer (some ⟨B1, 0, none⟩), .pointer (some ⟨B2, 0, none⟩)], .pointer (some ⟨W.heap.size, 0, none⟩), undef, .slice none 0 0, q.v, .func (.func 176) #[] #[.pointer (some ⟨B1, 0, none⟩), .pointer (some ⟨B2, 0, none⟩)], q.v, undef, undef, undef, undef, undef], defers := [] } ∧ pre.length < N) ∧ X.ownsRow W.heap.size 3 1 q.v q.L.length (iC q.L))
    (fun pre q a' _ A B row hs hg hr => ⟨hs.1, own_cells hs.2 hg (fun r e => (hr r e).2)⟩)
    ?assign ?body ?done ?stop
  case assign =>
    rintro l pre q X K hI ⟨⟨k, hk, _, hpre, _⟩, hrow⟩ hK
    have hlen : pre.length < N := by have h0 := psL_len S (eM Q) k; rw [← hpre, eM_len] at h0; omega
    gi_wp2
    exact hK _ _ (KeepsFrom.refl _ X) (fun _ => ⟨Below.refl _ _, rfl, rfl⟩) hI ⟨⟨by first | rfl | simp, hlen⟩, hrow⟩
  case body =>
    rintro l pre ⟨qa, qh, qx, qc, qL⟩ a' X hl ⟨r, hr⟩ ⟨⟨⟨v, hv, hrow, -⟩, hin⟩, hB1⟩ ⟨⟨rfl, hlen⟩, hq⟩
    dsimp only [PR.v] at hq ⊢
    have hc := hv.cell
    have hinh := Lib.hid hin
    have hqh := Lib.hid hq
    have hXs := hB1.size
    clear hin hq
    obtain ⟨xv, cv, rfl, -, -⟩ := (OwR.of hrow).form
    gi_wp2_with (gi_at_builtin; refine wpListIn_append_own _ rfl _ _ 144 rfl W.heap.size 24 i0 (.slice none 0 0) 1 24 Try.underlying144 hi hz0 hz1 hz2 rfl (by decide) _ _ _ rfl (hrow.alloc _) ⟨X.heap.size, 0, none⟩ 1 1 [.slice qx qL.length qc] rfl rfl (cell_one_new _ _ _) (by simp [Value.oneCell']) (by unfold maxLen; omega) (by omega) (by simp; omega) ?_; intro v' w1 hown' hgrow _; obtain ⟨g', cap', rfl⟩ := ownsRow_succ hown'; obtain ⟨hv1, hv2, hr2, hk2, hb2⟩ := hv.appended (by decide) hrow hB1.size (Nat.le_refl _) hown' hgrow; have hc1 := hv1.cell; have hf1 := hv1.frozen)
    refine rowPost_on (hk2.from _) ⟨hb2, hb2.block _ (by omega), hb2.block _ (by omega)⟩ ⟨⟨⟨_, hv2, ?_, trivial⟩, fun p hp => ?_⟩, hB1.trans hb2⟩
    · rw [eC_snoc, List.length_append]
      exact hr2
    · rcases List.mem_append.1 hp with h | h
      · exact row_appended (hinh.out p h) hrow (by decide) hv1 (by decide) hgrow
      · obtain rfl := List.mem_singleton.1 h
        exact row_appended hqh.out hrow (by decide) hv1 (by decide) hgrow
  case done =>
    rintro ys X hS ⟨⟨⟨v, hv, hrow, -⟩, hin⟩, hB1⟩ hK
    have hc := hv.cell
    have hSh := Lib.hid hS
    have hinh := Lib.hid hin
    have hrowh := Lib.hid hrow
    clear hS hin hrow
    go_wp2
    refine ⟨by simp, .inl ⟨_, _, rfl, run_takeDeferred hK, ?_⟩⟩
    exact ⟨_, results_tmp rfl _ _ _, _, ys, rfl, ownsRow_putObj hrowh.out _ hK rfl, fun q hq => ownsRow_putObj (hinh.out q hq) _ hK rfl, hSh.out, hB1.trans (belowK_b (w := W) (Nat.le_refl _) _ _ _ _ (by simp) hK rfl rfl)⟩
  case stop =>
    rintro pre X h _
    exact h.elim
theorem collect_any (B1 B2 : Nat) (x y : Option Addr) (c1 c2 : Nat) (S : List (ByteArray × Int)) (Q : List PR) (w W : World) (hel : elB S (eM Q) = true) (hS : SIn w x c1 S) (hQ : EIn w y Q) (N : Nat) (hN : cnZ S = (N : Int)) (hN2 : N ≤ 262144) (hB : Below w.heap.size w W)
    (h1 : Boxed W B1 29 (.slice x S.length c1)) (h2 : Boxed W B2 31 (.slice y Q.length c2)) :
    Calls Try.prog 162 #[.func (.func 176) #[] #[.pointer (some ⟨B1, 0, none⟩), .pointer (some ⟨B2, 0, none⟩)]] W (PsPost S (eM Q) N W) := by
  have hc := Lib.hid (appendSeq_any B1 B2 x y c1 c2 S Q w W hel hS hQ N hN hN2 hB h1 h2)
  clear hel hS hQ hN h1 h2
  go_enter Try.func162, Try.ntmps162
  go_wp2_with fail
  refine hc.out.mono ?_
  rintro e w1 ⟨v, T, rfl, hp⟩
  have hph := Lib.hid hp
  clear hp
  go_wp2
  go_ret
  exact ⟨v, T, rfl, hph.out⟩
end Go.Proofs.Ytgkaalonmkcclab

namespace Go.Proofs.Ytgkaalonmkcclab
open Go.RowKit Go.Shelf
set_option maxRecDepth 100000
attribute [local go_sem] Oper.semAt_some

theorem isSmall_any (x : Option Addr) (c : Nat) (S : List (ByteArray × Int)) (w : World) (hS : SIn w x c S) :
    Calls Try.prog 55 #[.slice x S.length c] w fun e w' => e = .returned (.bool (smS S)) ∧ Below w.heap.size w w' := by
  have hSh := Lib.hid hS
  have hm := hS.1
  clear hS
  go_enter Try.func55, Try.ntmps55
  go_wp2_with fail
  refine (isSch_x _ _ _ _ (hSh.out.below (by exact (by repeat (first | exact Below.refl _ _ | assumption | refine Below.drew ?_ | refine below_drewN ?_ _ | refine Below.alloc' ?_ _ | (refine Below.setCell ?_ (by first | omega | (simp; done) | (simp; omega) | exact Below.size (by assumption) | exact Nat.le_trans (Below.size (by assumption)) (by simp)) _) | (refine Below.via' ?_ (by assumption)) | (refine Below.alloc ?_ (by first | omega | (simp; done) | (simp; omega) | exact Below.size (by assumption) | exact Nat.le_trans (Below.size (by assumption)) (by simp)) _) | (refine Below.via ?_ (by assumption) (by first | omega | (simp; done) | (simp; omega) | exact Below.size (by assumption) | exact Nat.le_trans (Below.size (by assumption)) (by simp)))))))).mono ?_
  rintro e w1 ⟨rfl, hb1⟩
  cases hs : schB S
  · have hv := Lib.hid (smS_no1 hs)
    go_wp2
    go_ret
    exact ⟨ret_bool hv.out.symm, (by repeat (first | exact Below.refl _ _ | assumption | refine Below.drew ?_ | refine below_drewN ?_ _ | refine Below.alloc' ?_ _ | (refine Below.setCell ?_ (by first | omega | (simp; done) | (simp; omega) | exact Below.size (by assumption) | exact Nat.le_trans (Below.size (by assumption)) (by simp)) _) | (refine Below.via' ?_ (by assumption)) | (refine Below.alloc ?_ (by first | omega | (simp; done) | (simp; omega) | exact Below.size (by assumption) | exact Nat.le_trans (Below.size (by assumption)) (by simp)) _) | (refine Below.via ?_ (by assumption) (by first | omega | (simp; done) | (simp; omega) | exact Below.size (by assumption) | exact Nat.le_trans (Below.size (by assumption)) (by simp)))))⟩
  have hsh := Lib.hid hs
  clear hs
  go_wp2_with fail
  refine (countCombinations_any _ _ S _ hsh.out hm (hSh.out.rd.below (by exact (by repeat (first | exact Below.refl _ _ | assumption | refine Below.drew ?_ | refine below_drewN ?_ _ | refine Below.alloc' ?_ _ | (refine Below.setCell ?_ (by first | omega | (simp; done) | (simp; omega) | exact Below.size (by assumption) | exact Nat.le_trans (Below.size (by assumption)) (by simp)) _) | (refine Below.via' ?_ (by assumption)) | (refine Below.alloc ?_ (by first | omega | (simp; done) | (simp; omega) | exact Below.size (by assumption) | exact Nat.le_trans (Below.size (by assumption)) (by simp)) _) | (refine Below.via ?_ (by assumption) (by first | omega | (simp; done) | (simp; omega) | exact Below.size (by assumption) | exact Nat.le_trans (Below.size (by assumption)) (by simp)))))))).mono ?_
  rintro e w2 ⟨rfl, hb2⟩
  by_cases hbig : cnZ S ≤ 100
  · have hv := Lib.hid (smS_yes hsh.out hbig)
    go_wp2
    go_ret
    exact ⟨ret_bool hv.out.symm, (by repeat (first | exact Below.refl _ _ | assumption | refine Below.drew ?_ | refine below_drewN ?_ _ | refine Below.alloc' ?_ _ | (refine Below.setCell ?_ (by first | omega | (simp; done) | (simp; omega) | exact Below.size (by assumption) | exact Nat.le_trans (Below.size (by assumption)) (by simp)) _) | (refine Below.via' ?_ (by assumption)) | (refine Below.alloc ?_ (by first | omega | (simp; done) | (simp; omega) | exact Below.size (by assumption) | exact Nat.le_trans (Below.size (by assumption)) (by simp)) _) | (refine Below.via ?_ (by assumption) (by first | omega | (simp; done) | (simp; omega) | exact Below.size (by assumption) | exact Nat.le_trans (Below.size (by assumption)) (by simp)))))⟩
  · have hv := Lib.hid (smS_no2 hbig)
    go_wp2
    go_ret
    exact ⟨ret_bool ((decide_eq_false (by omega)).trans hv.out.symm), (by repeat (first | exact Below.refl _ _ | assumption | refine Below.drew ?_ | refine below_drewN ?_ _ | refine Below.alloc' ?_ _ | (refine Below.setCell ?_ (by first | omega | (simp; done) | (simp; omega) | exact Below.size (by assumption) | exact Nat.le_trans (Below.size (by assumption)) (by simp)) _) | (refine Below.via' ?_ (by assumption)) | (refine Below.alloc ?_ (by first | omega | (simp; done) | (simp; omega) | exact Below.size (by assumption) | exact Nat.le_trans (Below.size (by assumption)) (by simp)) _) | (refine Below.via ?_ (by assumption) (by first | omega | (simp; done) | (simp; omega) | exact Below.size (by assumption) | exact Nat.le_trans (Below.size (by assumption)) (by simp)))))⟩
theorem eSmall_any (x y : Option Addr) (c1 c2 : Nat) (S : List (ByteArray × Int)) (Q : List PR) (w : World) (hS : SIn w x c1 S) (hQ : EIn w y Q) :
    Calls Try.prog 46 #[.slice x S.length c1, .slice y Q.length c2] w fun e w' => e = .returned (.bool (smB S (eM Q))) ∧ Below w.heap.size w w' := by
  have hSh := Lib.hid hS
  have hQh := Lib.hid hQ
  have hm := hS.1
  clear hS hQ
  go_enter Try.func46, Try.ntmps46
  go_wp2_with fail
  refine (eList_any _ _ _ _ S Q _ (hSh.out.below (by exact (by repeat (first | exact Below.refl _ _ | assumption | refine Below.drew ?_ | refine below_drewN ?_ _ | refine Below.alloc' ?_ _ | (refine Below.setCell ?_ (by first | omega | (simp; done) | (simp; omega) | exact Below.size (by assumption) | exact Nat.le_trans (Below.size (by assumption)) (by simp)) _) | (refine Below.via' ?_ (by assumption)) | (refine Below.alloc ?_ (by first | omega | (simp; done) | (simp; omega) | exact Below.size (by assumption) | exact Nat.le_trans (Below.size (by assumption)) (by simp)) _) | (refine Below.via ?_ (by assumption) (by first | omega | (simp; done) | (simp; omega) | exact Below.size (by assumption) | exact Nat.le_trans (Below.size (by assumption)) (by simp))))))) (hQh.out.below (by exact (by repeat (first | exact Below.refl _ _ | assumption | refine Below.drew ?_ | refine below_drewN ?_ _ | refine Below.alloc' ?_ _ | (refine Below.setCell ?_ (by first | omega | (simp; done) | (simp; omega) | exact Below.size (by assumption) | exact Nat.le_trans (Below.size (by assumption)) (by simp)) _) | (refine Below.via' ?_ (by assumption)) | (refine Below.alloc ?_ (by first | omega | (simp; done) | (simp; omega) | exact Below.size (by assumption) | exact Nat.le_trans (Below.size (by assumption)) (by simp)) _) | (refine Below.via ?_ (by assumption) (by first | omega | (simp; done) | (simp; omega) | exact Below.size (by assumption) | exact Nat.le_trans (Below.size (by assumption)) (by simp)))))))).mono ?_
  rintro e w1 ⟨rfl, hb1⟩
  cases he : elB S (eM Q)
  · have hv := Lib.hid (sm_no1 he)
    go_wp2
    go_ret
    exact ⟨ret_bool hv.out.symm, (by repeat (first | exact Below.refl _ _ | assumption | refine Below.drew ?_ | refine below_drewN ?_ _ | refine Below.alloc' ?_ _ | (refine Below.setCell ?_ (by first | omega | (simp; done) | (simp; omega) | exact Below.size (by assumption) | exact Nat.le_trans (Below.size (by assumption)) (by simp)) _) | (refine Below.via' ?_ (by assumption)) | (refine Below.alloc ?_ (by first | omega | (simp; done) | (simp; omega) | exact Below.size (by assumption) | exact Nat.le_trans (Below.size (by assumption)) (by simp)) _) | (refine Below.via ?_ (by assumption) (by first | omega | (simp; done) | (simp; omega) | exact Below.size (by assumption) | exact Nat.le_trans (Below.size (by assumption)) (by simp)))))⟩
  have heh := Lib.hid he
  have hsh := Lib.hid (el_get he).1
  clear he
  go_wp2_with fail
  refine (sCount_any _ _ S _ hsh.out hm (hSh.out.rd.below (by exact (by repeat (first | exact Below.refl _ _ | assumption | refine Below.drew ?_ | refine below_drewN ?_ _ | refine Below.alloc' ?_ _ | (refine Below.setCell ?_ (by first | omega | (simp; done) | (simp; omega) | exact Below.size (by assumption) | exact Nat.le_trans (Below.size (by assumption)) (by simp)) _) | (refine Below.via' ?_ (by assumption)) | (refine Below.alloc ?_ (by first | omega | (simp; done) | (simp; omega) | exact Below.size (by assumption) | exact Nat.le_trans (Below.size (by assumption)) (by simp)) _) | (refine Below.via ?_ (by assumption) (by first | omega | (simp; done) | (simp; omega) | exact Below.size (by assumption) | exact Nat.le_trans (Below.size (by assumption)) (by simp)))))))).mono ?_
  rintro e w2 ⟨rfl, hb2⟩
  by_cases hbig : cnZ S ≤ 100
  · have hv := Lib.hid (sm_yes heh.out hbig)
    go_wp2
    go_ret
    exact ⟨ret_bool hv.out.symm, (by repeat (first | exact Below.refl _ _ | assumption | refine Below.drew ?_ | refine below_drewN ?_ _ | refine Below.alloc' ?_ _ | (refine Below.setCell ?_ (by first | omega | (simp; done) | (simp; omega) | exact Below.size (by assumption) | exact Nat.le_trans (Below.size (by assumption)) (by simp)) _) | (refine Below.via' ?_ (by assumption)) | (refine Below.alloc ?_ (by first | omega | (simp; done) | (simp; omega) | exact Below.size (by assumption) | exact Nat.le_trans (Below.size (by assumption)) (by simp)) _) | (refine Below.via ?_ (by assumption) (by first | omega | (simp; done) | (simp; omega) | exact Below.size (by assumption) | exact Nat.le_trans (Below.size (by assumption)) (by simp)))))⟩
  · have hv := Lib.hid (sm_no2 (M := eM Q) hbig)
    go_wp2
    go_ret
    exact ⟨ret_bool ((decide_eq_false (by omega)).trans hv.out.symm), (by repeat (first | exact Below.refl _ _ | assumption | refine Below.drew ?_ | refine below_drewN ?_ _ | refine Below.alloc' ?_ _ | (refine Below.setCell ?_ (by first | omega | (simp; done) | (simp; omega) | exact Below.size (by assumption) | exact Nat.le_trans (Below.size (by assumption)) (by simp)) _) | (refine Below.via' ?_ (by assumption)) | (refine Below.alloc ?_ (by first | omega | (simp; done) | (simp; omega) | exact Below.size (by assumption) | exact Nat.le_trans (Below.size (by assumption)) (by simp)) _) | (refine Below.via ?_ (by assumption) (by first | omega | (simp; done) | (simp; omega) | exact Below.size (by assumption) | exact Nat.le_trans (Below.size (by assumption)) (by simp)))))⟩
/-- Two result variables' boxes. -/
def ResT (t n : Nat) (v : Value) (b : Bool) (W : World) : Prop := Boxed W n t v ∧ Boxed W (n + 1) 4 (.bool b)
theorem resT_new (t : Nat) (z : Value) (w : World) : ResT t w.heap.size z false ((w.alloc (.cells #[z] t)).alloc (.cells #[.bool false] 4)) := by
  refine ⟨(Boxed.new w t _).alloc _, ?_⟩
  have := Boxed.new (w.alloc (.cells #[z] t)) 4 (.bool false)
  rwa [World.size_alloc] at this
theorem ResT.below {t n : Nat} {v : Value} {b : Bool} {w W : World} (h : ResT t n v b w) (hb : Below w.heap.size w W) : ResT t n v b W := ⟨(hb.block _ h.1.lt).trans h.1, (hb.block _ h.2.lt).trans h.2⟩
theorem ResT.set {t n : Nat} {v v0 : Value} {b b0 : Bool} {W : World} (h : ResT t n v0 b0 W) : ResT t n v b ((W.setCell ⟨n, 0, none⟩ v).setCell ⟨n + 1, 0, none⟩ (.bool b)) :=
  ⟨(h.1.set v).other (by omega) _, (h.2.other (by omega) v).set (.bool b)⟩
theorem ResT.put {t n l : Nat} {v : Value} {b : Bool} {W : World} {o : Obj} (h : ResT t n v b W) (o' : Obj) (hl : W.heap[l]? = some o) (ho : o.isCells = false) : ResT t n v b (W.putObj l o') := by
  have hne : ∀ k c t z, W.heap[k]? = some (.cells c t z) → k ≠ l := by
    rintro k c t z hk rfl
    rw [hk] at hl
    cases hl
    cases ho
  exact ⟨(World.putObj_heap_other (hne _ _ _ _ h.1)).trans h.1, (World.putObj_heap_other (hne _ _ _ _ h.2)).trans h.2⟩
theorem resT_own {β : Type} (t n : Nat) (f : β → Value) (b : Bool) : Own (fun s W => ResT t n (f s) b W) := fun s A B row h hg hr =>
  ⟨boxed_own n t f s A B row h.1 hg hr, boxed_own (n + 1) 4 (fun _ => .bool b) s A B row h.2 hg hr⟩
end Go.Proofs.Ytgkaalonmkcclab

namespace Go.Proofs.Ytgkaalonmkcclab
open Go.RowKit Go.Shelf
set_option maxRecDepth 100000
attribute [local go_sem] Oper.semAt_some

/-- A box that holds the lists of values that pass. -/
def ImIn (S : List (ByteArray × Int)) (M : List (List Int)) (N : Nat) (w : World) (B : Nat) : Prop :=
  ∃ (x : Option Addr) (c : Nat) (T : List PR), Boxed w B 144 (.slice x T.length c) ∧ EIn w x T ∧ eM T = psL S M N
theorem ImIn.below {S : List (ByteArray × Int)} {M : List (List Int)} {N B : Nat} {w w' : World} (h : ImIn S M N w B) (hb : Below w.heap.size w w') : ImIn S M N w' B := by
  obtain ⟨x, c, T, h1, h2, h3⟩ := h
  exact ⟨x, c, T, boxed_below h1 hb, h2.below hb, h3⟩
theorem ps_iin {S : List (ByteArray × Int)} {M : List (List Int)} {N : Nat} {T : List PR} {W : World} {nb : Nat} (hs : schB S = true) (hM : eM T = psL S M N) (hr : ∀ q ∈ T, W.ownsRow nb 3 1 q.v q.L.length (iC q.L)) : ∀ q ∈ T, IIn W q.x q.L := by
  intro q hq
  obtain ⟨j, hj, e⟩ := List.getElem_of_mem hq
  have h1 : (eM T)[j]? = some q.L := eM_at (by rw [List.getElem?_eq_getElem hj, e])
  rw [hM] at h1
  unfold psL at h1
  rw [List.getElem?_map] at h1
  cases hk : (psN S M N)[j]? with
  | none => rw [hk] at h1; cases h1
  | some k =>
    rw [hk] at h1
    have h2 : atL S (k : Int) = q.L := Option.some.inj h1
    rw [← h2]
    have h3 := hr q hq
    rw [← h2] at h3
    have h4 : Rd W q.x (iC (atL S (k : Int))) := by
      have h5 := h3
      unfold PR.v at h5
      rw [← h2] at h5
      exact Rd.of_own h5
    exact atL_iin hs (by omega) h4
/-- The closure that tells whether an edit is implied. -/
def ImPost (S : List (ByteArray × Int)) (M : List (List Int)) (N : Nat) (w : World) (e : Ending) (w' : World) : Prop :=
  ∃ B : Nat, e = .returned (.func (.func 164) #[] #[.pointer (some ⟨B, 0, none⟩)]) ∧ ImIn S M N w' B ∧ Below w.heap.size w w'
set_option maxHeartbeats 2000000 in
theorem impliedBy_any (x y : Option Addr) (c1 c2 : Nat) (S : List (ByteArray × Int)) (Q : List PR) (w : World) (hel : elB S (eM Q) = true) (hS : SIn w x c1 S) (hQ : EIn w y Q) (N : Nat) (hN : cnZ S = (N : Int)) :
    Calls Try.prog 122 #[.slice x S.length c1, .slice y Q.length c2] w (ImPost S (eM Q) N w) := by
  have hs := (el_get hel).1
  obtain ⟨n1, n2⟩ := cn_all hs
  have hN2 : N ≤ 262144 := by omega
  have bS := (Boxed.new w 29 (.slice x S.length c1)).alloc (.cells #[.slice y Q.length c2] 31)
  have bQ := Boxed.new (w.alloc (.cells #[.slice x S.length c1] 29)) 31 (.slice y Q.length c2)
  have hB0 : Below w.heap.size w ((w.alloc (.cells #[.slice x S.length c1] 29)).alloc (.cells #[.slice y Q.length c2] 31)) := (by repeat (first | exact Below.refl _ _ | assumption | refine Below.drew ?_ | refine below_drewN ?_ _ | refine Below.alloc' ?_ _ | (refine Below.setCell ?_ (by first | omega | (simp; done) | (simp; omega) | exact Below.size (by assumption) | exact Nat.le_trans (Below.size (by assumption)) (by simp)) _) | (refine Below.via' ?_ (by assumption)) | (refine Below.alloc ?_ (by first | omega | (simp; done) | (simp; omega) | exact Below.size (by assumption) | exact Nat.le_trans (Below.size (by assumption)) (by simp)) _) | (refine Below.via ?_ (by assumption) (by first | omega | (simp; done) | (simp; omega) | exact Below.size (by assumption) | exact Nat.le_trans (Below.size (by assumption)) (by simp)))))
  rw [World.size_alloc] at bQ
  have hc := Lib.hid (collect_any w.heap.size (w.heap.size + 1) x y c1 c2 S Q w _ hel hS hQ N hN hN2 hB0 bS bQ)
  have hsh := Lib.hid hs
  have hw0 := hB0.size
  clear hel hS hQ hN bS bQ hs n1 n2
  go_enter Try.func122, Try.ntmps122
  go_wp2_with fail
  refine (passingValues_any _ _ _ _ _ _ _).mono ?_
  rintro e w4 ⟨rfl, rfl⟩
  go_wp2_with fail
  refine hc.out.mono ?_
  rintro e w5 ⟨v, T, rfl, hrow, hin, hM, hb5⟩
  obtain ⟨xv, cv, rfl, -, -⟩ := (OwR.of hrow).form
  have hB5 : Below w.heap.size w w5 := hB0.trans (hb5.mono hw0)
  have hbx := Boxed.new w5 144 (.slice xv T.length cv)
  have hb6 : Below w5.heap.size w5 (w5.alloc (.cells #[.slice xv T.length cv] 144)) := (Below.refl _ _).alloc (Nat.le_refl _) _
  have hTl : T.length ≤ 1048576 := by have h0 := psL_len S (eM Q) N; rw [← hM, eM_len] at h0; omega
  have hEI := Lib.hid (show EIn w5 xv T from ⟨hTl, ps_iin hsh.out hM hin, Rd.of_own hrow⟩)
  have hMh := Lib.hid hM
  clear hrow hin hM hc hb5 hw0
  go_wp2
  go_ret
  refine ⟨_, rfl, ⟨xv, cv, T, ?_, hEI.out.below ?_, hMh.out⟩, ?_⟩
  · first | exact hbx | (have h0 := (Boxed.new w5 144 (.slice none 0 0)).set (.slice xv T.length cv); exact h0)
  · exact (by repeat (first | exact Below.refl _ _ | assumption | refine Below.drew ?_ | refine below_drewN ?_ _ | refine Below.alloc' ?_ _ | (refine Below.setCell ?_ (by first | omega | (simp; done) | (simp; omega) | exact Below.size (by assumption) | exact Nat.le_trans (Below.size (by assumption)) (by simp)) _) | (refine Below.via' ?_ (by assumption)) | (refine Below.alloc ?_ (by first | omega | (simp; done) | (simp; omega) | exact Below.size (by assumption) | exact Nat.le_trans (Below.size (by assumption)) (by simp)) _) | (refine Below.via ?_ (by assumption) (by first | omega | (simp; done) | (simp; omega) | exact Below.size (by assumption) | exact Nat.le_trans (Below.size (by assumption)) (by simp)))))
  · exact (by repeat (first | exact Below.refl _ _ | assumption | refine Below.drew ?_ | refine below_drewN ?_ _ | refine Below.alloc' ?_ _ | (refine Below.setCell ?_ (by first | omega | (simp; done) | (simp; omega) | exact Below.size (by assumption) | exact Nat.le_trans (Below.size (by assumption)) (by simp)) _) | (refine Below.via' ?_ (by assumption)) | (refine Below.alloc ?_ (by first | omega | (simp; done) | (simp; omega) | exact Below.size (by assumption) | exact Nat.le_trans (Below.size (by assumption)) (by simp)) _) | (refine Below.via ?_ (by assumption) (by first | omega | (simp; done) | (simp; omega) | exact Below.size (by assumption) | exact Nat.le_trans (Below.size (by assumption)) (by simp)))))
set_option maxHeartbeats 2000000 in
theorem implied1_any (B : Nat) (z : Option Addr) (c : Nat) (S : List (ByteArray × Int)) (M : List (List Int)) (N : Nat) (E : List Int) (w : World) (hs : schB S = true) (hE : edB S E = true) (hI : ImIn S M N w B) (hz : IIn w z E) :
    Calls Try.prog 164 #[.agg #[.slice z E.length c], .pointer (some ⟨B, 0, none⟩)] w fun e w' => e = .returned (.bool (imV S (psN S M N) E)) ∧ Below w.heap.size w w' := by
  obtain ⟨x, cT, T, hb, hT, hM⟩ := hI
  have hq := Lib.hid (QB.new w z E.length c 90)
  have hb0 : Below w.heap.size w (w.alloc (.cells #[.slice z E.length c] 90)) := (by repeat (first | exact Below.refl _ _ | assumption | refine Below.drew ?_ | refine below_drewN ?_ _ | refine Below.alloc' ?_ _ | (refine Below.setCell ?_ (by first | omega | (simp; done) | (simp; omega) | exact Below.size (by assumption) | exact Nat.le_trans (Below.size (by assumption)) (by simp)) _) | (refine Below.via' ?_ (by assumption)) | (refine Below.alloc ?_ (by first | omega | (simp; done) | (simp; omega) | exact Below.size (by assumption) | exact Nat.le_trans (Below.size (by assumption)) (by simp)) _) | (refine Below.via ?_ (by assumption) (by first | omega | (simp; done) | (simp; omega) | exact Below.size (by assumption) | exact Nat.le_trans (Below.size (by assumption)) (by simp)))))
  have hbc := (boxed_below hb hb0).cell
  have hTh := Lib.hid (hT.below hb0)
  have hzh := Lib.hid (hz.below hb0)
  have hMh := Lib.hid hM
  have hsh := Lib.hid hs
  have hEh := Lib.hid hE
  have hTl := hT.1
  have hblt := hb.lt
  clear hb hT hz hM hs hE
  go_enter Try.func164, Try.ntmps164
  go_wp2
  go_loopw [8] (fun c2 wr => ∃ i : Nat, i ≤ T.length ∧ c2 = .int .i64 i ∧ Hid (∀ j, j < i → ∃ V, (eM T)[j]? = some V ∧ fsB E V = false) ∧ Below (w.alloc (.cells #[.slice z E.length c] 90)).heap.size (w.alloc (.cells #[.slice z E.length c] 90)) wr) (fun c2 _ => T.length - (intOf c2).toNat)
  case atStart => exact ⟨0, by omega, rfl, (fun j hj => absurd hj (by omega)), Below.refl _ _⟩
  case round =>
    obtain ⟨i, hi, rfl, hall, hBr⟩ := hrel
    by_cases hlt : i < T.length
    · obtain ⟨bl, off, q, rfl, hbl, hQq, hc0⟩ := (hTh.out.below hBr).2.2.ed hlt
      have hqi := Lib.hid ((hTh.out.2.1 q (List.mem_of_getElem? hQq)).below hBr)
      have hqe := Lib.hid (eM_at hQq)
      have hk : ∃ k : Nat, k ∈ psN S M N ∧ q.L = atL S (k : Int) := by
        have h1 := hqe.out
        rw [hMh.out] at h1
        unfold psL at h1
        obtain ⟨k, hk, e⟩ := List.mem_map.1 (List.mem_of_getElem? h1)
        exact ⟨k, hk, e.symm⟩
      obtain ⟨k, hkm, hkL⟩ := hk
      have hfi := Lib.hid (show Fine E q.L by rw [hkL]; exact fine_of hsh.out hEh.out (at_fitE hsh.out (by omega)))
      have hkmh := Lib.hid hkm
      have hkLh := Lib.hid hkL
      have hlt' : (i : Int) < (T.length : Int) := by omega
      obtain ⟨ka, kb, kc⟩ := hq.out.below hBr
      clear hQq hkm hkL
      cases hh : fsB E q.L
      · have hhh := Lib.hid hh
        go_wp2_with fail
        refine (failsEdit_any _ _ _ _ E q.L _ hfi.out (hzh.out.below hBr) hqi.out).mono ?_
        rintro e w3 ⟨rfl, hb3⟩
        rw [hh]
        go_wp2
        go_roundw
        case rel =>
          refine ⟨i + 1, by omega, by go_num, fun j hj => ?_, (by repeat (first | exact Below.refl _ _ | assumption | refine Below.drew ?_ | refine below_drewN ?_ _ | refine Below.alloc' ?_ _ | (refine Below.setCell ?_ (by first | omega | (simp; done) | (simp; omega) | exact Below.size (by assumption) | exact Nat.le_trans (Below.size (by assumption)) (by simp)) _) | (refine Below.via' ?_ (by assumption)) | (refine Below.alloc ?_ (by first | omega | (simp; done) | (simp; omega) | exact Below.size (by assumption) | exact Nat.le_trans (Below.size (by assumption)) (by simp)) _) | (refine Below.via ?_ (by assumption) (by first | omega | (simp; done) | (simp; omega) | exact Below.size (by assumption) | exact Nat.le_trans (Below.size (by assumption)) (by simp)))))⟩
          rcases Nat.lt_or_ge j i with hj2 | hj2
          · exact hall.out j hj2
          · obtain rfl : j = i := by omega
            exact ⟨_, hqe.out, hhh.out⟩
        case measure => simp [intOf]; omega
      · have hv := Lib.hid (imV_bad (S := S) (E := E) hkmh.out (by rw [← hkLh.out]; exact hh))
        go_wp2_with fail
        refine (failsEdit_any _ _ _ _ E q.L _ hfi.out (hzh.out.below hBr) hqi.out).mono ?_
        rintro e w3 ⟨rfl, hb3⟩
        rw [hh]
        go_wp2
        go_ret
        exact ⟨ret_bool hv.out.symm, (by repeat (first | exact Below.refl _ _ | assumption | refine Below.drew ?_ | refine below_drewN ?_ _ | refine Below.alloc' ?_ _ | (refine Below.setCell ?_ (by first | omega | (simp; done) | (simp; omega) | exact Below.size (by assumption) | exact Nat.le_trans (Below.size (by assumption)) (by simp)) _) | (refine Below.via' ?_ (by assumption)) | (refine Below.alloc ?_ (by first | omega | (simp; done) | (simp; omega) | exact Below.size (by assumption) | exact Nat.le_trans (Below.size (by assumption)) (by simp)) _) | (refine Below.via ?_ (by assumption) (by first | omega | (simp; done) | (simp; omega) | exact Below.size (by assumption) | exact Nat.le_trans (Below.size (by assumption)) (by simp)))))⟩
    · have hij : i = T.length := by omega
      subst hij
      have hv : Hid (imV S (psN S M N) E = true) := by
        refine imV_all fun k hk => ?_
        have h1 : atL S (k : Int) ∈ psL S M N := List.mem_map.2 ⟨k, hk, rfl⟩
        rw [← hMh.out] at h1
        obtain ⟨j, hj, e⟩ := List.getElem_of_mem h1
        obtain ⟨V, h2, h3⟩ := hall.out j (by rw [eM_len] at hj; exact hj)
        rw [List.getElem?_eq_getElem hj, e] at h2
        cases h2
        exact h3
      clear hall
      go_wp2
      go_ret
      exact ⟨ret_bool hv.out.symm, (by repeat (first | exact Below.refl _ _ | assumption | refine Below.drew ?_ | refine below_drewN ?_ _ | refine Below.alloc' ?_ _ | (refine Below.setCell ?_ (by first | omega | (simp; done) | (simp; omega) | exact Below.size (by assumption) | exact Nat.le_trans (Below.size (by assumption)) (by simp)) _) | (refine Below.via' ?_ (by assumption)) | (refine Below.alloc ?_ (by first | omega | (simp; done) | (simp; omega) | exact Below.size (by assumption) | exact Nat.le_trans (Below.size (by assumption)) (by simp)) _) | (refine Below.via ?_ (by assumption) (by first | omega | (simp; done) | (simp; omega) | exact Below.size (by assumption) | exact Nat.le_trans (Below.size (by assumption)) (by simp)))))⟩
/-- Which lists of values fail, as the model marks them. -/
def bdC (S : List (ByteArray × Int)) (M : List (List Int)) (N : Nat) : List Value := (List.range N).map fun k : Nat => .bool (faB M (atL S (k : Int)))
theorem bdC_len (S : List (ByteArray × Int)) (M : List (List Int)) (N : Nat) : (bdC S M N).length = N := by unfold bdC; simp
theorem bdC_at {S : List (ByteArray × Int)} {M : List (List Int)} {N i : Nat} (h : i < N) : (bdC S M N)[i]? = some (.bool (faB M (atL S (i : Int)))) := by unfold bdC; rw [List.getElem?_map, List.getElem?_range h]; rfl
theorem Try.infoBool : (Try.prog.info? 4).map (fun i => (i.zero, i.size, i.bytes)) = some (some (.bool false), 1, 1) := by kernel_rfl
def BdPost (S : List (ByteArray × Int)) (M : List (List Int)) (N : Nat) (w : World) (e : Ending) (w' : World) : Prop :=
  ∃ g : Nat, e = .returned (.slice (some ⟨g, 0, none⟩) N N) ∧ w'.ownsRow w.heap.size 4 1 (.slice (some ⟨g, 0, none⟩) N N) N (bdC S M N) ∧ Below w.heap.size w w'
end Go.Proofs.Ytgkaalonmkcclab
