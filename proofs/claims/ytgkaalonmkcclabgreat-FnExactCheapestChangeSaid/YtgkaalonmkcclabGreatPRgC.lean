import Derived.Test.YtgkaalonmkcclabGreatPRgB
import Derived.Test.YtgkaalonmkcclabGreatImM
import Derived.Test.YtgkaalonmkcclabGreatEdC
import Derived.Maps.AppendAt
import Derived.Test.YtgkaalonmkcclabGreatPRgA
import Derived.Test.YtgkaalonmkcclabGreatEdM
import Derived.Deep.DeepCutAuto
import Derived.Test.YtgkaalonmkcclabGreatEdP
import Derived.Test.YtgkaalonmkcclabGreatEdX
namespace Go.Proofs.YtgkaalonmkcclabGreat
open Go.RowKit Go.Shelf
set_option maxRecDepth 100000
attribute [local go_sem] Oper.semAt_some

/-- The lists of values that pass, at the first k places. -/
def psL (S : List (ByteArray × Int)) (M : List (List Int)) (k : Nat) : List (List Int) := (psN S M k).map fun i : Nat => atL S (i : Int)
theorem psL_yes {S : List (ByteArray × Int)} {M : List (List Int)} {k : Nat} (h : faB M (atL S k) = false) : psL S M (k + 1) = psL S M k ++ [atL S k] := by unfold psL; rw [psN_yes h, List.map_append]; rfl
theorem psL_no {S : List (ByteArray × Int)} {M : List (List Int)} {k : Nat} (h : faB M (atL S k) = true) : psL S M (k + 1) = psL S M k := by unfold psL; rw [psN_no h]
theorem psL_len (S : List (ByteArray × Int)) (M : List (List Int)) (k : Nat) : (psL S M k).length ≤ k := by unfold psL; rw [List.length_map, psN_len]; exact cpN_le S M k
/-- What is handed to a round: the next list of values that passes, in a row of its own. -/
def PsR (S : List (ByteArray × Int)) (M : List (List Int)) (nb N : Nat) (pre : List PR) (q : PR) (W : World) : Prop :=
  (∃ k : Nat, k < N ∧ faB M (atL S k) = false ∧ eM pre = psL S M k ∧ q.L = atL S k) ∧ W.ownsRow nb 3 1 q.v q.L.length (iC q.L)
set_option maxHeartbeats 4000000 in
theorem pv_rows (n : Nat) (hn : 1 ≤ n) (B1 B2 n₀ nb : Nat) (x y : Option Addr) (c1 c2 : Nat) (S : List (ByteArray × Int)) (Q : List PR) (w W0 : World) (hel : elB S (eM Q) = true) (hS : SIn w x c1 S) (hQ : EIn w y Q) (hn₀ : w.heap.size ≤ n₀) (N : Nat) (hN : cnZ S = (N : Int)) (hN2 : N ≤ 262144) (hB0 : Below w.heap.size w W0) (hnb0 : nb ≤ W0.heap.size)
    (h1z : Boxed W0 B1 29 (.slice x S.length c1)) (h2z : Boxed W0 B2 31 (.slice y Q.length c2)) :
    RowSeq n Tryz.prog 72 #[.pointer (some ⟨B1, 0, none⟩), .pointer (some ⟨B2, 0, none⟩)] (fun q : PR => q.v) (Kp2 n₀ B1 B2) (PsR S (eM Q) nb N) (fun ys => eM ys = psL S (eM Q) N) W0 := by
  intro l J Jx W hW hA _ hY h0
  have hB := hB0.trans (hW.mono hB0.size)
  have hnb := Nat.le_trans hnb0 hW.size
  have h1 := boxed_below h1z hW
  have h2 := boxed_below h2z hW
  clear h1z h2z hB0 hnb0 hW
  obtain ⟨g1, g2, g3⟩ := el_get hel
  have hSh := Lib.hid hS
  have hQh := Lib.hid hQ
  have hm := hS.1
  have hsh := Lib.hid g1
  have hedh := Lib.hid g3
  have hNh := Lib.hid hN
  have hAh := Lib.hid hA
  have hYh := Lib.hid hY
  clear hS hQ hel g1 g2 g3 hN hA hY
  have hc1 := h1.cell
  refine callsIn_of_wp Tryz.func72 rfl trivial ?_ rfl
  simp only [Tryz.ntmps72, List.size_toArray, List.length_cons, List.length_nil, Nat.reduceAdd, Nat.reduceSub, Array.replicate_succ, Array.replicate_zero, List.push_toArray, List.append_toArray, List.nil_append, List.cons_append]
  gi_wp2_with fail
  refine ⟨trivial, ?_⟩
  refine (callsIn_wide.2 (countCombinations_any _ _ S _ hsh.out hm (hSh.out.rd.below hB))).mono ?_
  rintro e w1 ⟨rfl, hb1⟩
  have hN1 := hNh.out
  rw [hN1]
  clear hN1 hc1
  gi_wp2
  gi_loopw [8] (fun i wr => ∃ (k : Nat) (pre : List PR), k ≤ N ∧ i = .int .i64 k ∧ Hid (eM pre = psL S (eM Q) k) ∧ J pre wr ∧ Below w.heap.size w wr ∧ Boxed wr B1 29 (.slice x S.length c1) ∧ Boxed wr B2 31 (.slice y Q.length c2) ∧ W.heap.size ≤ wr.heap.size)
    (fun i _ => N - (intOf i).toNat)
  case atStart => exact ⟨0, [], by omega, by first | rfl | go_num, rfl, hAh.out _ _ _ none h0 (grown_belowE hb1) (by intro r hr; cases hr), hB.trans (hb1.mono hB.size), (hb1.block B1 h1.lt).trans h1, (hb1.block B2 h2.lt).trans h2, hb1.size⟩
  case round =>
    clear h1 h2 h0 hb1
    obtain ⟨k, pre, hk, rfl, hpre, hJ, hBr, b1, b2, hWr⟩ := hrel
    by_cases hlt : k < N
    · have hlt' : (k : Int) < (N : Int) := by omega
      have d1 := b1.cell
      have d2 := b2.cell
      have hNN := hNh.out
      have hkN : (k : Int) < cnZ S := by omega
      clear hNN
      gi_wp2_with fail
      refine ⟨trivial, ?_⟩
      refine (callsIn_wide.2 (combAt_any _ _ S (k : Int) _ (hSh.out.below hBr) hsh.out (by omega) hkN)).mono ?_
      rintro e w2 ⟨u2, rfl, ho2, hb2⟩
      obtain ⟨x2, n2, rfl, -, -⟩ := (OwR.of ho2).form
      have hin := Lib.hid (atL_iin hsh.out (show (0 : Int) ≤ (k : Int) by omega) (Rd.of_own ho2))
      have row2 := Lib.hid (own_more ho2 (Nat.le_trans hnb hWr))
      have J2 := Lib.hid (hAh.out _ _ _ none hJ (grown_belowE hb2) (by intro r hr; cases hr))
      have b12 : Boxed w2 B1 29 (.slice x S.length c1) := (hb2.block B1 b1.lt).trans b1
      have b22 : Boxed w2 B2 31 (.slice y Q.length c2) := (hb2.block B2 b2.lt).trans b2
      have hB2 : Below w.heap.size w w2 := hBr.trans (hb2.mono hBr.size)
      have hW2 : W.heap.size ≤ w2.heap.size := Nat.le_trans hWr hb2.size
      clear ho2 hb2 b1 b2 hJ hBr hWr d1 d2
      have d1 := b12.cell
      have d2 := b22.cell
      gi_wp2_with fail
      refine ⟨trivial, ?_⟩
      refine (callsIn_wide.2 (failsAny_any _ _ _ _ Q (atL S k) _ (fun E hE => fine_of hsh.out (hedh.out E hE) (at_fitE hsh.out (by omega))) (hQh.out.below hB2) hin.out)).mono ?_
      rintro e w3 ⟨rfl, hb3⟩
      have J3 := hAh.out _ _ _ none J2.out (grown_belowE hb3) (by intro r hr; cases hr)
      have row3 := Lib.hid (own_below row2.out hb3)
      have b13 : Boxed w3 B1 29 (.slice x S.length c1) := (hb3.block B1 b12.lt).trans b12
      have b23 : Boxed w3 B2 31 (.slice y Q.length c2) := (hb3.block B2 b22.lt).trans b22
      have hB3 : Below w.heap.size w w3 := hB2.trans (hb3.mono hB2.size)
      have hW3 : W.heap.size ≤ w3.heap.size := Nat.le_trans hW2 hb3.size
      clear d1 d2 b12 b22 J2 hb3 hB2 hW2 row2
      cases hfa : faB (eM Q) (atL S k)
      · have hst := Lib.hid (psL_yes hfa)
        obtain ⟨fn, tmps, assign, body, hy, hR⟩ := hYh.out pre ⟨0, 0, x2, n2, atL S k⟩ w3 J3 ⟨⟨k, hlt, hfa, hpre.out, rfl⟩, row3.out⟩
        try dsimp only [PR.v] at hy
        have hb13 := Lib.hid b13
        have hb23 := Lib.hid b23
        clear b13 b23 J3
        gi_wp2
        refine hR.mono ?_
        rintro e W3 ⟨-, ⟨rfl, hJ4, hk4⟩ | ⟨rfl, hJx4⟩⟩
        · gi_wp2
          go_roundw
          case rel => exact ⟨k + 1, pre ++ [⟨0, 0, x2, n2, atL S k⟩], by omega, by go_num, (by unfold Hid; rw [eM_app, hst.out, hpre.out]; rfl), hJ4, hB3.trans (hk4.1.mono hn₀), hk4.2.1.trans hb13.out, hk4.2.2.trans hb23.out, Nat.le_trans hW3 hk4.1.size⟩
          case measure => simp [intOf]; omega
        · gi_wp2
          refine bodyPost_ret (results_none rfl _ _ _) rfl ?_
          exact ⟨⟨_, rfl⟩, .inr ⟨_, hJx4⟩⟩
      · have hst := Lib.hid (psL_no hfa)
        have hb13 := Lib.hid b13
        have hb23 := Lib.hid b23
        have hJ3h := Lib.hid J3
        clear b13 b23 J3
        gi_wp2
        refine ⟨(fun f h => by cases h), ?_⟩
        gi_wp2
        go_roundw
        case rel => exact ⟨k + 1, pre, by omega, by go_num, (by unfold Hid; rw [hst.out, hpre.out]), hJ3h.out, hB3, hb13.out, hb23.out, hW3⟩
        case measure => simp [intOf]; omega
    · have hij : k = N := by omega
      subst hij
      gi_wp2
      go_end0
      exact ⟨⟨_, rfl⟩, .inl ⟨pre, hpre.out, hJ⟩⟩
theorem rows_apart {W : World} {n1 n2 e1 e2 s1 s2 k1 k2 : Nat} {u v : Value} {xs ys : List Value} (h1 : W.ownsRow n1 e1 s1 u k1 xs) (h2 : W.ownsRow n2 e2 s2 v k2 ys) (hne : e1 ≠ e2) : u.ownBlock = none ∨ u.ownBlock ≠ v.ownBlock := by
  rcases h1.2 with ⟨rfl, _⟩ | ⟨g, cap, cur, rfl, _, hgb, _⟩
  · exact .inl rfl
  · refine .inr fun e' => ?_
    rcases h2.2 with ⟨rfl, _⟩ | ⟨g2, cap2, cur2, rfl, _, hgb2, _⟩
    · simp [Value.ownBlock] at e'
    · obtain rfl : g = g2 := by simpa [Value.ownBlock] using e'
      rw [hgb] at hgb2
      cases hgb2
      exact hne rfl
theorem row_appended {W w1 : World} {n1 n₀ B t e e2 s s2 k k2 : Nat} {u v v' : Value} {ys xs : List Value} {tmp : Obj} (hin : W.ownsRow n1 e2 s2 u k2 ys) (hrow : W.ownsRow n₀ e s v k xs) (hne : e2 ≠ e) (hbox : Boxed w1 B t v) (hte : t ≠ e2)
    (hgrow : (W.alloc tmp).grownBy w1 v.ownBlock) : (w1.setCell ⟨B, 0, none⟩ v').ownsRow n1 e2 s2 u k2 ys := by
  have h1 : w1.ownsRow n1 e2 s2 u k2 ys := (hin.alloc tmp).kept hgrow (rows_apart hin hrow hne)
  exact h1.kept (grownBy_setCell' w1 B v') (.inr (Ne.symm (hbox.not_row hte h1)))
theorem Tryz.infoRow : (Tryz.prog.info? 24).map (fun i => (i.zero, i.size, i.bytes)) = some (some (.slice none 0 0), 1, 24) := by kernel_rfl
/-- What is collected: rows, each a list of values that passes. -/
def PsPost (S : List (ByteArray × Int)) (M : List (List Int)) (N : Nat) (W : World) (e : Ending) (W' : World) : Prop :=
  ∃ (v : Value) (T : List PR), e = .returned v ∧ W'.ownsRow W.heap.size 24 1 v T.length (eC T) ∧ (∀ q ∈ T, W'.ownsRow W.heap.size 3 1 q.v q.L.length (iC q.L)) ∧ eM T = psL S M N ∧ Below W.heap.size W W'
theorem eC_snoc (T : List PR) (q : PR) : eC (T ++ [q]) = eC T ++ [q.v] := by unfold eC; rw [List.map_append]; rfl
set_option maxHeartbeats 4000000 in
theorem appendSeq_any (B1 B2 : Nat) (x y : Option Addr) (c1 c2 : Nat) (S : List (ByteArray × Int)) (Q : List PR) (w W : World) (hel : elB S (eM Q) = true) (hS : SIn w x c1 S) (hQ : EIn w y Q) (N : Nat) (hN : cnZ S = (N : Int)) (hN2 : N ≤ 262144) (hB : Below w.heap.size w W)
    (h1 : Boxed W B1 29 (.slice x S.length c1)) (h2 : Boxed W B2 31 (.slice y Q.length c2)) :
    Calls Tryz.prog 71 #[.slice none 0 0, .func (.func 72) #[] #[.pointer (some ⟨B1, 0, none⟩), .pointer (some ⟨B2, 0, none⟩)]] W (PsPost S (eM Q) N W) := by
  obtain ⟨i0, hi, hz0, hz1, hz2⟩ := info_parts Tryz.infoRow
  have hlt1 := h1.lt
  have hlt2 := h2.lt
  have hwW := hB.size
  have b1 := h1.alloc (.cells #[.slice none 0 0] 73)
  have b2 := h2.alloc (.cells #[.slice none 0 0] 73)
  have bO := Boxed.new W 73 (.slice none 0 0)
  have hb0 : Below W.heap.size W (W.alloc (.cells #[.slice none 0 0] 73)) := (Below.refl _ _).alloc (Nat.le_refl _) _
  have hBW : Below w.heap.size w (W.alloc (.cells #[.slice none 0 0] 73)) := hB.trans (hb0.mono hwW)
  have hit := pv_rows 4 (by omega) B1 B2 W.heap.size W.heap.size x y c1 c2 S Q w _ hel hS hQ hwW N hN hN2 hBW (by simp) b1 b2
  have hith := Lib.hid hit
  clear hit hS hQ hel hN h1 h2 b1 b2
  refine (callsIn_wide (n := 5)).1 ?_
  refine callsIn_of_wp_marks Tryz.func71 rfl trivial ?_ rfl
  simp only [Tryz.ntmps71, List.size_toArray, List.length_cons, List.length_nil, Nat.reduceAdd, Nat.reduceSub, Array.replicate_succ, Array.replicate_zero, List.push_toArray, List.append_toArray, List.nil_append, List.cons_append]
  refine wpIn_wide.2 ?_
  go_wp2
  refine (wpIn_wide (n := 5)).1 ?_
  refine range_rows (by omega) (gf := 72) (lb := #[.pointer (some ⟨B1, 0, none⟩), .pointer (some ⟨B2, 0, none⟩)]) rfl (enters_of Tryz.func72 (by kernel_rfl) rfl) rfl
    (fun q : PR => q.v) (Kp2 W.heap.size B1 B2) (PsR S (eM Q) W.heap.size N) (fun ys => eM ys = psL S (eM Q) N) hith.out (Below.refl _ _)
    (fun _ _ _ h k => ⟨h.1.trans k.1, k.2.1.trans h.2.1, k.2.2.trans h.2.2⟩) (fun _ X l o o' hl hlo hc hw => ⟨belowK_b (w := W.alloc (.cells #[.slice none 0 0] 73)) (by simp) X l o o' hl hlo hc hw, World.putObj_heap_other (by intro e; simp at hl; omega), World.putObj_heap_other (by intro e; simp at hl; omega)⟩)
    (fun pre X => ((∃ v, Boxed X W.heap.size 73 v ∧ X.ownsRow W.heap.size 24 1 v pre.length (eC pre) ∧ True) ∧ (∀ q ∈ pre, X.ownsRow W.heap.size 3 1 q.v q.L.length (iC q.L))) ∧ Below W.heap.size W X)
    (fun _ _ => False)
    (OwnFrom.and (OwnFrom.and (Own.from (holdsRow_own W.heap.size W.heap.size 73 24 1 (fun pre : List PR => pre.length) (fun pre => eC pre) (fun _ _ => True)) _) (Own.from (fun s A B row hs hg hr => fun q hq => own_cells (hs q hq) hg hr) _)) (ownFrom_below (Nat.le_refl _) (by simp)))
    (fun _ _ _ _ hs _ _ => hs)
    ⟨⟨⟨_, bO, World.ownsRow_nil _ _ _ _, trivial⟩, fun q hq => by cases hq⟩, hb0⟩
    (fun pre q a' X => (a' = { tmps := #[.slice none 0 0, .func (.func 72) #[] #[.pointer (some ⟨B1, 0, none⟩), .pointer (some ⟨B2, 0, none⟩)], .pointer (some ⟨W.heap.size, 0, none⟩), undef, .slice none 0 0, q.v, .func (.func 72) #[] #[.pointer (some ⟨B1, 0, none⟩), .pointer (some ⟨B2, 0, none⟩)], q.v, undef, undef, undef, undef, undef], defers := [] } ∧ pre.length < N) ∧ X.ownsRow W.heap.size 3 1 q.v q.L.length (iC q.L))
    (fun pre q a' _ A B row hs hg hr => ⟨hs.1, own_cells hs.2 hg (fun r e => (hr r e).2)⟩)
    ?assign ?body ?done ?stop
  case assign =>
    rintro l pre q X K hI ⟨⟨k, hk, _, hpre, _⟩, hrow⟩ hK
    have hlen : pre.length < N := by have h0 := psL_len S (eM Q) k; rw [← hpre, eM_len] at h0; omega
    gi_wp2
    exact hK _ _ (KeepsFrom.refl _ X) (fun _ => ⟨Below.refl _ _, rfl, rfl⟩) hI ⟨⟨by first | rfl | simp, hlen⟩, hrow⟩
  case body =>
    rintro l pre ⟨qa, qh, qx, qc, qL⟩ a' X hl ⟨r, hr⟩ ⟨⟨⟨v, hv, hrow, -⟩, hin⟩, hB1⟩ ⟨⟨rfl, hlen⟩, hq⟩
    dsimp only [PR.v] at hq ⊢
    have hc := hv.cell
    have hinh := Lib.hid hin
    have hqh := Lib.hid hq
    have hXs := hB1.size
    clear hin hq
    obtain ⟨xv, cv, rfl, -, -⟩ := (OwR.of hrow).form
    gi_wp2_with (gi_at_builtin; refine wpListIn_append_own _ rfl _ _ 73 rfl W.heap.size 24 i0 (.slice none 0 0) 1 24 Tryz.underlying73 hi hz0 hz1 hz2 rfl (by decide) _ _ _ rfl (hrow.alloc _) ⟨X.heap.size, 0, none⟩ 1 1 [.slice qx qL.length qc] rfl rfl (cell_one_new _ _ _) (by simp [Value.oneCell']) (by unfold maxLen; omega) (by omega) (by simp; omega) ?_; intro v' w1 hown' hgrow _; obtain ⟨g', cap', rfl⟩ := ownsRow_succ hown'; obtain ⟨hv1, hv2, hr2, hk2, hb2⟩ := hv.appended (by decide) hrow hB1.size (Nat.le_refl _) hown' hgrow; have hc1 := hv1.cell; have hf1 := hv1.frozen)
    refine rowPost_on (hk2.from _) ⟨hb2, hb2.block _ (by omega), hb2.block _ (by omega)⟩ ⟨⟨⟨_, hv2, ?_, trivial⟩, fun p hp => ?_⟩, hB1.trans hb2⟩
    · rw [eC_snoc, List.length_append]
      exact hr2
    · rcases List.mem_append.1 hp with h | h
      · exact row_appended (hinh.out p h) hrow (by decide) hv1 (by decide) hgrow
      · obtain rfl := List.mem_singleton.1 h
        exact row_appended hqh.out hrow (by decide) hv1 (by decide) hgrow
  case done =>
    rintro ys X hS ⟨⟨⟨v, hv, hrow, -⟩, hin⟩, hB1⟩ hK
    have hc := hv.cell
    have hSh := Lib.hid hS
    have hinh := Lib.hid hin
    have hrowh := Lib.hid hrow
    clear hS hin hrow
    go_wp2
    refine ⟨by simp, .inl ⟨_, _, rfl, run_takeDeferred hK, ?_⟩⟩
    exact ⟨_, results_tmp rfl _ _ _, _, ys, rfl, ownsRow_putObj hrowh.out _ hK rfl, fun q hq => ownsRow_putObj (hinh.out q hq) _ hK rfl, hSh.out, hB1.trans (belowK_b (w := W) (Nat.le_refl _) _ _ _ _ (by simp) hK rfl rfl)⟩
  case stop =>
    rintro pre X h _
    exact h.elim
theorem collect_any (B1 B2 : Nat) (x y : Option Addr) (c1 c2 : Nat) (S : List (ByteArray × Int)) (Q : List PR) (w W : World) (hel : elB S (eM Q) = true) (hS : SIn w x c1 S) (hQ : EIn w y Q) (N : Nat) (hN : cnZ S = (N : Int)) (hN2 : N ≤ 262144) (hB : Below w.heap.size w W)
    (h1 : Boxed W B1 29 (.slice x S.length c1)) (h2 : Boxed W B2 31 (.slice y Q.length c2)) :
    Calls Tryz.prog 53 #[.func (.func 72) #[] #[.pointer (some ⟨B1, 0, none⟩), .pointer (some ⟨B2, 0, none⟩)]] W (PsPost S (eM Q) N W) := by
  have hc := Lib.hid (appendSeq_any B1 B2 x y c1 c2 S Q w W hel hS hQ N hN hN2 hB h1 h2)
  clear hel hS hQ hN h1 h2
  go_enter Tryz.func53, Tryz.ntmps53
  go_wp2_with fail
  refine hc.out.mono ?_
  rintro e w1 ⟨v, T, rfl, hp⟩
  have hph := Lib.hid hp
  clear hp
  go_wp2
  go_ret
  exact ⟨v, T, rfl, hph.out⟩
end Go.Proofs.YtgkaalonmkcclabGreat

namespace Go.Proofs.YtgkaalonmkcclabGreat
open Go.RowKit Go.Shelf
set_option maxRecDepth 100000

theorem fit_at {S : List (ByteArray × Int)} {V : List Int} (hV : fitB S V = true) {F : List Int} (hF : rsB S F = true) {v : Int} (hv : v ∈ F) : ∃ n : Nat, v = (n : Int) ∧ n < S.length ∧ n < V.length := by
  have h := rs_bd hF v hv
  have h2 := fit_len hV
  exact ⟨v.toNat, by omega, by omega, by omega⟩
/-- What the model's search hands back. -/
def EcP (S : List (ByteArray × Int)) (M : List (List Int)) (F V : List Int) (w : World) (e : Ending) (w' : World) : Prop :=
  ∃ u, e = .returned (.tuple #[u, .bool (coN S M F V).isSome]) ∧ w'.ownsRow w.heap.size 3 1 u (coL S M F V).length (iC (coL S M F V)) ∧ Below w.heap.size w w'
set_option maxHeartbeats 8000000 in
theorem eComplete_any (x y f z : Option Addr) (c1 c2 c3 c4 : Nat) (S : List (ByteArray × Int)) (Q : List PR) (F V : List Int) (w : World) (hg : cgG S (eM Q) F V = true) (hS : SIn w x c1 S) (hQ : EIn w y Q) (hF : IIn w f F) (hV : IIn w z V) :
    Calls Tryz.prog 48 #[.slice x S.length c1, .slice y Q.length c2, .slice f F.length c3, .slice z V.length c4] w (EcP S (eM Q) F V w) := by
  obtain ⟨g1, g2, g3⟩ := cg_get hg
  obtain ⟨e1, e2, e3⟩ := el_get (sm_get g1).1
  have hSh := Lib.hid hS
  have hQh := Lib.hid hQ
  have hFh := Lib.hid hF
  have hVh := Lib.hid hV
  have hm := hS.1
  have hFl := hF.1
  have hsh := Lib.hid e1
  have hedh := Lib.hid e3
  have hq40 : Q.length ≤ 40 := by rw [eM_len] at e2; exact e2
  obtain ⟨n1, n2⟩ := cn_all e1
  obtain ⟨N, hN⟩ : ∃ N : Nat, cnZ S = (N : Int) := ⟨(cnZ S).toNat, by omega⟩
  have hN2 : N ≤ 262144 := by omega
  have hNh := Lib.hid hN
  have hcn : Hid (coN S (eM Q) F V = ftN (coP S (eM Q) F V) N) := by unfold Hid coN; rw [show (cnZ S).toNat = N by omega]
  have hat := Lib.hid (fun v (hv : v ∈ F) => fit_at g3 g2 hv)
  have hvl := Lib.hid (fit_len g3)
  clear hS hQ hF hV hg g1 g2 g3 e1 e2 e3 n1 n2 hN
  go_enter Tryz.func48, Tryz.ntmps48
  go_wp2
  go_loopw [10] (fun c wr => ∃ i : Nat, i ≤ N ∧ c = .int .i64 i ∧ Hid (ftN (coP S (eM Q) F V) i = none) ∧ Below w.heap.size w wr) (fun c _ => N - (intOf c).toNat)
  case atStart => exact ⟨0, by omega, by first | rfl | go_num, rfl, Below.refl _ _⟩
  case round =>
    obtain ⟨i, hi, rfl, hnone, hBr⟩ := hrel
    have hNN := hNh.out
    go_wp2_with fail
    refine (sCount_any _ _ S _ hsh.out hm (hSh.out.rd.below hBr)).mono ?_
    rintro e w2 ⟨rfl, hb2⟩
    rw [hNN]
    have hB2 : Below w.heap.size w w2 := (by repeat (first | exact Below.refl _ _ | assumption | refine Below.drew ?_ | refine below_drewN ?_ _ | refine Below.alloc' ?_ _ | (refine Below.setCell ?_ (by first | omega | (simp; done) | (simp; omega) | exact Below.size (by assumption) | exact Nat.le_trans (Below.size (by assumption)) (by simp)) _) | (refine Below.via' ?_ (by assumption)) | (refine Below.alloc ?_ (by first | omega | (simp; done) | (simp; omega) | exact Below.size (by assumption) | exact Nat.le_trans (Below.size (by assumption)) (by simp)) _) | (refine Below.via ?_ (by assumption) (by first | omega | (simp; done) | (simp; omega) | exact Below.size (by assumption) | exact Nat.le_trans (Below.size (by assumption)) (by simp)))))
    clear hNN
    by_cases hlt : i < N
    · have hlt' : (i : Int) < (N : Int) := by omega
      go_wp2_with fail
      refine (sAt_any _ _ S i _ hsh.out (by omega) (by omega) hm (hSh.out.rd.below hB2)).mono ?_
      rintro e w3 ⟨u3, rfl, ho3, hb3⟩
      obtain ⟨x3, n3, rfl, -, -⟩ := (OwR.of ho3).form
      have hin := Lib.hid (atL_iin hsh.out (show (0 : Int) ≤ (i : Int) by omega) (Rd.of_own ho3))
      have hB3 : Below w.heap.size w w3 := (by repeat (first | exact Below.refl _ _ | assumption | refine Below.drew ?_ | refine below_drewN ?_ _ | refine Below.alloc' ?_ _ | (refine Below.setCell ?_ (by first | omega | (simp; done) | (simp; omega) | exact Below.size (by assumption) | exact Nat.le_trans (Below.size (by assumption)) (by simp)) _) | (refine Below.via' ?_ (by assumption)) | (refine Below.alloc ?_ (by first | omega | (simp; done) | (simp; omega) | exact Below.size (by assumption) | exact Nat.le_trans (Below.size (by assumption)) (by simp)) _) | (refine Below.via ?_ (by assumption) (by first | omega | (simp; done) | (simp; omega) | exact Below.size (by assumption) | exact Nat.le_trans (Below.size (by assumption)) (by simp)))))
      have own3 := Lib.hid (own_more ho3 hB2.size)
      clear ho3
      go_wp2_with fail
      refine (eFailed_any _ _ _ _ Q (atL S i) _ hq40 (fun E hE => fine_of hsh.out (hedh.out E hE) (at_fitE hsh.out (by omega))) (hQh.out.below hB3) hin.out).mono ?_
      rintro e w4 ⟨u4, rfl, ho4, hb4⟩
      obtain ⟨x4, n4, rfl, -, -⟩ := (OwR.of ho4).form
      have own4 := Lib.hid (own_below own3.out hb4)
      have hin4 := Lib.hid (hin.out.below hb4)
      have hB4 : Below w.heap.size w w4 := (by repeat (first | exact Below.refl _ _ | assumption | refine Below.drew ?_ | refine below_drewN ?_ _ | refine Below.alloc' ?_ _ | (refine Below.setCell ?_ (by first | omega | (simp; done) | (simp; omega) | exact Below.size (by assumption) | exact Nat.le_trans (Below.size (by assumption)) (by simp)) _) | (refine Below.via' ?_ (by assumption)) | (refine Below.alloc ?_ (by first | omega | (simp; done) | (simp; omega) | exact Below.size (by assumption) | exact Nat.le_trans (Below.size (by assumption)) (by simp)) _) | (refine Below.via ?_ (by assumption) (by first | omega | (simp; done) | (simp; omega) | exact Below.size (by assumption) | exact Nat.le_trans (Below.size (by assumption)) (by simp)))))
      have hal := Lib.hid (atL_len S (i : Int))
      clear ho4 hb3 hb4 hin hB3 hB2 hb2 own3
      obtain ⟨b0, hb0⟩ : ∃ b0 : Bool, b0 = !faB (eM Q) (atL S i) := ⟨_, rfl⟩
      have hz : (((feL (eM Q) (atL S i)).length : Int) == 0) = b0 := by
        rw [hb0]
        cases hfa : faB (eM Q) (atL S i)
        · have := fe_none.2 hfa
          show _ = true
          rw [beq_iff_eq]
          omega
        · show _ = false
          rw [beq_eq_false_iff_ne]
          intro h
          have := fe_none.1 (show (feL (eM Q) (atL S i)).length = 0 by omega)
          rw [hfa] at this
          cases this
      replace hb0 := Lib.hid hb0
      go_wp2
      go_loopw [12, 31] (fun fv c wr2 => ∃ j : Nat, j ≤ F.length ∧ c = .int .i64 j ∧ fv = .bool (b0 && agB (F.take j) V (atL S i)) ∧ Below w4.heap.size w4 wr2) (fun _ c _ => F.length - (intOf c).toNat)
      case atStart => exact ⟨0, by omega, by first | rfl | go_num, by rw [ag_zero, Bool.and_true], Below.refl _ _⟩
      case round =>
        obtain ⟨j, hj, rfl, rfl, hBj⟩ := hrel
        have hBw : Below w.heap.size w wr := hB4.trans (hBj.mono hB4.size)
        by_cases hjl : j < F.length
        · obtain ⟨bl, off, v, rfl, hbl, hFj, hc0⟩ := (hFh.out.below hBw).2.2.int hjl
          obtain ⟨vn, rfl, hv1, hv2⟩ := hat.out v (List.mem_of_getElem? hFj)
          have hsn := Lib.hid (ag_snoc (V := V) (x := atL S i) hFj)
          obtain ⟨bl2, off2, a, rfl, hbl2, hVj, hc1⟩ := (hVh.out.below hBw).2.2.int (i := vn) hv2
          obtain ⟨bl3, off3, d, rfl, hbl3, hXj, hc2⟩ := (hin4.out.below hBj).2.2.int (i := vn) (by rw [hal.out]; exact hv1)
          have hjl' : (j : Int) < (F.length : Int) := by omega
          have hj0 : (0 : Int) ≤ (j : Int) := by omega
          have hvn0 : (0 : Int) ≤ (vn : Int) := by omega
          have hvV : (vn : Int) < (V.length : Int) := by omega
          have hvX : (vn : Int) < ((atL S i).length : Int) := by rw [hal.out]; omega
          have hstep : Hid ((b0 && agB (F.take (j + 1)) V (atL S i)) = ((b0 && agB (F.take j) V (atL S i)) && (d == a))) := by
            unfold Hid
            rw [hsn.out, Int.toNat_natCast, hXj, hVj, Bool.and_assoc]
            congr 2
            rw [Bool.eq_iff_iff]
            simp
          replace hFj := Lib.hid hFj
          replace hVj := Lib.hid hVj
          replace hXj := Lib.hid hXj
          cases hcur : (b0 && agB (F.take j) V (atL S i))
          · rw [hcur] at hstep
            go_wp2
            go_region
            all_goals
              go_wp2
              go_roundw
              case rel => exact ⟨j + 1, by omega, by go_num, by rw [hstep.out]; rfl, (by repeat (first | exact Below.refl _ _ | assumption | refine Below.drew ?_ | refine below_drewN ?_ _ | refine Below.alloc' ?_ _ | (refine Below.setCell ?_ (by first | omega | (simp; done) | (simp; omega) | exact Below.size (by assumption) | exact Nat.le_trans (Below.size (by assumption)) (by simp)) _) | (refine Below.via' ?_ (by assumption)) | (refine Below.alloc ?_ (by first | omega | (simp; done) | (simp; omega) | exact Below.size (by assumption) | exact Nat.le_trans (Below.size (by assumption)) (by simp)) _) | (refine Below.via ?_ (by assumption) (by first | omega | (simp; done) | (simp; omega) | exact Below.size (by assumption) | exact Nat.le_trans (Below.size (by assumption)) (by simp)))))⟩
              case measure => simp [intOf]; omega
          · rw [hcur] at hstep
            go_wp2
            go_region
            all_goals
              go_wp2
              go_roundw
              case rel => exact ⟨j + 1, by omega, by go_num, by rw [hstep.out]; rfl, (by repeat (first | exact Below.refl _ _ | assumption | refine Below.drew ?_ | refine below_drewN ?_ _ | refine Below.alloc' ?_ _ | (refine Below.setCell ?_ (by first | omega | (simp; done) | (simp; omega) | exact Below.size (by assumption) | exact Nat.le_trans (Below.size (by assumption)) (by simp)) _) | (refine Below.via' ?_ (by assumption)) | (refine Below.alloc ?_ (by first | omega | (simp; done) | (simp; omega) | exact Below.size (by assumption) | exact Nat.le_trans (Below.size (by assumption)) (by simp)) _) | (refine Below.via ?_ (by assumption) (by first | omega | (simp; done) | (simp; omega) | exact Below.size (by assumption) | exact Nat.le_trans (Below.size (by assumption)) (by simp)))))⟩
              case measure => simp [intOf]; omega
        · have hij : j = F.length := by omega
          subst hij
          have hco : Hid ((b0 && agB (F.take F.length) V (atL S i)) = coP S (eM Q) F V i) := by unfold Hid; rw [List.take_length, coP_eq, hb0.out]
          have own5 := Lib.hid (own_below own4.out hBj)
          cases hcur : (b0 && agB (F.take F.length) V (atL S i))
          · rw [hcur] at hco
            have hn2 := Lib.hid (ft_next hnone.out hco.out.symm)
            go_wp2
            go_roundw
            case rel => exact ⟨i + 1, by omega, by go_num, hn2.out, hBw⟩
            case measure => simp [intOf]; omega
          · rw [hcur] at hco
            have hf := Lib.hid (hcn.out.trans (ft_found hlt hnone.out hco.out.symm))
            have hL := Lib.hid (co_some hf.out)
            go_wp2
            go_ret2
            refine ⟨.slice x3 (atL S i).length n3, ?_, ?_, hBw⟩
            · rw [hf.out]; rfl
            · rw [hL.out]; exact own5.out
    · have hij : i = N := by omega
      subst hij
      have hf := Lib.hid (hcn.out.trans hnone.out)
      have hL := Lib.hid (co_none hf.out)
      go_wp2
      go_ret2
      refine ⟨.slice none 0 0, ?_, ?_, hB2⟩
      · rw [hf.out]; rfl
      · rw [hL.out]; exact World.ownsRow_nil _ _ _ _
/-- Do the values at a variable differ? -/
def dfB (x V : List Int) (n : Nat) : Bool := !decide (x[n]? = V[n]?)
end Go.Proofs.YtgkaalonmkcclabGreat

namespace Go.Proofs.YtgkaalonmkcclabGreat
open Go.RowKit Go.Shelf
set_option maxRecDepth 100000

theorem lx_endI {A B : List Int} {i : Nat} (h1 : i ≤ A.length) (h2 : i ≤ B.length) (h3 : ¬ (i < A.length ∧ i < B.length)) : lxZ (A.drop i) (B.drop i) = sgnZ ((A.length : Int) - (B.length : Int)) := by
  unfold sgnZ
  by_cases hA : i < A.length
  · rw [lx_long hA (by omega), if_neg (by omega), if_pos (by omega)]
  · by_cases hB : i < B.length
    · rw [lx_short (by omega) hB, if_pos (by omega)]
    · rw [lx_same (by omega) (by omega), if_neg (by omega), if_neg (by omega)]

set_option maxHeartbeats 2000000 in
theorem l1LessI_any (x y : Option Addr) (n m c1 c2 : Nat) (A B : List Int) (w : World) (hn : A.length = n) (hm : B.length = m) (hn2 : n ≤ 1048576) (hm2 : m ≤ 1048576) (hA : Rd w x (iC A)) (hB : Rd w y (iC B)) :
    Calls Tryz.prog 47 #[.slice x n c1, .slice y m c2] w fun e w' => e = .returned (.int .i64 (lxZ A B)) ∧ Below w.heap.size w w' := by
  have hAh := Lib.hid hA
  have hBh := Lib.hid hB
  clear hA hB
  replace hn := Lib.hid hn
  replace hm := Lib.hid hm
  go_enter Tryz.func47, Tryz.ntmps47
  go_wp2
  go_loopw [5] (fun c wr => ∃ i : Nat, i ≤ n ∧ i ≤ m ∧ c = .int .i64 i ∧ Hid (lxZ (A.drop i) (B.drop i) = lxZ A B) ∧ Below w.heap.size w wr) (fun c _ => n - (intOf c).toNat)
  case atStart => exact ⟨0, by omega, by omega, rfl, rfl, Below.refl _ _⟩
  case round =>
    obtain ⟨i, hi, hi2, rfl, hv, hb⟩ := hrel
    by_cases hlt : i < n
    · by_cases hlt2 : i < m
      · obtain ⟨bl, off, a, rfl, hbl, hAi, hc0⟩ := (hAh.out.below hb).int (i := i) (by rw [hn.out]; exact hlt)
        obtain ⟨bl2, off2, b, rfl, hbl2, hBi, hc1⟩ := (hBh.out.below hb).int (i := i) (by rw [hm.out]; exact hlt2)
        have hlt' : (i : Int) < (n : Int) := by omega
        have hlt2' : (i : Int) < (m : Int) := by omega
        have hi0 : (0 : Int) ≤ (i : Int) := by omega
        have hst := Lib.hid (lx_step hAi hBi)
        clear hAi hBi
        by_cases h0 : a = b
        · have hr : Hid (lxZ (A.drop (i + 1)) (B.drop (i + 1)) = lxZ A B) := by unfold Hid; rw [← hv.out, hst.out, if_neg (by omega), if_neg (by omega)]
          have q1 : (a == b) = true := by rw [beq_iff_eq]; exact h0
          have q2 : (a != b) = false := by show (!(a == b)) = false; rw [q1]; rfl
          replace h0 := Lib.hid h0
          go_wp2
          go_quiet (fail)
          go_wp2
          go_roundw
          case rel => exact ⟨i + 1, by omega, by omega, by go_num, hr, (by repeat (first | exact Below.refl _ _ | assumption | refine Below.drew ?_ | refine below_drewN ?_ _ | refine Below.alloc' ?_ _ | (refine Below.setCell ?_ (by first | omega | (simp; done) | (simp; omega) | exact Below.size (by assumption) | exact Nat.le_trans (Below.size (by assumption)) (by simp)) _) | (refine Below.via' ?_ (by assumption)) | (refine Below.alloc ?_ (by first | omega | (simp; done) | (simp; omega) | exact Below.size (by assumption) | exact Nat.le_trans (Below.size (by assumption)) (by simp)) _) | (refine Below.via ?_ (by assumption) (by first | omega | (simp; done) | (simp; omega) | exact Below.size (by assumption) | exact Nat.le_trans (Below.size (by assumption)) (by simp)))))⟩
          case measure => simp [intOf]; omega
        · have q1 : (a == b) = false := by rw [beq_eq_false_iff_ne]; exact h0
          have q2 : (a != b) = true := by show (!(a == b)) = true; rw [q1]; rfl
          by_cases h1 : a < b
          · have hr : Hid (lxZ A B = -1) := by unfold Hid; rw [← hv.out, hst.out, if_pos h1]
            go_wp2
            go_quiet (fail)
            go_wp2
            go_quiet (fail)
            go_wp2
            go_ret
            exact ⟨ret_int hr.out.symm, (by repeat (first | exact Below.refl _ _ | assumption | refine Below.drew ?_ | refine below_drewN ?_ _ | refine Below.alloc' ?_ _ | (refine Below.setCell ?_ (by first | omega | (simp; done) | (simp; omega) | exact Below.size (by assumption) | exact Nat.le_trans (Below.size (by assumption)) (by simp)) _) | (refine Below.via' ?_ (by assumption)) | (refine Below.alloc ?_ (by first | omega | (simp; done) | (simp; omega) | exact Below.size (by assumption) | exact Nat.le_trans (Below.size (by assumption)) (by simp)) _) | (refine Below.via ?_ (by assumption) (by first | omega | (simp; done) | (simp; omega) | exact Below.size (by assumption) | exact Nat.le_trans (Below.size (by assumption)) (by simp)))))⟩
          · have hr : Hid (lxZ A B = 1) := by unfold Hid; rw [← hv.out, hst.out, if_neg h1, if_pos (by omega)]
            go_wp2
            go_quiet (fail)
            go_wp2
            go_quiet (fail)
            go_wp2
            go_ret
            exact ⟨ret_int hr.out.symm, (by repeat (first | exact Below.refl _ _ | assumption | refine Below.drew ?_ | refine below_drewN ?_ _ | refine Below.alloc' ?_ _ | (refine Below.setCell ?_ (by first | omega | (simp; done) | (simp; omega) | exact Below.size (by assumption) | exact Nat.le_trans (Below.size (by assumption)) (by simp)) _) | (refine Below.via' ?_ (by assumption)) | (refine Below.alloc ?_ (by first | omega | (simp; done) | (simp; omega) | exact Below.size (by assumption) | exact Nat.le_trans (Below.size (by assumption)) (by simp)) _) | (refine Below.via ?_ (by assumption) (by first | omega | (simp; done) | (simp; omega) | exact Below.size (by assumption) | exact Nat.le_trans (Below.size (by assumption)) (by simp)))))⟩
      · have hr : Hid (lxZ A B = sgnZ ((n : Int) - (m : Int))) := by unfold Hid; rw [← hv.out, lx_endI (by rw [hn.out]; omega) (by rw [hm.out]; omega) (by rw [hm.out]; omega), hn.out, hm.out]
        have hlt' : (i : Int) < (n : Int) := by omega
        have hlt2' : ¬ (i : Int) < (m : Int) := by omega
        have q1 : IntKind.i64.wrap ((n : Int) - (m : Int)) = (n : Int) - (m : Int) := IntWalk.i64_in _ (by omega)
        go_wp2_with (go_at_call 65; refine (l1Sign_any _ _).mono ?_; rintro e w1 ⟨rfl, rfl⟩)
        go_ret
        exact ⟨ret_int hr.out.symm, (by repeat (first | exact Below.refl _ _ | assumption | refine Below.drew ?_ | refine below_drewN ?_ _ | refine Below.alloc' ?_ _ | (refine Below.setCell ?_ (by first | omega | (simp; done) | (simp; omega) | exact Below.size (by assumption) | exact Nat.le_trans (Below.size (by assumption)) (by simp)) _) | (refine Below.via' ?_ (by assumption)) | (refine Below.alloc ?_ (by first | omega | (simp; done) | (simp; omega) | exact Below.size (by assumption) | exact Nat.le_trans (Below.size (by assumption)) (by simp)) _) | (refine Below.via ?_ (by assumption) (by first | omega | (simp; done) | (simp; omega) | exact Below.size (by assumption) | exact Nat.le_trans (Below.size (by assumption)) (by simp)))))⟩
    · have hr : Hid (lxZ A B = sgnZ ((n : Int) - (m : Int))) := by unfold Hid; rw [← hv.out, lx_endI (by rw [hn.out]; omega) (by rw [hm.out]; omega) (by rw [hn.out]; omega), hn.out, hm.out]
      have hlt' : ¬ (i : Int) < (n : Int) := by omega
      have q1 : IntKind.i64.wrap ((n : Int) - (m : Int)) = (n : Int) - (m : Int) := IntWalk.i64_in _ (by omega)
      go_wp2_with (go_at_call 65; refine (l1Sign_any _ _).mono ?_; rintro e w1 ⟨rfl, rfl⟩)
      go_ret
      exact ⟨ret_int hr.out.symm, (by repeat (first | exact Below.refl _ _ | assumption | refine Below.drew ?_ | refine below_drewN ?_ _ | refine Below.alloc' ?_ _ | (refine Below.setCell ?_ (by first | omega | (simp; done) | (simp; omega) | exact Below.size (by assumption) | exact Nat.le_trans (Below.size (by assumption)) (by simp)) _) | (refine Below.via' ?_ (by assumption)) | (refine Below.alloc ?_ (by first | omega | (simp; done) | (simp; omega) | exact Below.size (by assumption) | exact Nat.le_trans (Below.size (by assumption)) (by simp)) _) | (refine Below.via ?_ (by assumption) (by first | omega | (simp; done) | (simp; omega) | exact Below.size (by assumption) | exact Nat.le_trans (Below.size (by assumption)) (by simp)))))⟩

/-- The order of covers: by size, then lexicographically. -/
def csZ (a b : List Int) : Int := if a.length < b.length then -1 else if b.length < a.length then 1 else lxZ a b
theorem csZ_self (a : List Int) : csZ a a = 0 := by unfold csZ; rw [if_neg (by omega), if_neg (by omega)]; exact lxZ_self a
theorem csZ_zero {a b : List Int} (h : csZ a b = 0) : a = b := by
  unfold csZ at h
  by_cases h1 : a.length < b.length
  · rw [if_pos h1] at h; omega
  · by_cases h2 : b.length < a.length
    · rw [if_neg h1, if_pos h2] at h; omega
    · rw [if_neg h1, if_neg h2] at h
      exact lxZ_zero h
theorem csZ_neg (a b : List Int) : csZ b a = - csZ a b := by
  unfold csZ
  by_cases h1 : a.length < b.length
  · rw [if_neg (by omega), if_pos h1, if_pos h1]; rfl
  · by_cases h2 : b.length < a.length
    · rw [if_pos h2, if_neg h1, if_pos h2]
    · rw [if_neg h2, if_neg h1, if_neg h1, if_neg h2]
      exact lxZ_neg a b
theorem csZ_trans {a b c : List Int} (h : csZ a b ≤ 0) (k : csZ b c ≤ 0) : csZ a c ≤ 0 := by
  unfold csZ at *
  by_cases h1 : a.length < b.length
  · by_cases h2 : b.length < c.length
    · rw [if_pos (by omega)]; omega
    · by_cases h3 : c.length < b.length
      · rw [if_neg h2, if_pos h3] at k; omega
      · rw [if_pos (by omega)]; omega
  · by_cases h2 : b.length < a.length
    · rw [if_neg h1, if_pos h2] at h; omega
    · rw [if_neg h1, if_neg h2] at h
      by_cases h3 : b.length < c.length
      · rw [if_pos (by omega)]; omega
      · by_cases h4 : c.length < b.length
        · rw [if_neg h3, if_pos h4] at k; omega
        · rw [if_neg h3, if_neg h4] at k
          rw [if_neg (by omega), if_neg (by omega)]
          exact lxZ_trans h k
/-- The least of a list, the first of equals. -/
def mnS (o : Option (List Int)) (c : List Int) : Option (List Int) := match o with
  | none => some c
  | some b => if csZ c b < 0 then some c else some b
def mnL (C : List (List Int)) : Option (List Int) := C.foldl mnS none
theorem mn_snoc (C : List (List Int)) (c : List Int) : mnL (C ++ [c]) = mnS (mnL C) c := by unfold mnL; rw [List.foldl_append]; rfl
theorem mn_nil : mnL [] = none := rfl
theorem mnS_none {c : List Int} : mnS none c = some c := rfl
theorem mnS_yes {b c : List Int} (h : csZ c b < 0) : mnS (some b) c = some c := if_pos h
theorem mnS_no {b c : List Int} (h : ¬ csZ c b < 0) : mnS (some b) c = some b := if_neg h
theorem mn_fold : ∀ (C : List (List Int)) (o : Option (List Int)), (∃ b, C.foldl mnS o = some b ∧ (o = some b ∨ b ∈ C) ∧ (∀ a, o = some a → csZ b a ≤ 0) ∧ ∀ c ∈ C, csZ b c ≤ 0) ∨ (C = [] ∧ o = none)
  | [], none => .inr ⟨rfl, rfl⟩
  | [], some a => .inl ⟨a, rfl, .inl rfl, fun b h => by cases h; rw [csZ_self]; omega, fun c hc => by cases hc⟩
  | c :: C, o => by
    have hs : ∃ d, mnS o c = some d ∧ (o = some d ∨ d = c) ∧ csZ d c ≤ 0 ∧ ∀ a, o = some a → csZ d a ≤ 0 := by
      cases o with
      | none => exact ⟨c, rfl, .inr rfl, by rw [csZ_self]; omega, fun a h => by cases h⟩
      | some a =>
        by_cases h : csZ c a < 0
        · exact ⟨c, mnS_yes h, .inr rfl, by rw [csZ_self]; omega, fun b hb => by cases hb; omega⟩
        · refine ⟨a, mnS_no h, .inl rfl, ?_, fun b hb => by cases hb; rw [csZ_self]; omega⟩
          have := csZ_neg c a
          omega
    obtain ⟨d, h1, h2, h3, h4⟩ := hs
    rcases mn_fold C (some d) with ⟨b, k1, k2, k3, k4⟩ | ⟨_, k⟩
    · refine .inl ⟨b, by rw [List.foldl_cons, h1]; exact k1, ?_, fun a ha => csZ_trans (k3 d rfl) (h4 a ha), fun e he => ?_⟩
      · rcases k2 with k | k
        · cases k
          rcases h2 with h | h
          · exact .inl h
          · subst h; exact .inr (List.mem_cons_self ..)
        · exact .inr (List.mem_cons_of_mem _ k)
      · rcases List.mem_cons.1 he with rfl | h
        · exact csZ_trans (k3 d rfl) h3
        · exact k4 e h
    · cases k
theorem mn_some {C : List (List Int)} {b : List Int} (h : mnL C = some b) : b ∈ C ∧ ∀ c ∈ C, csZ b c ≤ 0 := by
  rcases mn_fold C none with ⟨d, k1, k2, k3, k4⟩ | ⟨k1, _⟩
  · have : d = b := by unfold mnL at h; rw [k1] at h; exact Option.some.inj h
    subst this
    rcases k2 with k | k
    · cases k
    · exact ⟨k, k4⟩
  · subst k1; cases h
theorem mn_none {C : List (List Int)} (h : mnL C = none) : C = [] := by
  rcases mn_fold C none with ⟨d, k1, _⟩ | ⟨k1, _⟩
  · unfold mnL at h; rw [k1] at h; cases h
  · exact k1
/-- Two lists with the same least element: all of the first are in the second, and each of the second has one of the first that is not greater. -/
theorem mn_eq {P Q : List (List Int)} (h1 : ∀ p ∈ P, p ∈ Q) (h2 : ∀ q ∈ Q, ∃ p ∈ P, csZ p q ≤ 0) : mnL P = mnL Q := by
  cases hp : mnL P with
  | none =>
    have := mn_none hp
    subst this
    cases hq : mnL Q with
    | none => rfl
    | some b =>
      obtain ⟨p, hp2, _⟩ := h2 b (mn_some hq).1
      cases hp2
  | some b =>
    obtain ⟨b1, b2⟩ := mn_some hp
    cases hq : mnL Q with
    | none =>
      have := h1 b b1
      rw [mn_none hq] at this
      cases this
    | some d =>
      obtain ⟨d1, d2⟩ := mn_some hq
      have e1 := d2 b (h1 b b1)
      obtain ⟨p, p1, p2⟩ := h2 d d1
      have e2 := csZ_trans (b2 p p1) p2
      have e3 := csZ_neg b d
      rw [csZ_zero (show csZ b d = 0 by omega)]

/-- The number of a set of places below n. -/
def stN (p : Nat → Bool) : Nat → Nat
  | 0 => 0
  | n + 1 => stN p n + (if p n then 2 ^ n else 0)
theorem stN_lt (p : Nat → Bool) : ∀ n, stN p n < 2 ^ n
  | 0 => by unfold stN; decide
  | n + 1 => by
    have := stN_lt p n
    unfold stN
    rw [Nat.pow_succ]
    split <;> omega
theorem st_hs (p : Nat → Bool) : ∀ n l : Nat, l < n → hsB ((stN p n : Nat) : Int) (l : Int) = p l
  | 0, l, h => by omega
  | n + 1, l, h => by
    unfold hsB
    rw [Int.toNat_natCast, Int.toNat_natCast]
    have hm := stN_lt p n
    rcases Nat.lt_or_ge l n with hl | hl
    · have ih := st_hs p n l hl
      unfold hsB at ih
      rw [Int.toNat_natCast, Int.toNat_natCast] at ih
      rw [← ih, show stN p (n + 1) = stN p n + (if p n then 2 ^ n else 0) from rfl]
      congr 1
      congr 1
      split
      · have e : (2 : Nat) ^ n = 2 ^ l * (2 * 2 ^ (n - l - 1)) := by
          rw [← Nat.mul_assoc, Nat.mul_comm (2 ^ l) 2, Nat.mul_assoc, ← Nat.pow_add, Nat.mul_comm, ← Nat.pow_succ]
          congr 1
          omega
        rw [e, Nat.add_mul_div_left _ _ (Nat.pow_pos (by decide))]
        omega
      · rw [Nat.add_zero]
    · obtain rfl : l = n := by omega
      rw [show stN p (l + 1) = stN p l + (if p l then 2 ^ l else 0) from rfl]
      split
      · rename_i hp
        have e : (stN p l + 2 ^ l) / 2 ^ l = 1 := by
          rw [Nat.add_div_right _ (Nat.pow_pos (by decide)), Nat.div_eq_of_lt hm]
        rw [e, hp]
        rfl
      · rename_i hp
        rw [Nat.add_zero, Nat.div_eq_of_lt hm]
        cases h2 : p l with
        | true => exact absurd h2 hp
        | false => rfl
theorem st_lvs (p : Nat → Bool) {n : Nat} (hn : n ≤ 8) : lvsL ((stN p n : Nat) : Int) = pkUp p n := by
  rw [← lvsUp_all (i := n) (by rw [Int.toNat_natCast]; exact stN_lt p n) hn]
  unfold lvsUp pkUp
  congr 1
  exact List.filter_congr fun l hl => st_hs p n l (List.mem_range.1 hl)
theorem pk_pw (p : Nat → Bool) (n : Nat) : (pkUp p n).Pairwise (· < ·) := by
  unfold pkUp
  rw [List.pairwise_map]
  exact (List.pairwise_lt_range.filter p).imp (fun h => by exact_mod_cast h)
theorem rs_pw {n : Int} : ∀ {b : Int} {F : List Int}, F.Pairwise (· < ·) → (∀ v ∈ F, b ≤ v ∧ v < n) → rsU n b F = true
  | _, [], _, _ => rfl
  | b, v :: r, hp, h => by
    rw [List.pairwise_cons] at hp
    unfold rsU
    rw [decide_eq_true (h v (List.mem_cons_self ..)), Bool.true_and]
    exact rs_pw hp.2 fun u hu => ⟨by have := hp.1 u hu; omega, (h u (List.mem_cons_of_mem _ hu)).2⟩
theorem rs_pk (S : List (ByteArray × Int)) (p : Nat → Bool) : rsB S (pkUp p S.length) = true := rs_pw (pk_pw _ _) fun v hv => by
  obtain ⟨i, rfl, hi, _⟩ := pkUp_mem hv
  omega
/-- The variables in which two lists of values differ; those outside a set. -/
def otB (vs : List Int) (i : Nat) : Bool := !vs.contains (i : Int)
def otL (vs : List Int) (n : Nat) : List Int := pkUp (otB vs) n
theorem pk_mem {p : Nat → Bool} {n i : Nat} (h : i < n) (hp : p i = true) : (i : Int) ∈ pkUp p n := by
  unfold pkUp
  exact List.mem_map.2 ⟨i, List.mem_filter.2 ⟨List.mem_range.2 h, hp⟩, rfl⟩
theorem pk_sub {p q : Nat → Bool} {n : Nat} (h : ∀ i, i < n → p i = true → q i = true) : (pkUp p n).length ≤ (pkUp q n).length ∧ ((pkUp p n).length = (pkUp q n).length → pkUp p n = pkUp q n) := by
  induction n with
  | zero => exact ⟨Nat.le_refl _, fun _ => rfl⟩
  | succ n ih =>
    obtain ⟨a, b⟩ := ih (fun i hi hp => h i (by omega) hp)
    cases hp : p n
    · rw [pkUp_no hp]
      cases hq : q n
      · rw [pkUp_no hq]; exact ⟨a, b⟩
      · rw [pkUp_yes hq, List.length_append, List.length_singleton]
        exact ⟨by omega, fun e => by omega⟩
    · have hq := h n (by omega) hp
      rw [pkUp_yes hp, pkUp_yes hq, List.length_append, List.length_append]
      exact ⟨by simp only [List.length_singleton]; omega, fun e => by rw [b (by simp only [List.length_singleton] at e; omega)]⟩
theorem cs_sub {p q : Nat → Bool} {n : Nat} (h : ∀ i, i < n → p i = true → q i = true) : csZ (pkUp p n) (pkUp q n) ≤ 0 := by
  obtain ⟨a, b⟩ := pk_sub h
  rcases Nat.lt_or_ge (pkUp p n).length (pkUp q n).length with h1 | h1
  · unfold csZ; rw [if_pos h1]; omega
  · rw [b (by omega), csZ_self]; omega
theorem ag_of {F V x : List Int} (h : ∀ v ∈ F, x[v.toNat]? = V[v.toNat]?) : agB F V x = true := by
  unfold agB
  rw [List.all_eq_true]
  exact fun v hv => decide_eq_true (h v hv)
theorem ag_get {F V x : List Int} (h : agB F V x = true) {v : Int} (hv : v ∈ F) : x[v.toNat]? = V[v.toNat]? := by
  unfold agB at h
  rw [List.all_eq_true] at h
  exact of_decide_eq_true (h v hv)
/-- The candidates: of the program (one for each list of values that passes), and of the model (one for each set). -/
def cvP (S : List (ByteArray × Int)) (M : List (List Int)) (V : List Int) (k : Nat) : List (List Int) := (psN S M k).map fun i : Nat => dvL V (atL S (i : Int))
def cvO (S : List (ByteArray × Int)) (M : List (List Int)) (V : List Int) (st : Nat) : Bool := (coN S M (otL (lvsL ((st : Nat) : Int)) S.length) V).isSome
def cvQ (S : List (ByteArray × Int)) (M : List (List Int)) (V : List Int) (k : Nat) : List (List Int) := ((List.range k).filter (cvO S M V)).map fun st : Nat => lvsL ((st : Nat) : Int)
theorem cvQ_yes {S : List (ByteArray × Int)} {M : List (List Int)} {V : List Int} {k : Nat} (h : cvO S M V k = true) : cvQ S M V (k + 1) = cvQ S M V k ++ [lvsL ((k : Nat) : Int)] := by
  unfold cvQ
  rw [List.range_succ, List.filter_append, List.map_append]
  simp [h]
theorem cvQ_no {S : List (ByteArray × Int)} {M : List (List Int)} {V : List Int} {k : Nat} (h : cvO S M V k = false) : cvQ S M V (k + 1) = cvQ S M V k := by
  unfold cvQ
  rw [List.range_succ, List.filter_append, List.map_append]
  simp [h]
theorem ft_some {p : Nat → Bool} {n : Nat} (h : (ftN p n).isSome = true) : ∃ k, k < n ∧ p k = true := by
  unfold ftN at h
  rw [List.find?_isSome] at h
  obtain ⟨k, hk, hp⟩ := h
  exact ⟨k, List.mem_range.1 hk, hp⟩
theorem ft_isSome {p : Nat → Bool} {n k : Nat} (hk : k < n) (hp : p k = true) : (ftN p n).isSome = true := by
  unfold ftN
  rw [List.find?_isSome]
  exact ⟨k, List.mem_range.2 hk, hp⟩
theorem cv_eq {S : List (ByteArray × Int)} {M : List (List Int)} {V : List Int} (hs : schB S = true) (hV : fitB S V = true) : mnL (cvP S M V (cnZ S).toNat) = mnL (cvQ S M V (2 ^ S.length)) := by
  have hl := fit_len hV
  have h8 : S.length ≤ 8 := by have := (schB_len hs).2; omega
  refine mn_eq (fun p hp => ?_) (fun q hq => ?_)
  · unfold cvP at hp
    obtain ⟨k, hk, rfl⟩ := List.mem_map.1 hp
    obtain ⟨k1, k2⟩ := psN_mem.1 hk
    have e : lvsL ((stN (dvB V (atL S (k : Int))) S.length : Nat) : Int) = dvL V (atL S (k : Int)) := by rw [st_lvs _ h8]; unfold dvL; rw [hl]
    unfold cvQ
    refine List.mem_map.2 ⟨stN (dvB V (atL S (k : Int))) S.length, List.mem_filter.2 ⟨List.mem_range.2 (stN_lt _ _), ?_⟩, e⟩
    unfold cvO coN
    rw [e]
    refine ft_isSome k1 ?_
    rw [coP_eq, k2]
    refine ag_of fun v hv => ?_
    obtain ⟨i, rfl, hi, ho⟩ := pkUp_mem hv
    rw [Int.toNat_natCast]
    cases hd : dvB V (atL S (k : Int)) i
    · unfold dvB at hd
      simp at hd
      exact hd.symm
    · have hm : (i : Int) ∈ dvL V (atL S (k : Int)) := pk_mem (by omega) hd
      unfold otB at ho
      simp [hm] at ho
  · unfold cvQ at hq
    obtain ⟨st, hst, rfl⟩ := List.mem_map.1 hq
    obtain ⟨h1, h2⟩ := List.mem_filter.1 hst
    have h1 := List.mem_range.1 h1
    unfold cvO coN at h2
    obtain ⟨k, k1, k2⟩ := ft_some h2
    rw [coP_eq, Bool.and_eq_true] at k2
    obtain ⟨k2, k3⟩ := k2
    refine ⟨dvL V (atL S (k : Int)), ?_, ?_⟩
    · unfold cvP
      exact List.mem_map.2 ⟨k, psN_mem.2 ⟨k1, by simpa using k2⟩, rfl⟩
    · have e : lvsL ((st : Nat) : Int) = pkUp (fun l : Nat => hsB ((st : Nat) : Int) (l : Int)) S.length := by
        rw [← lvsUp_all (x := ((st : Nat) : Int)) (i := S.length) (by rw [Int.toNat_natCast]; exact h1) h8]
        rfl
      rw [e]
      unfold dvL
      rw [hl]
      refine cs_sub fun i hi hd => ?_
      cases hh : hsB ((st : Nat) : Int) (i : Int)
      · exfalso
        have hm : (i : Int) ∈ otL (lvsL ((st : Nat) : Int)) S.length := by
          refine pk_mem hi ?_
          unfold otB
          cases hc : (lvsL ((st : Nat) : Int)).contains (i : Int)
          · rfl
          · rw [List.contains_iff_mem, e] at hc
            obtain ⟨j, hj, _, hp⟩ := pkUp_mem hc
            obtain rfl : i = j := by omega
            rw [hh] at hp
            cases hp
        have := ag_get k3 hm
        rw [Int.toNat_natCast] at this
        unfold dvB at hd
        simp [this] at hd
      · rfl
/-- The answer. -/
def scG (S : List (ByteArray × Int)) (M : List (List Int)) (V : List Int) : Bool := smB S M && fitB S V
def scO (S : List (ByteArray × Int)) (M : List (List Int)) (V : List Int) : Option (List Int) := mnL (cvP S M V (cnZ S).toNat)
def scB (S : List (ByteArray × Int)) (M : List (List Int)) (V : List Int) : Bool := scG S M V && (scO S M V).isSome
def scL (S : List (ByteArray × Int)) (M : List (List Int)) (V : List Int) : List Int := (scO S M V).getD []
theorem scG_no1 {S : List (ByteArray × Int)} {M : List (List Int)} {V : List Int} (h : smB S M = false) : scB S M V = false := by unfold scB scG; rw [h]; rfl
theorem scG_no2 {S : List (ByteArray × Int)} {M : List (List Int)} {V : List Int} (h : fitB S V = false) : scB S M V = false := by unfold scB scG; rw [h, Bool.and_false]; rfl
theorem scG_cg (S : List (ByteArray × Int)) (M : List (List Int)) (V : List Int) : cgG S M [] V = scG S M V := by unfold cgG scG; rw [show rsB S [] = true from rfl, Bool.and_true]
theorem scB_yes {S : List (ByteArray × Int)} {M : List (List Int)} {V : List Int} (h : scG S M V = true) : scB S M V = (scO S M V).isSome := by unfold scB; rw [h]; rfl
theorem scL_eq {S : List (ByteArray × Int)} {M : List (List Int)} {V : List Int} (b : Bool) (hb : b = (scO S M V).isSome) : eIf b (scL S M V) = scL S M V := by
  subst hb
  unfold scL
  cases scO S M V with
  | none => rfl
  | some c => rfl
theorem scL_len {S : List (ByteArray × Int)} {M : List (List Int)} {V : List Int} : (scL S M V).length ≤ V.length := by
  unfold scL
  cases h : scO S M V with
  | none => exact Nat.zero_le _
  | some c =>
    obtain ⟨h1, _⟩ := mn_some h
    unfold cvP at h1
    obtain ⟨k, _, rfl⟩ := List.mem_map.1 h1
    exact dvL_len _ _
theorem orZ_cs (a b : List Int) : orZ [cmZ (a.length : Int) (b.length : Int), lxZ a b] = csZ a b := by
  rw [orZ_cons, orZ_cons, orZ_nil]
  unfold csZ cmZ
  by_cases h1 : a.length < b.length
  · rw [if_pos (show (a.length : Int) < b.length by omega), if_pos h1]; rfl
  · by_cases h2 : b.length < a.length
    · rw [if_neg (show ¬ (a.length : Int) < b.length by omega), if_pos (show (b.length : Int) < a.length by omega), if_neg h1, if_pos h2]; rfl
    · rw [if_neg (show ¬ (a.length : Int) < b.length by omega), if_neg (show ¬ (b.length : Int) < a.length by omega), if_neg h1, if_neg h2, if_pos rfl]
      by_cases h3 : lxZ a b = 0
      · rw [if_pos h3, h3]
      · rw [if_neg h3]
set_option maxHeartbeats 1000000 in
theorem compareCovers_any (y z : Option Addr) (c1 c2 : Nat) (A B : List Int) (w : World) (hA : IIn w y A) (hB : IIn w z B) :
    Calls Tryz.prog 80 #[.slice y A.length c1, .slice z B.length c2] w fun e w' => e = .returned (.int .i64 (csZ A B)) ∧ Below w.heap.size w w' := by
  have hAh := Lib.hid hA
  have hBh := Lib.hid hB
  have hl1 := hA.1
  have hl2 := hB.1
  have hcs := Lib.hid (orZ_cs A B)
  clear hA hB
  go_enter Tryz.func80, Tryz.ntmps80
  go_wp2_with fail
  refine (cmpInt_any _ _ _).mono ?_
  rintro e w1 ⟨rfl, rfl⟩
  go_wp2_with fail
  refine (sliceCmp_any _ _ _ _ A B _ hAh.out.2.2 hBh.out.2.2 (by omega)).mono ?_
  rintro e w2 ⟨rfl, rfl⟩
  have hrd : Hid (Rd (w.alloc (.cells #[.int .i64 (cmZ (A.length : Int) (B.length : Int)), .int .i64 (lxZ A B)] 3)) (some ⟨w.heap.size, 0, none⟩) (iC [cmZ (A.length : Int) (B.length : Int), lxZ A B])) := by
    refine Or.inr ⟨w.heap.size, 0, rfl, by simp, fun j u hj => ?_⟩
    rw [Nat.zero_add, World.cell?_alloc_at _ _ _ _ rfl, ← hj, ← Array.getElem?_toList]
    rfl
  go_wp2_with fail
  refine (cmpOr_any _ 2 _ [cmZ (A.length : Int) (B.length : Int), lxZ A B] _ rfl hrd.out (by omega)).mono ?_
  rintro e w3 ⟨rfl, rfl⟩
  go_wp2
  go_ret
  exact ⟨ret_int hcs.out, (by repeat (first | exact Below.refl _ _ | assumption | refine Below.drew ?_ | refine below_drewN ?_ _ | refine Below.alloc' ?_ _ | (refine Below.setCell ?_ (by first | omega | (simp; done) | (simp; omega) | exact Below.size (by assumption) | exact Nat.le_trans (Below.size (by assumption)) (by simp)) _) | (refine Below.via' ?_ (by assumption)) | (refine Below.alloc ?_ (by first | omega | (simp; done) | (simp; omega) | exact Below.size (by assumption) | exact Nat.le_trans (Below.size (by assumption)) (by simp)) _) | (refine Below.via ?_ (by assumption) (by first | omega | (simp; done) | (simp; omega) | exact Below.size (by assumption) | exact Nat.le_trans (Below.size (by assumption)) (by simp)))))⟩
theorem two_pow {S : List (ByteArray × Int)} (hs : schB S = true) : ∃ T : Nat, 2 ^ S.length = T ∧ T ≤ 64 := by
  have h := (schB_len hs).2
  refine ⟨_, rfl, ?_⟩
  exact Nat.le_trans (Nat.pow_le_pow_right (by decide) h) (by decide)
theorem wrap_two {n : Nat} {T : Nat} (h : 2 ^ n = T) (hT : T ≤ 64) : wrap64 (2 ^ n) = (T : Int) := by
  have e : (2 : Int) ^ n = ((2 ^ n : Nat) : Int) := by push_cast; rfl
  rw [e, h]
  exact IntWalk.wrap64_in _ (by omega)
theorem lvs_iin {w : World} {x : Option Addr} {st : Int} (h : Rd w x (iC (lvsL st))) : IIn w x (lvsL st) := ⟨by have := lvsL_len st; omega, fun v hv => by
  have := lvs_i64 st v hv
  unfold IsI64
  omega, h⟩
theorem mn_mem {S : List (ByteArray × Int)} {M : List (List Int)} {V : List Int} {k : Nat} {b : List Int} (h : mnL (cvQ S M V k) = some b) : ∃ st : Int, b = lvsL st := by
  have h1 := (mn_some h).1
  unfold cvQ at h1
  obtain ⟨st, _, e⟩ := List.mem_map.1 h1
  exact ⟨_, e.symm⟩
section
attribute [local go_sem] Oper.semAt_some

/-- The least cover of what has come. -/
def bsO (V : List Int) (pre : List PR) : Option (List Int) := mnL ((eM pre).map fun x => dvL V x)
theorem bs_snoc (V : List Int) (pre : List PR) (q : PR) : bsO V (pre ++ [q]) = mnS (bsO V pre) (dvL V q.L) := by unfold bsO; rw [eM_app, List.map_append]; exact mn_snoc _ _
theorem bs_all {S : List (ByteArray × Int)} {M : List (List Int)} {V : List Int} {ys : List PR} {N : Nat} (h : eM ys = psL S M N) : bsO V ys = mnL (cvP S M V N) := by
  unfold bsO cvP
  rw [h]
  unfold psL
  rw [List.map_map]
  rfl
theorem bs_mem {V : List Int} {pre : List PR} {b : List Int} (h : bsO V pre = some b) : ∃ x, b = dvL V x := by
  obtain ⟨h1, _⟩ := mn_some h
  obtain ⟨x, _, e⟩ := List.mem_map.1 h1
  exact ⟨x, e.symm⟩
theorem two_set {t m n k : Nat} {u v v0 : Value} {b b0 : Bool} {W : World} {xs : List Value} (h : W.ownsRow m 3 1 u k xs) (r : ResT t n v0 b0 W) (ht : t ≠ 3) : ((W.setCell ⟨n, 0, none⟩ v).setCell ⟨n + 1, 0, none⟩ (.bool b)).ownsRow m 3 1 u k xs := by
  have h1 := h.kept (grownBy_setCell' W n v) (.inr (Ne.symm (r.1.not_row ht h)))
  have r2 := r.2.other (by omega) (B' := n) v
  exact h1.kept (grownBy_setCell' _ (n + 1) (.bool b)) (.inr (Ne.symm (r2.not_row (by decide) h1)))
theorem two_block {W : World} {n k : Nat} (v : Value) (b : Bool) (h1 : k ≠ n) (h2 : k ≠ n + 1) : ((W.setCell ⟨n, 0, none⟩ v).setCell ⟨n + 1, 0, none⟩ (.bool b)).heap[k]? = W.heap[k]? :=
  (Below.heap_setCell _ _ _ _ (by show k ≠ n + 1; exact h2)).trans (Below.heap_setCell _ _ _ _ (by show k ≠ n; exact h1))
theorem two_to {n₀ n : Nat} {v : Value} {b : Bool} {A B : World} (hb : Below n₀ A B) (hn : n₀ ≤ n) : Below n₀ A ((B.setCell ⟨n, 0, none⟩ v).setCell ⟨n + 1, 0, none⟩ (.bool b)) :=
  (hb.setCell (p := ⟨n, 0, none⟩) hn v).setCell (p := ⟨n + 1, 0, none⟩) (by show n₀ ≤ n + 1; omega) _
end
end Go.Proofs.YtgkaalonmkcclabGreat

namespace Go.Proofs.YtgkaalonmkcclabGreat
open Go.RowKit
set_option maxRecDepth 100000

/-- Two lists differ in no variable outside of a set. -/
def doB (I V X : List Int) : Bool := (dvL V X).all fun v => I.contains v
theorem do_hit {I V X : List Int} {i : Nat} {v : Int} (h : (dvL V X)[i]? = some v) (hn : I.contains v = false) : doB I V X = false := by
  unfold doB
  rw [List.all_eq_false]
  exact ⟨v, List.mem_of_getElem? h, by rw [hn]; exact Bool.false_ne_true⟩
theorem do_all {I V X : List Int} (h : ∀ (j : Nat) (v : Int), (dvL V X)[j]? = some v → I.contains v = true) : doB I V X = true := by
  unfold doB
  rw [List.all_eq_true]
  intro v hv
  obtain ⟨j, hj, e⟩ := List.getElem_of_mem hv
  exact h j v (by rw [List.getElem?_eq_getElem hj, e])
theorem pk_has {p : Nat → Bool} {n i : Nat} (hi : i < n) (hp : p i = true) : (i : Int) ∈ pkUp p n := by
  unfold pkUp
  exact List.mem_map.2 ⟨i, List.mem_filter.2 ⟨List.mem_range.2 hi, hp⟩, rfl⟩
theorem dv_mem {V X : List Int} {i : Nat} {a d : Int} (h1 : V[i]? = some a) (h2 : X[i]? = some d) : ((i : Int) ∈ dvL V X) ↔ a ≠ d := by
  have hb : dvB V X i = !decide (a = d) := by
    unfold dvB
    rw [h1, h2]
    simp
  constructor
  · intro hm hne
    obtain ⟨k, e, hk, hp⟩ := pkUp_mem hm
    have : k = i := by omega
    subst this
    rw [hb, hne] at hp
    simp at hp
  · intro hne
    have hi := (List.getElem?_eq_some_iff.1 h1).1
    refine pk_has hi ?_
    rw [hb]
    simp [hne]
theorem do_one {I V X : List Int} {i : Nat} {a d : Int} (h1 : V[i]? = some a) (h2 : X[i]? = some d) (hne : a ≠ d) (hn : I.contains (i : Int) = false) : doB I V X = false := by
  obtain ⟨j, hj, e⟩ := List.getElem_of_mem ((dv_mem h1 h2).2 hne)
  exact do_hit (i := j) (by rw [List.getElem?_eq_getElem hj, e]) hn
theorem do_none {I V X : List Int} (hl : V.length = X.length) (h : ∀ (i : Nat) (a d : Int), V[i]? = some a → X[i]? = some d → a = d ∨ I.contains (i : Int) = true) : doB I V X = true := by
  refine do_all fun j v hv => ?_
  obtain ⟨k, rfl, hk, hp⟩ := pkUp_mem (List.mem_of_getElem? hv)
  have h1 : V[k]? = some V[k] := List.getElem?_eq_getElem hk
  have h2 : X[k]? = some X[k] := List.getElem?_eq_getElem (by omega)
  rcases h k _ _ h1 h2 with he | hc
  · unfold dvB at hp
    rw [h1, h2, he] at hp
    simp at hp
  · exact hc
/-- Do the mended values do? -/
def mdA (S : List (ByteArray × Int)) (M : List (List Int)) (I V X : List Int) : Bool := fitB S X && !faB M X && doB I V X
def mdB (S : List (ByteArray × Int)) (M : List (List Int)) (I V X : List Int) : Bool := cgG S M I V && mdA S M I V X
theorem md_no {S : List (ByteArray × Int)} {M : List (List Int)} {I V X : List Int} (h : cgG S M I V = false) : mdB S M I V X = false := by unfold mdB; rw [h]; rfl
theorem md_ok {S : List (ByteArray × Int)} {M : List (List Int)} {I V X : List Int} {b : Bool} (h : cgG S M I V = true) (k : mdA S M I V X = b) : mdB S M I V X = b := by unfold mdB; rw [h, k]; rfl
theorem ma_no1 {S : List (ByteArray × Int)} {M : List (List Int)} {I V X : List Int} (h : fitB S X = false) : mdA S M I V X = false := by unfold mdA; rw [h]; rfl
theorem ma_no2 {S : List (ByteArray × Int)} {M : List (List Int)} {I V X : List Int} (h : faB M X = true) : mdA S M I V X = false := by unfold mdA; rw [h]; simp
theorem ma_eq {S : List (ByteArray × Int)} {M : List (List Int)} {I V X : List Int} (h : fitB S X = true) (k : faB M X = false) : mdA S M I V X = doB I V X := by unfold mdA; rw [h, k]; simp
theorem ret_two {a b c d : Bool} (h : a = c) (k : b = d) : Ending.returned (.tuple #[.bool a, .bool b]) = .returned (.tuple #[.bool c, .bool d]) := by rw [h, k]

set_option maxHeartbeats 1000000 in
theorem differOnly_any (x y z : Option Addr) (c0 c1 c2 : Nat) (I V X : List Int) (w : World) (hl : V.length = X.length) (h6 : V.length ≤ 1000) (hI : IIn w x I) (hV : IIn w y V) (hX : IIn w z X) :
    Calls Tryz.prog 56 #[.slice x I.length c0, .slice y V.length c1, .slice z X.length c2] w fun e w' => e = .returned (.bool (doB I V X)) ∧ Below w.heap.size w w' := by
  have hIh := Lib.hid hI
  have hVh := Lib.hid hV
  have hXh := Lib.hid hX
  have hlh := Lib.hid hl
  clear hI hV hX hl
  go_enter Tryz.func56, Tryz.ntmps56
  go_wp2_with fail
  refine (differing_any _ _ _ _ V X _ hlh.out h6 (hVh.out.below (by exact (by repeat (first | exact Below.refl _ _ | assumption | refine Below.drew ?_ | refine below_drewN ?_ _ | refine Below.alloc' ?_ _ | (refine Below.setCell ?_ (by first | omega | (simp; done) | (simp; omega) | exact Below.size (by assumption) | exact Nat.le_trans (Below.size (by assumption)) (by simp)) _) | (refine Below.via' ?_ (by assumption)) | (refine Below.alloc ?_ (by first | omega | (simp; done) | (simp; omega) | exact Below.size (by assumption) | exact Nat.le_trans (Below.size (by assumption)) (by simp)) _) | (refine Below.via ?_ (by assumption) (by first | omega | (simp; done) | (simp; omega) | exact Below.size (by assumption) | exact Nat.le_trans (Below.size (by assumption)) (by simp))))))) (hXh.out.below (by exact (by repeat (first | exact Below.refl _ _ | assumption | refine Below.drew ?_ | refine below_drewN ?_ _ | refine Below.alloc' ?_ _ | (refine Below.setCell ?_ (by first | omega | (simp; done) | (simp; omega) | exact Below.size (by assumption) | exact Nat.le_trans (Below.size (by assumption)) (by simp)) _) | (refine Below.via' ?_ (by assumption)) | (refine Below.alloc ?_ (by first | omega | (simp; done) | (simp; omega) | exact Below.size (by assumption) | exact Nat.le_trans (Below.size (by assumption)) (by simp)) _) | (refine Below.via ?_ (by assumption) (by first | omega | (simp; done) | (simp; omega) | exact Below.size (by assumption) | exact Nat.le_trans (Below.size (by assumption)) (by simp)))))))).mono ?_
  rintro e w1 ⟨u1, rfl, ho1, hb1⟩
  obtain ⟨x1, n1, rfl, -, -⟩ := (OwR.of ho1).form
  have hd1 := Lib.hid (pk_iin h6 (Rd.of_own ho1))
  have hdl := dvL_len V X
  clear ho1
  go_wp2
  go_loopw [13] (fun c wr => ∃ i : Nat, i ≤ (dvL V X).length ∧ c = .int .i64 i ∧ Hid (∀ j, j < i → ∀ v, (dvL V X)[j]? = some v → I.contains v = true) ∧ w1 = wr) (fun c _ => (dvL V X).length - (intOf c).toNat)
  case atStart => exact ⟨0, by omega, rfl, (fun j hj => absurd hj (by omega)), rfl⟩
  case round =>
    obtain ⟨i, hi, rfl, hall, rfl⟩ := hrel
    by_cases hlt : i < (dvL V X).length
    · obtain ⟨bl, off, v, rfl, hbl, hLi, hc0⟩ := hd1.out.2.2.int hlt
      have hLih : Hid ((dvL V X)[i]? = some v) := hLi
      have hlt' : (i : Int) < ((dvL V X).length : Int) := by omega
      have hi0 : (0 : Int) ≤ (i : Int) := by omega
      clear hLi
      go_wp2_with fail
      refine (contains_any _ _ I v _ (hIh.out.below (by exact (by repeat (first | exact Below.refl _ _ | assumption | refine Below.drew ?_ | refine below_drewN ?_ _ | refine Below.alloc' ?_ _ | (refine Below.setCell ?_ (by first | omega | (simp; done) | (simp; omega) | exact Below.size (by assumption) | exact Nat.le_trans (Below.size (by assumption)) (by simp)) _) | (refine Below.via' ?_ (by assumption)) | (refine Below.alloc ?_ (by first | omega | (simp; done) | (simp; omega) | exact Below.size (by assumption) | exact Nat.le_trans (Below.size (by assumption)) (by simp)) _) | (refine Below.via ?_ (by assumption) (by first | omega | (simp; done) | (simp; omega) | exact Below.size (by assumption) | exact Nat.le_trans (Below.size (by assumption)) (by simp)))))))).mono ?_
      rintro e w2 ⟨rfl, rfl⟩
      cases hc : I.contains v
      · have hv := Lib.hid (do_hit hLih.out hc)
        replace hc := Lib.hid hc
        go_wp2
        go_ret
        exact ⟨ret_bool hv.out.symm, (by repeat (first | exact Below.refl _ _ | assumption | refine Below.drew ?_ | refine below_drewN ?_ _ | refine Below.alloc' ?_ _ | (refine Below.setCell ?_ (by first | omega | (simp; done) | (simp; omega) | exact Below.size (by assumption) | exact Nat.le_trans (Below.size (by assumption)) (by simp)) _) | (refine Below.via' ?_ (by assumption)) | (refine Below.alloc ?_ (by first | omega | (simp; done) | (simp; omega) | exact Below.size (by assumption) | exact Nat.le_trans (Below.size (by assumption)) (by simp)) _) | (refine Below.via ?_ (by assumption) (by first | omega | (simp; done) | (simp; omega) | exact Below.size (by assumption) | exact Nat.le_trans (Below.size (by assumption)) (by simp)))))⟩
      · have hch := Lib.hid hc
        clear hc
        go_wp2
        go_roundw
        case rel =>
          refine ⟨i + 1, by omega, by go_num, fun j hj u hu => ?_, by first | rfl | trivial⟩
          rcases Nat.lt_or_ge j i with hj2 | hj2
          · exact hall.out j hj2 u hu
          · obtain rfl : j = i := by omega
            rw [hLih.out] at hu
            cases hu
            exact hch.out
        case measure => simp [intOf]; omega
    · have hij : i = (dvL V X).length := by omega
      have hv : Hid (doB I V X = true) := do_all fun j v hv => hall.out j (by have := (List.getElem?_eq_some_iff.1 hv).1; omega) v hv
      subst hij
      clear hall
      go_wp2
      go_ret
      exact ⟨ret_bool hv.out.symm, (by repeat (first | exact Below.refl _ _ | assumption | refine Below.drew ?_ | refine below_drewN ?_ _ | refine Below.alloc' ?_ _ | (refine Below.setCell ?_ (by first | omega | (simp; done) | (simp; omega) | exact Below.size (by assumption) | exact Nat.le_trans (Below.size (by assumption)) (by simp)) _) | (refine Below.via' ?_ (by assumption)) | (refine Below.alloc ?_ (by first | omega | (simp; done) | (simp; omega) | exact Below.size (by assumption) | exact Nat.le_trans (Below.size (by assumption)) (by simp)) _) | (refine Below.via ?_ (by assumption) (by first | omega | (simp; done) | (simp; omega) | exact Below.size (by assumption) | exact Nat.le_trans (Below.size (by assumption)) (by simp)))))⟩
end Go.Proofs.YtgkaalonmkcclabGreat

namespace Go.Proofs.YtgkaalonmkcclabGreat
open Go.RowKit
set_option maxRecDepth 100000

def zE (n : Nat) : List Int := List.replicate n 0
theorem zE_len (n : Nat) : (zE n).length = n := by unfold zE; simp
theorem made_zE (n : Nat) : (madeCells (Value.int .i64 0).cells (n * 1)).toList = iC (zE n) := by
  apply List.ext_getElem?
  intro j
  unfold iC zE
  rw [List.map_replicate, List.getElem?_replicate]
  by_cases h : j < n
  · simp [madeCells, Value.cells, h, Nat.mod_one]
  · simp [madeCells, Value.cells, h]
/-- How many of some values fail an edit. -/
def fcZ (E : List Int) (D : List (List Int)) : Int := ((D.filter fun V => fsB E V).length : Int)
theorem fcZ_nil (E : List Int) : fcZ E [] = 0 := rfl
theorem fcZ_yes {E V : List Int} {D : List (List Int)} (h : fsB E V = true) : fcZ E (D ++ [V]) = fcZ E D + 1 := by
  unfold fcZ
  rw [List.filter_append]
  simp [h]
theorem fcZ_no {E V : List Int} {D : List (List Int)} (h : fsB E V = false) : fcZ E (D ++ [V]) = fcZ E D := by
  unfold fcZ
  rw [List.filter_append]
  simp [h]
theorem fcZ_bd (E : List Int) (D : List (List Int)) : 0 ≤ fcZ E D ∧ fcZ E D ≤ D.length := by
  unfold fcZ
  have := List.length_filter_le (fun V => fsB E V) D
  omega
def fcL (M D : List (List Int)) : List Int := M.map fun E => fcZ E D
theorem fcL_len (M D : List (List Int)) : (fcL M D).length = M.length := by unfold fcL; simp
theorem fcL_at {M D : List (List Int)} {i : Nat} {E : List Int} (h : M[i]? = some E) : (fcL M D)[i]? = some (fcZ E D) := by unfold fcL; rw [List.getElem?_map, h]; rfl
/-- The program's counts: of the edits before i all, of edit i the first k. -/
def fcA (M D : List (List Int)) (i k : Nat) : List Int := fcL (M.take i) D ++ (fcL ((M.drop i).take 1) (D.take k) ++ fcL (M.drop (i + 1)) [])
theorem fcA_len (M D : List (List Int)) (i k : Nat) : (fcA M D i k).length = M.length := by
  unfold fcA
  simp only [List.length_append, fcL_len, List.length_take, List.length_drop]
  omega
theorem fcA_start (M D : List (List Int)) : fcA M D 0 0 = zE M.length := by
  unfold fcA
  apply List.ext_getElem?
  intro j
  have e : fcL (M.take 0) D ++ (fcL ((M.drop 0).take 1) (D.take 0) ++ fcL (M.drop (0 + 1)) []) = fcL M [] := by
    simp only [List.take_zero, List.drop_zero, Nat.zero_add]
    cases M with
    | nil => rfl
    | cons a r => simp [fcL]
  rw [e]
  unfold fcL zE
  rw [List.getElem?_map, List.getElem?_replicate]
  by_cases hj : j < M.length
  · rw [List.getElem?_eq_getElem hj, if_pos hj]; rfl
  · rw [List.getElem?_eq_none (by omega), if_neg hj]; rfl
theorem fcA_at {M D : List (List Int)} {i k : Nat} {E : List Int} (h : M[i]? = some E) : (fcA M D i k)[i]? = some (fcZ E (D.take k)) := by
  have hi := (List.getElem?_eq_some_iff.1 h).1
  unfold fcA
  rw [List.getElem?_append_right (by rw [fcL_len, List.length_take]; omega), fcL_len, List.length_take, Nat.min_eq_left (by omega), Nat.sub_self]
  have : (M.drop i).take 1 = [E] := by
    rw [List.drop_eq_getElem_cons hi, List.take_succ_cons, List.take_zero]
    rw [List.getElem?_eq_getElem hi] at h
    injection h with h
    rw [h]
  rw [this]
  rfl
theorem fcA_set {M D : List (List Int)} {i k : Nat} {E : List Int} {n : Int} (h : M[i]? = some E) (hn : n = fcZ E (D.take (k + 1))) : (fcA M D i k).set i n = fcA M D i (k + 1) := by
  have hi := (List.getElem?_eq_some_iff.1 h).1
  have e : (M.drop i).take 1 = [E] := by
    rw [List.drop_eq_getElem_cons hi, List.take_succ_cons, List.take_zero]
    rw [List.getElem?_eq_getElem hi] at h
    injection h with h
    rw [h]
  subst hn
  unfold fcA
  rw [List.set_append_right _ _ (by rw [fcL_len, List.length_take]; omega), fcL_len, List.length_take, Nat.min_eq_left (by omega), Nat.sub_self, e]
  rfl
theorem fcA_keep {M D : List (List Int)} {i k : Nat} {E : List Int} (h : M[i]? = some E) (hn : fcZ E (D.take (k + 1)) = fcZ E (D.take k)) : fcA M D i k = fcA M D i (k + 1) := by
  have hi := (List.getElem?_eq_some_iff.1 h).1
  have e : (M.drop i).take 1 = [E] := by
    rw [List.drop_eq_getElem_cons hi, List.take_succ_cons, List.take_zero]
    rw [List.getElem?_eq_getElem hi] at h
    injection h with h
    rw [h]
  unfold fcA
  rw [e]
  unfold fcL
  simp only [List.map_cons, List.map_nil, hn]
theorem fcA_next {M D : List (List Int)} {i : Nat} {E : List Int} (h : M[i]? = some E) : fcA M D i D.length = fcA M D (i + 1) 0 := by
  have hi := (List.getElem?_eq_some_iff.1 h).1
  have e : (M.drop i).take 1 = [E] := by
    rw [List.drop_eq_getElem_cons hi, List.take_succ_cons, List.take_zero]
    rw [List.getElem?_eq_getElem hi] at h
    injection h with h
    rw [h]
  unfold fcA
  rw [e, take_snoc h, List.take_length, List.take_zero]
  unfold fcL
  rw [List.map_append, List.append_assoc]
  congr 1
  simp only [List.map_cons, List.map_nil]
  congr 1
  cases hd : M.drop (i + 1) with
  | nil => rw [show M.drop (i + 1 + 1) = [] by rw [← List.drop_drop, hd]; rfl]; rfl
  | cons a r => rw [show M.drop (i + 1 + 1) = r by rw [← List.drop_drop, hd]; rfl]; simp
theorem fcA_end (M D : List (List Int)) : fcA M D M.length 0 = fcL M D := by
  unfold fcA
  rw [List.take_length, List.drop_length, List.drop_eq_nil_of_le (by omega)]
  simp [fcL]
/-- The model's counts: the first r records, and of the next one the first t edits that fail. -/
def fcB (M D : List (List Int)) (r : Nat) (V : List Int) (t : Nat) : List Int := (List.range M.length).map fun j : Nat => (match M[j]? with | some E => fcZ E (D.take r) | none => 0) + (if (j : Int) ∈ (feL M V).take t then 1 else 0)
theorem fcB_len (M D : List (List Int)) (r : Nat) (V : List Int) (t : Nat) : (fcB M D r V t).length = M.length := by unfold fcB; simp
theorem fcB_at {M D : List (List Int)} {r t j : Nat} {V E : List Int} (h : M[j]? = some E) : (fcB M D r V t)[j]? = some (fcZ E (D.take r) + (if (j : Int) ∈ (feL M V).take t then 1 else 0)) := by
  have hj := (List.getElem?_eq_some_iff.1 h).1
  unfold fcB
  rw [List.getElem?_map, List.getElem?_range hj]
  simp only [Option.map_some, h]
theorem pkUp_nodup (p : Nat → Bool) (n : Nat) : (pkUp p n).Nodup := by
  unfold pkUp
  have h1 : ((List.range n).filter p).Pairwise (· ≠ ·) := List.Pairwise.filter _ List.nodup_range
  exact List.Pairwise.map _ (fun a b h e => h (by exact Int.ofNat.inj e)) h1
theorem fcB_step {M D : List (List Int)} {r t j : Nat} {V E : List Int} (hj : M[j]? = some E) (ht : (feL M V)[t]? = some (j : Int)) :
    (fcB M D r V t)[j]? = some (fcZ E (D.take r)) ∧ (fcB M D r V t).set j (fcZ E (D.take r) + 1) = fcB M D r V (t + 1) := by
  have hnd : (feL M V).Nodup := pkUp_nodup _ _
  have htl := (List.getElem?_eq_some_iff.1 ht).1
  have hno : (j : Int) ∉ (feL M V).take t := by
    intro hm
    obtain ⟨k, hk, e⟩ := List.getElem_of_mem hm
    rw [List.length_take] at hk
    rw [List.getElem_take] at e
    have e2 := (List.getElem?_eq_some_iff.1 ht).2
    exact List.pairwise_iff_getElem.1 hnd k t (by omega) htl (by omega) (by rw [e, e2])
  refine ⟨by rw [fcB_at hj, if_neg hno]; simp, ?_⟩
  apply List.ext_getElem?
  intro k
  rw [List.getElem?_set, fcB_len]
  have hjl := (List.getElem?_eq_some_iff.1 hj).1
  by_cases e : j = k
  · subst e
    rw [if_pos rfl, if_pos hjl, fcB_at hj, if_pos (by rw [take_snoc ht]; simp)]
  · rw [if_neg e]
    by_cases hk : k < M.length
    · obtain ⟨F, hF⟩ : ∃ F, M[k]? = some F := ⟨_, List.getElem?_eq_getElem hk⟩
      rw [fcB_at hF, fcB_at hF, take_snoc ht]
      have : ((k : Int) ∈ (feL M V).take t ++ [(j : Int)]) ↔ ((k : Int) ∈ (feL M V).take t) := by
        rw [List.mem_append, List.mem_singleton]
        constructor
        · rintro (h | h)
          · exact h
          · omega
        · exact Or.inl
      simp only [this]
    · rw [List.getElem?_eq_none (by rw [fcB_len]; omega), List.getElem?_eq_none (by rw [fcB_len]; omega)]
theorem fcB_zero (M D : List (List Int)) (r : Nat) (V : List Int) : fcB M D r V 0 = fcL M (D.take r) := by
  apply List.ext_getElem?
  intro k
  by_cases hk : k < M.length
  · obtain ⟨F, hF⟩ : ∃ F, M[k]? = some F := ⟨_, List.getElem?_eq_getElem hk⟩
    rw [fcB_at hF, fcL_at hF]
    simp
  · rw [List.getElem?_eq_none (by rw [fcB_len]; omega), List.getElem?_eq_none (by rw [fcL_len]; omega)]
theorem fcB_full {M D : List (List Int)} {r : Nat} {V : List Int} (h : D[r]? = some V) : fcB M D r V (feL M V).length = fcL M (D.take (r + 1)) := by
  apply List.ext_getElem?
  intro k
  by_cases hk : k < M.length
  · obtain ⟨F, hF⟩ : ∃ F, M[k]? = some F := ⟨_, List.getElem?_eq_getElem hk⟩
    rw [fcB_at hF, fcL_at hF, List.take_length, take_snoc h]
    have hm : (k : Int) ∈ feL M V ↔ fsB F V = true := by
      unfold feL feUp
      constructor
      · intro hm
        obtain ⟨i, e, hi, hp⟩ := pkUp_mem hm
        obtain rfl : i = k := by omega
        rwa [fe_at hF] at hp
      · intro hp
        unfold pkUp
        exact List.mem_map.2 ⟨k, List.mem_filter.2 ⟨List.mem_range.2 hk, by rw [fe_at hF]; exact hp⟩, rfl⟩
    cases hh : fsB F V
    · rw [if_neg (by rw [hm, hh]; exact Bool.false_ne_true), fcZ_no hh]
      simp
    · rw [if_pos (by rw [hm]; exact hh), fcZ_yes hh]
  · rw [List.getElem?_eq_none (by rw [fcB_len]; omega), List.getElem?_eq_none (by rw [fcL_len]; omega)]
theorem fcL_nil (M : List (List Int)) : fcL M [] = zE M.length := by
  apply List.ext_getElem?
  intro j
  unfold fcL zE
  rw [List.getElem?_map, List.getElem?_replicate]
  by_cases hj : j < M.length
  · rw [List.getElem?_eq_getElem hj, if_pos hj]; rfl
  · rw [List.getElem?_eq_none (by omega), if_neg hj]; rfl
end Go.Proofs.YtgkaalonmkcclabGreat
