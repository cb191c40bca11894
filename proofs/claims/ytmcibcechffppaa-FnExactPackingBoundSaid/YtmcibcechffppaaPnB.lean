import Derived.Test.YtmcibcechffppaaEdB
import Derived.Test.YtmcibcechffppaaPnC
import Derived.Test.YtmcibcechffppaaEdC
import Derived.Maps.AppendAt
import Derived.Deep.RegionHeld3
namespace Go.Proofs.Ytmcibcechffppaa
open Go.RowKit Go.Shelf
set_option maxRecDepth 100000

/-- What an iterator promises: at each yield J holds of what has come and R of what is handed over; at the end all has come, or a round has said no. -/
def RowSeq {β : Type} (n : Nat) (P : Program) (gf : Nat) (lb : Array Value) (val : β → Value) (Kp : World → World → Prop) (R : List β → β → World → Prop) (S : List β → Prop) (w : World) : Prop :=
  ∀ (l : Nat) (J Jx : List β → World → Prop) (W : World), Below w.heap.size w W → OwnFrom W.heap.size J → OwnFrom W.heap.size Jx →
    (∀ pre x W1, J pre W1 → R pre x W1 → YieldAt Fence.wide (n - 1) P l #[val x] W1 fun e W' => KeepsFrom W.heap.size W1 W' ∧ ((e = .returned (.bool true) ∧ J (pre ++ [x]) W' ∧ Kp W1 W') ∨ (e = .returned (.bool false) ∧ Jx (pre ++ [x]) W'))) → J [] W →
    CallsIn Fence.wide n P gf (#[.func (.yield l) #[] #[]] ++ lb) W fun e W' => (∃ v, e = .returned v) ∧ ((∃ ys, S ys ∧ J ys W') ∨ ∃ pre, Jx pre W')

/-- How a round ends: it goes on, or it returns. -/
def RowPost {β : Type} (B : Nat) (Kp : World → World → Prop) (I Ix : List β → World → Prop) (s : List β) (W : World) (e : Exit) (_ : Act) (W' : World) : Prop :=
  match e with
  | .normal => KeepsFrom B W W' ∧ Kp W W' ∧ I s W'
  | .ret => KeepsFrom B W W' ∧ Ix s W'
  | _ => False

theorem rowPost_on {β : Type} {B : Nat} {Kp : World → World → Prop} {I Ix : List β → World → Prop} {s : List β} {W W' : World} {a : Act} (h1 : KeepsFrom B W W') (h2 : Kp W W') (h3 : I s W') : RowPost B Kp I Ix s W .normal a W' := ⟨h1, h2, h3⟩
theorem rowPost_ret {β : Type} {B : Nat} {Kp : World → World → Prop} {I Ix : List β → World → Prop} {s : List β} {W W' : World} {a : Act} (h1 : KeepsFrom B W W') (h2 : Ix s W') : RowPost B Kp I Ix s W .ret a W' := ⟨h1, h2⟩
theorem keeps_mono {B B' : Nat} {W W' : World} (h : KeepsFrom B W W') (hb : B ≤ B') : KeepsFrom B' W W' := ⟨h.size, fun k o hk h0 hc => h.same k o (Nat.le_trans hb hk) h0 hc⟩
theorem keeps_put {B l : Nat} (W : World) (o : Obj) (hl : l < B) : KeepsFrom B W (W.putObj l o) := KeepsFrom.of_grownBy (grownBy_putObj' W l o) (fun j e => by cases e; exact hl)
theorem range_rows {β : Type} {n : Nat} {P : Program} {g : Operand} {ps : Array Tmp} {assign body : Code} {Q : Exit → Act → World → Prop} {a : Act} {w w0 : World} {gf : Nat} {lb : Array Value} (h1 : 1 ≤ n)
    (hg : a.eval g = .func (.func gf) #[] lb) (eg : ∀ args w, (callFunc gf args).run P w = .ok (.enter gf args) w) (hps : ps.size = 1)
    (val : β → Value) (Kp : World → World → Prop) (R : List β → β → World → Prop) (S : List β → Prop) (hit : RowSeq (n - 1) P gf lb val Kp R S w0) (hb0 : Below w0.heap.size w0 w)
    (hKt : ∀ A B C : World, Kp A B → Kp B C → Kp A C) (hKb : (∃ A B, Kp A B) → ∀ (W : World) (l : Nat) (o o' : Obj), w.heap.size ≤ l → W.heap[l]? = some o → o.isCells = false → o.isWalk = false → Kp W (W.putObj l o'))
    (I Ix : List β → World → Prop) (hI : OwnFrom w.heap.size I) (hIx : OwnFrom w.heap.size Ix) (h0 : I [] w) (Ax : List β → β → Act → World → Prop) (hAx : ∀ pre x a', OwnFrom w.heap.size (fun (_ : Unit) W => Ax pre x a' W))
    (hassign : ∀ (l : Nat) (pre : List β) (x : β) (W : World) (K : Act → World → Prop), I pre W → R pre x W → (∀ a' W', KeepsFrom w.heap.size W W' → ((∃ A B, Kp A B) → Kp W W') → I pre W' → Ax pre x a' W' → K a' W') →
      assign.wpIn (Fence.wide.inRound l) (n - 1 - 1) P (Exit.then K (fun _ _ _ => False)) { tmps := (ps.zip #[val x]).foldl (fun t (p, v) => t.setIfInBounds p v) a.tmps, defers := [] } W)
    (hbody : ∀ (l : Nat) (pre : List β) (x : β) (a' : Act) (W : World), w.heap.size ≤ l → (∃ r, W.heap[l]? = some (.loop r)) → I pre W → Ax pre x a' W → body.wpIn (Fence.wide.inRound l) (n - 1 - 1) P (RowPost w.heap.size Kp I Ix (pre ++ [x]) W) a' W)
    (hdone : ∀ (ys : List β) (W : World), S ys → I ys W → W.heap[w.heap.size]? = some (.deferred (some [])) → Q .normal { a with defers := { target := .collected w.heap.size, args := #[] } :: a.defers } W)
    (hstop : ∀ (pre : List β) (W : World), Ix pre W → W.heap[w.heap.size]? = some (.deferred (some [])) → Code.ret.wpIn Fence.wide n P Q { a with defers := { target := .collected w.heap.size, args := #[] } :: a.defers } W) :
    (Code.rangeFunc g ps assign body).wpIn Fence.wide n P Q a w := by
  refine wpIn_rangeFunc ?_
  intro fn hfn
  rw [show Fence.wide.round = none from rfl]
  let r : LoopState → Option Code → Loop := fun st pe => { state := st, pending := pe, fn := fn, tmps := a.tmps, params := ps, assign := assign, body := body, defers := w.heap.size }
  let W1 := (w.alloc (.deferred (some []))).alloc (.loop (r .ready none))
  have hsz : (w.alloc (.deferred (some []))).heap.size = w.heap.size + 1 := World.size_alloc _ _
  have hL : W1.heap[w.heap.size + 1]? = some (.loop (r .ready none)) := by rw [← hsz]; exact World.alloc_heap_new _ _
  have hD : W1.heap[w.heap.size]? = some (.deferred (some [])) := (Below.heap_alloc _ _ _ (by omega)).trans (World.alloc_heap_new w _)
  have hs1 : W1.heap.size = w.heap.size + 2 := by show ((w.alloc _).alloc _).heap.size = _; rw [World.size_alloc, World.size_alloc]
  have hIW : I [] W1 := hI.alloc _ (hI.alloc _ h0)
  have hbW : Below w0.heap.size w0 W1 := hb0.trans (((Below.refl _ w).alloc (Nat.le_refl _) _ |>.alloc (by omega) _).mono hb0.size)
  refine ⟨w.heap.size + 1, [{ target := .collected w.heap.size, args := #[] }], W1, { target := .fn (.func gf) lb, args := #[.func (.yield (w.heap.size + 1)) #[] #[]] }, W1, gf, #[.func (.yield (w.heap.size + 1)) #[] #[]] ++ lb, W1, run_enterLoop_outer _ _ _ _ _, ?_, fun _ _ => trivial, ?_, fun _ => h1, ?_⟩
  · simp only [resolve, hg]
    simp [go_sem]
  · simp [invoke, go_sem, eg]
  refine (hit (w.heap.size + 1) (fun pre W => I pre W ∧ W.heap[w.heap.size + 1]? = some (.loop (r .ready none)) ∧ W.heap[w.heap.size]? = some (.deferred (some [])))
    (fun pre W => Ix pre W ∧ W.heap[w.heap.size + 1]? = some (.loop (r .done (some .ret))) ∧ W.heap[w.heap.size]? = some (.deferred (some []))) W1 hbW ?_ ?_ ?_ ⟨hIW, hL, hD⟩).mono ?_
  · rintro pre A B row ⟨i, l, d⟩ hgr hrow
    exact ⟨hI pre A B row i hgr (fun k hk => ⟨by have := (hrow k hk).1; omega, (hrow k hk).2⟩), (hgr.block _ (Array.getElem?_eq_some_iff.1 l).1 (fun h => by have := (hrow _ h.symm).1; omega)).trans l, (hgr.block _ (Array.getElem?_eq_some_iff.1 d).1 (fun h => by have := (hrow _ h.symm).1; omega)).trans d⟩
  · rintro pre A B row ⟨i, l, d⟩ hgr hrow
    exact ⟨hIx pre A B row i hgr (fun k hk => ⟨by have := (hrow k hk).1; omega, (hrow k hk).2⟩), (hgr.block _ (Array.getElem?_eq_some_iff.1 l).1 (fun h => by have := (hrow _ h.symm).1; omega)).trans l, (hgr.block _ (Array.getElem?_eq_some_iff.1 d).1 (fun h => by have := (hrow _ h.symm).1; omega)).trans d⟩
  · rintro pre x W ⟨i, l, d⟩ hr
    refine ⟨fn, _, assign, body, run_yield (args := #[val x]) l (by show 1 = ps.size; omega), roundIn_of_wpIn hfn (hassign _ pre x W _ i hr ?_)⟩
    rintro a' Wa ka kpa ia ax
    replace l := ka.same _ _ (by omega) l rfl
    replace d := ka.same _ _ (Nat.le_refl _) d rfl
    have hlt := (Array.getElem?_eq_some_iff.1 l).1
    refine ⟨_, run_beginRound l rfl, ?_⟩
    have l2 : (Wa.putObj (w.heap.size + 1) (.loop (r .busy none))).heap[w.heap.size + 1]? = some (.loop (r .busy none)) := World.putObj_heap_same hlt
    have d2 : (Wa.putObj (w.heap.size + 1) (.loop (r .busy none))).heap[w.heap.size]? = some (.deferred (some [])) := (World.putObj_heap_other (by omega)).trans d
    refine wpIn_mono (hbody _ pre x a' _ (by omega) ⟨_, l2⟩ (hI.putObj _ ia (by omega) l rfl) ((hAx pre x a').putObj (s := ()) _ ax (by omega) l rfl)) ?_
    rintro e a3 W3 hp
    cases e with
    | normal =>
      obtain ⟨hk, hkp, hi⟩ := hp
      have l3 := hk.same _ _ (by omega) l2 rfl
      have d3 := hk.same _ _ (Nat.le_refl _) d2 rfl
      have hex : ∃ A B, Kp A B := ⟨_, _, hkp⟩
      have kp2 : Kp Wa (Wa.putObj (w.heap.size + 1) (.loop (r .busy none))) := hKb hex _ _ _ _ (by omega) l rfl rfl
      exact ⟨_, _, run_endRound none l3, (keeps_mono ka (by omega)).trans ((keeps_put _ _ (by omega)).trans ((keeps_mono hk (by omega)).trans (keeps_put _ _ (by omega)))), .inl ⟨rfl, ⟨hI.putObj _ hi (by omega) l3 rfl, World.putObj_heap_same (Array.getElem?_eq_some_iff.1 l3).1, (World.putObj_heap_other (by omega)).trans d3⟩, hKt _ _ _ (kpa hex) (hKt _ _ _ (hKt _ _ _ kp2 hkp) (hKb hex _ _ _ _ (by omega) l3 rfl rfl))⟩⟩
    | ret =>
      obtain ⟨hk, hx⟩ := hp
      have l3 := hk.same _ _ (by omega) l2 rfl
      have d3 := hk.same _ _ (Nat.le_refl _) d2 rfl
      exact ⟨_, _, run_endRound (some .ret) l3, (keeps_mono ka (by omega)).trans ((keeps_put _ _ (by omega)).trans ((keeps_mono hk (by omega)).trans (keeps_put _ _ (by omega)))), .inr ⟨rfl, hIx.putObj _ hx (by omega) l3 rfl, World.putObj_heap_same (Array.getElem?_eq_some_iff.1 l3).1, (World.putObj_heap_other (by omega)).trans d3⟩⟩
    | exit id => exact hp.elim
    | goto t => exact hp.elim
    | panic ch => exact hp.elim
    | outgrown => exact hp.elim
  · rintro e W2 ⟨⟨v, rfl⟩, ⟨ys, hs, i, l, d⟩ | ⟨pre, hx, l, d⟩⟩
    · exact ⟨none, _, run_endLoop l (by intro h; cases h), hdone ys _ hs (hI.putObj _ i (by omega) l rfl) ((World.putObj_heap_other (by omega)).trans d)⟩
    · exact ⟨some .ret, _, run_endLoop l (by intro h; cases h), hstop pre _ (hIx.putObj _ hx (by omega) l rfl) ((World.putObj_heap_other (by omega)).trans d)⟩
end Go.Proofs.Ytmcibcechffppaa

namespace Go.Proofs.Ytmcibcechffppaa
open Go.RowKit Go.Shelf
set_option maxRecDepth 100000
attribute [local go_sem] Oper.semAt_some

/-- The lists of values that pass, at the first k places. -/
def psL (S : List (ByteArray × Int)) (M : List (List Int)) (k : Nat) : List (List Int) := (psN S M k).map fun i : Nat => atL S (i : Int)
theorem psL_yes {S : List (ByteArray × Int)} {M : List (List Int)} {k : Nat} (h : faB M (atL S k) = false) : psL S M (k + 1) = psL S M k ++ [atL S k] := by unfold psL; rw [psN_yes h, List.map_append]; rfl
theorem psL_no {S : List (ByteArray × Int)} {M : List (List Int)} {k : Nat} (h : faB M (atL S k) = true) : psL S M (k + 1) = psL S M k := by unfold psL; rw [psN_no h]
theorem psL_len (S : List (ByteArray × Int)) (M : List (List Int)) (k : Nat) : (psL S M k).length ≤ k := by unfold psL; rw [List.length_map, psN_len]; exact cpN_le S M k
/-- What is handed to a round: the next list of values that passes, in a row of its own. -/
def PsR (S : List (ByteArray × Int)) (M : List (List Int)) (nb N : Nat) (pre : List PR) (q : PR) (W : World) : Prop :=
  (∃ k : Nat, k < N ∧ faB M (atL S k) = false ∧ eM pre = psL S M k ∧ q.L = atL S k) ∧ W.ownsRow nb 3 1 q.v q.L.length (iC q.L)
set_option maxHeartbeats 4000000 in
theorem pv_rows (n : Nat) (hn : 1 ≤ n) (B1 B2 n₀ nb : Nat) (x y : Option Addr) (c1 c2 : Nat) (S : List (ByteArray × Int)) (Q : List PR) (w W0 : World) (hel : elB S (eM Q) = true) (hS : SIn w x c1 S) (hQ : EIn w y Q) (hn₀ : w.heap.size ≤ n₀) (N : Nat) (hN : cnZ S = (N : Int)) (hN2 : N ≤ 262144) (hB0 : Below w.heap.size w W0) (hnb0 : nb ≤ W0.heap.size)
    (h1z : Boxed W0 B1 29 (.slice x S.length c1)) (h2z : Boxed W0 B2 26 (.slice y Q.length c2)) :
    RowSeq n Try.prog 127 #[.pointer (some ⟨B1, 0, none⟩), .pointer (some ⟨B2, 0, none⟩)] (fun q : PR => q.v) (Kp2 n₀ B1 B2) (PsR S (eM Q) nb N) (fun ys => eM ys = psL S (eM Q) N) W0 := by
  intro l J Jx W hW hA _ hY h0
  have hB := hB0.trans (hW.mono hB0.size)
  have hnb := Nat.le_trans hnb0 hW.size
  have h1 := boxed_below h1z hW
  have h2 := boxed_below h2z hW
  clear h1z h2z hB0 hnb0 hW
  obtain ⟨g1, g2, g3⟩ := el_get hel
  have hSh := Lib.hid hS
  have hQh := Lib.hid hQ
  have hm := hS.1
  have hsh := Lib.hid g1
  have hedh := Lib.hid g3
  have hNh := Lib.hid hN
  have hAh := Lib.hid hA
  have hYh := Lib.hid hY
  clear hS hQ hel g1 g2 g3 hN hA hY
  have hc1 := h1.cell
  refine callsIn_of_wp Try.func127 rfl trivial ?_ rfl
  simp only [Try.ntmps127, List.size_toArray, List.length_cons, List.length_nil, Nat.reduceAdd, Nat.reduceSub, Array.replicate_succ, Array.replicate_zero, List.push_toArray, List.append_toArray, List.nil_append, List.cons_append]
  gi_wp2_with fail
  refine ⟨trivial, ?_⟩
  refine (callsIn_wide.2 (countCombinations_any _ _ S _ hsh.out hm (hSh.out.rd.below hB))).mono ?_
  rintro e w1 ⟨rfl, hb1⟩
  have hN1 := hNh.out
  rw [hN1]
  clear hN1 hc1
  gi_wp2
  gi_loopw [8] (fun i wr => ∃ (k : Nat) (pre : List PR), k ≤ N ∧ i = .int .i64 k ∧ Hid (eM pre = psL S (eM Q) k) ∧ J pre wr ∧ Below w.heap.size w wr ∧ Boxed wr B1 29 (.slice x S.length c1) ∧ Boxed wr B2 26 (.slice y Q.length c2) ∧ W.heap.size ≤ wr.heap.size)
    (fun i _ => N - (intOf i).toNat)
  case atStart => exact ⟨0, [], by omega, by first | rfl | go_num, rfl, hAh.out _ _ _ none h0 (grown_belowE hb1) (by intro r hr; cases hr), hB.trans (hb1.mono hB.size), (hb1.block B1 h1.lt).trans h1, (hb1.block B2 h2.lt).trans h2, hb1.size⟩
  case round =>
    clear h1 h2 h0 hb1
    obtain ⟨k, pre, hk, rfl, hpre, hJ, hBr, b1, b2, hWr⟩ := hrel
    by_cases hlt : k < N
    · have hlt' : (k : Int) < (N : Int) := by omega
      have d1 := b1.cell
      have d2 := b2.cell
      have hNN := hNh.out
      have hkN : (k : Int) < cnZ S := by omega
      clear hNN
      gi_wp2_with fail
      refine ⟨trivial, ?_⟩
      refine (callsIn_wide.2 (combAt_any _ _ S (k : Int) _ (hSh.out.below hBr) hsh.out (by omega) hkN)).mono ?_
      rintro e w2 ⟨u2, rfl, ho2, hb2⟩
      obtain ⟨x2, n2, rfl, -, -⟩ := (OwR.of ho2).form
      have hin := Lib.hid (atL_iin hsh.out (show (0 : Int) ≤ (k : Int) by omega) (Rd.of_own ho2))
      have row2 := Lib.hid (own_more ho2 (Nat.le_trans hnb hWr))
      have J2 := Lib.hid (hAh.out _ _ _ none hJ (grown_belowE hb2) (by intro r hr; cases hr))
      have b12 : Boxed w2 B1 29 (.slice x S.length c1) := (hb2.block B1 b1.lt).trans b1
      have b22 : Boxed w2 B2 26 (.slice y Q.length c2) := (hb2.block B2 b2.lt).trans b2
      have hB2 : Below w.heap.size w w2 := hBr.trans (hb2.mono hBr.size)
      have hW2 : W.heap.size ≤ w2.heap.size := Nat.le_trans hWr hb2.size
      clear ho2 hb2 b1 b2 hJ hBr hWr d1 d2
      have d1 := b12.cell
      have d2 := b22.cell
      gi_wp2_with fail
      refine ⟨trivial, ?_⟩
      refine (callsIn_wide.2 (failsAny_any _ _ _ _ Q (atL S k) _ (fun E hE => fine_of hsh.out (hedh.out E hE) (at_fitE hsh.out (by omega))) (hQh.out.below hB2) hin.out)).mono ?_
      rintro e w3 ⟨rfl, hb3⟩
      have J3 := hAh.out _ _ _ none J2.out (grown_belowE hb3) (by intro r hr; cases hr)
      have row3 := Lib.hid (own_below row2.out hb3)
      have b13 : Boxed w3 B1 29 (.slice x S.length c1) := (hb3.block B1 b12.lt).trans b12
      have b23 : Boxed w3 B2 26 (.slice y Q.length c2) := (hb3.block B2 b22.lt).trans b22
      have hB3 : Below w.heap.size w w3 := hB2.trans (hb3.mono hB2.size)
      have hW3 : W.heap.size ≤ w3.heap.size := Nat.le_trans hW2 hb3.size
      clear d1 d2 b12 b22 J2 hb3 hB2 hW2 row2
      cases hfa : faB (eM Q) (atL S k)
      · have hst := Lib.hid (psL_yes hfa)
        obtain ⟨fn, tmps, assign, body, hy, hR⟩ := hYh.out pre ⟨0, 0, x2, n2, atL S k⟩ w3 J3 ⟨⟨k, hlt, hfa, hpre.out, rfl⟩, row3.out⟩
        try dsimp only [PR.v] at hy
        have hb13 := Lib.hid b13
        have hb23 := Lib.hid b23
        clear b13 b23 J3
        gi_wp2
        refine hR.mono ?_
        rintro e W3 ⟨-, ⟨rfl, hJ4, hk4⟩ | ⟨rfl, hJx4⟩⟩
        · gi_wp2
          go_roundw
          case rel => exact ⟨k + 1, pre ++ [⟨0, 0, x2, n2, atL S k⟩], by omega, by go_num, (by unfold Hid; rw [eM_app, hst.out, hpre.out]; rfl), hJ4, hB3.trans (hk4.1.mono hn₀), hk4.2.1.trans hb13.out, hk4.2.2.trans hb23.out, Nat.le_trans hW3 hk4.1.size⟩
          case measure => simp [intOf]; omega
        · gi_wp2
          refine bodyPost_ret (results_none rfl _ _ _) rfl ?_
          exact ⟨⟨_, rfl⟩, .inr ⟨_, hJx4⟩⟩
      · have hst := Lib.hid (psL_no hfa)
        have hb13 := Lib.hid b13
        have hb23 := Lib.hid b23
        have hJ3h := Lib.hid J3
        clear b13 b23 J3
        gi_wp2
        refine ⟨(fun f h => by cases h), ?_⟩
        gi_wp2
        go_roundw
        case rel => exact ⟨k + 1, pre, by omega, by go_num, (by unfold Hid; rw [hst.out, hpre.out]), hJ3h.out, hB3, hb13.out, hb23.out, hW3⟩
        case measure => simp [intOf]; omega
    · have hij : k = N := by omega
      subst hij
      gi_wp2
      go_end0
      exact ⟨⟨_, rfl⟩, .inl ⟨pre, hpre.out, hJ⟩⟩
theorem rows_apart {W : World} {n1 n2 e1 e2 s1 s2 k1 k2 : Nat} {u v : Value} {xs ys : List Value} (h1 : W.ownsRow n1 e1 s1 u k1 xs) (h2 : W.ownsRow n2 e2 s2 v k2 ys) (hne : e1 ≠ e2) : u.ownBlock = none ∨ u.ownBlock ≠ v.ownBlock := by
  rcases h1.2 with ⟨rfl, _⟩ | ⟨g, cap, cur, rfl, _, hgb, _⟩
  · exact .inl rfl
  · refine .inr fun e' => ?_
    rcases h2.2 with ⟨rfl, _⟩ | ⟨g2, cap2, cur2, rfl, _, hgb2, _⟩
    · simp [Value.ownBlock] at e'
    · obtain rfl : g = g2 := by simpa [Value.ownBlock] using e'
      rw [hgb] at hgb2
      cases hgb2
      exact hne rfl
theorem row_appended {W w1 : World} {n1 n₀ B t e e2 s s2 k k2 : Nat} {u v v' : Value} {ys xs : List Value} {tmp : Obj} (hin : W.ownsRow n1 e2 s2 u k2 ys) (hrow : W.ownsRow n₀ e s v k xs) (hne : e2 ≠ e) (hbox : Boxed w1 B t v) (hte : t ≠ e2)
    (hgrow : (W.alloc tmp).grownBy w1 v.ownBlock) : (w1.setCell ⟨B, 0, none⟩ v').ownsRow n1 e2 s2 u k2 ys := by
  have h1 : w1.ownsRow n1 e2 s2 u k2 ys := (hin.alloc tmp).kept hgrow (rows_apart hin hrow hne)
  exact h1.kept (grownBy_setCell' w1 B v') (.inr (Ne.symm (hbox.not_row hte h1)))
theorem Try.infoRow : (Try.prog.info? 39).map (fun i => (i.zero, i.size, i.bytes)) = some (some (.slice none 0 0), 1, 24) := by kernel_rfl
/-- What is collected: rows, each a list of values that passes. -/
def PsPost (S : List (ByteArray × Int)) (M : List (List Int)) (N : Nat) (W : World) (e : Ending) (W' : World) : Prop :=
  ∃ (v : Value) (T : List PR), e = .returned v ∧ W'.ownsRow W.heap.size 39 1 v T.length (eC T) ∧ (∀ q ∈ T, W'.ownsRow W.heap.size 3 1 q.v q.L.length (iC q.L)) ∧ eM T = psL S M N ∧ Below W.heap.size W W'
theorem eC_snoc (T : List PR) (q : PR) : eC (T ++ [q]) = eC T ++ [q.v] := by unfold eC; rw [List.map_append]; rfl
set_option maxHeartbeats 4000000 in
theorem appendSeq_any (B1 B2 : Nat) (x y : Option Addr) (c1 c2 : Nat) (S : List (ByteArray × Int)) (Q : List PR) (w W : World) (hel : elB S (eM Q) = true) (hS : SIn w x c1 S) (hQ : EIn w y Q) (N : Nat) (hN : cnZ S = (N : Int)) (hN2 : N ≤ 262144) (hB : Below w.heap.size w W)
    (h1 : Boxed W B1 29 (.slice x S.length c1)) (h2 : Boxed W B2 26 (.slice y Q.length c2)) :
    Calls Try.prog 126 #[.slice none 0 0, .func (.func 127) #[] #[.pointer (some ⟨B1, 0, none⟩), .pointer (some ⟨B2, 0, none⟩)]] W (PsPost S (eM Q) N W) := by
  obtain ⟨i0, hi, hz0, hz1, hz2⟩ := info_parts Try.infoRow
  have hlt1 := h1.lt
  have hlt2 := h2.lt
  have hwW := hB.size
  have b1 := h1.alloc (.cells #[.slice none 0 0] 88)
  have b2 := h2.alloc (.cells #[.slice none 0 0] 88)
  have bO := Boxed.new W 88 (.slice none 0 0)
  have hb0 : Below W.heap.size W (W.alloc (.cells #[.slice none 0 0] 88)) := (Below.refl _ _).alloc (Nat.le_refl _) _
  have hBW : Below w.heap.size w (W.alloc (.cells #[.slice none 0 0] 88)) := hB.trans (hb0.mono hwW)
  have hit := pv_rows 4 (by omega) B1 B2 W.heap.size W.heap.size x y c1 c2 S Q w _ hel hS hQ hwW N hN hN2 hBW (by simp) b1 b2
  have hith := Lib.hid hit
  clear hit hS hQ hel hN h1 h2 b1 b2
  refine (callsIn_wide (n := 5)).1 ?_
  refine callsIn_of_wp_marks Try.func126 rfl trivial ?_ rfl
  simp only [Try.ntmps126, List.size_toArray, List.length_cons, List.length_nil, Nat.reduceAdd, Nat.reduceSub, Array.replicate_succ, Array.replicate_zero, List.push_toArray, List.append_toArray, List.nil_append, List.cons_append]
  refine wpIn_wide.2 ?_
  go_wp2
  refine (wpIn_wide (n := 5)).1 ?_
  refine range_rows (by omega) (gf := 127) (lb := #[.pointer (some ⟨B1, 0, none⟩), .pointer (some ⟨B2, 0, none⟩)]) rfl (enters_of Try.func127 (by kernel_rfl) rfl) rfl
    (fun q : PR => q.v) (Kp2 W.heap.size B1 B2) (PsR S (eM Q) W.heap.size N) (fun ys => eM ys = psL S (eM Q) N) hith.out (Below.refl _ _)
    (fun _ _ _ h k => ⟨h.1.trans k.1, k.2.1.trans h.2.1, k.2.2.trans h.2.2⟩) (fun _ X l o o' hl hlo hc hw => ⟨belowK_b (w := W.alloc (.cells #[.slice none 0 0] 88)) (by simp) X l o o' hl hlo hc hw, World.putObj_heap_other (by intro e; simp at hl; omega), World.putObj_heap_other (by intro e; simp at hl; omega)⟩)
    (fun pre X => ((∃ v, Boxed X W.heap.size 88 v ∧ X.ownsRow W.heap.size 39 1 v pre.length (eC pre) ∧ True) ∧ (∀ q ∈ pre, X.ownsRow W.heap.size 3 1 q.v q.L.length (iC q.L))) ∧ Below W.heap.size W X)
    (fun _ _ => False)
    (OwnFrom.and (OwnFrom.and (Own.from (holdsRow_own W.heap.size W.heap.size 88 39 1 (fun pre : List PR => pre.length) (fun pre => eC pre) (fun _ _ => True)) _) (Own.from (fun s A B row hs hg hr => fun q hq => own_cells (hs q hq) hg hr) _)) (ownFrom_below (Nat.le_refl _) (by simp)))
    (fun _ _ _ _ hs _ _ => hs)
    ⟨⟨⟨_, bO, World.ownsRow_nil _ _ _ _, trivial⟩, fun q hq => by cases hq⟩, hb0⟩
    (fun pre q a' X => (a' = { tmps := #[.slice none 0 0, .func (.func 127) #[] #[.pointer (some ⟨B1, 0, none⟩), .pointer (some ⟨B2, 0, none⟩)], .pointer (some ⟨W.heap.size, 0, none⟩), undef, .slice none 0 0, q.v, .func (.func 127) #[] #[.pointer (some ⟨B1, 0, none⟩), .pointer (some ⟨B2, 0, none⟩)], q.v, undef, undef, undef, undef, undef], defers := [] } ∧ pre.length < N) ∧ X.ownsRow W.heap.size 3 1 q.v q.L.length (iC q.L))
    (fun pre q a' _ A B row hs hg hr => ⟨hs.1, own_cells hs.2 hg (fun r e => (hr r e).2)⟩)
    ?assign ?body ?done ?stop
  case assign =>
    rintro l pre q X K hI ⟨⟨k, hk, _, hpre, _⟩, hrow⟩ hK
    have hlen : pre.length < N := by have h0 := psL_len S (eM Q) k; rw [← hpre, eM_len] at h0; omega
    gi_wp2
    exact hK _ _ (KeepsFrom.refl _ X) (fun _ => ⟨Below.refl _ _, rfl, rfl⟩) hI ⟨⟨by first | rfl | simp, hlen⟩, hrow⟩
  case body =>
    rintro l pre ⟨qa, qh, qx, qc, qL⟩ a' X hl ⟨r, hr⟩ ⟨⟨⟨v, hv, hrow, -⟩, hin⟩, hB1⟩ ⟨⟨rfl, hlen⟩, hq⟩
    dsimp only [PR.v] at hq ⊢
    have hc := hv.cell
    have hinh := Lib.hid hin
    have hqh := Lib.hid hq
    have hXs := hB1.size
    clear hin hq
    obtain ⟨xv, cv, rfl, -, -⟩ := (OwR.of hrow).form
    gi_wp2_with (gi_at_builtin; refine wpListIn_append_own _ rfl _ _ 88 rfl W.heap.size 39 i0 (.slice none 0 0) 1 24 Try.underlying88 hi hz0 hz1 hz2 rfl (by decide) _ _ _ rfl (hrow.alloc _) ⟨X.heap.size, 0, none⟩ 1 1 [.slice qx qL.length qc] rfl rfl (cell_one_new _ _ _) (by simp [Value.oneCell']) (by unfold maxLen; omega) (by omega) (by simp; omega) ?_; intro v' w1 hown' hgrow _; obtain ⟨g', cap', rfl⟩ := ownsRow_succ hown'; obtain ⟨hv1, hv2, hr2, hk2, hb2⟩ := hv.appended (by decide) hrow hB1.size (Nat.le_refl _) hown' hgrow; have hc1 := hv1.cell; have hf1 := hv1.frozen)
    refine rowPost_on (hk2.from _) ⟨hb2, hb2.block _ (by omega), hb2.block _ (by omega)⟩ ⟨⟨⟨_, hv2, ?_, trivial⟩, fun p hp => ?_⟩, hB1.trans hb2⟩
    · rw [eC_snoc, List.length_append]
      exact hr2
    · rcases List.mem_append.1 hp with h | h
      · exact row_appended (hinh.out p h) hrow (by decide) hv1 (by decide) hgrow
      · obtain rfl := List.mem_singleton.1 h
        exact row_appended hqh.out hrow (by decide) hv1 (by decide) hgrow
  case done =>
    rintro ys X hS ⟨⟨⟨v, hv, hrow, -⟩, hin⟩, hB1⟩ hK
    have hc := hv.cell
    have hSh := Lib.hid hS
    have hinh := Lib.hid hin
    have hrowh := Lib.hid hrow
    clear hS hin hrow
    go_wp2
    refine ⟨by simp, .inl ⟨_, _, rfl, run_takeDeferred hK, ?_⟩⟩
    exact ⟨_, results_tmp rfl _ _ _, _, ys, rfl, ownsRow_putObj hrowh.out _ hK rfl, fun q hq => ownsRow_putObj (hinh.out q hq) _ hK rfl, hSh.out, hB1.trans (belowK_b (w := W) (Nat.le_refl _) _ _ _ _ (by simp) hK rfl rfl)⟩
  case stop =>
    rintro pre X h _
    exact h.elim
theorem collect_any (B1 B2 : Nat) (x y : Option Addr) (c1 c2 : Nat) (S : List (ByteArray × Int)) (Q : List PR) (w W : World) (hel : elB S (eM Q) = true) (hS : SIn w x c1 S) (hQ : EIn w y Q) (N : Nat) (hN : cnZ S = (N : Int)) (hN2 : N ≤ 262144) (hB : Below w.heap.size w W)
    (h1 : Boxed W B1 29 (.slice x S.length c1)) (h2 : Boxed W B2 26 (.slice y Q.length c2)) :
    Calls Try.prog 100 #[.func (.func 127) #[] #[.pointer (some ⟨B1, 0, none⟩), .pointer (some ⟨B2, 0, none⟩)]] W (PsPost S (eM Q) N W) := by
  have hc := Lib.hid (appendSeq_any B1 B2 x y c1 c2 S Q w W hel hS hQ N hN hN2 hB h1 h2)
  clear hel hS hQ hN h1 h2
  go_enter Try.func100, Try.ntmps100
  go_wp2_with fail
  refine hc.out.mono ?_
  rintro e w1 ⟨v, T, rfl, hp⟩
  have hph := Lib.hid hp
  clear hp
  go_wp2
  go_ret
  exact ⟨v, T, rfl, hph.out⟩
end Go.Proofs.Ytmcibcechffppaa

namespace Go.Proofs.Ytmcibcechffppaa
open Go.RowKit Go.Shelf
set_option maxRecDepth 100000
attribute [local go_sem] Oper.semAt_some

/-- A box that holds the lists of values that pass. -/
def ImIn (S : List (ByteArray × Int)) (M : List (List Int)) (N : Nat) (w : World) (B : Nat) : Prop :=
  ∃ (x : Option Addr) (c : Nat) (T : List PR), Boxed w B 88 (.slice x T.length c) ∧ EIn w x T ∧ eM T = psL S M N
theorem ImIn.below {S : List (ByteArray × Int)} {M : List (List Int)} {N B : Nat} {w w' : World} (h : ImIn S M N w B) (hb : Below w.heap.size w w') : ImIn S M N w' B := by
  obtain ⟨x, c, T, h1, h2, h3⟩ := h
  exact ⟨x, c, T, boxed_below h1 hb, h2.below hb, h3⟩
theorem ps_iin {S : List (ByteArray × Int)} {M : List (List Int)} {N : Nat} {T : List PR} {W : World} {nb : Nat} (hs : schB S = true) (hM : eM T = psL S M N) (hr : ∀ q ∈ T, W.ownsRow nb 3 1 q.v q.L.length (iC q.L)) : ∀ q ∈ T, IIn W q.x q.L := by
  intro q hq
  obtain ⟨j, hj, e⟩ := List.getElem_of_mem hq
  have h1 : (eM T)[j]? = some q.L := eM_at (by rw [List.getElem?_eq_getElem hj, e])
  rw [hM] at h1
  unfold psL at h1
  rw [List.getElem?_map] at h1
  cases hk : (psN S M N)[j]? with
  | none => rw [hk] at h1; cases h1
  | some k =>
    rw [hk] at h1
    have h2 : atL S (k : Int) = q.L := Option.some.inj h1
    rw [← h2]
    have h3 := hr q hq
    rw [← h2] at h3
    have h4 : Rd W q.x (iC (atL S (k : Int))) := by
      have h5 := h3
      unfold PR.v at h5
      rw [← h2] at h5
      exact Rd.of_own h5
    exact atL_iin hs (by omega) h4
/-- The closure that tells whether an edit is implied. -/
def ImPost (S : List (ByteArray × Int)) (M : List (List Int)) (N : Nat) (w : World) (e : Ending) (w' : World) : Prop :=
  ∃ B : Nat, e = .returned (.func (.func 102) #[] #[.pointer (some ⟨B, 0, none⟩)]) ∧ ImIn S M N w' B ∧ Below w.heap.size w w'
set_option maxHeartbeats 2000000 in
theorem impliedBy_any (x y : Option Addr) (c1 c2 : Nat) (S : List (ByteArray × Int)) (Q : List PR) (w : World) (hel : elB S (eM Q) = true) (hS : SIn w x c1 S) (hQ : EIn w y Q) (N : Nat) (hN : cnZ S = (N : Int)) :
    Calls Try.prog 56 #[.slice x S.length c1, .slice y Q.length c2] w (ImPost S (eM Q) N w) := by
  have hs := (el_get hel).1
  obtain ⟨n1, n2⟩ := cn_all hs
  have hN2 : N ≤ 262144 := by omega
  have bS := (Boxed.new w 29 (.slice x S.length c1)).alloc (.cells #[.slice y Q.length c2] 26)
  have bQ := Boxed.new (w.alloc (.cells #[.slice x S.length c1] 29)) 26 (.slice y Q.length c2)
  have hB0 : Below w.heap.size w ((w.alloc (.cells #[.slice x S.length c1] 29)).alloc (.cells #[.slice y Q.length c2] 26)) := (by repeat (first | exact Below.refl _ _ | assumption | refine Below.drew ?_ | refine below_drewN ?_ _ | refine Below.alloc' ?_ _ | (refine Below.setCell ?_ (by first | omega | (simp; done) | (simp; omega) | exact Below.size (by assumption) | exact Nat.le_trans (Below.size (by assumption)) (by simp)) _) | (refine Below.via' ?_ (by assumption)) | (refine Below.alloc ?_ (by first | omega | (simp; done) | (simp; omega) | exact Below.size (by assumption) | exact Nat.le_trans (Below.size (by assumption)) (by simp)) _) | (refine Below.via ?_ (by assumption) (by first | omega | (simp; done) | (simp; omega) | exact Below.size (by assumption) | exact Nat.le_trans (Below.size (by assumption)) (by simp)))))
  rw [World.size_alloc] at bQ
  have hc := Lib.hid (collect_any w.heap.size (w.heap.size + 1) x y c1 c2 S Q w _ hel hS hQ N hN hN2 hB0 bS bQ)
  have hsh := Lib.hid hs
  have hw0 := hB0.size
  clear hel hS hQ hN bS bQ hs n1 n2
  go_enter Try.func56, Try.ntmps56
  go_wp2_with fail
  refine (passingValues_any _ _ _ _ _ _ _).mono ?_
  rintro e w4 ⟨rfl, rfl⟩
  go_wp2_with fail
  refine hc.out.mono ?_
  rintro e w5 ⟨v, T, rfl, hrow, hin, hM, hb5⟩
  obtain ⟨xv, cv, rfl, -, -⟩ := (OwR.of hrow).form
  have hB5 : Below w.heap.size w w5 := hB0.trans (hb5.mono hw0)
  have hbx := Boxed.new w5 88 (.slice xv T.length cv)
  have hb6 : Below w5.heap.size w5 (w5.alloc (.cells #[.slice xv T.length cv] 88)) := (Below.refl _ _).alloc (Nat.le_refl _) _
  have hTl : T.length ≤ 1048576 := by have h0 := psL_len S (eM Q) N; rw [← hM, eM_len] at h0; omega
  have hEI := Lib.hid (show EIn w5 xv T from ⟨hTl, ps_iin hsh.out hM hin, Rd.of_own hrow⟩)
  have hMh := Lib.hid hM
  clear hrow hin hM hc hb5 hw0
  go_wp2
  go_ret
  refine ⟨_, rfl, ⟨xv, cv, T, ?_, hEI.out.below ?_, hMh.out⟩, ?_⟩
  · first | exact hbx | (have h0 := (Boxed.new w5 88 (.slice none 0 0)).set (.slice xv T.length cv); exact h0)
  · exact (by repeat (first | exact Below.refl _ _ | assumption | refine Below.drew ?_ | refine below_drewN ?_ _ | refine Below.alloc' ?_ _ | (refine Below.setCell ?_ (by first | omega | (simp; done) | (simp; omega) | exact Below.size (by assumption) | exact Nat.le_trans (Below.size (by assumption)) (by simp)) _) | (refine Below.via' ?_ (by assumption)) | (refine Below.alloc ?_ (by first | omega | (simp; done) | (simp; omega) | exact Below.size (by assumption) | exact Nat.le_trans (Below.size (by assumption)) (by simp)) _) | (refine Below.via ?_ (by assumption) (by first | omega | (simp; done) | (simp; omega) | exact Below.size (by assumption) | exact Nat.le_trans (Below.size (by assumption)) (by simp)))))
  · exact (by repeat (first | exact Below.refl _ _ | assumption | refine Below.drew ?_ | refine below_drewN ?_ _ | refine Below.alloc' ?_ _ | (refine Below.setCell ?_ (by first | omega | (simp; done) | (simp; omega) | exact Below.size (by assumption) | exact Nat.le_trans (Below.size (by assumption)) (by simp)) _) | (refine Below.via' ?_ (by assumption)) | (refine Below.alloc ?_ (by first | omega | (simp; done) | (simp; omega) | exact Below.size (by assumption) | exact Nat.le_trans (Below.size (by assumption)) (by simp)) _) | (refine Below.via ?_ (by assumption) (by first | omega | (simp; done) | (simp; omega) | exact Below.size (by assumption) | exact Nat.le_trans (Below.size (by assumption)) (by simp)))))
set_option maxHeartbeats 2000000 in
theorem implied1_any (B : Nat) (z : Option Addr) (c : Nat) (S : List (ByteArray × Int)) (M : List (List Int)) (N : Nat) (E : List Int) (w : World) (hs : schB S = true) (hE : edB S E = true) (hI : ImIn S M N w B) (hz : IIn w z E) :
    Calls Try.prog 102 #[.agg #[.slice z E.length c], .pointer (some ⟨B, 0, none⟩)] w fun e w' => e = .returned (.bool (imV S (psN S M N) E)) ∧ Below w.heap.size w w' := by
  obtain ⟨x, cT, T, hb, hT, hM⟩ := hI
  have hq := Lib.hid (QB.new w z E.length c 62)
  have hb0 : Below w.heap.size w (w.alloc (.cells #[.slice z E.length c] 62)) := (by repeat (first | exact Below.refl _ _ | assumption | refine Below.drew ?_ | refine below_drewN ?_ _ | refine Below.alloc' ?_ _ | (refine Below.setCell ?_ (by first | omega | (simp; done) | (simp; omega) | exact Below.size (by assumption) | exact Nat.le_trans (Below.size (by assumption)) (by simp)) _) | (refine Below.via' ?_ (by assumption)) | (refine Below.alloc ?_ (by first | omega | (simp; done) | (simp; omega) | exact Below.size (by assumption) | exact Nat.le_trans (Below.size (by assumption)) (by simp)) _) | (refine Below.via ?_ (by assumption) (by first | omega | (simp; done) | (simp; omega) | exact Below.size (by assumption) | exact Nat.le_trans (Below.size (by assumption)) (by simp)))))
  have hbc := (boxed_below hb hb0).cell
  have hTh := Lib.hid (hT.below hb0)
  have hzh := Lib.hid (hz.below hb0)
  have hMh := Lib.hid hM
  have hsh := Lib.hid hs
  have hEh := Lib.hid hE
  have hTl := hT.1
  have hblt := hb.lt
  clear hb hT hz hM hs hE
  go_enter Try.func102, Try.ntmps102
  go_wp2
  go_loopw [8] (fun c2 wr => ∃ i : Nat, i ≤ T.length ∧ c2 = .int .i64 i ∧ Hid (∀ j, j < i → ∃ V, (eM T)[j]? = some V ∧ fsB E V = false) ∧ Below (w.alloc (.cells #[.slice z E.length c] 62)).heap.size (w.alloc (.cells #[.slice z E.length c] 62)) wr) (fun c2 _ => T.length - (intOf c2).toNat)
  case atStart => exact ⟨0, by omega, rfl, (fun j hj => absurd hj (by omega)), Below.refl _ _⟩
  case round =>
    obtain ⟨i, hi, rfl, hall, hBr⟩ := hrel
    by_cases hlt : i < T.length
    · obtain ⟨bl, off, q, rfl, hbl, hQq, hc0⟩ := (hTh.out.below hBr).2.2.ed hlt
      have hqi := Lib.hid ((hTh.out.2.1 q (List.mem_of_getElem? hQq)).below hBr)
      have hqe := Lib.hid (eM_at hQq)
      have hk : ∃ k : Nat, k ∈ psN S M N ∧ q.L = atL S (k : Int) := by
        have h1 := hqe.out
        rw [hMh.out] at h1
        unfold psL at h1
        obtain ⟨k, hk, e⟩ := List.mem_map.1 (List.mem_of_getElem? h1)
        exact ⟨k, hk, e.symm⟩
      obtain ⟨k, hkm, hkL⟩ := hk
      have hfi := Lib.hid (show Fine E q.L by rw [hkL]; exact fine_of hsh.out hEh.out (at_fitE hsh.out (by omega)))
      have hkmh := Lib.hid hkm
      have hkLh := Lib.hid hkL
      have hlt' : (i : Int) < (T.length : Int) := by omega
      obtain ⟨ka, kb, kc⟩ := hq.out.below hBr
      clear hQq hkm hkL
      cases hh : fsB E q.L
      · have hhh := Lib.hid hh
        go_wp2_with fail
        refine (failsEdit_any _ _ _ _ E q.L _ hfi.out (hzh.out.below hBr) hqi.out).mono ?_
        rintro e w3 ⟨rfl, hb3⟩
        rw [hh]
        go_wp2
        go_roundw
        case rel =>
          refine ⟨i + 1, by omega, by go_num, fun j hj => ?_, (by repeat (first | exact Below.refl _ _ | assumption | refine Below.drew ?_ | refine below_drewN ?_ _ | refine Below.alloc' ?_ _ | (refine Below.setCell ?_ (by first | omega | (simp; done) | (simp; omega) | exact Below.size (by assumption) | exact Nat.le_trans (Below.size (by assumption)) (by simp)) _) | (refine Below.via' ?_ (by assumption)) | (refine Below.alloc ?_ (by first | omega | (simp; done) | (simp; omega) | exact Below.size (by assumption) | exact Nat.le_trans (Below.size (by assumption)) (by simp)) _) | (refine Below.via ?_ (by assumption) (by first | omega | (simp; done) | (simp; omega) | exact Below.size (by assumption) | exact Nat.le_trans (Below.size (by assumption)) (by simp)))))⟩
          rcases Nat.lt_or_ge j i with hj2 | hj2
          · exact hall.out j hj2
          · obtain rfl : j = i := by omega
            exact ⟨_, hqe.out, hhh.out⟩
        case measure => simp [intOf]; omega
      · have hv := Lib.hid (imV_bad (S := S) (E := E) hkmh.out (by rw [← hkLh.out]; exact hh))
        go_wp2_with fail
        refine (failsEdit_any _ _ _ _ E q.L _ hfi.out (hzh.out.below hBr) hqi.out).mono ?_
        rintro e w3 ⟨rfl, hb3⟩
        rw [hh]
        go_wp2
        go_ret
        exact ⟨ret_bool hv.out.symm, (by repeat (first | exact Below.refl _ _ | assumption | refine Below.drew ?_ | refine below_drewN ?_ _ | refine Below.alloc' ?_ _ | (refine Below.setCell ?_ (by first | omega | (simp; done) | (simp; omega) | exact Below.size (by assumption) | exact Nat.le_trans (Below.size (by assumption)) (by simp)) _) | (refine Below.via' ?_ (by assumption)) | (refine Below.alloc ?_ (by first | omega | (simp; done) | (simp; omega) | exact Below.size (by assumption) | exact Nat.le_trans (Below.size (by assumption)) (by simp)) _) | (refine Below.via ?_ (by assumption) (by first | omega | (simp; done) | (simp; omega) | exact Below.size (by assumption) | exact Nat.le_trans (Below.size (by assumption)) (by simp)))))⟩
    · have hij : i = T.length := by omega
      subst hij
      have hv : Hid (imV S (psN S M N) E = true) := by
        refine imV_all fun k hk => ?_
        have h1 : atL S (k : Int) ∈ psL S M N := List.mem_map.2 ⟨k, hk, rfl⟩
        rw [← hMh.out] at h1
        obtain ⟨j, hj, e⟩ := List.getElem_of_mem h1
        obtain ⟨V, h2, h3⟩ := hall.out j (by rw [eM_len] at hj; exact hj)
        rw [List.getElem?_eq_getElem hj, e] at h2
        cases h2
        exact h3
      clear hall
      go_wp2
      go_ret
      exact ⟨ret_bool hv.out.symm, (by repeat (first | exact Below.refl _ _ | assumption | refine Below.drew ?_ | refine below_drewN ?_ _ | refine Below.alloc' ?_ _ | (refine Below.setCell ?_ (by first | omega | (simp; done) | (simp; omega) | exact Below.size (by assumption) | exact Nat.le_trans (Below.size (by assumption)) (by simp)) _) | (refine Below.via' ?_ (by assumption)) | (refine Below.alloc ?_ (by first | omega | (simp; done) | (simp; omega) | exact Below.size (by assumption) | exact Nat.le_trans (Below.size (by assumption)) (by simp)) _) | (refine Below.via ?_ (by assumption) (by first | omega | (simp; done) | (simp; omega) | exact Below.size (by assumption) | exact Nat.le_trans (Below.size (by assumption)) (by simp)))))⟩
/-- Which lists of values fail, as the model marks them. -/
def bdC (S : List (ByteArray × Int)) (M : List (List Int)) (N : Nat) : List Value := (List.range N).map fun k : Nat => .bool (faB M (atL S (k : Int)))
theorem bdC_len (S : List (ByteArray × Int)) (M : List (List Int)) (N : Nat) : (bdC S M N).length = N := by unfold bdC; simp
theorem bdC_at {S : List (ByteArray × Int)} {M : List (List Int)} {N i : Nat} (h : i < N) : (bdC S M N)[i]? = some (.bool (faB M (atL S (i : Int)))) := by unfold bdC; rw [List.getElem?_map, List.getElem?_range h]; rfl
theorem Try.infoBool : (Try.prog.info? 4).map (fun i => (i.zero, i.size, i.bytes)) = some (some (.bool false), 1, 1) := by kernel_rfl
def BdPost (S : List (ByteArray × Int)) (M : List (List Int)) (N : Nat) (w : World) (e : Ending) (w' : World) : Prop :=
  ∃ g : Nat, e = .returned (.slice (some ⟨g, 0, none⟩) N N) ∧ w'.ownsRow w.heap.size 4 1 (.slice (some ⟨g, 0, none⟩) N N) N (bdC S M N) ∧ Below w.heap.size w w'
end Go.Proofs.Ytmcibcechffppaa
